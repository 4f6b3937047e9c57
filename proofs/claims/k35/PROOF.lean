import PyProof.Rows.All
import Wide.All
import OpenK.AllK
import Wide.FinOn
import PyProof.EqAt
import PyProof.EqKinds
import PyProof.TupleCall
import KE.KTryMore
import KE.KIsNot
import PyProof.MeetsStr
import PyProof.Rows.RuleM_int
import PyProof.CompFree
import PyProof.WalksEnum
import PyProof.EnumMake
import PyProof.NeKinds
import PyProof.ConsumeWalk
import PyProof.CompMap
import PyProof.Rows.EqBoolInt
import KE.IntBitsLaws
import PyProof.ZipIter
import PyProof.Rows.ZipGen
import PyProof.MinMaxWalk
import PyProof.WalkInts
import PyProof.Rows.CallKwBuiltin
import PyProof.CompUse
import KE.KRevIter
import PyProof.Rows.Range3
import PyProof.NsDelKeeps
import PyProof.SumAny
import PyProof.TupleIter
import PyProof.WalksMore
import PyProof.ListRange
import PyProof.CollectStr
import PyProof.TupleOfStr
import PySem.Challenge.RW_restward_k35_worths_at_tables
open PySem.W renaming Frag→q0a,kitOne→z0c,mg_none_of→z0t,nsIn→z0x,kia_one→j0h,keepIn→y0e,fnOf→y0r,mg_of→v0m,findIn→u0b,methodObj→g0b,instObj→g0q,OpenLaw→g0s,cellsFrom_some→g0z,lookIn→m0g,codeIn→m0h
open Nat renaming lt_of_lt_of_le→q0b,le_refl→q0m,lt_of_le_of_lt→q0t,ne_of_lt→q0v,le_trans→z0d,mul_lt_mul''→z0h,zero_le→z0u,pow_add→z0w,mul_pos→z0z,le_succ→j0j,lt_irrefl→j0m,lt_succ_self→j0r,le_add_right→j0w,ne_of_gt→j0y,le_mul_of_pos_left→v0a,lt_succ_of_lt→v0b,le_of_lt→v0d,le_of_dvd→v0n,two_pow_pos→v0t,mul_succ→v0z,lcm→u0n,mul_le_mul_right→u0v,eq_of_mul_eq_mul_left→g0h,mul_comm→g0j,le_mul_of_pos_right→g0p,dvd_trans→m0q,mul_assoc→m0r,mul_le_mul_left→m0u,pow_le_pow_left→m0w,add_comm→m0x,pow_succ→q1a,mul_one→q1b
open List renaming getElem?_eq_getElem→q0c,length_map→q0d,getElem?_eq_some_iff→q0g,mem_of_getElem?→q0h,size_toArray→q0j,mem_append_right→q0k,mem_cons_of_mem→q0p,getElem?_map→q0q,mem_cons_self→q0u,length_take→q0x,replicate→q0z,mem_singleton→z0f,mem_map→z0g,Nodup→z0j,getElem?_eq_none→z0k,length_cons→z0n,range→z0q,mem_cons→z0r,map_cons→z0s,mem_append→z0y,length_append→j0d,mem_or_eq_of_mem_set→j0f,mem_iff_getElem?→j0g,getElem?_cons_succ→j0k,filterMap_cons→j0p,nodup_cons→j0t,map_append→j0u,length_zipWith→j0v,getElem?_zipWith→j0x,foldl_cons→j0z,flatten_cons→y0b,getElem?_cons_zero→y0d,take_length→y0g,length_singleton→y0k,length_range→y0n,mem_of_mem_take→y0p,mem_range→y0q,lookup_cons→y0s,replicate_succ→y0t,map_congr_left→y0u,length_set→y0v,set_cons_succ→y0y,length_replicate→v0f,cons_append→v0j,getElem?_append_right→v0k,length_pos_iff→v0p,getElem?_range→v0q,append_nil→v0r,nil_append→v0s,length_nil→v0u,map_nil→v0w,zipWith→v0x,set_cons_zero→v0y,forIn_nil→u0c,take_succ→u0d,getElem?_replicate→u0e,length_drop→u0f,eq_nil_of_length_eq_zero→u0w,ext_getElem?→g0c,getElem?_eq_none_iff→g0e,getElem?_append_left→g0f,getElem?_zip_eq_some→g0g,map_map→g0m,not_mem_nil→g0n,of_mem_zip→g0r,range_succ→g0v,getElem?_set_self→g0y,range_succ_eq_map→m0a,take_of_length_le→m0d,zipWith_cons_cons→m0e,mem_append_left→m0m,getElem?_set_ne→m0n,zipWith_append→m0v
open PySem.Heap renaming lt_size→q0e,get?_push_of_some→q0f,get?_push_size→q0y,size_push→z0m,get?_update_other→j0n,IsTuple→y0j,SameBut→v0e,get?_update_self→v0g
open Bool renaming false_ne_true→q0r,not_eq_true'→y0c,and_eq_true→y0f,false_eq_true→y0x,eq_iff_iff→u0q,not_false→u0x,not_true→g0a,or_eq_true→g0t
open Int renaming gcd→q0s,natAbs_natCast→z0b,natAbs_mul→z0p,natCast_dvd_natCast→j0a,gcd_dvd_right→j0b,gcd_dvd_left→j0c,natCast_mul→j0e,natAbs→j0s,fmod_nonneg_of_pos→y0h,dvd_trans→y0m,fmod_lt_of_pos→y0w,gcd_eq_natAbs_gcd_natAbs→v0h,dvd_mul_left→u0g,natAbs_dvd_natAbs→u0m,toNat→u0p,mul_comm→u0r,gcd_comm→u0s,natAbs_neg→u0y,toNat_natCast→g0d,lt_or_le→g0k,mul_ne_zero→g0u,mul_neg→m0b,dvd_gcd→m0c,mul_nonneg→m0j,mul_assoc→m0s,ne_of_gt→m0y,zero_sub→m0z,mul_pos→q1c
open Or renaming inl→q0w,inr→z0v
open Rat renaming divInt→z0a,num_divInt_den→z0e,divInt_mul_divInt→j0q,divInt_eq_divInt_iff→y0a,div_def→y0z,divInt_eq_div→v0c,mul_inv_cancel→u0a,num_intCast→u0t,den_intCast→u0u,neg_num→u0z,intCast_add→g0w,intCast_inj→g0x,neg_den→m0f,divInt_add_divInt→m0k,divInt_mul_right→m0p
open Option renaming isSome_iff_exists→v0v,bind_none→u0h,bind_some→u0j,join_some→u0k
open Array renaming length_toList→m0t
set_option Elab.async false
set_option linter.all false
local macro_rules | `(def $i:declId $s:optDeclSig $v:declVal) => `(noncomputable def $i:declId $s:optDeclSig $v:declVal)
local macro_rules | `(abbrev $i:declId $s:optDeclSig $v:declVal) => `(noncomputable abbrev $i:declId $s:optDeclSig $v:declVal)
local macro_rules | `(⋯) => `(by omega)
set_option maxHeartbeats 0
noncomputable section
-- CHANGE: your row's module here,as the last of these rows
set_option maxRecDepth 100000
namespace L2
open PySem PySem.Spec PyProof.Rows
abbrev Key:=Sum Int Str
def bc4:Key->Value->Bool
 | .inl k,v=>Value.isInt k v
 | .inr x,v=>Value.isStrOf x v
def bk6 (w:World):Key->Int
 | .inl k=>hashInt k
 | .inr x=>hashStr w x
theorem E4:∀ {k:Key} {v:Value},bc4 k v=true->(∃ i t,k=Sum.inl i/\v=Value.int i t) \/ (∃ x t,k=Sum.inr x/\v=Value.str x t)
 | .inl i,v,h=>by
  obtain ⟨t,e⟩:=Value.isInt_shape (k:=i) (v:=v) h;exact .inl ⟨i,t,rfl,e⟩
 | .inr x,v,h=>by
  obtain ⟨t,e⟩:=Value.isStrOf_shape (x:=x) (v:=v) h;exact .inr ⟨x,t,rfl,e⟩
theorem bf7 (a b:Int):decide ((Sum.inl a:Key)=Sum.inl b)=(a == b):=by
 by_cases e:a=b
 ·subst e;simp
 ·have h:¬ (Sum.inl a:Key)=Sum.inl b:=λq=>e (Sum.inl.inj q)
  rw [decide_eq_false h];exact (beq_eq_false_iff_ne.mpr e).symm
theorem bf4 (a b:Str):decide ((Sum.inr a:Key)=Sum.inr b)=decide (a=b):=by
 by_cases e:a=b
 ·subst e;simp
 ·have h:¬ (Sum.inr a:Key)=Sum.inr b:=λq=>e (Sum.inr.inj q)
  rw [decide_eq_false h,decide_eq_false e]
theorem bf6 (a:Int) (b:Str):decide ((Sum.inl a:Key)=Sum.inr b)=false:=decide_eq_false (λq=>nomatch q)
theorem bf5 (a:Str) (b:Int):decide ((Sum.inr a:Key)=Sum.inl b)=false:=decide_eq_false (λq=>nomatch q)
def aC8 (prog:Program) (w:World):PySem.KeyKind prog w Key where
 is:=bc4
 hash:=bk6 w
 inj:=λv a b ha hb=>by
  rcases E4 ha with ⟨i,t,rfl,rfl⟩ | ⟨x,t,rfl,rfl⟩
  ·rcases E4 hb with ⟨j,u,rfl,e⟩ | ⟨y,u,rfl,e⟩
   ·injection e with e1 _;rw [e1]
   ·exact nomatch e
  ·rcases E4 hb with ⟨j,u,rfl,e⟩ | ⟨y,u,rfl,e⟩
   ·exact nomatch e
   ·injection e with e1 _;rw [e1]
 byValue:=λk v h=>by
  rcases E4 h with ⟨i,t,rfl,rfl⟩ | ⟨x,t,rfl,rfl⟩ <;> rfl
 pyHash:=λhv h=>by
  rcases E4 hv with ⟨i,t,rfl,rfl⟩ | ⟨x,t,rfl,rfl⟩
  ·exact wpAny_pyHash_int h
  ·exact wpAny_pyHash_str h
 eqBool:=λhu hv h=>by
  rcases E4 hu with ⟨i,t,rfl,rfl⟩ | ⟨x,t,rfl,rfl⟩
  ·rcases E4 hv with ⟨j,u,rfl,rfl⟩ | ⟨y,u,rfl,rfl⟩
   ·rw [bf7] at h;exact wpAny_eqBool_int h
   ·rw [bf6] at h;exact SeqAt.EqAt.int_str i t y u _ _ _ _ h
  ·rcases E4 hv with ⟨j,u,rfl,rfl⟩ | ⟨y,u,rfl,rfl⟩
   ·rw [bf5] at h;exact SeqAt.EqAt.str_int x t j u _ _ _ _ h
   ·rw [bf4] at h;exact wpAny_eqBool_str h
 «strs» := λk x t v h=>by
  rcases E4 h with ⟨i,u,rfl,e⟩ | ⟨y,u,rfl,e⟩
  ·exact nomatch e
  ·injection e with e1 _
   subst e1
   cases v <;> rfl
inductive V where
 | non | bl (b:Bool) | int (i:Int) | str (x:Str) | byt (b:Array UInt8) | flt (b:UInt64) | ref (a:Addr) | ty (n:String)
 deriving DecidableEq
def A9:V->Value->Prop
 | .non,u=>u=Value.none
 | .bl b,u=>u=Value.bool b
 | .int i,u => ∃ t,u=Value.int i t
 | .str x,u => ∃ t,u=Value.str x t
 | .byt b,u => ∃ t,u=Value.bytes b t
 | .flt b,u => ∃ t,u=Value.float b t
 | .ref a,u=>u=Value.ref a
 | .ty n,u=>u=Value.type n
abbrev m6:List V->List Value->Prop:=Paired A9
theorem m6.length {xs:List V} {us:List Value} (r:m6 xs us):xs.length=us.length:=Paired.length r
theorem m6.get:∀ {xs:List V} {us:List Value} {i:Nat} {x:V},m6 xs us->xs[i]? = some x->∃ u,us[i]? = some u/\A9 x u
 | _,_,_,_,.nil,e=>by simp at e
 | _,_,0,_,.cons r _,e=>by simp at e;subst e;exact ⟨_,rfl,r⟩
 | _,_,i+1,x,.cons _ t,e=>by
  obtain ⟨u,h1,h2⟩:=m6.get (i:=i) (x:=x) t (by simpa using e)
  exact ⟨u,by simpa using h1,h2⟩
theorem m6.set {x:V} {u:Value} (r:A9 x u):∀ {xs:List V} {us:List Value} (i:Nat),m6 xs us->m6 (xs.set i x) (us.set i u)
 | _,_,_,.nil=>.nil
 | _,_,0,.cons _ t=>.cons r t
 | _,_,i+1,.cons q t=>.cons q (m6.set r i t)
theorem m6.append:∀ {xs ys:List V} {us ws:List Value},m6 xs us->m6 ys ws->m6 (xs ++ ys) (us ++ ws)
 | _,_,_,_,.nil,s=>s
 | _,_,_,_,.cons r t,s=>.cons r (m6.append t s)
theorem m6.take:∀ {xs:List V} {us:List Value} (n:Nat),m6 xs us->m6 (xs.take n) (us.take n)
 | _,_,0,_=>.nil
 | _,_,_+1,.nil=>.nil
 | _,_,n+1,.cons r t=>.cons r (m6.take n t)
theorem m6.drop:∀ {xs:List V} {us:List Value} (n:Nat),m6 xs us->m6 (xs.drop n) (us.drop n)
 | _,_,0,r=>r
 | _,_,_+1,.nil=>.nil
 | _,_,n+1,.cons _ t=>m6.drop n t
theorem m6.none_of:∀ {xs:List V} {us:List Value} {i:Nat},m6 xs us->xs[i]? = none->us[i]? = none:=fun {xs us i} r e=>by
 have h1:=r.length;have h2:xs.length<=i:=g0e.mp e;exact g0e.mpr ⋯
def bh1:Option V->Option Value->Prop
 | some v,some u=>A9 v u
 | none,none=>True
 | _,_=>False
def KV {κ:Type}:List (κ × V)->List (κ × Value)->Prop:=Paired λ(p:κ × V) (q:κ × Value)=>p.1=q.1/\A9 p.2 q.2
def kV:Key->V
 | .inl i=>.int i
 | .inr x=>.str x
inductive HO where
  | lst (xs:List V)
  | tup (xs:List V)
  | dK (kvs:List (Key × V)) | dT (kvs:List (List Key × V))
  | set (S:Int->Bool) (n:Nat)
  | ins (C dx:Addr) (fs:List (Str × V))
  | own (x:Addr)
  | xd (fs:List (Str × V))
  | met (f x:Addr)
  | rng (lo hi:Int)
  | frz (o:Obj) (u:HO)
  | tbl (ps:Array Value)
  | ext (φ:Heap->Prop)
abbrev Hp:=Addr->Option HO
def upd (H:Hp) (a:Addr) (o:HO):Hp:=λb=>if b=a then some o else H b
theorem c5 {H:Hp} {a:Addr} {o:HO}:upd H a o a=some o:=by unfold upd;rw [if_pos rfl]
theorem g9 {H:Hp} {a b:Addr} {o:HO} (h:b ≠ a):upd H a o b=H b:=by unfold upd;rw [if_neg h]
theorem bc3 {H:Hp} {a b:Addr} {o u:HO} (h:H a=some o) (h':H b=some u) (d:o ≠ u):a ≠ b:=by
 intro e;subst e;rw [h] at h';exact d (Option.some.inj h')
theorem i9 {H:Hp} {a b:Addr} {o:HO} (h:H a=some o) (h':H b=none):a ≠ b:=by
 intro e;subst e;rw [h] at h';cases h'
section
variable (P:Program) (w:World)
def K1 (H:Hp) (h:Heap) (a:Addr):HO->Prop
 | .lst xs=>xs.length<=sizeLine/\∃ (its:List Value) (n:Nat),m6 xs its/\h.get? a=some { cls:=.type "list",data:=.seq its.toArray n }
 | .tup xs=>xs.length<=sizeLine/\∃ its:List Value,m6 xs its/\IsTup h a its.toArray
 | .dK kvs=>kvs.length<=sizeLine/\(a == sysModules)=false/\∃ vs,KV kvs vs/\h.DictOf (aC8 P w) a vs
 | .dT kvs=>kvs.length<=sizeLine/\(a == sysModules)=false/\∃ xs:List (List Key × Addr × Value),
   Paired (λ(p:List Key × V) (q:List Key × Addr × Value)=>p.1=q.1/\H q.2.1=some (.tup (p.1.map kV))/\A9 p.2 q.2.2) kvs xs /\
   ∃ o es ep,h.get? a=some o/\o.ExactDict/\o.data=.dict es ep/\es.toList=xs.map (entryOfKey (tupleKind (aC8 P w)))/\(xs.map (·.1)).Nodup
 | .set S n=>h.SetOf (intKind P w) a S n
 | .ins C dx fs=>H dx=some (.own a)/\fs.length<=1000/\dx ≠ a/\h.get? a=some (g0q C dx) /\
   ∃ mA,h.Ns1 dx mA/\(∀ f,bh1 (fs.lookup f) (mA f))/\PySem.Within mA (fs.map (·.1))
 | .own _ => ∃ o,h.get? a=some o
 | .xd fs => ∃ mA,h.Ns1 a mA/\∀ f,bh1 (fs.lookup f) (mA f)
 | .rng lo hi => ∃ t u v,h.get? a=some { cls:=.type "range",data:=.fields #[.int lo t,.int hi u,.int 1 v] }
 | .frz o u=>h.get? a=some o/\K1 H h a u
 | .tbl ps=>h.get? a=some { cls:=.none,data:=.fields ps }
 | .met f x=>h.get? a=some (g0b (.ref f) (.ref x))
 | .ext φ=>φ h/\(∃ o,h.get? a=some o)/\∀ h1 h2:Heap,φ h1->(∀ o,h1.get? a=some o->h2.get? a=some o)->φ h2
def HOk (H:Hp) (h:Heap):Prop:=∀ a o,H a=some o->K1 P w H h a o
end
section
variable {P:Program} {w:World} {H H':Hp} {h h':Heap} {a:Addr} {o:HO}
theorem K1.lt (x:K1 P w H h a o):a<h.objs.size:=by
 cases o with
 | lst xs=>obtain ⟨_,_,_,_,e⟩:=x;exact q0e e
 | tup xs=>obtain ⟨_,_,_,p⟩:=x;exact p.lt
 | dK kvs=>obtain ⟨_,_,_,_,o,_,_,e,_⟩:=x;exact q0e e
 | dT kvs=>obtain ⟨_,_,_,_,o,_,_,e,_⟩:=x;exact q0e e
 | set S n=>obtain ⟨o,_,_,_,e,_⟩:=x;exact q0e e
 | ins C dx fs=>obtain ⟨_,_,_,e,_⟩:=x;exact q0e e
 | own y=>obtain ⟨_,e⟩:=x;exact q0e e
 | xd fs=>obtain ⟨_,⟨_,_,_,e,_⟩,_⟩:=x;exact q0e e
 | rng lo hi=>obtain ⟨_,_,_,e⟩:=x;exact q0e e
 | frz ob u=>obtain ⟨e,_⟩:=x;exact q0e e
 | tbl ps=>exact q0e (show h.get? a=some _ from x)
 | met f y=>exact q0e (show h.get? a=some _ from x)
 | ext φ=>obtain ⟨_,⟨_,e⟩,_⟩:=x;exact q0e e
theorem Paired.mapP {α β:Type} {F G:α->β->Prop}:∀ {l₁:List α} {l₂:List β},Paired F l₁ l₂->(∀ a b,F a b->G a b)->Paired G l₁ l₂
 | _,_,.nil,_=>.nil
 | _,_,.cons r t,f=>.cons (f _ _ r) (Paired.mapP t f)
theorem K1.stay (x:K1 P w H h a o) (k:∀ b u,(b=a \/ H b=some (.own a))->h.get? b=some u->h'.get? b=some u)
  (ho:∀ b,H b=some (.own a)->H' b=some (.own a)) (ht:∀ b xs,H b=some (.tup xs)->H' b=some (.tup xs)):K1 P w H' h' a o:=by
 induction o with
 | lst xs=>obtain ⟨z,its,n,r,e⟩:=x;exact ⟨z,its,n,r,k _ _ (.inl rfl) e⟩
 | tup xs=>obtain ⟨z,its,r,ob,e,c⟩:=x;exact ⟨z,its,r,ob,k _ _ (.inl rfl) e,c⟩
 | dK kvs=>obtain ⟨z,y,vs,r,ob,es,ep,e,c⟩:=x;exact ⟨z,y,vs,r,ob,es,ep,k _ _ (.inl rfl) e,c⟩
 | dT kvs =>
  obtain ⟨z,y,xs,r,ob,es,ep,e,c⟩:=x;exact ⟨z,y,xs,Paired.mapP r λp q z=>⟨z.1,ht _ _ z.2.1,z.2.2⟩,ob,es,ep,k _ _ (.inl rfl) e,c⟩
 | set S n=>obtain ⟨ob,es,ep,t,e,c⟩:=x;exact ⟨ob,es,ep,t,k _ _ (.inl rfl) e,c⟩
 | ins C dx fs =>
  obtain ⟨d,z,ne,e,mA,⟨od,es,ep,e2,c⟩,r⟩:=x;exact ⟨ho _ d,z,ne,k _ _ (.inl rfl) e,mA,⟨od,es,ep,k _ _ (.inr d) e2,c⟩,r⟩
 | own y=>obtain ⟨ob,e⟩:=x;exact ⟨ob,k _ _ (.inl rfl) e⟩
 | xd fs=>obtain ⟨mA,⟨od,es,ep,e,c⟩,r⟩:=x;exact ⟨mA,⟨od,es,ep,k _ _ (.inl rfl) e,c⟩,r⟩
 | rng lo hi=>obtain ⟨t,u,v,e⟩:=x;exact ⟨t,u,v,k _ _ (.inl rfl) e⟩
 | frz ob u ih=>obtain ⟨e,q⟩:=x;exact ⟨k _ _ (.inl rfl) e,ih q⟩
 | tbl ps =>
  have e:h.get? a=some { cls:=.none,data:=.fields ps }:=x
  show h'.get? a=some { cls:=.none,data:=.fields ps };exact k a _ (.inl rfl) e
 | met f y =>
  have e:h.get? a=some (g0b (.ref f) (.ref y)):=x
  show h'.get? a=some (g0b (.ref f) (.ref y));exact k a _ (.inl rfl) e
 | ext φ=>obtain ⟨p,⟨o,e⟩,st⟩:=x;exact ⟨st _ _ p λo q=>k _ _ (.inl rfl) q,⟨o,k _ _ (.inl rfl) e⟩,st⟩
theorem HOk.lt (x:HOk P w H h) (e:H a=some o):a<h.objs.size:=(x a o e).lt
theorem HOk.fresh (x:HOk P w H h) (e:h.objs.size<=a):H a=none:=by
 cases q:H a with
 | none=>rfl
 | some u=>exact absurd (q0b (x.lt q) e) (j0m _)
theorem HOk.kept (x:HOk P w H h) (k:∀ b u,h.get? b=some u->h'.get? b=some u):HOk P w H h':=λa o e =>
 (x a o e).stay (λb u _ q=>k b u q) (λ_ q=>q) λ_ _ q=>q
theorem HOk.laid (x:HOk P w H h) (k:∀ b u,h.get? b=some u->h'.get? b=some u) (hp:h.objs.size<=a) (new:K1 P w (upd H a o) h' a o):HOk P w (upd H a o) h':=λb u e=>by
 have hn:=x.fresh hp
 by_cases hb:b=a
 ·subst hb;rw [c5] at e;cases e;exact new
 ·rw [g9 hb] at e
  exact (x b u e).stay (λc v _ q=>k c v q) (λc q=>by rw [g9 (i9 q hn)];exact q) λc xs q=>by rw [g9 (i9 q hn)];exact q
end
def Rd (H:Hp) (a:Addr) (u:HO):Prop:=H a=some u \/ ∃ o,H a=some (.frz o u)
theorem Rd.ok {P:Program} {w:World} {H:Hp} {h:Heap} {a:Addr} {u:HO} (r:Rd H a u) (x:HOk P w H h):K1 P w H h a u:=by
 rcases r with r | ⟨o,r⟩
 ·exact x a u r
 ·obtain ⟨_,q⟩:=x a _ r
  exact q
def Mut:Option HO->Prop
 | some (.lst _)=>True
 | some (.dK _)=>True
 | some (.dT _)=>True
 | some (.set _ _)=>True
 | some (.ins _ _ _)=>True
 | some (.ext _)=>True
 | _=>False
section
variable {P:Program} {w:World} {H:Hp} {h h':Heap} {x e:Addr} {o':HO}
theorem HOk.write (ok:HOk P w H h) (mu:Mut (H x)) (he:e=x \/ H e=some (.own x)) (k:∀ b u,b ≠ e->h.get? b=some u->h'.get? b=some u) (heo:∃ u,h'.get? e=some u)
  (new:K1 P w (upd H x o') h' x o'):HOk P w (upd H x o') h':=λb u q=>by
 have nown:∀ c y,H c=some (.own y)->c ≠ x:=λc y r z=>by subst z;rw [r] at mu;exact mu
 have ntup:∀ c xs,H c=some (.tup xs)->c ≠ x:=λc xs r z=>by subst z;rw [r] at mu;exact mu
 by_cases hb:b=x
 ·subst hb;rw [c5] at q;cases q;exact new
 ·rw [g9 hb] at q
  by_cases hbe:b=e
  ·have q':H b=some (.own x):=by
    rcases he with z | z
    ·exact absurd (hbe.trans z) hb
    ·rw [hbe];exact z
   rw [q] at q';cases q';obtain ⟨v,hv⟩:=heo;exact ⟨v,by rw [hbe];exact hv⟩
  ·refine (ok b u q).stay (λc v hc r=>k c v ?_ r) (λc r=>by rw [g9 (nown c b r)];exact r) λc xs r=>by rw [g9 (ntup c xs r)];exact r
   rcases hc with rfl | hc
   ·exact hbe
   ·rintro rfl
    rcases he with z | z
    ·exact nown c b hc z
    ·rw [hc] at z;cases z;exact hb rfl
end
structure Un (fs ex:List Addr) (H H':Hp) (h h':Heap):Prop where
 keep:∀ b o,h.get? b=some o->H b=none->b ∉ fs->b ∉ ex->h'.get? b=some o
 slot:∀ b o,h.get? b=some o->H b=none->b ∈ fs->b ∉ ex->∃ sl,h'.get? b=some { o with slots:=sl }
 free:∀ b o,h.get? b=some o->H b=none->b ∉ ex->H' b=none
 there:∀ b o,h.get? b=some o->b ∉ ex->∃ o',h'.get? b=some o'
 tups:∀ b xs,H b=some (.tup xs)->H' b=some (.tup xs)
 frzs:∀ b o u,H b=some (.frz o u)->H' b=some (.frz o u)
 tbls:∀ b ps,H b=some (.tbl ps)->∃ more,H' b=some (.tbl (ps ++ more))
section
variable {fs fs' ex ex':List Addr} {H H1 H2:Hp} {h h1 h2 h':Heap} {a x e:Addr} {o:HO}
theorem Un.any (u:Un fs ex H H1 h h1) {b:Addr} {ob:Obj} (q:h.get? b=some ob) (n:H b=none) (hx:b ∉ ex):∃ sl,h1.get? b=some { ob with slots:=sl }:=by
 by_cases hb:b ∈ fs
 ·exact u.slot b ob q n hb hx
 ·exact ⟨ob.slots,u.keep b ob q n hb hx⟩
theorem Un.kept (k:∀ b u,h.get? b=some u->h'.get? b=some u):Un fs ex H H h h' :=
 ⟨λb ob q _ _ _=>k b ob q,λb ob q _ _ _=>⟨ob.slots,k b ob q⟩,λ_ _ _ n _=>n,λb ob q _=>⟨ob,k b ob q⟩,λ_ _ q=>q,λ_ _ _ q=>q,λ_ ps q=>⟨#[],by rw [q];simp⟩⟩
theorem Un.refl:Un fs ex H H h h:=Un.kept λ_ _ q=>q
theorem Un.laid (k:∀ b u,h.get? b=some u->h'.get? b=some u) (hp:h.objs.size<=a) (hn:H a=none):Un fs ex H (upd H a o) h h' where
 keep:=λb u q _ _ _=>k b u q
 slot:=λb u q _ _ _=>⟨u.slots,k b u q⟩
 free:=λb u q n _=>by rw [g9 (q0v (q0b (q0e q) hp))];exact n
 there:=λb u q _=>⟨u,k b u q⟩
 tups:=λb xs q=>by rw [g9 (i9 q hn)];exact q
 frzs:=λb u xs q=>by rw [g9 (i9 q hn)];exact q
 tbls:=λb ps q=>⟨#[],by rw [g9 (i9 q hn),q];simp⟩
theorem Un.write (mu:Mut (H x)) (he:e=x \/ H e=some (.own x)) (k:∀ b u,b ≠ e->h.get? b=some u->h'.get? b=some u) (heo:∃ u,h'.get? e=some u):Un fs ex H (upd H x o) h h':=by
 have hx:∀ b,H b=none->b ≠ x:=λb n z=>by subst z;rw [n] at mu;exact mu
 have hb:∀ b,H b=none->b ≠ e:=λb n z=>by
  subst z;rcases he with r | r
  ·exact hx b n r
  ·rw [n] at r;cases r
 have hm:∀ b u,H b=some u->¬ Mut (some u)->b ≠ x:=λb u q nm z=>by subst z;rw [q] at mu;exact nm mu
 refine ⟨λb u q n _ _=>k b u (hb b n) q,λb u q n _ _=>⟨u.slots,k b u (hb b n) q⟩,λb u q n _=>by rw [g9 (hx b n)];exact n,λb u q _=>?_,
  λb xs q=>by rw [g9 (hm b _ q λz=>z)];exact q,λb u xs q=>by rw [g9 (hm b _ q λz=>z)];exact q,λb ps q=>⟨#[],by rw [g9 (hm b _ q λz=>z),q];simp⟩⟩
 by_cases hbe:b=e
 ·subst hbe;exact heo
 ·exact ⟨u,k b u hbe q⟩
end
def trk (h:Heap) (H:Hp):List Addr:=(z0q h.objs.size).filter λa=>(H a).isSome
def aD2 (h:Heap) (H:Hp):Heap:=PySem.W.hideAll h (trk h H)
theorem aQ5 (h:Heap) (H:Hp):(aD2 h H).objs.size=h.objs.size:=PySem.W.hideAll_size _ _
theorem aW2 {h:Heap} {H:Hp} {b:Addr} {o:Obj} (e:h.get? b=some o) (n:H b=none):(aD2 h H).get? b=some o :=
 PySem.W.hideAll_get _ e λhm=>by
  have q:(H b).isSome=true:=(List.mem_filter.mp hm).2;rw [n] at q;simp at q
theorem aZ7 {h:Heap} {H:Hp} {b:Addr} {o:Obj} (e:(aD2 h H).get? b=some o):h.get? b=some o/\H b=none:=by
 have e':h.get? b=some o:=PySem.W.of_hideAll (trk h H) e;refine ⟨e',?_⟩
 cases q:H b with
 | none=>rfl
 | some x =>
  have hm:b ∈ trk h H:=List.mem_filter.mpr ⟨y0q.mpr (q0e e'),by simp [q]⟩
  have z:(aD2 h H).get? b=none:=PySem.W.hideAll_none (trk h H) hm;rw [z] at e;cases e
def bb6 (g h:Heap) (L:Addr):List (Addr × Obj):=(z0q h.objs.size).filterMap λa=>if a=L \/ (g.get? a).isSome=true then none else (h.get? a).map λo=>(a,o)
def aq5 (g h:Heap) (L d:Addr):List (Addr × Obj):=(bb6 g h L).filter λp=>decide (p.1 ≠ d)
structure Mod (K:q0a) (mg:Str->Option Value) (base:Heap):Prop where
 kin:K.In base
 glob:base.Ns mainGlobals mg
 blt:∃ mb,base.Ns builtinsNs mb/\∀ x:Str,x ≠ "__name__"->mb x=bootBuiltins x
 nolimit:base.NoLimit
structure Cx where
 prog:Program
 w:World
 K:q0a
 mg:Str->Option Value
 base:Heap
 A:Around
 N:List Str
 s₀:Shared
 H₀:Hp
 env:Env
 outer:List Env
 stack:List Env
 ex:List Addr
 fn:Str->Bool
 calm:Bool
 pn:List (Addr × Obj)
 xe:Value->Shared->Prop
def frs (l:List Env):List Addr:=l.filterMap (·.frame)
abbrev Cx.fs (X:Cx):List Addr:=frs X.outer
def Vis (sc:Scope) (x:Str):Prop:=sc.names.lookup x=some .local \/ sc.names.lookup x=some .cell \/ sc.names.lookup x=some .free
def Loc (sc:Scope) (x:Str):Prop:=sc.names.lookup x=some .local \/ sc.names.lookup x=some .cell
def bl5 (env:Env) (h:Heap) (m:Str->Option Value) (x:Str) (u:Value):Prop :=
 (env.kindOf x=some .local/\m x=some u) \/ ((env.kindOf x=some .cell \/ env.kindOf x=some .free)/\∃ c,env.cells.lookup x=some c/\h.IsCell c (some u))
structure Cx.Ok (X:Cx):Prop where
 mod:Mod X.K X.mg X.base
 kind:X.env.scope.kind=.function
 glob:X.env.globals=mainGlobals
 blt:X.env.builtins=builtinsNs
 above:X.s₀.heap.objs.size<=X.env.locals
 inj:∀ x y c,X.env.cells.lookup x=some c->X.env.cells.lookup y=some c->x=y
 has:∀ x,(X.env.kindOf x=some .cell \/ X.env.kindOf x=some .free)->∃ c,X.env.cells.lookup x=some c
 cab:∀ x c,X.fn x=true->X.env.cells.lookup x=some c->X.s₀.heap.objs.size<=c
 hd:X.calm=true->X.A.handled=none
 frames:X.A.frames=some X.stack
 stk:X.stack=X.outer \/ (X.stack=X.env :: X.outer/\X.env.frame=some X.env.locals)
 exf:∀ b ∈ X.ex,b ≠ X.env.locals/\∀ x c,X.env.cells.lookup x=some c->c ≠ b
 bs:∀ b o,X.base.get? b=some o->X.s₀.heap.get? b=some o/\X.H₀ b=none
 bsz:X.base.objs.size<=X.s₀.heap.objs.size
 noex:∀ b o,X.base.get? b=some o->b ∉ X.ex
 exfs:∀ b ∈ X.ex,b ∉ X.fs
 funs:X.s₀.heap.FunFrames X.base X.outer
 frf:∀ b ∈ X.fs,X.H₀ b=none
structure Inv (X:Cx) (pins:List (Addr × Obj)) (σ:List (Option V)) (H:Hp) (s:Shared):Prop where
 ok:X.Ok
 os:s.os=X.s₀.os
 bare:AllBare s.gens
 base:Un X.fs X.ex X.H₀ H X.s₀.heap s.heap
 loc:∃ m,s.heap.Ns X.env.locals m/\∀ (i:Nat) (x:Str) (v:V),X.N[i]? = some x->σ[i]? = some (some v)->Vis X.env.scope x->∃ u,A9 v u/\bl5 X.env s.heap m x u
 cell:∀ x c,X.env.cells.lookup x=some c->∃ v,s.heap.IsCell c v
 free:H X.env.locals=none
 freeC:∀ x c,X.env.cells.lookup x=some c->H c=none
 pin:∀ p ∈ X.pn ++ pins,s.heap.get? p.1=some p.2/\H p.1=none/\p.1 ≠ X.env.locals/\p.1 ∉ X.fs/\∀ v,p.2.data ≠ .cell v
 hok:HOk X.prog X.w H s.heap
 len:σ.length=X.N.length
section
variable {X:Cx} {pins:List (Addr × Obj)} {σ:List (Option V)} {H H':Hp} {s:Shared} {h':Heap}
theorem Cx.Ok.nofr (ok:X.Ok) {b:Addr} {o:Obj} (e:X.base.get? b=some o):b ∉ X.fs:=λhb=>by
 have:=(ok.funs.mem hb).1;rw [e] at this;cases this
theorem Inv.bs (I:Inv X pins σ H s):∀ b o,X.base.get? b=some o->s.heap.get? b=some o/\H b=none:=λb o e =>
 ⟨I.base.keep b o (I.ok.bs b o e).1 (I.ok.bs b o e).2 (I.ok.nofr e) (I.ok.noex b o e),I.base.free b o (I.ok.bs b o e).1 (I.ok.bs b o e).2 (I.ok.noex b o e)⟩
theorem Inv.bk (I:Inv X pins σ H s):∀ b o,X.base.get? b=some o->s.heap.get? b=some o:=λb o e=>(I.bs b o e).1
theorem Inv.mod (I:Inv X pins σ H s):Mod X.K X.mg X.base:=I.ok.mod
theorem Inv.kIn (I:Inv X pins σ H s):X.K.In s.heap:=I.ok.mod.kin.keeps I.bk
theorem Inv.lt (I:Inv X pins σ H s):X.env.locals<s.heap.objs.size:=let ⟨_,hn,_⟩:=I.loc;hn.lt
theorem Inv.sz (I:Inv X pins σ H s):X.s₀.heap.objs.size<=s.heap.objs.size:=z0d I.ok.above (v0d I.lt)
theorem Inv.nofs (I:Inv X pins σ H s) {a:Addr} (h:s.heap.objs.size<=a):a ∉ X.fs:=λhb=>by
 obtain ⟨_,o,ho,_⟩:=I.ok.funs.mem hb;exact absurd (q0b (q0e ho) (z0d I.sz h)) (j0m _)
theorem Inv.cne (I:Inv X pins σ H s):∀ x c,X.env.cells.lookup x=some c->c ≠ X.env.locals:=λx c e z=>by
 obtain ⟨v,o,ho,hd⟩:=I.cell x c e;obtain ⟨m,⟨o',es,ep,ho',hd',_⟩,_⟩:=I.loc;rw [z,ho'] at ho;cases ho;rw [hd'] at hd;cases hd
theorem Inv.funs (I:Inv X pins σ H s):s.heap.FunFrames X.base X.outer:=by
 have all:∀ (l:List Env),(∀ b ∈ frs l,b ∈ X.fs)->X.s₀.heap.FunFrames X.base l->s.heap.FunFrames X.base l:=by
  intro l
  induction l with
  | nil=>intro _ _;trivial
  | cons env r ih =>
   intro hs hl;obtain ⟨hk,⟨L,o,hf,hn,ho,hd⟩,hr⟩:=hl;have hL:L ∈ X.fs:=hs L (by unfold frs;rw [j0p,hf];exact q0u)
   obtain ⟨sl,e⟩:=I.base.slot L o ho (I.ok.frf L hL) hL λz=>I.ok.exfs L z hL;exact ⟨hk,⟨L,_,hf,hn,e,hd⟩,ih (λb hb=>hs b (by unfold frs;rw [j0p,hf];exact q0p _ hb)) hr⟩
 exact all X.outer (λ_ hb=>hb) I.ok.funs
theorem Inv.stack (I:Inv X pins σ H s):s.heap.FunFrames X.base X.stack:=by
 rcases I.ok.stk with e | ⟨e,hf⟩
 ·rw [e];exact I.funs
 ·rw [e]
  obtain ⟨m,hn,_⟩:=I.loc;refine .cons (by rw [I.ok.kind];decide) hf hn ?_ I.funs
  exact Heap.get?_none_of_le (z0d I.ok.bsz I.ok.above)
theorem Inv.stkSub (I:Inv X pins σ H s):∀ b ∈ frs X.stack,b ∈ X.env.locals :: X.fs:=λb hb=>by
 rcases I.ok.stk with e | ⟨e,hf⟩
 ·rw [e] at hb;exact q0p _ hb
 ·rw [e] at hb
  unfold frs at hb;rw [j0p,hf] at hb;exact hb
theorem Inv.stkFree (I:Inv X pins σ H s):∀ b ∈ frs X.stack,H b=none:=λb hb=>by
 rcases z0r.mp (I.stkSub b hb) with e | hb
 ·rw [e];exact I.free
 ·obtain ⟨_,o,ho,_⟩:=I.ok.funs.mem hb
  exact I.base.free b o ho (I.ok.frf b hb) λz=>I.ok.exfs b z hb
theorem Inv.step {g':Array GenState} {t':Nat} {d':Drawn} {ch:List Addr} (I:Inv X pins σ H s)
  (hch:∀ b ∈ ch,(b ∈ X.ex \/ X.s₀.heap.objs.size<=b)/\b ≠ X.env.locals/\(∀ x c,X.env.cells.lookup x=some c->c ≠ b)/\∀ p ∈ X.pn ++ pins,p.1 ≠ b)
  (keep:∀ b o,b ≠ X.env.locals->b ∉ X.fs->b ∉ ch->s.heap.get? b=some o->H b=none->h'.get? b=some o)
  (slot:∀ b o,b ≠ X.env.locals->b ∈ X.fs->b ∉ ch->s.heap.get? b=some o->H b=none->∃ sl,h'.get? b=some { o with slots:=sl }) (free:∀ b o,b ∉ ch->s.heap.get? b=some o->H b=none->H' b=none)
  (there:∀ b o,b ∉ ch->s.heap.get? b=some o->∃ o',h'.get? b=some o')
  (tups:∀ b xs,H b=some (.tup xs)->H' b=some (.tup xs)) (frzs:∀ b o u,H b=some (.frz o u)->H' b=some (.frz o u)) (tbls:∀ b ps,H b=some (.tbl ps)->∃ more,H' b=some (.tbl (ps ++ more)))
  (ns:∀ m,s.heap.Ns X.env.locals m->h'.Ns X.env.locals m) (hok:HOk X.prog X.w H' h') (hg:AllBare g') :
  Inv X pins σ H' { s with heap:=h',gens:=g',drawn:=d',toks:=t' }:=by
 have neL:∀ b o,X.s₀.heap.get? b=some o->b ≠ X.env.locals:=λb o e=>q0v (q0b (q0e e) I.ok.above)
 have neC:∀ b o,X.s₀.heap.get? b=some o->b ∉ X.ex->b ∉ ch:=λb o e hx hb=>by
  rcases (hch b hb).1 with z | z
  ·exact hx z
  ·exact absurd (q0b (q0e e) z) (j0m _)
 have cellK:∀ x c,X.env.cells.lookup x=some c->∀ v,s.heap.IsCell c v->h'.IsCell c v:=λx c e v ⟨o,ho,hd⟩=>by
  have nch:c ∉ ch:=λz=>(hch c z).2.2.1 x c e rfl
  by_cases hc:c ∈ X.fs
  ·obtain ⟨sl,q⟩:=slot c o (I.cne x c e) hc nch ho (I.freeC x c e)
   exact ⟨_,q,hd⟩
  ·exact ⟨o,keep c o (I.cne x c e) hc nch ho (I.freeC x c e),hd⟩
 refine ⟨I.ok,I.os,hg,⟨λb o e n hb hx=>?_,λb o e n hb hx=>?_,λb o e n hx=>?_,λb o e hx=>?_,λb xs e=>tups b xs (I.base.tups b xs e),λb o xs e=>frzs b o xs (I.base.frzs b o xs e),λb ps e=>?_⟩,?_,λx c e=>?_,?_,λx c e=>?_,λp hp=>?_,hok,I.len⟩
 ·exact keep b o (neL b o e) hb (neC b o e hx) (I.base.keep b o e n hb hx) (I.base.free b o e n hx)
 ·obtain ⟨sl,e1⟩:=I.base.slot b o e n hb hx
  obtain ⟨sl',e2⟩:=slot b _ (neL b o e) hb (neC b o e hx) e1 (I.base.free b o e n hx);exact ⟨sl',e2⟩
 ·obtain ⟨o',e1⟩:=I.base.there b o e hx
  exact free b o' (neC b o e hx) e1 (I.base.free b o e n hx)
 ·obtain ⟨o',e1⟩:=I.base.there b o e hx
  exact there b o' (neC b o e hx) e1
 ·obtain ⟨m1,e1⟩:=I.base.tbls b ps e
  obtain ⟨m2,e2⟩:=tbls b _ e1;exact ⟨m1 ++ m2,by rw [e2,Array.append_assoc]⟩
 ·obtain ⟨m,hn,hl⟩:=I.loc
  refine ⟨m,ns m hn,λi x v e1 e2 e3=>?_⟩;obtain ⟨u,r,l⟩:=hl i x v e1 e2 e3;refine ⟨u,r,?_⟩;rcases l with l | ⟨k,c,e,z⟩
  ·exact .inl l
  ·exact .inr ⟨k,c,e,cellK x c e _ z⟩
 ·obtain ⟨v,z⟩:=I.cell x c e
  exact ⟨v,cellK x c e v z⟩
 ·obtain ⟨m,⟨o,_,_,ho,_⟩,_⟩:=I.loc
  exact free _ o (λz=>(hch _ z).2.1 rfl) ho I.free
 ·obtain ⟨v,o,ho,hd⟩:=I.cell x c e
  exact free c o (λz=>(hch c z).2.2.1 x c e rfl) ho (I.freeC x c e)
 ·obtain ⟨e,n,ne,nf,d⟩:=I.pin p hp
  have nch:p.1 ∉ ch:=λz=>(hch p.1 z).2.2.2 p hp rfl;exact ⟨keep p.1 p.2 ne nf nch e n,free p.1 p.2 nch e n,ne,nf,d⟩
theorem Inv.un {t':Nat} (I:Inv X pins σ H s) (u:Un X.fs [] H H' s.heap h') (hok:HOk X.prog X.w H' h'):Inv X pins σ H' { s with heap:=h',toks:=t' }:=by
 obtain ⟨m,⟨o,es,ep,ho,r⟩,_⟩:=id I.loc;obtain ⟨sl,hL⟩:=u.any ho I.free (by simp)
 exact I.step (g':=s.gens) (d':=s.drawn) (ch:=[]) (λ_ z=>nomatch z) (λb o _ hb _ e n=>u.keep b o e n hb (by simp)) (λb o _ hb _ e n=>u.slot b o e n hb (by simp)) (λb o _ e n=>u.free b o e n (by simp)) (λb o _ e=>u.there b o e (by simp)) u.tups u.frzs u.tbls (λm' hm=>by
  obtain ⟨o',es',ep',ho',r'⟩:=hm;rw [ho] at ho';cases ho';exact ⟨_,es',ep',hL,r'⟩) hok I.bare
theorem Inv.call {g':Array GenState} {t':Nat} {d':Drawn} {ch:List Addr} (I:Inv X pins σ H s) (u:Un (frs X.stack) ch H H' s.heap h') (hok:HOk X.prog X.w H' h') (hg:AllBare g')
  (hch:∀ b ∈ ch,(b ∈ X.ex \/ X.s₀.heap.objs.size<=b)/\b ≠ X.env.locals/\(∀ x c,X.env.cells.lookup x=some c->c ≠ b)/\∀ p ∈ X.pn ++ pins,p.1 ≠ b) :
  Inv X pins σ H' { s with heap:=h',gens:=g',drawn:=d',toks:=t' }:=by
 obtain ⟨m,⟨o,es,ep,ho,r⟩,_⟩:=id I.loc;obtain ⟨sl,hL⟩:=u.any ho I.free λz=>(hch _ z).2.1 rfl
 exact I.step (ch:=ch) hch (λb o hL hb hc e n=>u.keep b o e n (λz=>(z0r.mp (I.stkSub b z)).elim hL hb) hc) (λb o _ _ hc e n=>u.any e n hc) (λb o hc e n=>u.free b o e n hc) (λb o hc e=>u.there b o e hc) u.tups u.frzs u.tbls (λm' hm=>by
  obtain ⟨o',es',ep',ho',r'⟩:=hm;rw [ho] at ho';cases ho';exact ⟨_,es',ep',hL,r'⟩) hok hg
theorem Inv.turned {t':Nat} {it:Addr} (I:Inv X pins σ H s) (k:∀ b o,b ≠ it->s.heap.get? b=some o->h'.get? b=some o) (hn:H it=none) (hL:it ≠ X.env.locals)
  (h1:it ∈ X.ex \/ X.s₀.heap.objs.size<=it) (h2:∀ x c,X.env.cells.lookup x=some c->c ≠ it) (h3:∀ p ∈ X.pn ++ pins,p.1 ≠ it):Inv X pins σ H { s with heap:=h',toks:=t' }:=by
 have nit:∀ b u,H b=some u->b ≠ it:=λb u e z=>by rw [z,hn] at e;cases e
 refine I.step (g':=s.gens) (d':=s.drawn) (ch:=[it]) (λb hb=>?_) (λb o _ _ hc e _=>k b o (λz=>hc (by simp [z])) e) (λb o _ _ hc e _=>⟨o.slots,k b o (λz=>hc (by simp [z])) e⟩) (λ_ _ _ _ n=>n)
  (λb o hc e=>⟨o,k b o (λz=>hc (by simp [z])) e⟩) (λ_ _ e=>e) (λ_ _ _ e=>e) (λb ps e=>⟨#[],by rw [e];simp⟩) (λm hm=>?_) (λb u e=>?_) I.bare
 ·have e:b=it:=by simpa using hb
  subst e;exact ⟨h1,hL,h2,h3⟩
 ·obtain ⟨o,es,ep,ho,r⟩:=hm
  exact ⟨o,es,ep,k _ o (Ne.symm hL) ho,r⟩
 ·refine (I.hok b u e).stay (λc v hc q=>k c v ?_ q) (λ_ q=>q) λ_ _ q=>q
  rcases hc with z | z
  ·rw [z];exact nit b u e
  ·exact nit c _ z
theorem Inv.tok (I:Inv X pins σ H s) (t:Nat):Inv X pins σ H { s with toks:=t }:=I.un (h':=s.heap) (t':=t) Un.refl I.hok
theorem Inv.kept {t':Nat} (I:Inv X pins σ H s) (k:∀ b u,s.heap.get? b=some u->h'.get? b=some u):Inv X pins σ H { s with heap:=h',toks:=t' }:=I.un (Un.kept k) (I.hok.kept k)
theorem Inv.laid {a:Addr} {o:HO} {t':Nat} (I:Inv X pins σ H s) (k:∀ b u,s.heap.get? b=some u->h'.get? b=some u) (hp:s.heap.objs.size<=a) (new:K1 X.prog X.w (upd H a o) h' a o) :
  Inv X pins σ (upd H a o) { s with heap:=h',toks:=t' }:=I.un (Un.laid k hp (I.hok.fresh hp)) (I.hok.laid k hp new)
theorem Inv.write {x e:Addr} {o:HO} {t':Nat} (I:Inv X pins σ H s) (mu:Mut (H x)) (he:e=x \/ H e=some (.own x)) (k:∀ b u,b ≠ e->s.heap.get? b=some u->h'.get? b=some u) (heo:∃ u,h'.get? e=some u)
  (new:K1 X.prog X.w (upd H x o) h' x o):Inv X pins σ (upd H x o) { s with heap:=h',toks:=t' }:=I.un (Un.write mu he k heo) (I.hok.write mu he k heo new)
theorem Inv.pins_of {pins':List (Addr × Obj)} (I:Inv X pins σ H s) (h:∀ p ∈ pins',s.heap.get? p.1=some p.2/\H p.1=none/\p.1 ≠ X.env.locals/\p.1 ∉ X.fs/\∀ v,p.2.data ≠ .cell v):Inv X pins' σ H s :=
 ⟨I.ok,I.os,I.bare,I.base,I.loc,I.cell,I.free,I.freeC,λp hp=>(z0y.mp hp).elim (λz=>I.pin p (m0m _ z)) (h p),I.hok,I.len⟩
theorem aG8 {N:List Str} (hN:N.Nodup) {i j:Nat} {x:Str} (a:N[i]? = some x) (b:N[j]? = some x):i=j:=by
 obtain ⟨h1,e1⟩:=q0g.mp a;obtain ⟨h2,e2⟩:=q0g.mp b;exact (List.getElem_inj hN).mp (e1.trans e2.symm)
theorem aO4 {M:Model} {A:Around} {E:Value->Shared->Prop} {i:Nat} {x:Str} {v:V} {u:Value} {Q:Unit->Shared->Prop} (I:Inv X pins σ H s) (hN:X.N.Nodup) (hi:X.N[i]? = some x) (hx:Loc X.env.scope x) (r:A9 v u)
  (h:∀ s',Inv X pins (σ.set i (some v)) H s'->(∃ a,v0e a s.heap s'.heap/\(a=X.env.locals \/ X.env.cells.lookup x=some a))->Q () s') (hf:X.fn x=true \/ X.env.scope.names.lookup x=some .local:=by first | exact .inl rfl | exact .inr rfl | assumption):wpAny M A (storeName X.env x u) Q E s:=by
 obtain ⟨m,hn,hl⟩:=id I.loc;have hcls:(X.env.scope.kind == .class || (X.env.scope.kind == .module && X.env.locals != X.env.globals))=false:=by rw [I.ok.kind];rfl
 have hiσ:i<σ.length:=by rw [I.len];exact (q0g.mp hi).1
 have cne:=I.cne
 have tracked:∀ {a:Addr} {h':Heap},(∃ o,s.heap.get? a=some o/\H a=none)->v0e a s.heap h'->HOk X.prog X.w H h':=fun {a h'} ha hs b ob e=>by
  obtain ⟨_,_,hfree⟩:=ha;refine (I.hok b ob e).stay (λc w' hc q=>(hs.2 c ?_).trans q) (λ_ q=>q) λ_ _ q=>q;rintro rfl;rcases hc with rfl | hc
  ·rw [hfree] at e;cases e
  ·rw [hfree] at hc;cases hc
 rcases hx with hk | hk
 ·refine wpAny_storeName_local hk hn (λh' hn' hs=>?_) hcls
  obtain ⟨oL,_,_,hoL,_⟩:=id hn;refine h _ ⟨I.ok,I.os,I.bare,⟨λb o e n hb hx=>?_,λb o e n hb hx=>?_,I.base.free,λb o e hx=>?_,I.base.tups,I.base.frzs,I.base.tbls⟩,⟨_,hn',λj y v' e1 e2 e3=>?_⟩,λy c e=>?_,I.free,I.freeC,λp hp=>?_,tracked ⟨oL,hoL,I.free⟩ hs,by simpa using I.len⟩ ⟨_,hs,.inl rfl⟩
  ·exact (hs.2 b (q0v (q0b (q0e e) I.ok.above))).trans (I.base.keep b o e n hb hx)
  ·obtain ⟨sl,e1⟩:=I.base.slot b o e n hb hx
   exact ⟨sl,(hs.2 b (q0v (q0b (q0e e) I.ok.above))).trans e1⟩
  ·obtain ⟨o',e1⟩:=I.base.there b o e hx
   exact ⟨o',(hs.2 b (q0v (q0b (q0e e) I.ok.above))).trans e1⟩
  ·by_cases hj:j=i
   ·subst hj
    rw [hi] at e1;cases e1;rw [g0y hiσ] at e2
    cases e2
    exact ⟨u,r,.inl ⟨hk,by simp⟩⟩
   ·rw [m0n (Ne.symm hj)] at e2
    obtain ⟨u',r',q⟩:=hl j y v' e1 e2 e3;refine ⟨u',r',?_⟩;rcases q with ⟨k,e⟩ | ⟨k,c,e,z⟩
    ·refine .inl ⟨k,?_⟩
     have:y ≠ x:=λe=>hj (aG8 hN e1 (e ▸ hi))
     simp [this,e]
    ·exact .inr ⟨k,c,e,z.sameBut hs (cne y c e)⟩
  ·obtain ⟨w',z⟩:=I.cell y c e
   exact ⟨w',z.sameBut hs (cne y c e)⟩
  ·obtain ⟨e,n,ne,nf,d⟩:=I.pin p hp
   exact ⟨(hs.2 p.1 ne).trans e,n,ne,nf,d⟩
 ·have hfn:X.fn x=true:=by
   rcases hf with z | z
   ·exact z
   ·rw [z] at hk;cases hk
  obtain ⟨c,hc⟩:=I.ok.has x (.inl hk);obtain ⟨w',z⟩:=I.cell x c hc;refine wpAny_storeName_cell I.ok.kind hk hc z (λh' hc' hs=>?_);obtain ⟨oc,hoc,hocd⟩:=id z;refine h { s with heap:=h' } ⟨I.ok,I.os,I.bare,⟨λb o e n hb hx=>?_,λb o e n hb hx=>?_,I.base.free,λb o e hx=>?_,I.base.tups,I.base.frzs,I.base.tbls⟩,⟨m,hn.sameBut hs (Ne.symm (cne x c hc)),λj y v' e1 e2 e3=>?_⟩,λy c' e=>?_,I.free,I.freeC,λp hp=>?_,tracked ⟨oc,hoc,I.freeC x c hc⟩ hs,by simpa using I.len⟩ ⟨c,hs,.inr hc⟩
  ·exact (hs.2 b (q0v (q0b (q0e e) (I.ok.cab x c hfn hc)))).trans (I.base.keep b o e n hb hx)
  ·obtain ⟨sl,e1⟩:=I.base.slot b o e n hb hx
   exact ⟨sl,(hs.2 b (q0v (q0b (q0e e) (I.ok.cab x c hfn hc)))).trans e1⟩
  ·obtain ⟨o',e1⟩:=I.base.there b o e hx
   exact ⟨o',(hs.2 b (q0v (q0b (q0e e) (I.ok.cab x c hfn hc)))).trans e1⟩
  ·by_cases hj:j=i
   ·subst hj
    rw [hi] at e1;cases e1;rw [g0y hiσ] at e2
    cases e2
    exact ⟨u,r,.inr ⟨.inl hk,c,hc,hc'⟩⟩
   ·rw [m0n (Ne.symm hj)] at e2
    obtain ⟨u',r',q⟩:=hl j y v' e1 e2 e3;refine ⟨u',r',?_⟩;rcases q with q | ⟨k,c',e,z'⟩
    ·exact .inl q
    ·refine .inr ⟨k,c',e,z'.sameBut hs ?_⟩
     rintro rfl;exact hj (aG8 hN e1 (I.ok.inj _ _ _ e hc ▸ hi))
  ·by_cases hcc:c'=c
   ·subst hcc;exact ⟨_,hc'⟩
   ·obtain ⟨w2,z2⟩:=I.cell y c' e
    exact ⟨w2,z2.sameBut hs hcc⟩
  ·obtain ⟨e,n,ne,nf,d⟩:=I.pin p hp
   refine ⟨(hs.2 p.1 ?_).trans e,n,ne,nf,d⟩;intro q;rw [q,hoc] at e;have q':oc=p.2:=Option.some.inj e;exact d w' (by rw [<- q'];exact hocd)
theorem ad6 {M:Model} {A:Around} {E:Value->Shared->Prop} {i:Nat} {x:Str} {v:V} {u:Value} {Q:Unit->Shared->Prop} (I:Inv X pins σ H s) (hN:X.N.Nodup) (hi:X.N[i]? = some x) (hx:Loc X.env.scope x) (r:A9 v u)
  (h:∀ s',Inv X pins (σ.set i (some v)) H s'->Q () s') (hf:X.fn x=true \/ X.env.scope.names.lookup x=some .local:=by first | exact .inl rfl | exact .inr rfl | assumption):wpAny M A (storeName X.env x u) Q E s :=
 aO4 I hN hi hx r (λs' I' _=>h s' I') hf
theorem Inv.call' {s':Shared} {ch:List Addr} (I:Inv X pins σ H s) (ho:s'.os=s.os) (u:Un (frs X.stack) ch H H' s.heap s'.heap) (hok:HOk X.prog X.w H' s'.heap) (hg:AllBare s'.gens)
  (hch:∀ b ∈ ch,(b ∈ X.ex \/ X.s₀.heap.objs.size<=b)/\b ≠ X.env.locals/\(∀ x c,X.env.cells.lookup x=some c->c ≠ b)/\∀ p ∈ X.pn ++ pins,p.1 ≠ b):Inv X pins σ H' s':=by
 obtain ⟨h',g',d',t',o'⟩:=s';have e:o'=s.os:=ho;subst e;exact I.call (g':=g') (t':=t') (d':=d') u hok hg hch
end
abbrev XK:=Value->Option Addr->Hp->Prop
abbrev St:=List (Option V)
abbrev VK:=V->Hp->Prop
abbrev TE:=St->Hp->VK->Prop
abbrev TT:=St->Hp->(Bool->Hp->Prop)->Prop
abbrev TA:=St->Hp->(List V->Hp->Prop)->Prop
structure ah6 where
 nx:St->Hp->Prop
 rt:VK
 bk:St->Hp->Prop:=λ_ _=>False
 ct:St->Hp->Prop:=λ_ _=>False
abbrev TS:=ah6->St->Hp->Prop
def EP (X:Cx) (pins:List (Addr × Obj)) (σ:St) (Q:VK) (u:Value) (s':Shared):Prop:=∃ v H',Inv X pins σ H' s'/\A9 v u/\Q v H'
def TP (X:Cx) (pins:List (Addr × Obj)) (σ:St) (Q:Bool->Hp->Prop) (b:Bool) (s':Shared):Prop:=∃ H',Inv X pins σ H' s'/\Q b H'
def AP (X:Cx) (pins:List (Addr × Obj)) (σ:St) (Q:List V->Hp->Prop) (us:List Value) (s':Shared):Prop:=∃ vs H',Inv X pins σ H' s'/\m6 vs us/\Q vs H'
def SP (X:Cx) (pins:List (Addr × Obj)) (D:ah6) (f:Flow) (s':Shared):Prop :=
 match f with
 | .next => ∃ σ' H',Inv X pins σ' H' s'/\D.nx σ' H'
 | .brk => ∃ σ' H',Inv X pins σ' H' s'/\D.bk σ' H'
 | .cont => ∃ σ' H',Inv X pins σ' H' s'/\D.ct σ' H'
 | .ret u => ∃ v σ' H',Inv X pins σ' H' s'/\A9 v u/\D.rt v H'
def PE (X:Cx) (e:Expr) (t:TE):Prop :=
 ∀ (pins:List (Addr × Obj)) (s:Shared) (σ:St) (H:Hp) (Q:VK),Inv X pins σ H s->t σ H Q->wpAny (model X.prog X.w) X.A (eval e X.env) (EP X pins σ Q) X.xe s
def PT (X:Cx) (e:Expr) (t:TT):Prop :=
 ∀ (pins:List (Addr × Obj)) (s:Shared) (σ:St) (H:Hp) (Q:Bool->Hp->Prop),Inv X pins σ H s->t σ H Q->wpAny (model X.prog X.w) X.A (isTrue e X.env (eval e X.env)) (TP X pins σ Q) X.xe s
def PW (X:Cx) (e:Expr) (t:TT):Prop :=
 ∀ (whole:Sem Value) (pins:List (Addr × Obj)) (s:Shared) (σ:St) (H:Hp) (Q:Bool->Hp->Prop),Inv X pins σ H s->t σ H Q->wpAny (model X.prog X.w) X.A (isTrue e X.env whole) (TP X pins σ Q) X.xe s
theorem PW.pt {X:Cx} {e:Expr} {t:TT} (h:PW X e t):PT X e t:=h _
def PA (X:Cx) (es:List Expr) (t:TA):Prop :=
 ∀ (pos:Pos) (pins:List (Addr × Obj)) (s:Shared) (σ:St) (H:Hp) (Q:List V->Hp->Prop),Inv X pins σ H s->t σ H Q->wpAny (model X.prog X.w) X.A (spliced (backTo pos (starEach es X.env))) (AP X pins σ Q) X.xe s
def PS (X:Cx) (st:Stmt) (t:TS):Prop :=
 ∀ (pins:List (Addr × Obj)) (s:Shared) (σ:St) (H:Hp) (D:ah6),Inv X pins σ H s->t D σ H->wpAny (model X.prog X.w) X.A (exec st X.env) (SP X pins D) X.xe s
def PSs (X:Cx) (st:List Stmt) (t:TS):Prop :=
 ∀ (pins:List (Addr × Obj)) (s:Shared) (σ:St) (H:Hp) (D:ah6),Inv X pins σ H s->t D σ H->wpAny (model X.prog X.w) X.A (execs st X.env) (SP X pins D) X.xe s
theorem thn {α:Type} {t:Sem α} {Q Q':α->Shared->Prop} {M:Model} {A:Around} {E:Value->Shared->Prop} {s:Shared} (h:wpAny M A t Q E s) (hQ:∀ a s,Q a s->Q' a s):wpAny M A t Q' E s:=wpAny_mono h hQ λ_ _ x=>x
section
variable {X:Cx}
def B3 (i:Nat):TE:=λσ H Q => ∃ v,σ[i]? = some (some v)/\Q v H
def tC (v:V):TE:=λ_ H Q=>Q v H
theorem be4 {i:Nat} {x:Str} {pos:Pos} (hN:X.N[i]? = some x) (hv:Vis X.env.scope x) (hd:(x == ("__debug__" : Str))=false:=by decide) (hcd:(x == ("__classdict__" : Str))=false:=by decide):PE X (.Name x pos) (B3 i):=by
 intro pins s σ H Q I h;obtain ⟨v,e,h⟩:=h;obtain ⟨m,hn,hl⟩:=I.loc;obtain ⟨u,r,l⟩:=hl i x v hN e hv;have fin:EP X pins σ Q u s:=⟨v,H,I,r,h⟩;rcases l with ⟨hk,hm⟩ | ⟨hk,c,hc,hcell⟩
 ·exact wpAny_Name (wpAny_loadName_local I.ok.kind hk hn hm fin) hd
 ·rcases hk with hk | hk
  ·exact wpAny_Name (wpAny_loadName_cell I.ok.kind hk hc hcell fin) hd
  ·exact wpAny_Name (wpAny_loadName_free I.ok.kind hk hc hcell fin hcd) hd
theorem b9 {i j pos}:PE X (.Constant (.int i) j pos) (tC (.int i)):=λ_ _ _ H _ I h=>wpAny_Constant_int ⟨.int i,H,I.tok _,⟨_,rfl⟩,h⟩
theorem am4 {b j pos}:PE X (.Constant (.bool b) j pos) (tC (.bl b)):=λ_ _ _ H _ I h=>Constant_bool ⟨.bl b,H,I,rfl,h⟩
theorem be6 {j pos}:PE X (.Constant .none j pos) (tC .non):=λ_ _ _ H _ I h=>Constant_none ⟨.non,H,I,rfl,h⟩
def Gl (X:Cx) (x:Str):Prop:=X.env.kindOf x=some .globalImplicit
theorem aM3 {E:Value->Shared->Prop} {pins:List (Addr × Obj)} {s:Shared} {σ:St} {H:Hp} {x:Str} {u:Value} {pos:Pos} {Q:Value->Shared->Prop} (I:Inv X pins σ H s) (hg:Gl X x) (hm:X.mg x=some u) (h:Q u s)
  (hd:(x == ("__debug__" : Str))=false:=by decide):wpAny (model X.prog X.w) X.A (eval (.Name x pos) X.env) Q E s :=
 Calls.Name_function_global I.ok.kind hg (Calls.loadGlobal_global (by rw [I.ok.glob];exact I.mod.glob.keeps I.bk) hm h) hd
theorem Z5 {E:Value->Shared->Prop} {pins:List (Addr × Obj)} {s:Shared} {σ:St} {H:Hp} {x:Str} {u:Value} {pos:Pos} {Q:Value->Shared->Prop} (I:Inv X pins σ H s) (hg:Gl X x) (hm:X.mg x=none) (hv:bootBuiltins x=some u) (h:Q u s)
  (hn:x ≠ "__name__" := by decide) (hd:(x == ("__debug__" : Str))=false:=by decide):wpAny (model X.prog X.w) X.A (eval (.Name x pos) X.env) Q E s:=by
 obtain ⟨mb,h1,h2⟩:=I.mod.blt;exact Calls.Name_function_global I.ok.kind hg (Calls.loadGlobal_builtin (by rw [I.ok.glob];exact I.mod.glob.keeps I.bk) hm (by rw [I.ok.blt];exact h1.keeps I.bk) ((h2 x hn).trans hv) h) hd
theorem ar4 {x:Str} {v:V} {u:Value} {pos:Pos} (hg:Gl X x) (hm:X.mg x=some u) (r:A9 v u) (hd:(x == ("__debug__" : Str))=false:=by decide):PE X (.Name x pos) (tC v) :=
 λ_ _ _ H _ I h=>aM3 I hg hm ⟨v,H,I,r,h⟩ hd
theorem am3 {x:Str} {v:V} {u:Value} {pos:Pos} (hg:Gl X x) (hm:X.mg x=none) (hv:bootBuiltins x=some u) (r:A9 v u) (hn:x ≠ "__name__" := by decide) (hd:(x == ("__debug__" : Str))=false:=by decide):PE X (.Name x pos) (tC v) :=
 λ_ _ _ H _ I h=>Z5 I hg hm hv ⟨v,H,I,r,h⟩ hn hd
variable {a b:Expr} {ta tb:TE} {pos:Pos}
def PC (X:Cx) (op:CmpOp) (a b:Expr) (t:TE):Prop :=
 ∀ (pins:List (Addr × Obj)) (s:Shared) (σ:St) (H:Hp) (Q:VK),Inv X pins σ H s->t σ H Q ->
  wpAny (model X.prog X.w) X.A (eval a X.env) (λv s₁=>wpAny (model X.prog X.w) X.A (eval b X.env) (λu s₂=>wpAny (model X.prog X.w) X.A (compareOp op v u) (EP X pins σ Q) X.xe s₂) X.xe s₁) X.xe s
def tB (t:TE):TT:=λσ H Q=>t σ H λx H1 => ∃ c,x=.bl c/\Q c H1
theorem Z2 {e:Expr} {t:TE} (h:PE X e t) (he:∀ whole,isTrue e X.env whole=(do let v <- whole;standAt e.pos;holding [v] (truthy v)):=by intro _;rfl):PT X e (tB t):=by
 intro pins s σ H Q I hw;refine isTrue_plain (thn (h pins s σ H _ I hw) λv s1 zq=>?_) (he _);obtain ⟨x,H1,I1,r1,q1⟩:=zq;obtain ⟨d,rfl,q⟩:=q1
 cases r1
 exact wpAny_truthy_bool ⟨H1,I1,q⟩
variable {tA tB':TT} {aq5:List Expr}
def aj0 (t u:TT):TT:=λσ H Q=>t σ H λc H1=>if c=true then u σ H1 Q else Q false H1
def tOr (t u:TT):TT:=λσ H Q=>t σ H λc H1=>if c=true then Q true H1 else u σ H1 Q
def ai7 (t:TT):TT:=λσ H Q=>t σ H λc H1=>Q (!c) H1
theorem aB3 (ha:PT X a tA):PW X (.BoolOp .And [a] pos) tA:=by
 intro wh pins s σ H Q I h;refine isTrue_and (thn (ha pins s σ H Q I h) λc s1 e=>?_)
 cases c with
 | true=>exact isTrue_and_nil e
 | false=>exact e
theorem aj8 (ha:PT X a tA):PW X (.BoolOp .Or [a] pos) tA:=by
 intro wh pins s σ H Q I h;refine isTrue_or (thn (ha pins s σ H Q I h) λc s1 e=>?_)
 cases c with
 | false=>exact isTrue_or_nil e
 | true=>exact e
theorem aI9 (ha:PT X a tA) (hb:PW X (.BoolOp .And (b :: aq5) pos) tB'):PW X (.BoolOp .And (a :: b :: aq5) pos) (aj0 tA tB'):=by
 intro wh pins s σ H Q I h;refine isTrue_and (thn (ha pins s σ H _ I h) λc s1 zq=>?_);obtain ⟨H1,I1,q1⟩:=zq
 cases c with
 | true=>exact hb wh pins s1 σ H1 Q I1 q1
 | false=>exact ⟨H1,I1,q1⟩
theorem ac6 (ha:PT X a tA) (hb:PW X (.BoolOp .Or (b :: aq5) pos) tB'):PW X (.BoolOp .Or (a :: b :: aq5) pos) (tOr tA tB'):=by
 intro wh pins s σ H Q I h;refine isTrue_or (thn (ha pins s σ H _ I h) λc s1 zq=>?_);obtain ⟨H1,I1,q1⟩:=zq
 cases c with
 | true=>exact ⟨H1,I1,q1⟩
 | false=>exact hb wh pins s1 σ H1 Q I1 q1
theorem Z3 (ha:PT X a tA):PT X (.UnaryOp .Not a pos) (ai7 tA):=by
 intro pins s σ H Q I h;exact isTrue_not (ha pins s σ H (λc H1=>Q (!c) H1) I h)
def V9 (ta tb:TE):TE:=λσ H Q=>ta σ H λx H1 => ∃ c,x=.bl c/\if c=true then tb σ H1 Q else Q (.bl false) H1
def V4 (ta:TE):TE:=λσ H Q=>ta σ H λx H1 => ∃ c,x=.bl c/\Q (.bl (!c)) H1
theorem aJ0 {op} {t:TE} (h:PE X a t):PE X (.BoolOp op [a] pos) t:=λpins s σ H Q I hw=>BoolOp_one (h pins s σ H Q I hw)
theorem aJ1 (ha:PE X a ta) (hb:PE X (.BoolOp .And (b :: aq5) pos) tb):PE X (.BoolOp .And (a :: b :: aq5) pos) (V9 ta tb):=by
 intro pins s σ H Q I h;refine BoolOp_and (thn (ha pins s σ H _ I h) λv s1 zq=>?_);obtain ⟨x,H1,I1,r1,q1⟩:=zq;obtain ⟨c,rfl,q1⟩:=q1
 cases r1
 refine wpAny_truthy_bool ?_
 cases c with
 | true=>exact hb pins s1 σ H1 Q I1 q1
 | false=>exact ⟨.bl false,H1,I1,rfl,q1⟩
theorem be5 (ha:PE X a ta):PE X (.UnaryOp .Not a pos) (V4 ta):=by
 intro pins s σ H Q I h;refine UnaryOp_ (thn (ha pins s σ H _ I h) λv s1 zq=>?_);obtain ⟨x,H1,I1,r1,q1⟩:=zq;obtain ⟨c,rfl,q1⟩:=q1
 cases r1
 exact not_of (wpAny_truthy_bool ⟨.bl (!c),H1,I1,rfl,q1⟩)
def tIf (t:TT) (ta tb:TE):TE:=λσ H Q=>t σ H λc H1=>if c=true then ta σ H1 Q else tb σ H1 Q
theorem as9 {c:Expr} (hc:PT X c tA) (ha:PE X a ta) (hb:PE X b tb):PE X (.IfExp c a b pos) (tIf tA ta tb):=by
 intro pins s σ H Q I h;refine wpAny_IfExp (thn (hc pins s σ H _ I h) λd s1 zq=>?_);obtain ⟨H1,I1,q1⟩:=zq
 cases d with
 | true=>exact ha pins s1 σ H1 Q I1 q1
 | false=>exact hb pins s1 σ H1 Q I1 q1
end
def SqL (K:q0a) (H:Hp) (a:Addr) (xs:List V):Prop :=
 Rd H a (.lst xs) \/
  ∃ (o:Obj) (its:Array Value) (n:Nat),K.lookup a=some o/\o.cls=.type "list"/\o.dict=none/\o.data=.seq its n/\its.size<=sizeLine/\m6 xs its.toList
def SqT (K:q0a) (H:Hp) (a:Addr) (xs:List V):Prop :=
 Rd H a (.tup xs) \/
  ∃ (o:Obj) (its:Array Value) (n:Nat),K.lookup a=some o/\o.cls=.type "tuple"/\o.data=.seq its n/\its.size<=sizeLine/\m6 xs its.toList
def bl2:Value->Option V
 | .none=>some .non
 | .bool b=>some (.bl b)
 | .int i _=>some (.int i)
 | .str x _=>some (.str x)
 | .bytes b _=>some (.byt b)
 | .float b _=>some (.flt b)
 | .ref a=>some (.ref a)
 | .type n=>some (.ty n)
 | _=>none
theorem A9.abs {x:V} {u:Value} (r:A9 x u):bl2 u=some x:=by
 cases x with
 | non=>cases r;rfl
 | bl _=>cases r;rfl
 | int _=>obtain ⟨t,rfl⟩:=r;rfl
 | str _=>obtain ⟨t,rfl⟩:=r;rfl
 | byt _=>obtain ⟨t,rfl⟩:=r;rfl
 | flt _=>obtain ⟨t,rfl⟩:=r;rfl
 | ref _=>cases r;rfl
 | ty _=>cases r;rfl
theorem A9.inj {x y:V} {u:Value} (r:A9 x u) (q:A9 y u):x=y:=Option.some.inj (r.abs.symm.trans q.abs)
theorem m6.inj:∀ {xs ys:List V} {us:List Value},m6 xs us->m6 ys us->xs=ys
 | _,_,_,.nil,.nil=>rfl
 | _,_,_,.cons r t,.cons r' t'=>by rw [r.inj r',m6.inj t t']
section
variable {X:Cx} {pins:List (Addr × Obj)} {σ:St} {H:Hp} {s:Shared} {a:Addr} {xs ys:List V}
theorem SqL.of {K:q0a} (h:H a=some (.lst xs)):SqL K H a xs:=.inl (.inl h)
theorem SqT.of {K:q0a} (h:H a=some (.tup xs)):SqT K H a xs:=.inl (.inl h)
theorem Inv.list (I:Inv X pins σ H s) (h:SqL X.K H a xs):∃ its:List Value,m6 xs its/\PlainL s.heap a its.toArray/\xs.length<=sizeLine:=by
 rcases h with h | ⟨o,its,n,hk,hc,hd,hs,hz,r⟩
 ·obtain ⟨z,its,n,r,e⟩:=h.ok I.hok
  exact ⟨its,r,⟨_,n,e,rfl,rfl,rfl⟩,z⟩
 ·refine ⟨its.toList,r,⟨o,n,I.kIn a o hk,hc,hd,by simpa using hs⟩,?_⟩
  have e:=r.length;simp only [m0t] at e;omega
theorem Inv.tuple (I:Inv X pins σ H s) (h:SqT X.K H a xs):∃ its:List Value,m6 xs its/\IsTup s.heap a its.toArray/\xs.length<=sizeLine:=by
 rcases h with h | ⟨o,its,n,hk,hc,hs,hz,r⟩
 ·obtain ⟨z,its,r,p⟩:=h.ok I.hok
  exact ⟨its,r,p,z⟩
 ·refine ⟨its.toList,r,⟨o,I.kIn a o hk,hc,n,by simpa using hs⟩,?_⟩
  have e:=r.length;simp only [m0t] at e;omega
theorem Inv.list_inj (I:Inv X pins σ H s) (h:SqL X.K H a xs) (h':SqL X.K H a ys):xs=ys:=by
 obtain ⟨its,r,⟨o,n,e,_,_,d⟩,_⟩:=I.list h;obtain ⟨its',r',⟨o',n',e',_,_,d'⟩,_⟩:=I.list h';rw [e] at e';cases e';rw [d] at d'
 injection d' with d1 _
 have:its=its':=by simpa using congrArg Array.toList d1
 subst this;exact r.inj r'
theorem Inv.tuple_inj (I:Inv X pins σ H s) (h:SqT X.K H a xs) (h':SqT X.K H a ys):xs=ys:=by
 obtain ⟨its,r,⟨o,e,_,n,d⟩,_⟩:=I.tuple h;obtain ⟨its',r',⟨o',e',_,n',d'⟩,_⟩:=I.tuple h';rw [e] at e';cases e';rw [d] at d'
 injection d' with d1 _
 have:its=its':=by simpa using congrArg Array.toList d1
 subst this;exact r.inj r'
end
abbrev Cx.wish (X:Cx) (E:Value->Shared->Prop):Cx:={ X with xe:=E }
abbrev Cx.nox (X:Cx):Cx:=X.wish λ_ _=>False
theorem Cx.Ok.wish {X:Cx} (ok:X.Ok) (E:Value->Shared->Prop):(X.wish E).Ok :=
 ⟨ok.mod,ok.kind,ok.glob,ok.blt,ok.above,ok.inj,ok.has,ok.cab,ok.hd,ok.frames,ok.stk,ok.exf,ok.bs,ok.bsz,ok.noex,ok.exfs,ok.funs,ok.frf⟩
theorem Cx.Ok.unwish {X:Cx} {E:Value->Shared->Prop} (ok:(X.wish E).Ok):X.Ok :=
 ⟨ok.mod,ok.kind,ok.glob,ok.blt,ok.above,ok.inj,ok.has,ok.cab,ok.hd,ok.frames,ok.stk,ok.exf,ok.bs,ok.bsz,ok.noex,ok.exfs,ok.funs,ok.frf⟩
section
variable {X:Cx} {pins:List (Addr × Obj)} {σ:St} {H:Hp} {s:Shared} {E:Value->Shared->Prop}
theorem Inv.wish (I:Inv X pins σ H s) (E:Value->Shared->Prop):Inv (X.wish E) pins σ H s:=⟨I.ok.wish E,I.os,I.bare,I.base,I.loc,I.cell,I.free,I.freeC,I.pin,I.hok,I.len⟩
theorem Inv.unwish (I:Inv (X.wish E) pins σ H s):Inv X pins σ H s:=⟨I.ok.unwish,I.os,I.bare,I.base,I.loc,I.cell,I.free,I.freeC,I.pin,I.hok,I.len⟩
theorem SP.unwish {D:ah6} {f:Flow} {s':Shared} (h:SP (X.wish E) pins D f s'):SP X pins D f s':=by
 cases f with
 | next=>obtain ⟨σ',H',I,q⟩:=h;exact ⟨σ',H',I.unwish,q⟩
 | brk=>obtain ⟨σ',H',I,q⟩:=h;exact ⟨σ',H',I.unwish,q⟩
 | cont=>obtain ⟨σ',H',I,q⟩:=h;exact ⟨σ',H',I.unwish,q⟩
 | ret u=>obtain ⟨v,σ',H',I,r,q⟩:=h;exact ⟨v,σ',H',I.unwish,r,q⟩
theorem PSs.nox {st:List Stmt} {t:TS} (h:PSs X.nox st t):PSs X st t:=λpins s σ H D I hw =>
 wpAny_mono (h pins s σ H D (I.wish _) hw) (λ_ _ q=>q.unwish) λ_ _ z=>False.elim z
end
section
variable {X:Cx} {st:Stmt} {aq5:List Stmt} {t u:TS} {e:Expr} {te:TE} {pos:Pos}
def V5:TS:=λD σ H=>D.nx σ H
def ag6 (t u:TS):TS:=λD σ H=>t { D with nx:=u D } σ H
theorem p9:PSs X [] V5:=λ_ _ σ H _ I h=>wpAny_execs_nil ⟨σ,H,I,h⟩
theorem c6 (h1:PS X st t) (h2:PSs X aq5 u):PSs X (st :: aq5) (ag6 t u):=by
 intro pins s σ H D I h;refine wpAny_execs_cons (thn (h1 pins s σ H { D with nx:=u D } I h) λf s1 q=>?_)
 cases f with
 | next =>
  obtain ⟨σ',H',I',q⟩:=q;exact h2 pins s1 σ' H' D I' q
 | ret v=>exact q
 | brk=>exact q
 | cont=>exact q
theorem d2 (h1:PS X st t):PSs X [st] t:=by
 intro pins s σ H D I h;refine wpAny_execs_cons (thn (h1 pins s σ H D I h) λf s1 q=>?_)
 cases f with
 | next=>exact wpAny_execs_nil q
 | ret v=>exact q
 | brk=>exact q
 | cont=>exact q
theorem Inv.quiet {pins:List (Addr × Obj)} {σ:St} {H:Hp} {s:Shared} (I:Inv X pins σ H s):interactive X.env=false:=by simp [interactive,I.ok.kind]
def V7 (te:TE):TS:=λD σ H=>te σ H λ_ H1=>D.nx σ H1
theorem am1 (he:PE X e te) (hs:swapsWith e none pos.line X.env=pure false:=by rfl):PS X (.Expr e pos) (V7 te):=by
 intro pins s σ H D I h;exact wpAny_Expr_any (thn (he pins s σ H _ I h) λv s1 ⟨x,H1,I1,r1,q1⟩=>⟨σ,H1,I1,q1⟩) I.quiet hs
def ag7 (te:TE):TS:=λD σ H=>te σ H D.rt
theorem i5 (he:PE X e te):PS X (.Return (some e) pos) (ag7 te):=by
 intro pins s σ H D I h;exact wpAny_Return_some (thn (he pins s σ H _ I h) λv s1 ⟨x,H1,I1,r1,q1⟩=>⟨x,σ,H1,I1,r1,q1⟩)
def ai8 (c:TT) (t u:TS):TS:=λD σ H=>c σ H λb H1=>if b=true then t D σ H1 else u D σ H1
theorem B8 {c:Expr} {a b:List Stmt} {tc:TT} (hc:PT X c tc) (ha:PSs X a t) (hb:PSs X b u):PS X (.If c a b pos) (ai8 tc t u):=by
 intro pins s σ H D I h;refine wpAny_If (thn (hc pins s σ H _ I h) λd s1 zq=>?_);obtain ⟨H1,I1,q1⟩:=zq
 cases d with
 | true=>exact ha pins s1 σ H1 D I1 q1
 | false=>exact hb pins s1 σ H1 D I1 q1
def L8:TS:=λ_ _ _=>False
theorem aF7:PS X st L8:=λ_ _ _ _ _ _ h=>h.elim
end
abbrev TG:=V->St->Hp->(St->Hp->Prop)->Prop
abbrev TGs:=List V->St->Hp->(St->Hp->Prop)->Prop
def PG (X:Cx) (target:Expr) (t:TG):Prop :=
 ∀ (pins:List (Addr × Obj)) (s:Shared) (σ:St) (H:Hp) (v:V) (u:Value) (Q:St->Hp->Prop),Inv X pins σ H s->A9 v u->t v σ H Q ->
  wpAny (model X.prog X.w) X.A (assign target X.env u) (λ_ s' => ∃ σ' H',Inv X pins σ' H' s'/\Q σ' H') X.xe s
def PGs (X:Cx) (ts:List Expr) (t:TGs):Prop :=
 ∀ (pins:List (Addr × Obj)) (s:Shared) (σ:St) (H:Hp) (vs:List V) (us:List Value) (Q:St->Hp->Prop),Inv X pins σ H s->m6 vs us->t vs σ H Q ->
  wpAny (model X.prog X.w) X.A (assignInOrder ((assignEach ts X.env).map (·.2)) us) (λ_ s' => ∃ σ' H',Inv X pins σ' H' s'/\Q σ' H') X.xe s
abbrev bh0:=V->V->V->Hp->(Hp->Prop)->Prop
def bj7 (X:Cx) (t:bh0):Prop :=
 ∀ (pins:List (Addr × Obj)) (s:Shared) (σ:St) (H:Hp) (o i v:V) (ov iv u:Value) (Q:Hp->Prop),Inv X pins σ H s->A9 o ov->A9 i iv->A9 v u->t o i v H Q ->
  wpAny (model X.prog X.w) X.A (setItem ov iv u) (λ_ s' => ∃ H',Inv X pins σ H' s'/\Q H') X.xe s
abbrev TIp:=V->V->Hp->VK->Prop
def PIp (X:Cx) (op:Operator) (t:TIp):Prop :=
 ∀ (pins:List (Addr × Obj)) (s:Shared) (σ:St) (H:Hp) (x y:V) (v u:Value) (Q:VK),Inv X pins σ H s->A9 x v->A9 y u->t x y H Q ->
  wpAny (model X.prog X.w) X.A (inplaceOp op v u) (EP X pins σ Q) X.xe s
section
variable {X:Cx} {pos:Pos}
def j7 (i:Nat):TG:=λv σ H Q=>Q (σ.set i (some v)) H
theorem d5 {i:Nat} {x:Str} (hN:X.N.Nodup) (hi:X.N[i]? = some x) (hx:Loc X.env.scope x) (hf:X.fn x=true \/ X.env.scope.names.lookup x=some .local:=by first | exact .inl rfl | exact .inr rfl | assumption):PG X (.Name x pos) (j7 i):=by
 intro pins s σ H v u Q I r h;exact wpAny_assign_Name (ad6 I hN hi hx r (λs' I'=>⟨_,H,I',h⟩) hf)
def G4:TGs:=λvs σ H Q=>vs=[]/\Q σ H
def l9 (t:TG) (u:TGs):TGs:=λvs σ H Q => ∃ v r,vs=v :: r/\t v σ H λσ' H'=>u r σ' H' Q
theorem y7:PGs X [] G4:=by
 intro pins s σ H vs us Q I r h;obtain ⟨e,h⟩:=h;subst e
 cases r
 exact assignInOrder_nil ⟨σ,H,I,h⟩
theorem i6 {e:Expr} {es:List Expr} {t:TG} {u:TGs} (h1:PG X e t) (h2:PGs X es u)
  (hs:(assignEach (e :: es) X.env).map (·.2)=assign e X.env :: (assignEach es X.env).map (·.2):=by rfl):PGs X (e :: es) (l9 t u):=by
 intro pins s σ H vs us Q I r h;obtain ⟨v,vr,e1,h⟩:=h;subst e1
 cases r with
 | cons r rr =>
  rw [hs];refine assignInOrder_cons (thn (h1 pins s σ H _ _ _ I r h) λ_ s1 zq=>?_);obtain ⟨σ1,H1,I1,q1⟩:=zq;exact h2 pins s1 σ1 H1 _ _ Q I1 rr q1
def G3 (K:q0a) (n:Nat) (t:TGs):TG:=λv σ H Q => ∃ a xs,v=.ref a/\SqT K H a xs/\xs.length=n/\t xs σ H Q
theorem C9 {es:List Expr} {k:Nat} {t:TGs} {n:Nat} (hc:X.calm=true) (h:PGs X es t)
  (hn:(assignEach es X.env).length=n:=by rfl) (hst:(assignEach es X.env).findIdx? (·.1)=none:=by rfl):PG X (.Tuple es k pos) (G3 X.K n t):=by
 intro pins s σ H v u Q I r hw;obtain ⟨a,xs,e1,hq,hl,hw⟩:=hw;subst e1
 cases r
 obtain ⟨its,rv,ht,hz⟩:=I.tuple hq;refine assign_Tuple_tuple (I.ok.hd hc) ht (by simp [hn,<- hl,rv.length]) hst λh' hx=>?_
 have I1:Inv X pins σ H { s with heap:=h' }:=I.kept (t':=s.toks) λb o e=>hx b o (q0v (q0e e)) e;exact h pins _ σ H xs _ Q I1 (by simpa using rv) hw
def ae7 (to ti:TE) (t:bh0):TG:=λv σ H Q=>to σ H λo H1=>ti σ H1 λi H2=>t o i v H2 λH3=>Q σ H3
theorem Z4 {o i:Expr} {to ti:TE} {t:bh0} (ho:PE X o to) (hi:PE X i ti) (hs:bj7 X t)
  (ha:∀ v,assign (.Subscript o i pos) X.env v=(do
   let ov <- holding [v] (eval o X.env)
   let iv <- holding [v,ov] (eval i X.env)
   standAt pos
   holding [v,ov,iv] (setItem ov iv v)
   release [v,ov,iv] []):=by intro _;rfl):PG X (.Subscript o i pos) (ae7 to ti t):=by
 intro pins s σ H v u Q I r h;rw [ha];refine wpAny_bind (wpAny_holding (thn (ho pins s σ H _ I h) λov s1 zq=>?_));obtain ⟨x,H1,I1,r1,q1⟩:=zq;refine wpAny_bind (wpAny_holding (thn (hi pins s1 σ H1 _ I1 q1) λiv s2 zq=>?_));obtain ⟨y,H2,I2,r2,q2⟩:=zq;refine wpAny_bind (wpAny_standAt (wpAny_bind (wpAny_holding (thn (hs pins s2 σ H2 x y v ov iv u _ I2 r1 r2 r q2) λ_ s3 zq=>?_))));obtain ⟨H3,I3,q3⟩:=zq;exact wpAny_release ⟨σ,H3,I3,q3⟩
def ad1 (te:TE) (g:TG):TS:=λD σ H=>te σ H λx H1=>g x σ H1 D.nx
theorem F9 {tg e : Expr} {te : TE} {g : TG} (he : PE X e te) (hg : PG X tg g) (hs : swapsWithSole [tg] e pos.line X.env = pure false := by rfl) (hw : swappedStores [tg] e X.env = pure none := by rfl)
    (h1:(assignEach [tg] X.env).map (·.2)=[assign tg X.env]:=by rfl):PS X (.Assign [tg] e pos) (ad1 te g):=by
  intro pins s σ H D I h;refine wpAny_Assign_stores (thn (he pins s σ H _ I h) λv s1 zq=>?_) hs hw;obtain ⟨x,H1,I1,r1,q1⟩:=zq;rw [h1];exact thn (hg pins s1 σ H1 x v _ I1 r1 q1) λ_ s2 q=>q
theorem g8 {i:Nat} {x:Str} {e:Expr} {te:TE} {pos':Pos} (hN:X.N.Nodup) (hi:X.N[i]? = some x) (hx:Loc X.env.scope x) (he:PE X e te) (hs:swapsWith e (some (.Name x pos')) pos.line X.env=pure false:=by rfl) (hf:X.fn x=true \/ X.env.scope.names.lookup x=some .local:=by first | exact .inl rfl | exact .inr rfl | assumption) :
  PS X (.Assign [.Name x pos'] e pos) (ad1 te (j7 i)):=by
 intro pins s σ H D I h;refine wpAny_Assign_Name (thn (he pins s σ H _ I h) λv s1 zq=>?_) hs;obtain ⟨y,H1,I1,r1,q1⟩:=zq;exact ad6 I1 hN hi hx r1 (λs2 I2=>⟨_,H1,I2,q1⟩) hf
def ag8 (i j:Nat) (ta:TA):TS:=λD σ H=>ta σ H λvs H1 => ∃ v w,vs=[v,w]/\D.nx ((σ.set i (some v)).set j (some w)) H1
theorem aB4 {i j:Nat} {x y:Str} {a b:Expr} {ta:TA} {px py pt:Pos} {kt k2 pt2} (hc:X.calm=true) (hN:X.N.Nodup) (hi:X.N[i]? = some x) (hj:X.N[j]? = some y) (hij:i ≠ j)
  (hx:X.env.scope.names.lookup x=some .local) (hy:X.env.scope.names.lookup y=some .local) (ha:PA X [a,b] ta)
  (hw:swappedStores [.Tuple [.Name x px,.Name y py] kt pt] (.Tuple [a,b] k2 pt2) X.env=pure (some [x,y]))
  (hs:swapsWithSole [.Tuple [.Name x px,.Name y py] kt pt] (.Tuple [a,b] k2 pt2) pos.line X.env=pure false:=by rfl) :
  PS X (.Assign [.Tuple [.Name x px,.Name y py] kt pt] (.Tuple [a,b] k2 pt2) pos) (ag8 i j ta):=by
 intro pins s σ H D I h;rw [exec_Assign_arm];refine wpAny_bind (wpAny_standAt ?_);rw [hs];refine wpAny_bind (wpAny_pure ?_);rw [if_neg (by decide)]
 refine wpAny_bind (Tuple_ (thn (ha _ pins s σ H _ I h) λus s1 zq=>?_));obtain ⟨vs,H1,I1,r1,q1⟩:=zq;obtain ⟨v,w,e1,q1⟩:=q1;subst e1
 obtain ⟨u1,u2,rfl,rv,rw'⟩:∃ u1 u2,us=[u1,u2]/\A9 v u1/\A9 w u2:=by
  cases r1 with
  | cons p q =>
   cases q with
   | cons p' q' =>
    cases q'
    exact ⟨_,_,rfl,p,p'⟩
 refine wpAny_newObj_type ?_ (by show 2<=sizeLine;decide)
 have I2:Inv X pins σ H1 { s1 with heap:=s1.heap.push { cls:=.type "tuple",data:=.seq [u1,u2].toArray } }:=I1.kept (t':=s1.toks) λb o e=>q0f _ e
 rw [hw];refine wpAny_bind (wpAny_pure ?_)
 show wpAny (model X.prog X.w) X.A (do rule "assign.swapped-stores";let items <- unpackItems (.ref s1.heap.objs.size) 2 none;assignInOrder [λv=>bindName X.env y v,λv=>bindName X.env x v] items.reverse;pure Flow.next) _ _ _
 refine wpAny_bind (wpAny_rule (wpAny_bind (unpackItems_tuple (items:=#[u1,u2]) (I.ok.hd hc) (IsTup.new s1.heap _) λh' hx'=>?_)));have I3:=I2.kept (h':=h') (t':=s1.toks) λb o e=>hx' b o (q0v (q0e e)) e
 show wpAny _ _ (assignInOrder [λv=>bindName X.env y v,λv=>bindName X.env x v] [u2,u1] >>= λ_=>pure Flow.next) _ _ _;refine wpAny_bind (assignInOrder_cons (wpAny_bindName (ad6 I3 hN hj (.inl hy) rw' (λs2 I4=>?_) (.inr hy))));refine assignInOrder_cons (wpAny_bindName (ad6 I4 hN hi (.inl hx) rv (λs3 I5=>assignInOrder_nil (wpAny_pure ?_)) (.inr hx)));rw [List.set_comm _ _ (Ne.symm hij)] at I5;exact ⟨_,H1,I5,q1⟩
def ai9 (i:Nat) (te:TE) (ti:TIp):TS:=λD σ H => ∃ x,σ[i]? = some (some x)/\te σ H λy H1=>ti x y H1 λz H2=>D.nx (σ.set i (some z)) H2
theorem aT9 {i:Nat} {x:Str} {e:Expr} {te:TE} {op:Operator} {ti:TIp} {pos':Pos} (hN:X.N.Nodup) (hi:X.N[i]? = some x) (hx:Loc X.env.scope x) (he:PE X e te) (ho:PIp X op ti) (hf:X.fn x=true \/ X.env.scope.names.lookup x=some .local:=by first | exact .inl rfl | exact .inr rfl | assumption) :
  PS X (.AugAssign (.Name x pos') op e pos) (ai9 i te ti):=by
 intro pins s σ H D I h;obtain ⟨v,e1,h⟩:=h;obtain ⟨m,hn,hl⟩:=I.loc;have vis:Vis X.env.scope x:=by rcases hx with k | k;exact .inl k;exact .inr (.inl k)
 obtain ⟨u,r,l⟩:=hl i x v hi e1 vis;refine wpAny_AugAssign_Name ?_
 have go:wpAny (model X.prog X.w) X.A (eval e X.env) (λw s₂=>wpAny (model X.prog X.w) X.A (inplaceOp op u w) (λr s₃=>wpAny (model X.prog X.w) X.A (storeName X.env x r) (λ_=>SP X pins D .next) X.xe s₃) X.xe s₂) X.xe s:=by
  refine thn (he pins s σ H _ I h) λw s1 zq=>?_;obtain ⟨y,H1,I1,r1,q1⟩:=zq;refine thn (ho pins s1 σ H1 v y u w _ I1 r r1 q1) λz s2 zq=>?_;obtain ⟨zv,H2,I2,r2,q2⟩:=zq;exact ad6 I2 hN hi hx r2 (λs3 I3=>⟨_,H2,I3,q2⟩) hf
 rcases l with ⟨hk,hm⟩ | ⟨hk,c,hc,hcell⟩
 ·exact wpAny_loadName_local I.ok.kind hk hn hm go
 ·rcases hk with hk | hk
  ·exact wpAny_loadName_cell I.ok.kind hk hc hcell go
  ·rcases hx with k | k
   ·have:X.env.scope.names.lookup x=some .free:=hk
    rw [k] at this;cases this
   ·have:X.env.scope.names.lookup x=some .free:=hk
    rw [k] at this;cases this
def aA0 (c:TT) (tb:TS):TS:=λD σ H => ∃ W:Nat->St->Hp->Prop,(∃ m,W m σ H)/\∀ m σ H,W m σ H ->
 c σ H λb H1=>if b=true then ∃ N:St->Hp->Prop,(∀ σ' H',N σ' H'->∃ m',m'<m/\W m' σ' H')/\tb { D with nx:=N,ct:=N,bk:=D.nx } σ H1 else D.nx σ H1
theorem as6 {c:Expr} {body:List Stmt} {tc:TT} {tb:TS} (hp:PassesOwn (model X.prog X.w) X.A X.env X.xe) (hc:PT X c tc) (hb:PSs X body tb):PS X (.While c body [] pos) (aA0 tc tb):=by
 intro pins s σ H D I h;obtain ⟨W,⟨m0,w0⟩,turn⟩:=h;refine wpAny_While (codeAny_whileLoop (λn s' => ∃ σ' H',Inv X pins σ' H' s'/\W n σ' H') ?_ m0 ⟨σ,H,I,w0⟩);rintro n s1 ⟨σ1,H1,I1,w1⟩;refine wpAny_passesOwn hp (thn (hc pins s1 σ1 H1 _ I1 (turn n σ1 H1 w1)) λb s2 zq=>?_);obtain ⟨H2,I2,q2⟩:=zq
 cases b with
 | true =>
  obtain ⟨N,hN,q2⟩:=q2;rw [if_pos rfl];refine wpAny_passesOwn hp (thn (hb pins s2 σ1 H2 _ I2 q2) λf s3 q3=>?_)
  cases f with
  | next =>
   obtain ⟨σ3,H3,I3,n3⟩:=q3;obtain ⟨m',hm,w3⟩:=hN σ3 H3 n3;exact ⟨m',hm,σ3,H3,I3,w3⟩
  | cont =>
   obtain ⟨σ3,H3,I3,n3⟩:=q3;obtain ⟨m',hm,w3⟩:=hN σ3 H3 n3;exact ⟨m',hm,σ3,H3,I3,w3⟩
  | brk=>exact q3
  | ret v=>exact q3
 | false =>
  rw [if_neg q0r];exact wpAny_execs_nil ⟨σ1,H2,I2,q2⟩
end
structure It where
 go:Nat->Hp->Prop
 yld:Nat->Hp->V->Hp->Prop
 stop:Nat->Hp->Prop
def ad3 (X:Cx) (pins:List (Addr × Obj)) (H:Hp) (b:Addr):Prop :=
 H b=none/\b ≠ X.env.locals/\b ∉ X.fs/\(b ∈ X.ex \/ X.s₀.heap.objs.size<=b)/\(∀ x c,X.env.cells.lookup x=some c->c ≠ b)/\∀ p ∈ X.pn ++ pins,p.1 ≠ b
theorem Inv.fpOk {X:Cx} {pins:List (Addr × Obj)} {σ:St} {H H':Hp} {s:Shared} {b:Addr} (I:Inv X pins σ H s) (hb:s.heap.objs.size<=b) (hn:H' b=none):ad3 X pins H' b:=by
 refine ⟨hn,j0y (q0b I.lt hb),I.nofs hb,.inr (z0d I.sz hb),λx c e z=>?_,λp hp z=>?_⟩
 ·obtain ⟨v,q⟩:=I.cell x c e
  exact absurd (q0b q.lt (by rw [z];exact hb)) (j0m _)
 ·exact absurd (q0b (q0e (I.pin p hp).1) (by rw [z];exact hb)) (j0m _)
structure aK9 (P:Program) (w:World) (K:q0a) (tg:Expr) (J:It) (fp:List Addr) (it:Addr) (tn:Nat->Heap->Prop):Prop where
 mem:it ∈ fp
 obj:∀ i h,tn i h->∀ b ∈ fp,∃ o,h.get? b=some o/\∀ v,o.data ≠ .cell v
 keep:∀ i h h',tn i h->(∀ b ∈ fp,∀ o,h.get? b=some o->h'.get? b=some o)->tn i h'
 item:∀ (X:Cx),X.prog=P->X.w=w->X.K=K->X.calm=true->∀ (i:Nat) (pins:List (Addr × Obj)) (s:Shared) (σ:St) (H:Hp) (E:Value->Shared->Prop),Inv X pins σ H s->(∀ b ∈ fp,ad3 X pins H b)->tn i s.heap->J.go i H ->
  wpAny (model P w) X.A (pyNext (.ref it)) (λr s1 => ∃ u,r=some u /\
   wpAny (model P w) X.A (letOwnedTupleGo tg (.ref it) u) (λ_ s2 => ∃ x H',Inv X pins σ H' s2/\A9 x u/\J.yld i H x H'/\tn (i+1) s2.heap/\∀ b ∈ fp,H' b=none) E s1) E s
 done:∀ (X:Cx),X.prog=P->X.w=w->X.K=K->X.calm=true->∀ (i:Nat) (pins:List (Addr × Obj)) (s:Shared) (σ:St) (H:Hp) (E:Value->Shared->Prop),Inv X pins σ H s->(∀ b ∈ fp,ad3 X pins H b)->tn i s.heap->J.stop i H ->
  wpAny (model P w) X.A (pyNext (.ref it)) (λr s1=>r=none/\Inv X pins σ H s1) E s
 self:∀ (A:Around) (i:Nat) (s:Shared) (Q:Value->Shared->Prop) (E:Value->Shared->Prop),tn i s.heap->Q (.ref it) s->wpAny (model P w) A (pyIter (.ref it)) Q E s
abbrev TI:=St->Hp->(It->Hp->Prop)->Prop
def PIE (X:Cx) (pins:List (Addr × Obj)) (σ:St) (tg:Expr) (R:It->Hp->Prop) (itv:Value) (s2:Shared):Prop :=
 ∃ (it:Addr) (fp:List Addr) (tn:Nat->Heap->Prop) (J:It) (H':Hp),itv=.ref it/\Inv X pins σ H' s2/\aK9 X.prog X.w X.K tg J fp it tn/\tn 0 s2.heap/\(∀ b ∈ fp,ad3 X pins H' b)/\R J H'
def PI (X:Cx) (tg iter:Expr) (wi:TI):Prop :=
 ∀ (pins:List (Addr × Obj)) (s:Shared) (σ:St) (H:Hp) (R:It->Hp->Prop),Inv X pins σ H s->wi σ H R ->
  wpAny (model X.prog X.w) X.A (eval iter X.env) (λv s1=>wpAny (model X.prog X.w) X.A (pyIter v) (PIE X pins σ tg R) X.xe s1) X.xe s
theorem aW3 {M : Model} {A : Around} {E : Value → Shared → Prop} {s : Shared} {tg : Expr} {it : Addr} {u : Value} {o : Obj} {n : String} {vs : Array Value} {Q : Unit → Shared → Prop} (ho : s.heap.get? it = some o) (hc : o.cls = .type n) (hd : o.data = .fields vs)
    (hn:["enumerate","zip","dict_itemiterator","dict_reverseitemiterator","odict_iterator","itertools.zip_longest","itertools.pairwise"].contains n=false) (hQ:Q () s):wpAny M A (letOwnedTupleGo tg (.ref it) u) Q E s:=by
  unfold letOwnedTupleGo
  cases tg <;> first
    | exact wpAny_pure hQ
    | (cases u <;> first
        | exact wpAny_pure hQ
        | (refine wpAny_bind (wpAny_load ho ?_)
           rw [hc,hd]
           show wpAny M A (if (["enumerate","zip","dict_itemiterator","dict_reverseitemiterator","odict_iterator","itertools.zip_longest","itertools.pairwise"].contains n && vs[0]? == some (rawInt _))=true then _ else _) Q E s
           rw [if_neg (by intro h;rw [hn,Bool.false_and] at h;cases h)]
           exact wpAny_pure hQ))
def Itl (K:q0a) (a:Addr):It :=
 ⟨λi H => ∃ xs x,SqL K H a xs/\xs[i]? = some x,λi H x H'=>H'=H/\∀ xs,SqL K H a xs->xs[i]? = some x,λi H => ∃ xs,SqL K H a xs/\xs.length<=i⟩
def Itr (lo:Int) (n:Nat):It:=⟨λi _=>i<n,λi H x H'=>H'=H/\x=.int (lo+i),λi _=>n<=i⟩
theorem aO2 {P:Program} {w:World} {K:q0a} {tg:Expr} (a it:Addr):aK9 P w K tg (Itl K a) [it] it (λi h=>h.IsListIter it a i) where
 mem:=by simp
 obj:=λi h st b hb=>by
  have e:b=it:=by simpa using hb
  subst e;obtain ⟨o,e,c,d⟩:=st;exact ⟨o,e,λv z=>by rw [d] at z;cases z⟩
 keep:=λi h h' st k=>st.at λo e=>k it (by simp) o e
 item:=by
  intro X hP hw hK hc i pins s σ H E I hf st hg;subst hP hw hK;obtain ⟨xs,x,hq,hx⟩:=hg;obtain ⟨its,rv,p,hz⟩:=I.list hq;obtain ⟨u,hu,ru⟩:=rv.get hx;obtain ⟨f0,f1,f2,f3,f4,f5⟩:=hf it (by simp)
  refine wpAny_pyNext_list_item st p.isList (x:=u) (by simpa using hu) λh' st' sb=>?_
  have I1:Inv X pins σ H { s with heap:=h' }:=I.turned (t':=s.toks) (λb o hb e=>(sb.2 b hb).trans e) f0 f1 f3 f4 f5;obtain ⟨o,e,c,d⟩:=id st';exact ⟨u,rfl,aW3 (s:={ s with heap:=h' }) e c d (by decide) ⟨x,H,I1,ru,⟨rfl,λys hy=>by rw [I.list_inj hy hq];exact hx⟩,st',λb hb=>(hf b hb).1⟩⟩
 done:=by
  intro X hP hw hK hc i pins s σ H E I hf st hg;subst hP hw hK;obtain ⟨xs,hq,hx⟩:=hg;obtain ⟨its,rv,p,hz⟩:=I.list hq;obtain ⟨f0,f1,f2,f3,f4,f5⟩:=hf it (by simp)
  have hl:=rv.length;exact wpAny_pyNext_list_end (I.ok.hd hc) st p.isList (by simp;omega) λh' eb=>⟨rfl,I.turned (t':=s.toks) (λb o hb e=>eb b o hb e) f0 f1 f3 f4 f5⟩
 self:=λ_ _ _ _ _ st h=>wpAny_pyIter_listiter st h
theorem aI3 {P:Program} {w:World} {K:q0a} {tg:Expr} (it:Addr) (lo:Int) (n:Nat):aK9 P w K tg (Itr lo n) [it] it (λi h=>IsRangeIter h it (lo+(i:Nat)*1) ((n:Int)-(i:Nat)) 1) where
 mem:=by simp
 obj:=λi h st b hb=>by
  have e:b=it:=by simpa using hb
  subst e
  exact ⟨_,st,λv z=>by
   have z':Data.fields _=Data.cell v:=z
   cases z'⟩
 keep:=λi h h' st k=>k it (by simp) _ st
 item:=by
  intro X hP hw hK hc i pins s σ H E I hf st hg;subst hP hw hK;obtain ⟨f0,f1,f2,f3,f4,f5⟩:=hf it (by simp)
  have W:=Walks.range (prog:=X.prog) (w:=X.w) (I.ok.hd hc) it lo 1 n;refine W.item i s _ _ hg st λv h' tk hv st' kk=>?_;obtain ⟨t,rfl⟩:=hv;have I1:Inv X pins σ H { s with heap:=h',toks:=tk }:=I.turned (λb o hb e=>kk b o (by simpa using hb) e) f0 f1 f3 f4 f5
  refine ⟨_,rfl,aW3 (s:={ s with heap:=h',toks:=tk }) (n := "range_iterator") st' rfl rfl (by decide) ⟨.int (lo+i),H,I1,⟨t,?_⟩,⟨rfl,rfl⟩,st',λb hb=>(hf b hb).1⟩⟩
  rw [Int.mul_one]
 done:=by
  intro X hP hw hK hc i pins s σ H E I hf st hg;subst hP hw hK;obtain ⟨f0,f1,f2,f3,f4,f5⟩:=hf it (by simp)
  exact wpAny_pyNext_range_end (I.ok.hd hc) st (by have:n<=i:=hg;omega) λh' eb=>⟨rfl,I.turned (t':=s.toks) (λb o hb e=>eb b o hb e) f0 f1 f3 f4 f5⟩
 self:=λ_ _ _ _ _ st h=>wpAny_pyIter_rangeiter st h
section
variable {X:Cx} {tg:Expr}
def K0 (K:q0a) (tl:TE):TI:=λσ H R=>tl σ H λx H1 => ∃ a,x=.ref a/\(∃ xs,SqL K H1 a xs)/\R (Itl K a) H1
theorem r6 {l:Expr} {tl:TE} (hl:PE X l tl):PI X tg l (K0 X.K tl):=by
 intro pins s σ H R I h;refine thn (hl pins s σ H _ I h) λv s1 zq=>?_;obtain ⟨x,H1,I1,r1,q1⟩:=zq;obtain ⟨a,e,⟨xs,hq⟩,q⟩:=q1;subst e
 cases r1
 obtain ⟨its,rv,p,hz⟩:=I1.list hq;refine wpAny_pyIter_list p.isList ?_;refine ⟨s1.heap.objs.size,[s1.heap.objs.size],_,_,H1,rfl,I1.kept (t':=s1.toks) λb o e=>q0f _ e,aO2 a _,⟨_,q0y _ rfl,rfl,rfl⟩,λb hb=>?_,q⟩;have e:b=s1.heap.objs.size:=by simpa using hb
 subst e;exact I1.fpOk (q0m _) (I1.hok.fresh (q0m _))
theorem aF5 {pins:List (Addr × Obj)} {σ:St} {H:Hp} {s:Shared} {R:It->Hp->Prop} {E:Value->Shared->Prop} {lo hi:Int} {t u v:Tok} {tk:Nat} (I:Inv X pins σ H s) (h1:-(2 ^ 62)<=lo) (h2:lo<2 ^ 62) (h3:-(2 ^ 62)<=hi) (h4:hi<2 ^ 62)
  (q:R (Itr lo (hi-lo).toNat) H):wpAny (model X.prog X.w) X.A (pyIter (.ref s.heap.objs.size)) (PIE X pins σ tg R) E { s with heap:=s.heap.push { cls:=.type "range",data:=.fields #[.int lo t,.int hi u,.int 1 v] },toks:=tk }:=by
 refine wpAny_pyIter_range (IsRange.new ..) (small_one h1 h2 h3 h4) ?_;have I1:Inv X pins σ H { s with heap:=s.heap.push { cls:=.type "range",data:=.fields #[.int lo t,.int hi u,.int 1 v] },toks:=tk }:=I.kept λb o e=>q0f _ e
 refine ⟨(s.heap.push { cls:=.type "range",data:=.fields #[.int lo t,.int hi u,.int 1 v] }).objs.size,[(s.heap.push { cls:=.type "range",data:=.fields #[.int lo t,.int hi u,.int 1 v] }).objs.size],_,_,H,rfl,
  I1.kept (t':=tk) λb o e=>q0f _ e,aI3 _ lo (hi-lo).toNat,?_,λb hb=>?_,q⟩
 ·have e1:lo+((0:Nat):Int)*1=lo:=by simp
  have e2:(((hi-lo).toNat:Nat):Int)-((0:Nat):Int)=Builtin.Range.rangeSize lo hi 1:=by rw [rangeSize_one];split <;> omega
  show IsRangeIter _ _ (lo+((0:Nat):Int)*1) ((((hi-lo).toNat:Nat):Int)-((0:Nat):Int)) 1;rw [e1,e2];exact q0y _ rfl
 ·have e:b=(s.heap.push { cls:=.type "range",data:=.fields #[.int lo t,.int hi u,.int 1 v] }).objs.size:=by simpa using hb
  subst e;exact I1.fpOk (q0m _) (I1.hok.fresh (q0m _))
def W8 (ta:TA):TI:=λσ H R=>ta σ H λvs H1 => ∃ j:Int,vs=[.int j]/\-(2 ^ 62)<=j/\j<2 ^ 62/\R (Itr 0 j.toNat) H1
def W7 (ta:TA):TI:=λσ H R=>ta σ H λvs H1 => ∃ i j:Int,vs=[.int i,.int j]/\(-(2 ^ 62)<=i/\i<2 ^ 62/\-(2 ^ 62)<=j/\j<2 ^ 62)/\R (Itr i (j-i).toNat) H1
theorem y3 {a:Expr} {ta:TA} {p pos:Pos} (hg:Gl X "range") (hm:X.mg "range" = none) (ha:PA X [a] ta) (hs:starEach [a] X.env=[(false,eval a X.env)]:=by rfl):PI X tg (.Call (.Name "range" p) [a] [] pos) (W8 ta):=by
 intro pins s σ H R I h;refine Call_ (Z5 I hg hm boot_range (PyProof.Rows.callWith_type1 (thn (ha pos pins s σ H _ I h) λus s1 zq=>?_) hs rfl));obtain ⟨vs,H1,I1,r1,q1⟩:=zq;obtain ⟨j,e,q1,q2,q⟩:=q1;subst e
 cases r1 with
 | cons r rr =>
  cases rr
  obtain ⟨t,rfl⟩:=r;exact call_range_1 (aF5 I1 ⋯ ⋯ q1 q2 (by simpa using q))
theorem aP1 {a b:Expr} {ta:TA} {p pos:Pos} (hg:Gl X "range") (hm:X.mg "range" = none) (ha:PA X [a,b] ta) (hs:starEach [a,b] X.env=[(false,eval a X.env),(false,eval b X.env)]:=by rfl) (hs2:starEach [b] X.env=[(false,eval b X.env)]:=by rfl) :
  PI X tg (.Call (.Name "range" p) [a,b] [] pos) (W7 ta):=by
 intro pins s σ H R I h;refine Call_ (Z5 I hg hm boot_range (PyProof.Rows.callWith_type1 (thn (ha pos pins s σ H _ I h) λus s1 zq=>?_) (by rw [hs,hs2]) (by rw [hs2];rfl)))
 obtain ⟨vs,H1,I1,r1,q1⟩:=zq;obtain ⟨i,j,e,⟨q1,q2,q3,q4⟩,q⟩:=q1;subst e
 cases r1 with
 | cons r rr =>
  cases rr with
  | cons r' rr =>
   cases rr
   obtain ⟨t,rfl⟩:=r;obtain ⟨t',rfl⟩:=r';exact call_range_2 (aF5 I1 q1 q2 q3 q4 q)
def bk2 (wi:TI) (g:TG) (tb:TS):TS:=λD σ H=>wi σ H λJ H1 => ∃ W:Nat->Nat->St->Hp->Prop,(∃ m,W 0 m σ H1)/\∀ i m σ H,W i m σ H ->
 (J.stop i H/\D.nx σ H) \/ (J.go i H/\∃ N:St->Hp->Prop,(∀ σ' H',N σ' H'->∃ m',m'<m/\W (i+1) m' σ' H')/\∀ x H',J.yld i H x H'->g x σ H' λσ2 H2=>tb { D with nx:=N,ct:=N,bk:=D.nx } σ2 H2)
def ao1 (fp:List Addr) (h:Heap):List (Addr × Obj):=fp.filterMap λb=>(h.get? b).map λo=>(b,o)
theorem t4 {fp:List Addr} {h:Heap} {b:Addr} {o:Obj} (hb:b ∈ fp) (e:h.get? b=some o):(b,o) ∈ ao1 fp h:=List.mem_filterMap.mpr ⟨b,hb,by rw [e];rfl⟩
theorem aP5 {fp:List Addr} {h:Heap} {p:Addr × Obj} (hp:p ∈ ao1 fp h):p.1 ∈ fp/\h.get? p.1=some p.2:=by
 obtain ⟨b,hb,e⟩:=List.mem_filterMap.mp hp
 cases q:h.get? b with
 | none=>rw [q] at e;cases e
 | some o =>
  rw [q] at e;have e':(b,o)=p:=Option.some.inj e;subst e';exact ⟨hb,q⟩
theorem Inv.pinned {pins:List (Addr × Obj)} {σ:St} {H:Hp} {s:Shared} {fp:List Addr} (I:Inv X pins σ H s) (hf:∀ b ∈ fp,ad3 X pins H b) (ho:∀ b ∈ fp,∃ o,s.heap.get? b=some o/\∀ v,o.data ≠ .cell v):Inv X (pins ++ ao1 fp s.heap) σ H s :=
 I.pins_of λp hp=>(z0y.mp hp).elim (λz=>I.pin p (q0k _ z)) λz=>by
  obtain ⟨hb,e⟩:=aP5 z;obtain ⟨f0,f1,f2,_⟩:=hf p.1 hb;obtain ⟨o,e',d⟩:=ho p.1 hb;rw [e] at e';cases e';exact ⟨e,f0,f1,f2,d⟩
theorem Inv.unpinned {pins pl:List (Addr × Obj)} {σ:St} {H:Hp} {s:Shared} (I:Inv X (pins ++ pl) σ H s):Inv X pins σ H s:=I.pins_of λp hp=>I.pin p (q0k _ (m0m _ hp))
theorem K2 {iter:Expr} {body:List Stmt} {wi:TI} {g:TG} {tb:TS} {pos:Pos} (hp:PassesOwn (model X.prog X.w) X.A X.env X.xe) (hc:X.calm=true) (hi:PI X tg iter wi) (hg:PG X tg g) (hb:PSs X body tb)
  (hs:∀ x,foldedSetIterable iter X.env x=pure x:=by intro _;rfl):PS X (.For tg iter body [] pos) (bk2 wi g tb):=by
 intro pins s σ H D I h;refine wpAny_For (thn (hi pins s σ H _ I h) λv s1 h1=>thn h1 λitv s2 h2=>?_) hs;obtain ⟨it,fp,tn,J,H2,e,I2,T,st2,f2,W,⟨m0,w0⟩,turn⟩:=h2;subst e
 -- what stays true of the iterator's objects through the loop
 have stat:∀ {H':Hp},(∀ b ∈ fp,H' b=none)->∀ b ∈ fp,ad3 X pins H' b:=λhn b hb=>⟨hn b hb,(f2 b hb).2⟩;refine codeAny_forLoop_any (λn s' => ∃ i σ' H',Inv X pins σ' H' s'/\tn i s'.heap/\(∀ b ∈ fp,H' b=none)/\W i n σ' H') ?_ m0 ⟨0,σ,H2,I2,st2,λb hb=>(f2 b hb).1,w0⟩;rintro n s3 ⟨i,σ3,H3,I3,st3,fr3,w3⟩;rcases turn i n σ3 H3 w3 with ⟨stop,qn⟩ | ⟨go,N,hN,step⟩
 ·refine wpAny_passesOwn hp (thn (T.done X rfl rfl rfl hc i pins s3 σ3 H3 X.xe I3 (stat fr3) st3 stop) λr s4 zq=>?_)
  obtain ⟨hr,I4⟩:=zq;subst hr;exact wpAny_execs_nil ⟨σ3,H3,I4,qn⟩
 ·refine wpAny_passesOwn hp (thn (T.item X rfl rfl rfl hc i pins s3 σ3 H3 X.xe I3 (stat fr3) st3 go) λr s4 zq=>?_)
  obtain ⟨u,hr,h4⟩:=zq;subst hr;refine wpAny_passesOwn hp (thn h4 λ_ s5 zq=>?_);obtain ⟨x,H5,I5,r5,y5,st5,fr5⟩:=zq;have I5':=I5.pinned (stat fr5) (T.obj _ _ st5);refine wpAny_passesOwn hp (thn (hg _ s5 σ3 H5 x u _ I5' r5 (step x H5 y5)) λ_ s6 zq=>?_);obtain ⟨σ6,H6,I6,q6⟩:=zq;refine wpAny_passesOwn hp (thn (hb _ s6 σ6 H6 _ I6 q6) λf s7 q7=>?_)
  have again:∀ {σ7:St} {H7:Hp},Inv X (pins ++ ao1 fp s5.heap) σ7 H7 s7->N σ7 H7->∃ m,m<n/\∃ i σ' H',Inv X pins σ' H' s7/\tn i s7.heap/\(∀ b ∈ fp,H' b=none)/\W i m σ' H':=fun {σ7 H7} I7 n7=>by
   obtain ⟨m',hm,w7⟩:=hN σ7 H7 n7;refine ⟨m',hm,i+1,σ7,H7,I7.unpinned,T.keep _ _ _ st5 λb hb o e=>(I7.pin (b,o) (q0k _ (q0k _ (t4 hb e)))).1,λb hb=>?_,w7⟩;obtain ⟨o,e,d⟩:=T.obj _ _ st5 b hb;exact (I7.pin (b,o) (q0k _ (q0k _ (t4 hb e)))).2.1
  cases f with
  | next=>obtain ⟨σ7,H7,I7,n7⟩:=q7;exact again I7 n7
  | cont=>obtain ⟨σ7,H7,I7,n7⟩:=q7;exact again I7 n7
  | brk=>obtain ⟨σ7,H7,I7,q7⟩:=q7;exact ⟨σ7,H7,I7.unpinned,q7⟩
  | ret v=>obtain ⟨x7,σ7,H7,I7,r7,q7⟩:=q7;exact ⟨x7,σ7,H7,I7.unpinned,r7,q7⟩
end
theorem aa6 {K:q0a} {a:Addr} {xs:List V} {g:TG} {tb:TS} {D:ah6} {σ:St} {H:Hp} (Pv:Nat->St->Hp->Prop) (h0:Pv 0 σ H) (hl:∀ i σ H,i<=xs.length->Pv i σ H->SqL K H a xs)
  (hs:∀ i x σ H,xs[i]? = some x->Pv i σ H->g x σ H λσ2 H2=>tb { D with nx:=Pv (i+1),ct:=Pv (i+1),bk:=D.nx } σ2 H2) (hd:∀ σ H,Pv xs.length σ H->D.nx σ H) :
  ∃ W:Nat->Nat->St->Hp->Prop,(∃ m,W 0 m σ H)/\∀ i m σ H,W i m σ H ->
   ((Itl K a).stop i H/\D.nx σ H) \/ ((Itl K a).go i H/\∃ N:St->Hp->Prop,(∀ σ' H',N σ' H'->∃ m',m'<m/\W (i+1) m' σ' H')/\∀ x H',(Itl K a).yld i H x H'->g x σ H' λσ2 H2=>tb { D with nx:=N,ct:=N,bk:=D.nx } σ2 H2):=by
 refine ⟨λi m σ H=>m=xs.length-i/\i<=xs.length/\Pv i σ H,⟨xs.length,by simp,z0u _,h0⟩,?_⟩
 rintro i m σ H ⟨rfl,hi,p⟩;have q:=hl i σ H hi p
 by_cases hlt:i<xs.length
 ·refine .inr ⟨⟨xs,xs[i],q,by simp [hlt]⟩,Pv (i+1),λσ' H' p'=>⟨xs.length-(i+1),⋯,rfl,hlt,p'⟩,λx H' y=>?_⟩
  obtain ⟨e,y⟩:=y;subst e;exact hs i x σ _ (y xs q) p
 ·have e:i=xs.length:=⋯
  subst e;exact .inl ⟨⟨xs,q,q0m _⟩,hd σ H p⟩
theorem V1 {lo:Int} {n:Nat} {g:TG} {tb:TS} {D:ah6} {σ:St} {H:Hp} (Pv:Nat->St->Hp->Prop) (h0:Pv 0 σ H)
  (hs:∀ i σ H,i<n->Pv i σ H->g (.int (lo+i)) σ H λσ2 H2=>tb { D with nx:=Pv (i+1),ct:=Pv (i+1),bk:=D.nx } σ2 H2) (hd:∀ σ H,Pv n σ H->D.nx σ H) :
  ∃ W:Nat->Nat->St->Hp->Prop,(∃ m,W 0 m σ H)/\∀ i m σ H,W i m σ H ->
   ((Itr lo n).stop i H/\D.nx σ H) \/ ((Itr lo n).go i H/\∃ N:St->Hp->Prop,(∀ σ' H',N σ' H'->∃ m',m'<m/\W (i+1) m' σ' H')/\∀ x H',(Itr lo n).yld i H x H'->g x σ H' λσ2 H2=>tb { D with nx:=N,ct:=N,bk:=D.nx } σ2 H2):=by
 refine ⟨λi m σ H=>m=n-i/\i<=n/\Pv i σ H,⟨n,by simp,z0u _,h0⟩,?_⟩
 rintro i m σ H ⟨rfl,hi,p⟩
 by_cases hlt:i<n
 ·refine .inr ⟨hlt,Pv (i+1),λσ' H' p'=>⟨n-(i+1),⋯,rfl,hlt,p'⟩,λx H' y=>?_⟩
  obtain ⟨e,y⟩:=y;subst e y;exact hs i σ _ hlt p
 ·have e:i=n:=⋯
  subst e;exact .inl ⟨q0m _,hd σ H p⟩
theorem aE4 {c:TT} {tb:TS} {D:ah6} {σ:St} {H:Hp} (Pv:St->Hp->Prop) (μ:St->Hp->Nat) (h0:Pv σ H)
  (hs:∀ σ H,Pv σ H->c σ H λb H1=>if b=true then tb { D with nx:=λσ' H'=>Pv σ' H'/\μ σ' H'<μ σ H,ct:=λσ' H'=>Pv σ' H'/\μ σ' H'<μ σ H,bk:=D.nx } σ H1 else D.nx σ H1)
  (mono:∀ σ H Q Q',(∀ b H1,Q b H1->Q' b H1)->c σ H Q->c σ H Q'):aA0 c tb D σ H:=by
 refine ⟨λm σ H=>m=μ σ H/\Pv σ H,⟨_,rfl,h0⟩,?_⟩;rintro m σ H ⟨rfl,p⟩;refine mono σ H _ _ (λb H1 q=>?_) (hs σ H p)
 cases b with
 | true=>exact ⟨_,λσ' H' ⟨p',l⟩=>⟨_,l,rfl,p'⟩,q⟩
 | false=>exact q
abbrev R2:=V->V->Hp->VK->Prop
def OpR (X:Cx) (f:Value->Value->Sem Value) (r:R2):Prop :=
 ∀ (pins:List (Addr × Obj)) (s:Shared) (σ:St) (H:Hp) (x y:V) (v u:Value) (Q:VK),Inv X pins σ H s->A9 x v->A9 y u->r x y H Q ->
  wpAny (model X.prog X.w) X.A (f v u) (EP X pins σ Q) X.xe s
def UnR (X:Cx) (f:Value->Sem Value) (r:V->Hp->VK->Prop):Prop :=
 ∀ (pins:List (Addr × Obj)) (s:Shared) (σ:St) (H:Hp) (x:V) (v:Value) (Q:VK),Inv X pins σ H s->A9 x v->r x H Q ->
  wpAny (model X.prog X.w) X.A (f v) (EP X pins σ Q) X.xe s
def X3 (X:Cx) (f:Value) (r:List V->Hp->VK->Prop):Prop :=
 ∀ (pins:List (Addr × Obj)) (s:Shared) (σ:St) (H:Hp) (xs:List V) (us:List Value) (Q:VK),Inv X pins σ H s->m6 xs us->r xs H Q ->
  wpAny (model X.prog X.w) X.A (call f us) (EP X pins σ Q) X.xe s
def bl3 (X:Cx) (r:V->Hp->(Bool->Hp->Prop)->Prop):Prop :=
 ∀ (pins:List (Addr × Obj)) (s:Shared) (σ:St) (H:Hp) (x:V) (v:Value) (Q:Bool->Hp->Prop),Inv X pins σ H s->A9 x v->r x H Q ->
  wpAny (model X.prog X.w) X.A (truthy v) (TP X pins σ Q) X.xe s
def tOp (r:R2) (ta tb:TE):TE:=λσ H Q=>ta σ H λx H1=>tb σ H1 λy H2=>r x y H2 Q
def tUn (r:V->Hp->VK->Prop) (ta:TE):TE:=λσ H Q=>ta σ H λx H1=>r x H1 Q
def rI (C:Int->Int->Prop) (g:Int->Int->V):R2:=λx y H Q => ∃ i j,x=.int i/\y=.int j/\C i j/\Q (g i j) H
def rI0 (g:Int->Int->V):R2:=λx y H Q => ∃ i j,x=.int i/\y=.int j/\Q (g i j) H
def rU (g:Int->V):V->Hp->VK->Prop:=λx H Q => ∃ i,x=.int i/\Q (g i) H
section
variable {X:Cx} {a b c:Expr} {ta tb tc:TE} {pos:Pos}
theorem bg6 (ha:PE X a ta) (hb:PE X b tb) {pins:List (Addr × Obj)} {s:Shared} {σ:St} {H:Hp} {R:V->V->Hp->Prop} (I:Inv X pins σ H s)
  (h:ta σ H λx H1=>tb σ H1 λy H2=>R x y H2) {Q:Value->Shared->Prop} {f:Value->Value->Sem Value}
  (hf:∀ v u s2 x y H2,Inv X pins σ H2 s2->A9 x v->A9 y u->R x y H2->wpAny (model X.prog X.w) X.A (f v u) Q X.xe s2) :
  wpAny (model X.prog X.w) X.A (eval a X.env) (λv s₁=>wpAny (model X.prog X.w) X.A (eval b X.env) (λu s₂=>wpAny (model X.prog X.w) X.A (f v u) Q X.xe s₂) X.xe s₁) X.xe s:=by
 refine thn (ha pins s σ H _ I h) λv s1 zq=>?_;obtain ⟨x,H1,I1,r1,q1⟩:=zq;refine thn (hb pins s1 σ H1 _ I1 q1) λu s2 zq=>?_;obtain ⟨y,H2,I2,r2,q2⟩:=zq;exact hf v u s2 x y H2 I2 r1 r2 q2
theorem g7 {op:Operator} {r:R2} (ho:OpR X (binaryOp op) r) (ha:PE X a ta) (hb:PE X b tb):PE X (.BinOp a op b pos) (tOp r ta tb):=by
 intro pins s σ H Q I h;exact wpAny_BinOp (bg6 ha hb I h λv u s2 x y H2 I2 rx ry q=>ho pins s2 σ H2 x y v u Q I2 rx ry q)
theorem ax8 {op:UnaryOp} {r:V->Hp->VK->Prop} (ho:UnR X (unaryOp op) r) (ha:PE X a ta):PE X (.UnaryOp op a pos) (tUn r ta):=by
 intro pins s σ H Q I h;exact UnaryOp_ (thn (ha pins s σ H _ I h) λv s1 ⟨x,H1,I1,r1,q1⟩=>ho pins s1 σ H1 x v Q I1 r1 q1)
theorem opI {f:Value->Value->Sem Value} {C:Int->Int->Prop} {g:Int->Int->Int}
  (rule:∀ (i j:Int) (t u:Tok) (s:Shared) (Q:Value->Shared->Prop) (E:Value->Shared->Prop),C i j->Q (.int (g i j) s.toks) { s with toks:=s.toks+1 }->wpAny (model X.prog X.w) X.A (f (.int i t) (.int j u)) Q E s) :
  OpR X f (rI C λi j=>.int (g i j)):=by
 intro pins s σ H x y v u Q I rx ry h;obtain ⟨i,j,rfl,rfl,hc,q⟩:=h;obtain ⟨t,rfl⟩:=rx;obtain ⟨t',rfl⟩:=ry;exact rule i j t t' s _ _ hc ⟨.int (g i j),H,I.tok _,⟨_,rfl⟩,q⟩
theorem bi2 {f:Value->Value->Sem Value} {g:Int->Int->Int}
  (rule:∀ (i j:Int) (t u:Tok) (s:Shared) (Q:Value->Shared->Prop) (E:Value->Shared->Prop),Q (.int (g i j) s.toks) { s with toks:=s.toks+1 }->wpAny (model X.prog X.w) X.A (f (.int i t) (.int j u)) Q E s) :
  OpR X f (rI0 λi j=>.int (g i j)):=by
 intro pins s σ H x y v u Q I rx ry h;obtain ⟨i,j,rfl,rfl,q⟩:=h;obtain ⟨t,rfl⟩:=rx;obtain ⟨t',rfl⟩:=ry;exact rule i j t t' s _ _ ⟨.int (g i j),H,I.tok _,⟨_,rfl⟩,q⟩
theorem aZ5 {f:Value->Value->Sem Value} {g:Int->Int->Bool}
  (rule:∀ (i j:Int) (t u:Tok) (s:Shared) (Q:Value->Shared->Prop) (E:Value->Shared->Prop),Q (.bool (g i j)) s->wpAny (model X.prog X.w) X.A (f (.int i t) (.int j u)) Q E s) :
  OpR X f (rI0 λi j=>.bl (g i j)):=by
 intro pins s σ H x y v u Q I rx ry h;obtain ⟨i,j,rfl,rfl,q⟩:=h;obtain ⟨t,rfl⟩:=rx;obtain ⟨t',rfl⟩:=ry;exact rule i j t t' s _ _ ⟨.bl (g i j),H,I,rfl,q⟩
def bh7 (i j:Int):Prop:=0<=j/\j<=1000000/\i.natAbs<2 ^ 64
theorem A8:OpR X (binaryOp .Add) (rI0 λi j=>.int (i+j)):=bi2 λ_ _ _ _ _ _ _ q=>add_int q
theorem M0:OpR X (binaryOp .Sub) (rI0 λi j=>.int (i-j)):=bi2 λ_ _ _ _ _ _ _ q=>sub_int q
theorem J6:OpR X (binaryOp .Mod) (rI (λ_ j=>j ≠ 0) λi j=>.int (i.fmod j)):=opI λ_ _ _ _ _ _ _ hc q=>mod_int' hc q
theorem ae3:OpR X (binaryOp .Pow) (rI bh7 λi j=>.int (i ^ j.toNat)):=opI λ_ _ _ _ _ _ _ hc q=>pow_int_small hc.1 hc.2.1 hc.2.2 q
theorem unI {f:Value->Sem Value} {g:Int->Int}
  (rule:∀ (i:Int) (t:Tok) (s:Shared) (Q:Value->Shared->Prop) (E:Value->Shared->Prop),Q (.int (g i) s.toks) { s with toks:=s.toks+1 }->wpAny (model X.prog X.w) X.A (f (.int i t)) Q E s) :
  UnR X f (rU λi=>.int (g i)):=by
 intro pins s σ H x v Q I rx h;obtain ⟨i,rfl,q⟩:=h;obtain ⟨t,rfl⟩:=rx;exact rule i t s _ _ ⟨.int (g i),H,I.tok _,⟨_,rfl⟩,q⟩
theorem an7:UnR X (unaryOp .USub) (rU λi=>.int (-i)):=unI λ_ _ _ _ _ q=>neg_int q
def aA3:V->V->Bool
 | .non,.non=>true | .non,.int _=>true | .int _,.non=>true | .non,.bl _=>true | .bl _,.non=>true | .non,.str _=>true | .str _,.non=>true
 | .int _,.int _=>true | .bl _,.bl _=>true | .str _,.str _=>true | .byt _,.byt _=>true
 | .int _,.str _=>true | .str _,.int _=>true | .bl _,.str _=>true | .str _,.bl _=>true
 | _,_=>false
def rEq:R2:=λx y H Q=>aA3 x y=true/\Q (.bl (decide (x=y))) H
def rNe:R2:=λx y H Q=>aA3 x y=true/\Q (.bl (!decide (x=y))) H
theorem aN0 {i j:Int}:decide (V.int i=V.int j)=(i == j):=by
 rw [u0q]
 simp
theorem aX2 {i j:Bool}:decide (V.bl i=V.bl j)=(i == j):=by
 rw [u0q]
 simp
theorem aM9 {i j:Str}:decide (V.str i=V.str j)=(i == j):=by
 rw [u0q]
 simp
theorem aN1 {i j:Array UInt8}:decide (V.byt i=V.byt j)=(i.toList == j.toList):=by
 rw [u0q]
 cases i
 cases j
 simp
theorem w9 {pins:List (Addr × Obj)} {σ:St} {H:Hp} {s:Shared} {Q:VK} {k k':Bool} (I:Inv X pins σ H s) (q:Q (.bl k) H) (e:k=k'):EP X pins σ Q (.bool k') s:=by
 subst e;exact ⟨.bl k,H,I,rfl,q⟩
theorem S9:OpR X (compareOp .Eq) rEq:=by
 intro pins s σ H x y v u Q I rx ry h;obtain ⟨hs,q⟩:=h
 cases x with
 | non =>
  cases rx
  cases y with
  | non=>cases ry;exact PySem.EqNone.eq_none_none (w9 I q (by simp))
  | bl j=>cases ry;exact PySem.EqNone.eq_none_bool (w9 I q (by simp))
  | int j=>obtain ⟨t',rfl⟩:=ry;exact PySem.EqNone.eq_none_int (w9 I q (by simp))
  | str j=>obtain ⟨t',rfl⟩:=ry;exact PySem.EqNone.eq_none_str (w9 I q (by simp))
  | _=>exact absurd (show false=true from hs) q0r
 | bl i =>
  cases rx
  cases y with
  | non=>cases ry;exact PySem.EqNone.eq_bool_none (w9 I q (by simp))
  | bl j=>cases ry;exact eq_bool (w9 I q aX2)
  | str j=>obtain ⟨t',rfl⟩:=ry;exact PySem.EqMixed.eq_bool_str (w9 I q (by simp))
  | _=>exact absurd (show false=true from hs) q0r
 | int i =>
  obtain ⟨t,rfl⟩:=rx
  cases y with
  | non=>cases ry;exact PySem.EqNone.eq_int_none (w9 I q (by simp))
  | int j=>obtain ⟨t',rfl⟩:=ry;exact eq_int (w9 I q aN0)
  | str j=>obtain ⟨t',rfl⟩:=ry;exact PySem.EqMixed.eq_int_str (w9 I q (by simp))
  | _=>exact absurd (show false=true from hs) q0r
 | str i =>
  obtain ⟨t,rfl⟩:=rx
  cases y with
  | non=>cases ry;exact PySem.EqNone.eq_str_none (w9 I q (by simp))
  | bl j=>cases ry;exact PySem.EqMixed.eq_str_bool (w9 I q (by simp))
  | int j=>obtain ⟨t',rfl⟩:=ry;exact PySem.EqMixed.eq_str_int (w9 I q (by simp))
  | str j=>obtain ⟨t',rfl⟩:=ry;exact eq_str (w9 I q aM9)
  | _=>exact absurd (show false=true from hs) q0r
 | byt i =>
  obtain ⟨t,rfl⟩:=rx
  cases y with
  | byt j=>obtain ⟨t',rfl⟩:=ry;exact PySem.W.eq_bytes (w9 I q aN1)
  | _=>exact absurd (show false=true from hs) q0r
 | _=>cases y <;> exact absurd (show false=true from hs) q0r
theorem aG1:OpR X (compareOp .NotEq) rNe:=by
 intro pins s σ H x y v u Q I rx ry h;obtain ⟨hs,q⟩:=h
 cases x with
 | non =>
  cases rx
  cases y with
  | non=>cases ry;exact PySem.EqNone.ne_none_none (w9 I q (by simp))
  | bl j=>cases ry;exact PySem.EqNone.ne_none_bool (w9 I q (by simp))
  | int j=>obtain ⟨t',rfl⟩:=ry;exact PySem.EqNone.ne_none_int (w9 I q (by simp))
  | str j=>obtain ⟨t',rfl⟩:=ry;exact PySem.EqNone.ne_none_str (w9 I q (by simp))
  | _=>exact absurd (show false=true from hs) q0r
 | bl i =>
  cases rx
  cases y with
  | non=>cases ry;exact PySem.EqNone.ne_bool_none (w9 I q (by simp))
  | bl j=>cases ry;exact ne_bool (w9 I q (congrArg not aX2))
  | str j=>obtain ⟨t',rfl⟩:=ry;exact PySem.EqMixed.ne_bool_str (w9 I q (by simp))
  | _=>exact absurd (show false=true from hs) q0r
 | int i =>
  obtain ⟨t,rfl⟩:=rx
  cases y with
  | non=>cases ry;exact PySem.EqNone.ne_int_none (w9 I q (by simp))
  | int j=>obtain ⟨t',rfl⟩:=ry;exact ne_int (w9 I q (congrArg not aN0))
  | str j=>obtain ⟨t',rfl⟩:=ry;exact PySem.EqMixed.ne_int_str (w9 I q (by simp))
  | _=>exact absurd (show false=true from hs) q0r
 | str i =>
  obtain ⟨t,rfl⟩:=rx
  cases y with
  | non=>cases ry;exact PySem.EqNone.ne_str_none (w9 I q (by simp))
  | bl j=>cases ry;exact PySem.EqMixed.ne_str_bool (w9 I q (by simp))
  | int j=>obtain ⟨t',rfl⟩:=ry;exact PySem.EqMixed.ne_str_int (w9 I q (by simp))
  | str j=>obtain ⟨t',rfl⟩:=ry;exact ne_str (w9 I q (congrArg not aM9))
  | _=>exact absurd (show false=true from hs) q0r
 | byt i =>
  obtain ⟨t,rfl⟩:=rx
  cases y with
  | byt j=>obtain ⟨t',rfl⟩:=ry;exact PySem.W.ne_bytes (w9 I q (congrArg not aN1))
  | _=>exact absurd (show false=true from hs) q0r
 | _=>cases y <;> exact absurd (show false=true from hs) q0r
theorem ac7:OpR X (compareOp .Lt) (rI0 λi j=>.bl (decide (i<j))):=aZ5 λ_ _ _ _ _ _ _ q=>lt_int q
theorem bi0:OpR X (compareOp .LtE) (rI0 λi j=>.bl (decide (i<=j))):=aZ5 λ_ _ _ _ _ _ _ q=>le_int q
theorem ac8:OpR X (compareOp .Gt) (rI0 λi j=>.bl (decide (j<i))):=aZ5 λ_ _ _ _ _ _ _ q=>gt_int q
theorem bi1:OpR X (compareOp .GtE) (rI0 λi j=>.bl (decide (j<=i))):=aZ5 λ_ _ _ _ _ _ _ q=>ge_int q
theorem j1 (b:Expr) {op:CmpOp} (h:op ≠ .In:=by decide) (h2:op ≠ .NotIn:=by decide):behindInMarks op b=false:=by
 have e1:(op == CmpOp.In)=false:=by cases op <;> first | rfl | exact absurd rfl h
 have e2:(op == CmpOp.NotIn)=false:=by cases op <;> first | rfl | exact absurd rfl h2
 cases b <;> simp [behindInMarks,e1,e2]
theorem B6 {op:CmpOp} {r:R2} (ho:OpR X (compareOp op) r) (ha:PE X a ta) (hb:PE X b tb) (hm:behindInMarks op b=false):PE X (.Compare a [op] [b] pos) (tOp r ta tb):=by
 intro pins s σ H Q I h;exact wpAny_Compare1 (bg6 ha hb I h λv u s2 x y H2 I2 rx ry q=>ho pins s2 σ H2 x y v u Q I2 rx ry q) hm
def V3 (t:TE):TT:=λσ H Q=>t σ H λx H' => ∃ k,x=.bl k/\Q k H'
theorem j9 {op:CmpOp} {r:R2} (ho:OpR X (compareOp op) r) (ha:PE X a ta) (hb:PE X b tb) (hm:behindInMarks op b=false):PT X (.Compare a [op] [b] pos) (V3 (tOp r ta tb)):=by
 intro pins s σ H Q I h
 refine wpAny_isTrue_Compare1 (thn (ha pins s σ H _ I h) λv s1 ⟨x,H1,I1,r1,q1⟩=>thn (hb pins s1 σ H1 _ I1 q1) λu s2 ⟨y,H2,I2,r2,q2⟩ =>
  thn (ho pins s2 σ H2 x y v u _ I2 r1 r2 q2) λc s3 ⟨z,H3,I3,r3,k,e,q3⟩=>?_) hm
 subst e
 cases r3
 exact wpAny_truthy_bool ⟨H3,I3,q3⟩
def aI2 (K:q0a) (x:V) (H:Hp) (k:Bool):Prop :=
 match x with
 | .non=>k=false
 | .bl b=>k=b
 | .int i=>k=(i != 0)
 | .str y=>y.length<=sizeLine/\k=((y.length:Int) != 0)
 | .byt y=>y.size<=sizeLine/\k=((y.size:Int) != 0)
 | .ref p=>(∃ xs,SqL K H p xs/\k = !xs.isEmpty) \/ (∃ xs,SqT K H p xs/\k = !xs.isEmpty) \/ ∃ kvs,H p=some (.dK kvs)/\k = !kvs.isEmpty
 | _=>False
theorem aK0 {κ:Type} {kvs:List (κ × V)} {vs:List (κ × Value)} (r:KV kvs vs):(!vs.isEmpty) = !kvs.isEmpty:=by
 cases r <;> rfl
theorem au3 {xs:List V} {its:List Value} (r:m6 xs its):(!its.toArray.isEmpty) = !xs.isEmpty:=by
 cases r <;> simp
theorem au1:(sizeLine:Nat)<2 ^ 63:=by rw [sizeLine_eq];decide
theorem bd3:bl3 X (λx H Q => ∃ k,aI2 X.K x H k/\Q k H):=by
 intro pins s σ H x v Q I rx h;obtain ⟨k,e,q⟩:=h;have hl:=au1;have hs:sizeLine=16777216:=sizeLine_eq
 cases x with
 | non =>
  cases rx
  have e':k=false:=e;subst e';exact truthy_none ⟨H,I,q⟩
 | bl b =>
  cases rx
  have e':k=b:=e;subst e';exact wpAny_truthy_bool ⟨H,I,q⟩
 | int i =>
  obtain ⟨t,rfl⟩:=rx;have e':k=(i != 0):=e;subst e';exact PySem.P.truthy_int ⟨H,I,q⟩
 | str y =>
  obtain ⟨t,rfl⟩:=rx;obtain ⟨hy,e'⟩:y.length<=sizeLine/\k=((y.length:Int) != 0):=e;subst e';exact PySem.P.truthy_str ⋯ ⟨H,I.tok _,q⟩
 | byt y =>
  obtain ⟨t,rfl⟩:=rx;obtain ⟨hy,e'⟩:y.size<=sizeLine/\k=((y.size:Int) != 0):=e;subst e';exact PySem.W.truthy_bytes ⋯ ⟨H,I.tok _,q⟩
 | ref p =>
  cases rx
  have e':(∃ xs,SqL X.K H p xs/\k = !xs.isEmpty) \/ (∃ xs,SqT X.K H p xs/\k = !xs.isEmpty) \/ ∃ kvs,H p=some (.dK kvs)/\k = !kvs.isEmpty:=e;rcases e' with ⟨xs,hx,e'⟩ | ⟨xs,hx,e'⟩ | ⟨kvs,hx,e'⟩
  ·subst e'
   obtain ⟨its,r,pl,hz⟩:=I.list hx;have hlen:=r.length;exact wpAny_truthy_list pl.isList (by simp only [q0j];omega) ⟨H,I.tok _,by rw [au3 r];exact q⟩
  ·subst e'
   obtain ⟨its,r,pl,hz⟩:=I.tuple hx;have hlen:=r.length;exact truthy_tuple pl (by simp only [q0j];omega) ⟨H,I.tok _,by rw [au3 r];exact q⟩
  ·subst e'
   obtain ⟨hz,hS,vs,r,m⟩:kvs.length<=sizeLine/\(p == sysModules)=false/\∃ vs,KV kvs vs/\s.heap.DictOf (aC8 X.prog X.w) p vs:=I.hok p _ hx;have hlen:kvs.length=vs.length:=Paired.length r;exact wpAny_truthy_dict hS m ⋯ ⟨H,I.tok _,by rw [aK0 r];exact q⟩
 | _=>exact (show False from e).elim
theorem am0 (ha:PE X a ta) (he:∀ whole,isTrue a X.env whole=(do let v <- whole;standAt a.pos;holding [v] (truthy v))) :
  PT X a (λσ H Q=>ta σ H λx H' => ∃ k,aI2 X.K x H' k/\Q k H'):=by
 intro pins s σ H Q I h;exact isTrue_plain (thn (ha pins s σ H _ I h) λv s1 ⟨x,H1,I1,r1,q1⟩=>bd3 pins s1 σ H1 x v Q I1 r1 q1) (he _)
theorem ad4 {x:V} {us:List Value} (r:m6 [x] us):∃ u,us=[u]/\A9 x u:=by
 cases r with
 | cons r1 r2=>cases r2;exact ⟨_,rfl,r1⟩
theorem bh8 {x y:V} {us:List Value} (r:m6 [x,y] us):∃ u w',us=[u,w']/\A9 x u/\A9 y w':=by
 cases r with
 | cons r1 r2 =>
  cases r2 with
  | cons r3 r4=>cases r4;exact ⟨_,_,rfl,r1,r3⟩
theorem ab1:X3 X (.builtin "abs") (λxs H Q => ∃ i,xs=[.int i]/\Q (.int (if i<0 then -i else i)) H):=by
 intro pins s σ H xs us Q I r h;obtain ⟨i,rfl,q⟩:=h;obtain ⟨u,rfl,t,rfl⟩:=ad4 r;exact call_abs_int λu tk=>⟨.int (if i<0 then -i else i),H,I.tok _,⟨_,rfl⟩,q⟩
theorem aR7 (hc:X.calm=true):X3 X (.builtin "max") (λxs H Q => ∃ i j,xs=[.int i,.int j]/\Q (.int (if j > i then j else i)) H):=by
 intro pins s σ H xs us Q I r h;obtain ⟨i,j,rfl,q⟩:=h;obtain ⟨u,w',rfl,⟨t,rfl⟩,⟨t',rfl⟩⟩:=bh8 r;refine max_two_ints (I.ok.hd hc) λh' tk k=>⟨_,H,I.kept k,?_,q⟩
 by_cases hj:j > i
 ·rw [if_pos hj,if_pos hj];exact ⟨_,rfl⟩
 ·rw [if_neg hj,if_neg hj];exact ⟨_,rfl⟩
theorem C2:X3 X (.type "int") (λxs H Q=>(∃ i,xs=[.int i]/\Q (.int i) H) \/ ∃ k,xs=[.bl k]/\Q (.int (if k then 1 else 0)) H):=by
 intro pins s σ H xs us Q I r h;rcases h with ⟨i,rfl,q⟩ | ⟨k,rfl,q⟩
 ·obtain ⟨u,rfl,t,rfl⟩:=ad4 r
  exact call_int_int ⟨.int i,H,I,⟨_,rfl⟩,q⟩
 ·obtain ⟨u,rfl,r1⟩:=ad4 r
  cases r1
  exact call_int_bool ⟨.int (if k then 1 else 0),H,I.tok _,⟨_,rfl⟩,q⟩
end
structure bh4 (h:Heap) (x dx C:Addr) (mA:Str->Option Value):Prop where
 obj:h.get? x=some (g0q C dx)
 ns:h.Ns1 dx mA
 ne:dx ≠ x
theorem aQ0 {h:Heap} {dx:Addr} {mA:Str->Option Value} (n:h.Ns1 dx mA):∃ od,h.get? dx=some od/\∀ name,m0g name od=some (mA name):=by
 obtain ⟨o,es,ep,ho,hd,hk,_,hm⟩:=n;refine ⟨o,ho,λname=>?_⟩;have e:=hm name;unfold nsFind findBy at e;rw [<- Array.find?_toList] at e;unfold m0g;rw [hd]
 dsimp only
 split
 ·rename_i y q
  rw [q] at e;exact congrArg some e
 ·rename_i q
  rw [q] at e
  have a:es.toList.any (·.refKey)=false:=by
   rw [List.any_eq_false];intro y hy;obtain ⟨z,t,hkey⟩:=hk y (Array.mem_toList_iff.mp hy)
   simp [DictEntry.refKey,hkey]
  have a':¬ es.toList.any (·.refKey)=true:=by rw [a];exact q0r
  rw [if_neg a'];exact congrArg some e
theorem bh4.look {h:Heap} {x dx C:Addr} {mA:Str->Option Value} (I:bh4 h x dx C mA):∃ od,PySem.W.InstAt h x (g0q C dx) C (some od)/\∀ name,m0g name od=some (mA name) :=
 let ⟨od,ho,hl⟩:=aQ0 I.ns
 ⟨od,⟨I.obj,rfl,rfl,ho⟩,hl⟩
section
variable {P:Program} {w:World} {H H':Hp} {h h':Heap} {a C dx:Addr} {fs fs':List (Str × V)}
theorem ba5 (hok:HOk P w H h) (e:H a=some (.ins C dx fs)):∃ mA,bh4 h a dx C mA/\(∀ f,bh1 (fs.lookup f) (mA f))/\PySem.Within mA (fs.map (·.1))/\fs.length<=1000/\H dx=some (.own a):=by
 obtain ⟨d,z,ne,ob,mA,n,r,q⟩:=(show K1 P w H h a (.ins C dx fs) from hok a _ e);exact ⟨mA,⟨ob,n,ne⟩,r,q,z,d⟩
end
structure Cls (K:q0a) (C:Addr):Prop where
 pg:PySem.W.plainGet K C Str.empty=true
 hd:PySem.W.hasDictIn K C=true
 po:PySem.W.plainOver K C=true
 sa:u0b K (.ref C) "__setattr__" = some (some (.builtin "object.__setattr__"))
theorem Cls.get {K:q0a} {C:Addr} (c:Cls K C) (f:Str):PySem.W.plainGet K C f=true:=c.pg
structure Con (K:q0a) (C:Addr) (f:Str) (v:V) (u:Value):Prop where
 at_:u0b K (.ref C) f=some (some u)
 rel:A9 v u
 get:PySem.W.specialIn K u "__get__" = some none
 cp:PySem.W.copiedNames.contains f=false
structure Meth (K:q0a) (C:Addr) (m:Str) (f:Addr):Prop where
 at_:u0b K (.ref C) m=some (some (.ref f))
 fn:PySem.W.isFn K (.ref f)=true
 kp:y0e K (.ref f)=true
section
variable {X:Cx} {pins:List (Addr × Obj)} {σ:St} {H:Hp} {s:Shared} {A:Around} {E:Value->Shared->Prop} {Q:Value->Shared->Prop} {c:Value} {b:Bool}
inductive ao8 (K:q0a) (H:Hp):V->Value->Prop where
 | non:ao8 K H .non (.type "NoneType")
 | bl (x:Bool):ao8 K H (.bl x) (.type "bool")
 | int (i:Int):ao8 K H (.int i) (.type "int")
 | str (x:Str):ao8 K H (.str x) (.type "str")
 | flt (x:UInt64):ao8 K H (.flt x) (.type "float")
 | lst {a:Addr} {xs:List V} (e:H a=some (.lst xs)):ao8 K H (.ref a) (.type "list")
 | frz {a:Addr} {o:Obj} {xs:List V} (e:H a=some (.frz o (.lst xs))):ao8 K H (.ref a) (.type "list")
 | tup {a:Addr} {xs:List V} (e:H a=some (.tup xs)):ao8 K H (.ref a) (.type "tuple")
 | dK {a:Addr} {kvs:List (Key × V)} (e:H a=some (.dK kvs)):ao8 K H (.ref a) (.type "dict")
 | dT {a:Addr} {kvs:List (List Key × V)} (e:H a=some (.dT kvs)):ao8 K H (.ref a) (.type "dict")
 | ins {a C dx:Addr} {fs:List (Str × V)} (e:H a=some (.ins C dx fs)) (cl:Cls K C) (ha:u0b K (.ref C) "__class__" = some (some (.builtin "object.__class__")))
   (hn:PySem.W.specialIn K (.builtin "object.__class__") "__get__" = some (some (.builtin "getset_descriptor.__get__"))) (htk:PySem.W.takesIn K (.builtin "object.__class__")=some true)
   (hm:PySem.W.mroIn K C (.type "object")=some true):ao8 K H (.ref a) (.ref C)
theorem aQ2 {x:V} {u t:Value} (I:Inv X pins σ H s) (rx:A9 x u) (ty:ao8 X.K H x t) (e:z0c X.K t c=some b) (h:∀ tk,Q (.bool b) { s with toks:=tk }) :
  wpAny (model X.prog X.w) A (call (.builtin "isinstance") [u,c]) Q E s:=by
 cases ty with
 | non=>cases (show u=Value.none from rx);exact j0h PySem.W.kitx_none I.kIn True.intro e (λz=>nomatch z) h
 | bl y=>cases (show u=Value.bool y from rx);exact j0h PySem.W.kitx_bool I.kIn True.intro e (λz=>nomatch z) h
 | int i=>obtain ⟨t,q⟩:=(show ∃ t,u=Value.int i t from rx);cases q;exact j0h PySem.W.kitx_int I.kIn True.intro e (λz=>nomatch z) h
 | str y=>obtain ⟨t,q⟩:=(show ∃ t,u=Value.str y t from rx);cases q;exact j0h PySem.W.kitx_str I.kIn True.intro e (λz=>nomatch z) h
 | flt y=>obtain ⟨t,q⟩:=(show ∃ t,u=Value.float y t from rx);cases q;exact j0h PySem.W.kitx_float I.kIn True.intro e (λz=>nomatch z) h
 | @lst a xs ea =>
  cases (show u=Value.ref a from rx)
  obtain ⟨_,_,n,_,h1⟩:=(show K1 X.prog X.w H s.heap a (.lst xs) from I.hok a _ ea);exact j0h PySem.W.kitx_list I.kIn ⟨_,h1,rfl⟩ e (λz=>nomatch z) h
 | @frz a ob xs ea =>
  cases (show u=Value.ref a from rx)
  obtain ⟨_,_,_,n,_,h1⟩:=(show K1 X.prog X.w H s.heap a (.frz ob (.lst xs)) from I.hok a _ ea);exact j0h PySem.W.kitx_list I.kIn ⟨_,h1,rfl⟩ e (λz=>nomatch z) h
 | @tup a xs ea =>
  cases (show u=Value.ref a from rx)
  obtain ⟨_,_,_,p⟩:=(show K1 X.prog X.w H s.heap a (.tup xs) from I.hok a _ ea);obtain ⟨o,h1,h2,_⟩:=p;exact j0h PySem.W.kitx_tuple I.kIn ⟨o,h1,h2⟩ e (λz=>nomatch z) h
 | @dK a kvs ea =>
  cases (show u=Value.ref a from rx)
  obtain ⟨_,_,vs,_,p⟩:=(show K1 X.prog X.w H s.heap a (.dK kvs) from I.hok a _ ea);obtain ⟨o,es,ep,h1,h2,_⟩:=p;exact j0h PySem.W.kitx_dict I.kIn ⟨o,h1,h2.1⟩ e (λz=>nomatch z) h
 | @dT a kvs ea =>
  cases (show u=Value.ref a from rx)
  obtain ⟨_,_,xs,_,o,es,ep,h1,h2,_⟩:=(show K1 X.prog X.w H s.heap a (.dT kvs) from I.hok a _ ea);exact j0h PySem.W.kitx_dict I.kIn ⟨o,h1,h2.1⟩ e (λz=>nomatch z) h
 | @ins a C dx fs ea cl ha hn htk hm =>
  cases (show u=Value.ref a from rx)
  obtain ⟨mA,O,_⟩:=ba5 I.hok ea;obtain ⟨od,J,_⟩:=O.look;exact j0h (PySem.W.kitx_own (cl.get _) cl.hd ha hn htk hm) I.kIn J e (λz=>nomatch z) h
end
structure ac5 (k:Nat) (A:Around):Prop where
 hd:A.handled=none
 dp:A.depth+3*k+5<recursionLimit
 un:A.units+16*k+200<cLine
theorem ac5.mono {j k:Nat} {A:Around} (r:ac5 k A) (h:j<=k):ac5 j A:=⟨r.hd,by have:=r.dp;omega,by have:=r.un;omega⟩
theorem ac5.deeper {k:Nat} {A:Around} (r:ac5 (k+1) A) (env:Env):ac5 k (A.deeper env) :=
 ⟨r.hd,by have:=r.dp;show A.depth+1+3*k+5<_;omega,by have:=r.un;show A.units+3+16*k+200<_;omega⟩
theorem ac5.depth {k:Nat} {A:Around} (r:ac5 k A):A.depth<recursionLimit:=by have:=r.dp;omega
theorem ac5.units {k:Nat} {A:Around} (r:ac5 k A):A.units+64<cLine:=by have:=r.un;omega
def N4:TA:=λ_ H Q=>Q [] H
def A3 (ta:TE) (tr:TA):TA:=λσ H Q=>ta σ H λx H1=>tr σ H1 λxs H2=>Q (x :: xs) H2
section
variable {X:Cx} {e:Expr} {es:List Expr} {te:TE} {t:TA} {pos:Pos}
theorem b8:PA X [] N4:=λ_ _ _ _ H Q I h=>Calls.spliced_nil ⟨[],H,I,.nil,h⟩
theorem b6 (ha:PE X e te) (hr:PA X es t) (hs:starEach (e :: es) X.env=(false,eval e X.env) :: starEach es X.env:=by rfl):PA X (e :: es) (A3 te t):=by
 intro pos pins s σ H Q I h;rw [hs]
 show wpAny _ _ (spliced ((false,eval e X.env) :: backTo pos (starEach es X.env))) _ _ s;refine Calls.spliced_cons (thn (ha pins s σ H _ I h) λu s1 zq=>?_);obtain ⟨x,H1,I1,r1,q1⟩:=zq;refine thn (hr pos pins s1 σ H1 _ I1 q1) λus s2 zq=>?_;obtain ⟨xs,H2,I2,r2,q2⟩:=zq;exact ⟨x :: xs,H2,I2,.cons r1 r2,q2⟩
def ai5 (t:TA):TE:=λσ H Q=>t σ H λxs H1=>xs.length<=sizeLine/\∀ p,H1 p=none->Q (.ref p) (upd H1 p (.tup xs))
def ad0 (t:TA):TE:=λσ H Q=>t σ H λxs H1=>xs.length<=sizeLine/\∀ p,H1 p=none->Q (.ref p) (upd H1 p (.lst xs))
theorem j3 {x1} (h:PA X es t):PE X (.Tuple es x1 pos) (ai5 t):=by
 intro pins s σ H Q I hq;refine wpAny_Tuple_spliced (thn (h pos pins s σ H _ I hq) λus s1 ⟨xs,H1,I1,r,z,q⟩=>⟨by rw [<- r.length];exact z,?_⟩)
 have hf:H1 s1.heap.objs.size=none:=I1.hok.fresh (q0m _);refine ⟨.ref s1.heap.objs.size,upd H1 s1.heap.objs.size (.tup xs),I1.laid (t':=s1.toks) (λb u e=>q0f _ e) (q0m _) ?_,rfl,q _ hf⟩;exact ⟨z,us,r,⟨_,q0y _ rfl,rfl,_,rfl⟩⟩
theorem B5 (h:PA X es t):PE X (.List es pos) (ad0 t):=by
 intro pins s σ H Q I hq;refine wpAny_List_spliced (thn (h pos pins s σ H _ I hq) λus s1 ⟨xs,H1,I1,r,z,q⟩=>⟨by rw [<- r.length];exact z,?_⟩)
 have hf:H1 s1.heap.objs.size=none:=I1.hok.fresh (q0m _);refine ⟨.ref s1.heap.objs.size,upd H1 s1.heap.objs.size (.lst xs),I1.laid (t':=s1.toks) (λb u e=>q0f _ e) (q0m _) ?_,rfl,q _ hf⟩;exact ⟨z,us,0,r,q0y _ rfl⟩
end
abbrev Sp:=List V->Hp->VK->XK->Prop
abbrev CXT:=List Env->Hp->Shared->XK->Value->Shared->Prop
structure aY2 (P:Program) (w:World) (K:q0a) (mg:Str->Option Value) (base:Heap) (A:Around) (outer:List Env) (s:Shared) (H:Hp):Prop where
 frames:A.frames=some outer
 mod:Mod K mg base
 bs:∀ b o,base.get? b=some o->s.heap.get? b=some o/\H b=none
 bsz:base.objs.size<=s.heap.objs.size
 funs:s.heap.FunFrames base outer
 frf:∀ b ∈ frs outer,H b=none
 hok:HOk P w H s.heap
 bare:AllBare s.gens
def CE (outer:List Env) (P:Program) (w:World) (H:Hp) (s:Shared) (Q:VK) (u:Value) (s':Shared):Prop :=
 ∃ v H',s'.os=s.os/\AllBare s'.gens/\Un (frs outer) [] H H' s.heap s'.heap/\HOk P w H' s'.heap/\A9 v u/\Q v H'
def CR (CX:CXT) (outer:List Env) (P:Program) (w:World) (H:Hp) (s:Shared) (Q:VK) (E:XK) (r:Result) (s':Shared):Prop :=
 match r with
 | .ok (.ret u)=>CE outer P w H s Q u s'
 | .ok _=>False
 | .error e=>CX outer H s E e s'
structure af4 (P:Program) (w:World) (K:q0a) (mg:Str->Option Value) (base:Heap) (CX:CXT) (k:Nat) (f:Addr) (fd:FuncData) (ps:List Str) (sp:Sp):Prop where
 len:∀ vs H Q E,sp vs H Q E->vs.length=ps.length
 run:∀ (A:Around) (outer:List Env) (s:Shared) (H:Hp) (args:Args) (us:List Value) (vs:List V) (Q:VK) (E:XK),ac5 k A->aY2 P w K mg base A outer s H->BindsTo s fd args (ps.zip us)->m6 vs us->sp vs H Q E ->
  codeAny (model P w) A (.call (.ref f) args) (CR CX outer P w H s Q E) s
theorem af4.mono {P:Program} {w:World} {K:q0a} {mg:Str->Option Value} {base:Heap} {CX:CXT} {j k:Nat} {f:Addr} {fd:FuncData} {ps:List Str} {sp:Sp} (F:af4 P w K mg base CX j f fd ps sp) (h:j<=k) :
  af4 P w K mg base CX k f fd ps sp:=⟨F.len,λA outer s H args us vs Q E hr=>F.run A outer s H args us vs Q E (hr.mono h)⟩
theorem af4.imp {P:Program} {w:World} {K:q0a} {mg:Str->Option Value} {base:Heap} {CX:CXT} {k:Nat} {f:Addr} {fd:FuncData} {ps:List Str} {sp sp':Sp} (F:af4 P w K mg base CX k f fd ps sp)
  (h:∀ vs H Q E,sp' vs H Q E->sp vs H Q E):af4 P w K mg base CX k f fd ps sp' :=
 ⟨λvs H Q E q=>F.len vs H Q E (h _ _ _ _ q),λA outer s H args us vs Q E hr he hb hv hs=>F.run A outer s H args us vs Q E hr he hb hv (h _ _ _ _ hs)⟩
section
variable {X:Cx} {pins:List (Addr × Obj)} {σ:St} {H:Hp} {s s':Shared}
theorem Inv.env0 (I:Inv X pins σ H s):aY2 X.prog X.w X.K X.mg X.base X.A X.stack s H :=
 ⟨I.ok.frames,I.ok.mod,I.bs,z0d I.ok.bsz I.sz,I.stack,I.stkFree,I.hok,I.bare⟩
theorem Inv.after {Q:VK} {u:Value} (I:Inv X pins σ H s) (h:CE X.stack X.prog X.w H s Q u s'):EP X pins σ Q u s':=by
 obtain ⟨v,H',os,bare,un,hok,r,q⟩:=h;obtain ⟨hh,g,d,t,os'⟩:=s';obtain rfl:os'=s.os:=os;exact ⟨v,H',I.call (h':=hh) (g':=g) (d':=d) (t':=t) (ch:=[]) un hok bare (λb z=>absurd z (by simp)),r,q⟩
end
def bb9 (sp:Sp) (dvs:List V) (E:XK) (t:TA):TE:=λσ H Q=>t σ H λvs H1=>sp (vs ++ dvs) H1 Q E
def an6 (K:q0a) (fd:FuncData) (ps:List Str) (ds:List Value):Prop :=
 ∀ (s:Shared) (us:List Value),K.In s.heap->(us ++ ds).length=ps.length->BindsTo s fd ⟨us,[]⟩ (ps.zip (us ++ ds))
theorem an6.all {K:q0a} {fd:FuncData} {ps:List Str} (h:∀ us:List Value,us.length=ps.length->bindArgs fd ⟨us,[]⟩=pure (ps.zip us)):an6 K fd ps []:=λs us _ hl=>by
 rw [v0r] at hl ⊢;exact .of_eq (h us hl)
def aE2 (CX:CXT) (X:Cx) (E:XK):Prop:=∀ (pins:List (Addr × Obj)) (σ:St) (H:Hp) (s:Shared) (e:Value) (s':Shared),Inv X pins σ H s->CX X.stack H s E e s'->X.xe e s'
section
variable {X:Cx} {CX:CXT} {k:Nat} {f C:Addr} {fd:FuncData} {ps:List Str} {sp:Sp} {dvs:List V} {ds:List Value} {E:XK} {x m:Str} {p pos apos:Pos} {e o:Expr} {es:List Expr} {ta:TE} {t:TA}
theorem be0 {pins:List (Addr × Obj)} {σ:St} {H:Hp} {s:Shared} {Q:VK} {us:List Value} {vs:List V} (F:af4 X.prog X.w X.K X.mg X.base CX k f fd ps sp) (hr:ac5 k X.A) (hb:an6 X.K fd ps ds) (hd:m6 dvs ds) (hx:aE2 CX X E)
  (I:Inv X pins σ H s) (r:m6 vs us) (h:sp (vs ++ dvs) H Q E):wpAny (model X.prog X.w) X.A (call (.ref f) us) (EP X pins σ Q) X.xe s:=by
 have r2:m6 (vs ++ dvs) (us ++ ds):=r.append hd;have hl:(us ++ ds).length=ps.length:=by rw [<- r2.length];exact F.len _ _ _ _ h
 refine wpAny_call (codeAny_mono (F.run X.A X.stack s H ⟨us,[]⟩ (us ++ ds) (vs ++ dvs) Q E hr I.env0 (hb s us I.kIn hl) r2 h) λr s' hq=>?_)
 cases r with
 | error e=>exact hx pins σ H s e s' I hq
 | ok fl =>
  cases fl with
  | ret u=>exact I.after hq
  | next=>exact False.elim hq
  | brk=>exact False.elim hq
  | cont=>exact False.elim hq
theorem aZ3 (F:af4 X.prog X.w X.K X.mg X.base CX k f fd ps sp) (hr:ac5 k X.A) (hg:Gl X x) (hm:X.mg x=some (.ref f)) (hk:y0e X.K (.ref f)=true) (hb:an6 X.K fd ps ds) (hd:m6 dvs ds) (hx:aE2 CX X E)
  (ha:PA X (e :: es) t) (hdb:(x == ("__debug__" : Str))=false:=by decide) (he:starEach (e :: es) X.env=(false,eval e X.env) :: starEach es X.env:=by rfl) (hpl:(backTo pos (starEach es X.env)).any (·.1)=false:=by rfl) :
  PE X (.Call (.Name x p) (e :: es) [] pos) (bb9 sp dvs E t):=by
 intro pins s σ H Q I h;refine wpAny_Call_Name_kw (aM3 I hg hm ?_ hdb);refine PySem.W.callWith_K (h₀:=X.base) I.ok.mod.kin hk (thn (ha pos pins s σ H _ I h) λus s1 ⟨vs,H1,I1,r,q⟩=>⟨I1.kIn,?_⟩) he hpl;exact be0 F hr hb hd hx I1 r q
structure Mk (K:q0a) (C f:Addr):Prop where
 makes:PySem.W.makesIn K C=true
 init:u0b K (.ref C) "__init__" = some (some (.ref f))
 fn:PySem.W.isFn K (.ref f)=true
 kp:y0e K (.ref C)=true
end
section
variable {X:Cx} {CX:CXT} {k:Nat} {f C:Addr} {fd:FuncData} {ps ks:List Str} {sp:Sp} {E:XK} {x m:Str} {p pos apos kpos:Pos} {e o:Expr} {es:List Expr} {kws:List Keyword} {te ta:TE} {t tk:TA} {nm:Option Str}
structure KBinds (K:q0a) (fd:FuncData) (ps ks:List Str) (g:List Value->List Value->List Value) (gV:List V->List V->List V):Prop where
 to:∀ (s:Shared) (us ws:List Value),K.In s.heap->(g us ws).length=ps.length->BindsTo s fd ⟨us,ks.zip ws⟩ (ps.zip (g us ws))
 rel:∀ {vs:List V} {us:List Value} {zs:List V} {ws:List Value},m6 vs us->m6 zs ws->m6 (gV vs zs) (g us ws)
variable {g:List Value->List Value->List Value} {gV:List V->List V->List V}
end
structure i7 (N P:List Str) (sc:Scope):Prop where
 kind:sc.kind=.function
 co:sc.isCoroutine=false
 gen:sc.isGenerator=false
 nd:N.Nodup
 pre:N.take P.length=P
 par:∀ x ∈ P,sc.names.lookup x=some .local \/ sc.names.lookup x=some .cell
 nofree:∀ y ∈ sc.names,y.2 ≠ .free
theorem az1 {kindOf:Str->Option NameKind} {x:Str}:∀ {binds:List (Str × Value)} {m:Str->Option Value},(∀ v,(x,v) ∉ binds)->bindL kindOf binds m x=m x
 | [],_,_=>rfl
 | (n,v) :: r,m,h=>by
  unfold bindL;rw [az1 λw hw=>h w (q0p _ hw)]
  split
  ·have:x ≠ n:=by rintro rfl;exact h v q0u
   simp [this]
  ·rfl
theorem az3 {kindOf:Str->Option NameKind} {x:Str}:∀ {binds:List (Str × Value)} {m:Str->Option Value},(∀ v,(x,v) ∉ binds)->bindC kindOf binds m x=m x
 | [],_,_=>rfl
 | (n,v) :: r,m,h=>by
  unfold bindC;rw [az3 λw hw=>h w (q0p _ hw)]
  split
  ·rfl
  ·have:x ≠ n:=by rintro rfl;exact h v q0u
   simp [this]
theorem az2 {kindOf:Str->Option NameKind} {x:Str} {v:Value}:∀ {P:List Str} {vs:List Value} {i:Nat} {m:Str->Option Value},P.Nodup->P[i]? = some x->vs[i]? = some v->kindOf x=some .local ->
  bindL kindOf (P.zip vs) m x=some v
 | [],_,_,_,_,h,_,_=>by simp at h
 | _ :: _,[],_,_,_,_,h,_=>by simp at h
 | p :: P,w :: vs,0,m,nd,h1,h2,hk=>by
  simp at h1 h2;subst h1;subst h2
  show bindL kindOf ((p,w) :: P.zip vs) m p=_;unfold bindL;rw [az1 λv hv=>(j0t.mp nd).1 (g0r hv).1,if_pos hk]
  simp
 | p :: P,w :: vs,i+1,m,nd,h1,h2,hk=>by
  show bindL kindOf ((p,w) :: P.zip vs) m x=_;unfold bindL;exact az2 (i:=i) (j0t.mp nd).2 (by simpa using h1) (by simpa using h2) hk
theorem az4 {kindOf:Str->Option NameKind} {x:Str} {v:Value}:∀ {P:List Str} {vs:List Value} {i:Nat} {m:Str->Option Value},P.Nodup->P[i]? = some x->vs[i]? = some v->kindOf x ≠ some .local ->
  bindC kindOf (P.zip vs) m x=some v
 | [],_,_,_,_,h,_,_=>by simp at h
 | _ :: _,[],_,_,_,_,h,_=>by simp at h
 | p :: P,w :: vs,0,m,nd,h1,h2,hk=>by
  simp at h1 h2;subst h1;subst h2
  show bindC kindOf ((p,w) :: P.zip vs) m p=_;unfold bindC;rw [az3 λv hv=>(j0t.mp nd).1 (g0r hv).1,if_neg hk]
  simp
 | p :: P,w :: vs,i+1,m,nd,h1,h2,hk=>by
  show bindC kindOf ((p,w) :: P.zip vs) m x=_;unfold bindC;exact az4 (i:=i) (j0t.mp nd).2 (by simpa using h1) (by simpa using h2) hk
def start (N:List Str) (vs:List V):St:=vs.map some ++ q0z (N.length-vs.length) none
def Z6 (CX:CXT) (P:Program) (w:World) (K:q0a) (mg:Str->Option Value) (base:Heap) (N:List Str) (qual:Str) (scope:Scope) (f:Addr) (cd:Value) (A:Around) (outer:List Env) (s:Shared) (H:Hp) (E:XK):Cx where
 prog:=P
 w:=w
 K:=K
 mg:=mg
 base:=base
 A:=A.deeper (envOfC qual scope s.heap.objs.size f cd)
 N:=N
 s₀:=s
 H₀:=H
 env:=envOfC qual scope s.heap.objs.size f cd
 outer:=outer
 stack:=envOfC qual scope s.heap.objs.size f cd :: outer
 ex:=[]
 calm:=true
 fn:=λ_=>true
 pn:=[]
 xe:=λe s'=>wpAny (model P w) (A.deeper (envOfC qual scope s.heap.objs.size f cd)) (leaving (envOfC qual scope s.heap.objs.size f cd) e) (λ_ s''=>CX outer H s E e s'') (λe' s''=>CX outer H s E e' s'') s'
theorem aI1 {sc:Scope} {n:Nat} {x:Str} (h:sc.names.lookup x=some .cell):∃ c,(cellsFrom n sc.names []).lookup x=some c:=by
 have q:=g0z sc.names n [] (.inl h);exact v0v.mp q
theorem aQ4 {CX:CXT} {P:Program} {w:World} {K:q0a} {mg:Str->Option Value} {base:Heap} {N ps:List Str} {qual:Str} {scope:Scope} {f:Addr} {cd:Value} {A:Around} {outer:List Env} {s s1:Shared} {H:Hp} {E:XK} {us:List Value} {vs:List V}
  (S:i7 N ps scope) (hd:A.handled=none) (e0:aY2 P w K mg base A outer s H) (hl:vs.length=ps.length) (r:m6 vs us)
  (x:InCallC s s.heap.objs.size (bindL (envOfC qual scope s.heap.objs.size f cd).kindOf (ps.zip us) λ_=>none) (cellsFrom (s.heap.objs.size+1) scope.names []) (bindC (envOfC qual scope s.heap.objs.size f cd).kindOf (ps.zip us) λ_=>none) s1) :
  Inv (Z6 CX P w K mg base N qual scope f cd A outer s H E) [] (start N vs) H s1:=by
 have hpl:ps.length<=N.length:=by have:=congrArg List.length S.pre;rw [q0x] at this;omega
 obtain ⟨h1,tk,rfl,hk⟩:=x.done;have noA:∀ b:Addr,b ∉ (Z6 CX P w K mg base N qual scope f cd A outer s H E).ex:=λb z=>absurd (show b ∈ ([]:List Addr) from z) (by simp)
 refine ⟨⟨e0.mod,S.kind,rfl,rfl,q0m _,λy z c h1 h2=>?_,λy hy=>?_,λy c _ h=>?_,λ_=>hd,Around.frames_deeper e0.frames,.inr ⟨rfl,rfl⟩,λb z=>absurd z (noA b),e0.bs,e0.bsz,λb _ _=>noA b,λb z=>absurd z (noA b),e0.funs,e0.frf⟩,
  rfl,e0.bare,Un.kept hk,⟨_,x.toInCall.ns,λi y v h1 h2 h3=>?_⟩,λy c h=>⟨_,x.cell y c h⟩,e0.hok.fresh (q0m _),λy c h=>?_,λp hp=>absurd (show p ∈ ([]:List (Addr × Obj)) from hp) (by simp),e0.hok.kept hk,?_⟩
 ·exact name_of_addr x.apart (PySem.mem_of_lookup h1) (PySem.mem_of_lookup h2)
 ·have hy:scope.names.lookup y=some .cell \/ scope.names.lookup y=some .free:=hy
  rcases hy with hy | hy
  ·exact aI1 hy
  ·exact absurd rfl (S.nofree _ (PySem.mem_of_lookup hy))
 ·exact v0d (x.above y c (PySem.mem_of_lookup h))
 ·have hi:i<vs.length:=by
   unfold start at h2
   by_cases hi:i<vs.length
   ·exact hi
   ·rw [v0k (by simpa using hi)] at h2
    rw [u0e] at h2
    split at h2 <;> cases h2
  have ha:vs[i]? = some v:=by
   unfold start at h2;rw [g0f (by simpa using hi),q0q] at h2
   cases e:vs[i]? with
   | none=>rw [e] at h2;cases h2
   | some a=>rw [e] at h2;cases h2;rfl
  obtain ⟨u,hu,rv⟩:=r.get ha
  have hp:ps[i]? = some y:=by
   rw [<- S.pre,List.getElem?_take_of_lt ⋯];exact h1
  have ndP:ps.Nodup:=by rw [<- S.pre];exact S.nd.sublist (List.take_sublist _ _)
  refine ⟨u,rv,?_⟩;rcases S.par y (q0h hp) with k | k
  ·exact .inl ⟨k,az2 ndP hp hu k⟩
  ·obtain ⟨c,e⟩:=aI1 (n:=s.heap.objs.size+1) k
   refine .inr ⟨.inl k,c,e,?_⟩;have q:=x.cell y c e;rw [az4 ndP hp hu (by show scope.names.lookup y ≠ _;rw [k];decide)] at q
   exact q
 ·exact e0.hok.fresh (v0d (x.above y c (PySem.mem_of_lookup h)))
 ·unfold start
  show _=N.length;rw [j0d,q0d,v0f];omega
theorem bi6 {CX:CXT} {P:Program} {w:World} {K:q0a} {mg:Str->Option Value} {base:Heap} {k:Nat} {f:Addr} {name qual:Str} {params:Arguments} {body:List Stmt} {scope:Scope} {dV kV doc pm cdv ct oc:Value} {an od:Option Addr}
  {osl:Array (Option Value)} {N ps:List Str} {sp:Sp} (lk:K.lookup f=some ⟨oc,od,.func (y0r name qual params body scope dV kV doc pm an cdv ct),osl⟩) (hcd:m0h K cdv qual=true) (S:i7 N ps scope)
  (len:∀ vs H Q E,sp vs H Q E->vs.length=ps.length)
  (hbody:∀ (A:Around) (outer:List Env) (s:Shared) (H:Hp) (vs:List V) (Q:VK) (E:XK),ac5 k (A.deeper (envOfC qual scope s.heap.objs.size f cdv))->sp vs H Q E ->
   ∃ t,PSs (Z6 CX P w K mg base N qual scope f cdv A outer s H E) body t/\t { nx:=λ_ H'=>Q .non H',rt:=Q } (start N vs) H) :
  af4 P w K mg base CX (k+1) f (y0r name qual params body scope dV kV doc pm an cdv ct) ps sp:=by
 refine ⟨len,λA outer s H args us vs Q E hr e0 hb r hsp=>?_⟩;have hl:=len _ _ _ _ hsp;have KX:K.In s.heap:=e0.mod.kin.keeps λb o e=>(e0.bs b o e).1;have lim:s.heap.NoLimit:=e0.mod.nolimit.keeps λb o e=>(e0.bs b o e).1
 have hkind:∀ y ∈ ps.zip us,scope.names.lookup y.1=some .local \/ (scope.names.lookup y.1=some .cell/\((cellsFrom (s.heap.objs.size+1) scope.names []).lookup y.1).isSome=true):=λ⟨n,v⟩ hy=>by
  rcases S.par n (g0r hy).1 with q | q
  ·exact .inl q
  ·exact .inr ⟨q,g0z _ _ _ (.inl q)⟩
 refine codeAny_call_function hr.depth (KX _ _ lk) rfl S.co S.gen rfl (PySem.W.codeRec_of KX hcd) (hb _ _ _ _ ?_);refine wpAny_newFunctionEnv_cells S.kind hkind λenv he s1 x=>?_;subst he;refine ⟨lim.keeps x.toInCall.keep,codeAny_func ?_⟩;obtain ⟨t,ht,hq⟩:=hbody A outer s H vs Q E (hr.deeper _) hsp;have I:Inv (Z6 CX P w K mg base N qual scope f cdv A outer s H E) [] (start N vs) H s1:=aQ4 S hr.hd e0 hl r x;refine wpAny_mono (ht [] s1 (start N vs) H _ I hq) (λfl s' hs=>?_) λe s' hs=>hs
 have fin:∀ {σ':St} {H':Hp} {v:V} {u:Value},Inv (Z6 CX P w K mg base N qual scope f cdv A outer s H E) [] σ' H' s'->A9 v u->Q v H'->CE outer P w H s Q u s' :=
  fun {σ' H' v u} J rv q=>⟨v,H',J.os,J.bare,J.base,J.hok,rv,q⟩
 cases fl with
 | ret u =>
  obtain ⟨v,σ',H',J,rv,q⟩:=hs;exact fin J rv q
 | next =>
  obtain ⟨σ',H',J,q⟩:=hs;exact fin (v:=V.non) (u:=Value.none) J rfl q
 | brk =>
  obtain ⟨_,_,_,q⟩:=hs;exact False.elim q
 | cont =>
  obtain ⟨_,_,_,q⟩:=hs;exact False.elim q
section
variable {X:Cx} {x:Str} {p pos:Pos} {e:Expr} {es:List Expr} {t:TA} {id T:String} {r:List V->Hp->VK->Prop}
def tCB (r:List V->Hp->VK->Prop) (t:TA):TE:=λσ H Q=>t σ H λvs H1=>r vs H1 Q
theorem j8 (hc : X3 X (.builtin id) r) (hg : Gl X x) (hm : X.mg x = none) (hv : bootBuiltins x = some (.builtin id)) (ha : PA X (e :: es) t) (hn : x ≠ "__name__" := by decide) (hdb : (x == ("__debug__" : Str)) = false := by decide)
    (he:starEach (e :: es) X.env=(false,eval e X.env) :: starEach es X.env:=by rfl) (hpl:(backTo pos (starEach es X.env)).any (·.1)=false:=by rfl):PE X (.Call (.Name x p) (e :: es) [] pos) (tCB r t):=by
  intro pins s σ H Q I h;refine wpAny_Call_Name_kw (Z5 I hg hm hv ?_ hn hdb);exact PyProof.Rows.callWith_builtin1 (thn (ha pos pins s σ H _ I h) λus s1 ⟨vs,H1,I1,r1,q1⟩=>hc pins s1 σ H1 vs us Q I1 r1 q1) he hpl
theorem w4 (hc : X3 X (.type T) r) (hg : Gl X x) (hm : X.mg x = none) (hv : bootBuiltins x = some (.type T)) (ha : PA X (e :: es) t) (hn : x ≠ "__name__" := by decide) (hdb : (x == ("__debug__" : Str)) = false := by decide)
    (he:starEach (e :: es) X.env=(false,eval e X.env) :: starEach es X.env:=by rfl) (hpl:(backTo pos (starEach es X.env)).any (·.1)=false:=by rfl):PE X (.Call (.Name x p) (e :: es) [] pos) (tCB r t):=by
  intro pins s σ H Q I h;refine wpAny_Call_Name_kw (Z5 I hg hm hv ?_ hn hdb);exact PyProof.Rows.callWith_type1 (thn (ha pos pins s σ H _ I h) λus s1 ⟨vs,H1,I1,r1,q1⟩=>hc pins s1 σ H1 vs us Q I1 r1 q1) he hpl
end
end L2
namespace HT
open PySem PyProof.Rows
section
open PySem.SeqAt
open PySem.AutoSeq1 (wpAny_loadPart')
open PySem.MeetsSeq PySem.MeetsSeq2 PySem.MeetsSeq3
end
section
variable {prog:Program} {w:World} {A:Around} {E:Value->Shared->Prop} {s:Shared}
def sIx (n d:Nat):Option Int->Nat
 | none=>d
 | some v=>if v<0 then (v+(n:Int)).toNat else min v.toNat n
end
end HT
namespace L2
open PySem PySem.Spec PyProof.Rows
abbrev TO:=St->Hp->(Option Int->Hp->Prop)->Prop
def PO (X:Cx) (e:Option Expr) (t:TO):Prop :=
 ∀ (pins:List (Addr × Obj)) (s:Shared) (σ:St) (H:Hp) (Q:Option Int->Hp->Prop),Inv X pins σ H s->t σ H Q ->
  wpAny (model X.prog X.w) X.A (evalPart e X.env) (λu s' => ∃ o H',Inv X pins σ H' s'/\IsPart u o/\Q o H') X.xe s
def A4:TO:=λ_ H Q=>Q none H
def K5 (t:TE):TO:=λσ H Q=>t σ H λx H1 => ∃ i,x=.int i/\Q (some i) H1
section
variable {X:Cx} {e:Expr} {te:TE} {lo hi:Option Expr} {tl th:TO} {pos p2:Pos}
theorem U8:PO X none A4:=by
 intro pins s σ H Q I h;rw [evalPart_none];exact wpAny_pure ⟨none,H,I,.none,h⟩
theorem P1 (h:PE X e te):PO X (some e) (K5 te):=by
 intro pins s σ H Q I hw;rw [evalPart_some];refine thn (h pins s σ H _ I hw) λu s1 zq=>?_;obtain ⟨x,H1,I1,r1,q1⟩:=zq;obtain ⟨i,rfl,q⟩:=q1;obtain ⟨t,rfl⟩:=r1;exact ⟨some i,H1,I1,.int i t,q⟩
def SlR (X:Cx) (r:V->Option Int->Option Int->Hp->VK->Prop):Prop :=
 ∀ (pins:List (Addr × Obj)) (s:Shared) (σ:St) (H:Hp) (x:V) (v vl vu:Value) (lo hi:Option Int) (sl:Addr) (Q:VK),Inv X pins σ H s->A9 x v->s.heap.IsSliceOf sl vl vu .none->IsPart vl lo->IsPart vu hi->r x lo hi H Q ->
  ∃ T id,typeLookup (.type T) "__getitem__" = pure (some (.builtin id))/\s.TypeIs v T/\wpAny (model X.prog X.w) X.A (getItem v (.ref sl)) (EP X pins σ Q) X.xe s
def tSl (r:V->Option Int->Option Int->Hp->VK->Prop) (te:TE) (tl th:TO):TE:=λσ H Q=>te σ H λx H1=>tl σ H1 λl H2=>th σ H2 λu H3=>r x l u H3 Q
theorem Q8 {r:V->Option Int->Option Int->Hp->VK->Prop} (hr:SlR X r) (he:PE X e te) (hl:PO X lo tl) (hu:PO X hi th):PE X (.Subscript e (.Slice lo hi none p2) pos) (tSl r te tl th):=by
 intro pins s σ H Q I h;refine Subscript_ (thn (he pins s σ H _ I h) λv s1 zq=>?_);obtain ⟨x,H1,I1,r1,q1⟩:=zq;refine wpAny_Slice (thn (hl pins s1 σ H1 _ I1 q1) λvl s2 ⟨l,H2,I2,pl,q2⟩=>thn (hu pins s2 σ H2 _ I2 q2) λvu s3 zq=>?_);obtain ⟨u,H3,I3,pu,q3⟩:=zq;rw [evalPart_none];refine wpAny_pure ?_;have I4:Inv X pins σ H3 { s3 with heap:=s3.heap.push { cls:=.type "slice",data:=.fields #[vl,vu,.none] } }:=I3.kept (t':=s3.toks) λb ob q=>q0f _ q
 obtain ⟨T,id,hT,ht,hg⟩:=hr pins { s3 with heap:=s3.heap.push { cls:=.type "slice",data:=.fields #[vl,vu,.none] } } σ H3 x v vl vu l u s3.heap.objs.size Q I4 r1 (Heap.IsSliceOf.new ..) pl pu q3
 show wpAny (model X.prog X.w) X.A (subscriptTail e (.Slice lo hi none p2) v (.ref s3.heap.objs.size)) (EP X pins σ Q) X.xe { s3 with heap:=s3.heap.push { cls:=.type "slice",data:=.fields #[vl,vu,.none] } }
 exact tail_any (ops:=[.ref s3.heap.objs.size,v]) ht hT hg (by with_unfolding_all rfl)
def ah5 (xs:List V) (lo hi:Option Int):List V:=(xs.drop (HT.sIx xs.length 0 lo)).take (HT.sIx xs.length xs.length hi-HT.sIx xs.length 0 lo)
theorem aq3 (xs:List V) (lo hi:Option Int):(ah5 xs lo hi).length<=xs.length:=by
 unfold ah5;rw [q0x,u0f];omega
end
def ixN (n:Nat) (i:Int):Option Nat:=if 0<=i then (if i<n then some i.toNat else none) else if -(n:Int)<=i then some (i+n).toNat else none
def atI {α:Type} (xs:List α) (i:Int):Option α:=(ixN xs.length i).bind λj=>xs[j]?
theorem aM4 {n:Nat} {i:Int} {j:Nat} (h:ixN n i=some j):seqIndex? i n=some j/\j<n/\-(n:Int)<=i/\i<n:=by
 unfold ixN at h
 by_cases h0:0<=i
 ·rw [if_pos h0] at h
  by_cases h1:i<n
  ·rw [if_pos h1] at h
   have e:i.toNat=j:=Option.some.inj h;exact ⟨by rw [seqIndex_of h0 h1,e],⋯,⋯,h1⟩
  ·rw [if_neg h1] at h;cases h
 ·rw [if_neg h0] at h
  by_cases h1:-(n:Int)<=i
  ·rw [if_pos h1] at h
   have e:(i+n).toNat=j:=Option.some.inj h;exact ⟨by rw [seqIndex_neg ⋯ h1,e],⋯,h1,⋯⟩
  ·rw [if_neg h1] at h;cases h
theorem aN7 {α:Type} {xs:List α} {i:Int} {v:α} (h:atI xs i=some v):∃ j,seqIndex? i xs.length=some j/\xs[j]? = some v/\j<xs.length/\-(xs.length:Int)<=i/\i<xs.length:=by
 unfold atI at h
 cases e:ixN xs.length i with
 | none=>rw [e] at h;cases h
 | some j =>
  rw [e] at h;obtain ⟨h1,h2,h3,h4⟩:=aM4 e;exact ⟨j,h1,h,h2,h3,h4⟩
theorem C7 {α:Type} {xs:List α} {j:Nat} {v:α} (h:xs[j]? = some v):atI xs (j:Int)=some v:=by
 have hj:j<xs.length:=(q0g.mp h).1
 have e:ixN xs.length (j:Int)=some j:=by
  unfold ixN;rw [if_pos ⋯,if_pos ⋯];simp
 unfold atI;rw [e];exact h
def bb8 (b:Expr):Prop:=∀ o i,subscripted b false o i=operate [o,i] (getItem o i)
def IxR (X:Cx) (r:R2):Prop :=
 ∀ (value slice:Expr) (pins:List (Addr × Obj)) (s:Shared) (σ:St) (H:Hp) (x y:V) (v u:Value) (Q:VK),Inv X pins σ H s->A9 x v->A9 y u->r x y H Q ->
  subscripted slice false v u=operate [v,u] (getItem v u)->wpAny (model X.prog X.w) X.A (subscriptTail value slice v u) (EP X pins σ Q) X.xe s
def MtR (X:Cx) (id:String) (r:V->List V->Hp->VK->Prop):Prop :=
 ∀ (pins:List (Addr × Obj)) (s:Shared) (σ:St) (H:Hp) (x:V) (xs:List V) (v:Value) (us:List Value) (Q:VK),Inv X pins σ H s->A9 x v->m6 xs us->r x xs H Q ->
  wpAny (model X.prog X.w) X.A (call (.builtin id) (v :: us)) (EP X pins σ Q) X.xe s
section
variable {X:Cx} {a b:Expr} {ta tb:TE} {pos:Pos}
theorem j4 {r:R2} (hr:IxR X r) (ha:PE X a ta) (hb:PE X b tb) (hs:bb8 b):PE X (.Subscript a b pos) (tOp r ta tb):=by
 intro pins s σ H Q I h;exact Subscript_ (bg6 ha hb I h λv u s2 x y H2 I2 rx ry q=>hr a b pins s2 σ H2 x y v u Q I2 rx ry q (hs _ _))
def N8 (K:q0a):R2:=λx y H Q => ∃ p xs i v,x=.ref p/\y=.int i/\SqL K H p xs/\atI xs i=some v/\Q v H
def ae1 (K:q0a):R2:=λx y H Q => ∃ p xs i v,x=.ref p/\y=.int i/\SqT K H p xs/\atI xs i=some v/\Q v H
theorem t9:IxR X (N8 X.K):=by
 intro value slice pins s σ H x y v u Q I rx ry h hs;obtain ⟨p,xs,i,z,rfl,rfl,hq,he,q⟩:=h
 cases rx
 obtain ⟨t,rfl⟩:=ry;obtain ⟨its,r,pl,hz⟩:=I.list hq;obtain ⟨j,h1,h2,h3,h4,h5⟩:=aN7 he;obtain ⟨w,ew,rw'⟩:=r.get h2;have hl:=r.length;have hn:=au1;have fin:EP X pins σ Q w s:=⟨z,H,I,rw',q⟩
 by_cases h0:0<=i
 ·have hj:i.toNat=j:=by
   rw [seqIndex_of h0 h5] at h1;exact Option.some.inj h1
  exact item_listR pl.isList h0 ⋯ (by rw [hj];simpa using ew) fin hs
 ·have hj:(i+(its.toArray.size:Int)).toNat=j:=by
   rw [seqIndex_neg ⋯ h4] at h1;rw [q0j,<- hl];exact Option.some.inj h1
  exact subscriptTail_builtinR (x:=w) pl.isList.typeIs slot_list_getitem.lookup
   (wpAny_getItem_list_neg (Q:=λr s'=>r=w/\EP X pins σ Q r s') pl.isList ⋯ (by rw [q0j] <;> omega) ⋯ (by rw [hj];simpa using ew) ⟨rfl,fin⟩) hs
theorem l6:IxR X (ae1 X.K):=by
 intro value slice pins s σ H x y v u Q I rx ry h hs;obtain ⟨p,xs,i,z,rfl,rfl,hq,he,q⟩:=h
 cases rx
 obtain ⟨t,rfl⟩:=ry;obtain ⟨its,r,pl,hz⟩:=I.tuple hq;obtain ⟨j,h1,h2,h3,h4,h5⟩:=aN7 he;obtain ⟨w,ew,rw'⟩:=r.get h2;have hl:=r.length;have hn:=au1;have fin:EP X pins σ Q w s:=⟨z,H,I,rw',q⟩
 exact subscriptTail_builtinR (x:=w) pl.typeIs slot_tuple_getitem.lookup
  (getItem_tuple (j:=j) (Q:=λr s'=>r=w/\EP X pins σ Q r s') pl ⋯ ⋯ (by rw [q0j,<- hl];exact h1) (by simpa using ew) ⟨rfl,fin⟩) hs
theorem aJ9 (its:List Value) (n j:Nat) (u:Value):Obj.mapSeq (·.setIfInBounds j u) { cls:=.type "list",data:=.seq its.toArray n }={ cls:=.type "list",data:=.seq (its.set j u).toArray n }:=by
 simp [Obj.mapSeq]
theorem Inv.lst {pins:List (Addr × Obj)} {σ:St} {H:Hp} {s:Shared} {p:Addr} {xs:List V} (I:Inv X pins σ H s) (h:H p=some (.lst xs)) :
  ∃ (its:List Value) (n:Nat),m6 xs its/\s.heap.get? p=some { cls:=.type "list",data:=.seq its.toArray n }/\xs.length<=sizeLine:=by
 obtain ⟨z,its,n,r,e⟩:=I.hok p _ h;exact ⟨its,n,r,e,z⟩
theorem Inv.lstUpd {pins:List (Addr × Obj)} {σ:St} {H:Hp} {s:Shared} {p:Addr} {xs ys:List V} {its its':List Value} {n n':Nat} {f:Obj->Obj} (I:Inv X pins σ H s) (h:H p=some (.lst xs))
  (ho:s.heap.get? p=some { cls:=.type "list",data:=.seq its.toArray n }) (hf:f { cls:=.type "list",data:=.seq its.toArray n }={ cls:=.type "list",data:=.seq its'.toArray n' }) (r:m6 ys its') (hz:ys.length<=sizeLine) (t:Nat) :
  Inv X pins σ (upd H p (.lst ys)) { s with heap:=s.heap.update p f,toks:=t }:=by
 have e:(s.heap.update p f).get? p=some { cls:=.type "list",data:=.seq its'.toArray n' }:=by
  rw [v0g f ho (by rw [hf] <;> rfl),hf]
 refine I.write (x:=p) (e:=p) (by rw [h];trivial) (.inl rfl) (λb u hb q=>(j0n _ _ (Ne.symm hb)).trans q) ⟨_,e⟩ ?_
 exact ⟨hz,its',n',r,e⟩
def Q7:V->V->V->Hp->(Hp->Prop)->Prop:=λo i v H Q => ∃ p xs k j,o=.ref p/\i=.int k/\H p=some (.lst xs)/\ixN xs.length k=some j/\Q (upd H p (.lst (xs.set j v)))
theorem K6:bj7 X Q7:=by
 intro pins s σ H o i v ov iv u Q I ro ri rv h;obtain ⟨p,xs,k,j,rfl,rfl,hp,hj,q⟩:=h
 cases ro
 obtain ⟨t,rfl⟩:=ri;obtain ⟨its,n,r,ho,hz⟩:=I.lst hp;obtain ⟨h1,h2,h3,h4⟩:=aM4 hj;have hl:=r.length;have hn:=au1
 have I':Inv X pins σ (upd H p (.lst (xs.set j v))) { s with heap:=s.heap.update p (Obj.mapSeq (·.setIfInBounds j u)) } :=
  I.lstUpd hp ho (aJ9 its n j u) (r.set rv j) (by rw [y0v];exact hz) s.toks
 by_cases h0:0<=k
 ·have hk:k.toNat=j:=by
   rw [seqIndex_of h0 h4] at h1;exact Option.some.inj h1
  exact PySem.W.ki_setAt ho h0 ⋯ (by rw [q0j,<- hl];exact h4) (by rw [hk];exact ⟨_,I',q⟩)
 ·have hk:(k+(its.toArray.size:Int)).toNat=j:=by
   rw [seqIndex_neg ⋯ h3] at h1;rw [q0j,<- hl];exact Option.some.inj h1
  exact PySem.W.ki_setBack ho ⋯ (by rw [q0j,<- hl];exact h3) ⋯ (by rw [hk];exact ⟨_,I',q⟩)
theorem aA2 (lo hi:Option Int) (n:Nat):(sliceBounds lo hi none n).1=((HT.sIx n 0 lo:Nat):Int)/\(sliceBounds lo hi none n).2.1=((HT.sIx n n hi:Nat):Int)/\(sliceBounds lo hi none n).2.2=1:=by
 refine ⟨?_,?_,rfl⟩
 ·cases lo with
  | none=>simp [sliceBounds,HT.sIx]
  | some i =>
   simp only [sliceBounds,HT.sIx,Option.getD_none,show (1:Int) > 0 by decide,if_true]
   by_cases h:i<0
   ·simp only [h,if_true] <;> omega
   ·simp only [h,if_false] <;> omega
 ·cases hi with
  | none=>simp [sliceBounds,HT.sIx]
  | some i =>
   simp only [sliceBounds,HT.sIx,Option.getD_none,show (1:Int) > 0 by decide,if_true]
   by_cases h:i<0
   ·simp only [h,if_true] <;> omega
   ·simp only [h,if_false] <;> omega
theorem av8 (its:List Value) (lo hi:Option Int):slicePick its.toArray lo hi none=((its.drop (HT.sIx its.length 0 lo)).take (HT.sIx its.length its.length hi-HT.sIx its.length 0 lo)).toArray:=by
 obtain ⟨h1,h2,h3⟩:=aA2 lo hi its.toArray.size;unfold slicePick;rw [h1,h2,h3];simp only [sliceRange_one,pick_run,q0j] <;> rfl
def Q6 (K:q0a):V->Option Int->Option Int->Hp->VK->Prop:=λx lo hi H Q => ∃ a xs,x=.ref a/\SqL K H a xs/\∀ p,H p=none->Q (.ref p) (upd H p (.lst (ah5 xs lo hi)))
theorem X4:SlR X (Q6 X.K):=by
 intro pins s σ H x v vl vu lo hi sl Q I rx hs pl pu h;obtain ⟨a,xs,rfl,hx,q⟩:=h
 cases rx
 obtain ⟨its,r,ht,hz⟩:=I.list hx;have hlen:=r.length;refine ⟨"list",_,slot_list_getitem.lookup,ht.isList.typeIs,?_⟩
 refine wpAny_getItem_list_slice ht.isList hs pl pu .none (by simp) ?_ (by rw [q0j] <;> omega)
 rw [av8,<- hlen];refine ⟨.ref s.heap.objs.size,_,I.laid (t':=s.toks) (o:=.lst (ah5 xs lo hi)) (λb ob q=>q0f _ q) (q0m _) ?_,rfl,q _ (I.hok.fresh (q0m _))⟩;exact ⟨z0d (aq3 xs lo hi) hz,_,0,(r.drop (HT.sIx xs.length 0 lo)).take (HT.sIx xs.length xs.length hi-HT.sIx xs.length 0 lo),q0y _ rfl⟩
def aM5:V->Bool
 | .non=>true
 | .bl _=>true
 | .int _=>true
 | .str _=>true
 | _=>false
def eqV:V->V->Bool
 | .non,.non=>true
 | .bl a,.bl b=>a == b
 | .bl a,.int b=>(if a then 1 else 0) == b
 | .int a,.bl b=>a == (if b then 1 else 0)
 | .int a,.int b=>a == b
 | .str a,.str b=>a == b
 | _,_=>false
theorem bf9 {A:Around} {s:Shared} {y x:V} {u v:Value} (ry:A9 y u) (rx:A9 x v) (fy:aM5 y=true) (fx:aM5 x=true):SeqAt.EqAt A s u v (eqV y x):=by
 cases y with
 | non =>
  cases ry
  cases x with
  | non=>cases rx;exact SeqAt.EqAt.same _
  | bl b=>cases rx;exact SeqAt.EqAt.none_bool b
  | int b=>obtain ⟨t,rfl⟩:=rx;exact SeqAt.EqAt.none_int b t
  | str b=>obtain ⟨t,rfl⟩:=rx;exact SeqAt.EqAt.none_str b t
  | _=>exact absurd (show false=true from fx) q0r
 | bl a =>
  cases ry
  cases x with
  | non=>cases rx;exact SeqAt.EqAt.bool_none a
  | bl b=>cases rx;exact SeqAt.EqAt.bool_bool a b
  | int b=>obtain ⟨t,rfl⟩:=rx;exact SeqAt.EqAt.bool_int a b t
  | str b=>obtain ⟨t,rfl⟩:=rx;exact SeqAt.EqAt.bool_str a b t
  | _=>exact absurd (show false=true from fx) q0r
 | int a =>
  obtain ⟨t',rfl⟩:=ry
  cases x with
  | non=>cases rx;exact SeqAt.EqAt.int_none a t'
  | bl b=>cases rx;exact SeqAt.EqAt.int_bool a t' b
  | int b=>obtain ⟨t,rfl⟩:=rx;exact SeqAt.EqAt.int_int a t' b t
  | str b=>obtain ⟨t,rfl⟩:=rx;exact SeqAt.EqAt.int_str a t' b t
  | _=>exact absurd (show false=true from fx) q0r
 | str a =>
  obtain ⟨t',rfl⟩:=ry
  cases x with
  | non=>cases rx;exact SeqAt.EqAt.str_none a t'
  | bl b=>cases rx;exact SeqAt.EqAt.str_bool a t' b
  | int b=>obtain ⟨t,rfl⟩:=rx;exact SeqAt.EqAt.str_int a t' b t
  | str b=>obtain ⟨t,rfl⟩:=rx;exact SeqAt.EqAt.str_str a t' b t
  | _=>exact absurd (show false=true from fx) q0r
 | _=>exact absurd (show false=true from fy) q0r
theorem k0:X3 X (.builtin "len") (λxs H Q => ∃ p ys,xs=[.ref p]/\(SqL X.K H p ys \/ SqT X.K H p ys)/\Q (.int ys.length) H):=by
 intro pins s σ H xs us Q I r h;obtain ⟨p,ys,rfl,hq,q⟩:=h;obtain ⟨u,rfl,rx⟩:=ad4 r
 cases rx
 have hn:=au1;rcases hq with hq | hq
 ·obtain ⟨its,r',pl,hz⟩:=I.list hq
  have hlen:=r'.length;exact Calls.call_len_list pl.isList (by simp only [q0j] <;> omega) ⟨.int ys.length,H,I.tok _,⟨s.toks+1,by rw [q0j,hlen]⟩,q⟩
 ·obtain ⟨its,r',pl,hz⟩:=I.tuple hq
  have hlen:=r'.length;exact len_tuple pl (by simp only [q0j] <;> omega) ⟨.int ys.length,H,I.tok _,⟨s.toks+1,by rw [q0j,hlen]⟩,q⟩
theorem M9:X3 X (.type "list") (λxs H Q => ∃ p ys,xs=[.ref p]/\(SqL X.K H p ys \/ SqT X.K H p ys)/\∀ l,H l=none->Q (.ref l) (upd H l (.lst ys))):=by
 intro pins s σ H xs us Q I r h;obtain ⟨p,ys,rfl,hq,q⟩:=h;obtain ⟨u,rfl,rx⟩:=ad4 r
 cases rx
 have fin:∀ (its:List Value),m6 ys its->ys.length<=sizeLine->∀ (h':Heap) (c':Nat),(∀ b o',s.heap.get? b=some o'->h'.get? b=some o') ->
   h'.get? s.heap.objs.size=some { cls:=.type "list",dict:=none,data:=.seq its.toArray c',slots:=#[] }->EP X pins σ Q (.ref s.heap.objs.size) { s with heap:=h' }:=λits r' hz h' c' kp e =>
  ⟨.ref s.heap.objs.size,_,I.laid (t':=s.toks) kp (q0m _) (show K1 X.prog X.w _ h' _ (.lst ys) from ⟨hz,its,c',r',e⟩),rfl,q _ (I.hok.fresh (q0m _))⟩
 rcases hq with hq | hq
 ·obtain ⟨its,r',pl,hz⟩:=I.list hq
  have hlen:=r'.length;obtain ⟨o,ho,hc,n,hd⟩:=pl.isList;exact call_list_seq p (.inl rfl) ho hc hd (λh' c' kp e=>fin its r' hz h' c' kp e) (by simp only [q0j] <;> omega)
 ·obtain ⟨its,r',pl,hz⟩:=I.tuple hq
  have hlen:=r'.length;obtain ⟨o,ho,hc,n,hd⟩:=pl;exact call_list_seq p (.inr rfl) ho hc hd (λh' c' kp e=>fin its r' hz h' c' kp e) (by simp only [q0j] <;> omega)
theorem aw8:X3 X (.type "tuple") (λxs H Q => ∃ p ys,xs=[.ref p]/\((SqL X.K H p ys/\∀ l,H l=none->Q (.ref l) (upd H l (.tup ys))) \/ (SqT X.K H p ys/\Q (.ref p) H))):=by
 intro pins s σ H xs us Q I r h;obtain ⟨p,ys,rfl,h⟩:=h;obtain ⟨u,rfl,rx⟩:=ad4 r
 cases rx
 rcases h with ⟨hq,q⟩ | ⟨hq,q⟩
 ·obtain ⟨its,r',pl,hz⟩:=I.list hq
  have hlen:=r'.length;refine call_tuple_list pl.isList (λh' kp=>?_) (by simp only [q0j] <;> omega)
  have I1:Inv X pins σ H { s with heap:=h' }:=I.kept (t':=s.toks) kp
  have I2:Inv X pins σ (upd H h'.objs.size (.tup ys)) { s with heap:=h'.push { cls:=.type "tuple",data:=.seq its.toArray } } :=
   I1.laid (t':=s.toks) (λb o e=>q0f _ e) (q0m _) (show K1 X.prog X.w _ _ _ (.tup ys) from ⟨hz,its,r',IsTup.new _ _⟩)
  exact ⟨.ref h'.objs.size,_,I2,rfl,q _ (I1.hok.fresh (q0m _))⟩
 ·obtain ⟨its,r',pl,hz⟩:=I.tuple hq
  exact call_tuple_same pl ⟨.ref p,H,I,rfl,q⟩
def tyV (K:PySem.W.Frag) (T:String) (x:V) (H:Hp):Prop:=match x with
  | .str _=>T = "str"
  | .int _=>T = "int"
  | .ref p => (T = "list" ∧ ∃ xs, SqL K H p xs) ∨ (T = "tuple" ∧ ∃ o, K.lookup p = some o ∧ o.cls = .type "tuple" ∧ o.dict = none) ∨
      (T = "dict"/\((∃ kvs,H p=some (.dK kvs)) \/ ∃ kvs,H p=some (.dT kvs))) \/ (T = "set"/\∃ S n,H p=some (.set S n))
  | _=>False
theorem aS4 {pins:List (Addr × Obj)} {σ:St} {H:Hp} {s:Shared} {T:String} {x:V} {v:Value} (I:Inv X pins σ H s) (r:A9 x v) (ty:tyV X.K T x H) :
  s.TypeIs v T/\∀ a,v=.ref a->∃ ob,s.heap.get? a=some ob/\ob.dict=none:=by
 cases x with
 | str z =>
  obtain ⟨t,rfl⟩:=r
  cases (show T = "str" from ty)
  exact ⟨typeIs_str s z t,λ_ e=>nomatch e⟩
 | int i =>
  obtain ⟨t,rfl⟩:=r
  cases (show T = "int" from ty)
  exact ⟨typeIs_int s i t,λ_ e=>nomatch e⟩
 | ref p =>
  cases r
  rcases ty with ⟨rfl,xs,hq⟩ | ⟨rfl,o,hk,hc,hd⟩ | ⟨rfl,hk⟩ | ⟨rfl,S,n,hk⟩
  ·obtain ⟨its,_,pl,_⟩:=I.list hq
   refine ⟨pl.isList.typeIs,λa e=>?_⟩
   cases e
   obtain ⟨o,n,e,c,hd,_⟩:=pl;exact ⟨o,e,hd⟩
  ·refine ⟨⟨o,I.kIn p o hk,hc⟩,λa e=>?_⟩
   cases e
   exact ⟨o,I.kIn _ o hk,hd⟩
  ·have z:∃ o,s.heap.get? p=some o/\o.ExactDict:=by
    rcases hk with ⟨kvs,hk⟩ | ⟨kvs,hk⟩
    ·obtain ⟨_,_,_,_,o,_,_,e,ex,_⟩:=I.hok p _ hk
     exact ⟨o,e,ex⟩
    ·obtain ⟨_,_,_,_,o,_,_,e,ex,_⟩:=I.hok p _ hk
     exact ⟨o,e,ex⟩
   obtain ⟨o,e,ex⟩:=z;refine ⟨⟨o,e,ex.1⟩,λa e2=>?_⟩
   cases e2
   exact ⟨o,e,ex.2.1⟩
  ·obtain ⟨o,_,_,_,e,ex,_⟩:=I.hok p _ hk
   refine ⟨⟨o,e,ex.1⟩,λa e2=>?_⟩
   cases e2
   exact ⟨o,e,ex.2.1⟩
 | _=>exact False.elim ty
def ag9 (K:q0a) (T:String) (r:V->List V->Hp->VK->Prop) (to:TE):TE:=λσ H Q=>to σ H λx H1=>tyV K T x H1/\r x [] H1 Q
def tBM (K:q0a) (T:String) (r:V->List V->Hp->VK->Prop) (to:TE) (t:TA):TE:=λσ H Q=>to σ H λx H1=>tyV K T x H1/\t σ H1 λxs H2=>r x xs H2 Q
variable {o e:Expr} {es:List Expr} {to:TE} {t:TA} {name:Str} {apos cpos:Pos} {T id:String} {r:V->List V->Hp->VK->Prop}
theorem ao2 (pa:PlainAttrs T) (slot:Slot T name id) (hty:typeOf (.builtin id)=pure (.type "method_descriptor")) (hm:MtR X id r) (ho:PE X o to)
  (hbase:attributeBase o name X.env (eval o X.env)=eval o X.env:=by rfl) (hline:(apos.endLine == cpos.line)=true:=by rfl):PE X (.Call (.Attribute o name apos) [] [] cpos) (ag9 X.K T r to):=by
 intro pins s σ H Q I h;refine wpAny_Call_method0_late hbase hline (thn (ho pins s σ H _ I h) λv s1 zq=>?_);obtain ⟨x,H1,I1,r1,ty,q1⟩:=zq;obtain ⟨h1,h2⟩:=aS4 I1 r1 ty;exact ⟨T,id,pa,slot,hty,h1,h2,Calls.callWith_builtin rfl (PySem.evalArgs_none (hm pins s1 σ H1 x [] v [] Q I1 r1 .nil q1))⟩
theorem aM0 (pa:PlainAttrs T) (slot:Slot T name id) (hty:typeOf (.builtin id)=pure (.type "method_descriptor")) (hm:MtR X id r) (ho:PE X o to) (ha:PA X (e :: es) t)
  (hbase:attributeBase o name X.env (eval o X.env)=eval o X.env:=by rfl)
  (hfew:((backTo cpos (starEach (e :: es) X.env)).all (λx => !x.1) && (backToKw cpos (keywordEach [] X.env)).all (λx=>x.1.isSome)
   && decide ((e :: es).length+([]:List Keyword).length+(if ([]:List Keyword).isEmpty then 0 else 1)<30))=true:=by rfl)
  (hline:(apos.endLine == cpos.line)=true:=by rfl) (hs:starEach (e :: es) X.env=(false,eval e X.env) :: starEach es X.env:=by rfl) (hplain:(backTo cpos (starEach es X.env)).any (·.1)=false:=by rfl) :
  PE X (.Call (.Attribute o name apos) (e :: es) [] cpos) (tBM X.K T r to t):=by
 intro pins s σ H Q I h;refine wpAny_Call_method_late hbase hfew hline rfl (thn (ho pins s σ H _ I h) λv s1 zq=>?_);obtain ⟨x,H1,I1,r1,ty,q1⟩:=zq;obtain ⟨h1,h2⟩:=aS4 I1 r1 ty;refine ⟨T,id,pa,slot,hty,h1,h2,?_⟩;have hA:=ha cpos pins s1 σ H1 _ I1 q1;rw [hs] at hA ⊢;refine Calls.callWith_builtin (by show (false || (backTo cpos (starEach es X.env)).any (·.1))=false;rw [hplain] <;> rfl) (Calls.evalArgs_plain ?_)
 refine thn hA λus s2 zq=>?_;obtain ⟨vs,H2,I2,r2,q2⟩:=zq;exact hm pins s2 σ H2 x vs v us Q I2 r1 r2 q2
end
def MtM (X:Cx) (id:String) (r:V->List V->Hp->VK->Prop):Prop :=
 ∀ (pins:List (Addr × Obj)) (s:Shared) (σ:St) (H:Hp) (x:V) (xs:List V) (v:Value) (us:List Value) (Q:VK),Inv X pins σ H s->A9 x v->m6 xs us->r x xs H Q ->
  wpAny (model X.prog X.w) X.A (call (.builtin id) (v :: us)) (EP X pins σ Q) X.xe s
theorem m6.one:∀ {x:V} {us:List Value},m6 [x] us->∃ u,us=[u]/\A9 x u
 | _,_,.cons r .nil=>⟨_,rfl,r⟩
theorem m6.two:∀ {x y:V} {us:List Value},m6 [x,y] us->∃ u v,us=[u,v]/\A9 x u/\A9 y v
 | _,_,_,.cons r (.cons q .nil)=>⟨_,_,rfl,r,q⟩
theorem m6.zero:∀ {us:List Value},m6 [] us->us=[]
 | _,.nil=>rfl
theorem m6.dropLast {xs:List V} {us:List Value} (h:m6 xs us):m6 xs.dropLast us.dropLast:=by
 induction h with
 | nil=>exact .nil
 | cons r t ih =>
  cases t with
  | nil=>exact .nil
  | cons q t'=>exact .cons r ih
theorem m6.rep {xs:List V} {us:List Value} (h:m6 xs us):∀ k:Nat,m6 (q0z k xs).flatten (q0z k us).flatten
 | 0=>.nil
 | k+1=>by
  rw [y0t,y0t,y0b,y0b];exact m6.append h (m6.rep h k)
theorem aK2 {α:Type} (l:List α):l.eraseIdx (l.length-1)=l.dropLast:=by
 induction l with
 | nil=>rfl
 | cons a r ih =>
  cases r with
  | nil=>rfl
  | cons b r =>
   have e:(a :: b :: r).length-1=((b :: r).length-1)+1:=by
    have h1:(a :: b :: r).length=r.length+2:=rfl;have h2:(b :: r).length=r.length+1:=rfl;omega
   rw [e,List.eraseIdx_cons_succ,ih]
   all_goals rfl
theorem ay5 (its:List Value):∀ (k:Nat) (acc:List Value),
  List.foldl (λx1 x2=>x1 ++ x2) acc.toArray (q0z k its.toArray)=(acc ++ (q0z k its).flatten).toArray
 | 0,acc=>by simp
 | k+1,acc=>by
  have e:acc.toArray ++ its.toArray=(acc ++ its).toArray:=by simp
  have e2:(acc ++ its) ++ (q0z k its).flatten=acc ++ (q0z (k+1) its).flatten:=by
   rw [y0t,y0b,List.append_assoc]
  rw [<- e2,<- ay5 its k (acc ++ its),<- e,y0t,j0z]
section
variable {X:Cx} {pins:List (Addr × Obj)} {σ:St} {H:Hp} {s:Shared} {l b:Addr} {xs ys zs:List V}
theorem Inv.lset {its its':List Value} {n:Nat} {f:Array Value->Array Value} {t':Nat} (I:Inv X pins σ H s) (hH:H l=some (.lst xs))
  (e:s.heap.get? l=some { cls:=.type "list",data:=.seq its.toArray n }) (hf:f its.toArray=its'.toArray) (hv:m6 ys its') (hz:ys.length<=sizeLine) :
  Inv X pins σ (upd H l (.lst ys)) { s with heap:=s.heap.update l (Obj.mapSeq f),toks:=t' }:=by
 have q:=PySem.IsL.update e f;rw [hf] at q;refine I.write (x:=l) (e:=l) (by rw [hH];exact trivial) (.inl rfl) (λb' u hb hu=>(j0n s.heap (Obj.mapSeq f) (Ne.symm hb)).trans hu) ⟨_,q⟩ ?_
 exact ⟨hz,its',_,hv,q⟩
theorem Inv.lnew {its:List Value} {t':Nat} (I:Inv X pins σ H s) (hv:m6 ys its) (hz:ys.length<=sizeLine) :
  Inv X pins σ (upd H s.heap.objs.size (.lst ys)) { s with heap:=s.heap.push { cls:=.type "list",data:=.seq its.toArray },toks:=t' } :=
 I.laid (λ_ _ q=>q0f _ q) (q0m _) ⟨hz,its,0,hv,q0y _ rfl⟩
theorem Inv.fresh (I:Inv X pins σ H s):H s.heap.objs.size=none:=I.hok.fresh (q0m _)
theorem Inv.lstM (I:Inv X pins σ H s) (hH:H l=some (.lst xs)):xs.length<=sizeLine/\∃ (its:List Value) (n:Nat),m6 xs its/\xs.length=its.length/\s.heap.get? l=some { cls:=.type "list",data:=.seq its.toArray n }:=by
 obtain ⟨z,its,n,r,e⟩:=I.hok l _ hH;exact ⟨z,its,n,r,r.length,e⟩
theorem aV0 {n:Nat} (h:n<=sizeLine):Builtin.List.listTooLong n=false:=by
 unfold Builtin.List.listTooLong;exact decide_eq_false ⋯
end
section
variable {X:Cx}
def F8:V->List V->Hp->VK->Prop:=λx vs H Q => ∃ l xs y,x=.ref l/\vs=[y]/\H l=some (.lst xs)/\xs.length<sizeLine/\Q .non (upd H l (.lst (xs ++ [y])))
theorem J7:MtM X "list.append" F8:=by
 intro pins s σ H x vs v us Q I rx rv h;obtain ⟨l,xs,y,rfl,rfl,hH,hz,q⟩:=h
 cases rx
 obtain ⟨u,rfl,ru⟩:=rv.one;obtain ⟨z,its,n,r,hl,e⟩:=I.lstM hH;refine call_meets F.slot_list_append ⟨_,e,rfl⟩ F.entry_list_append (F.args_list_append_2 _ _) (PySem.list_append l its.toArray n u (by rw [q0j];omega)) ⟨e,?_⟩
 refine ⟨.non,_,I.lset (its':=its ++ [u]) hH e (by simp) (r.append (.cons ru .nil)) ?_,rfl,q⟩
 rw [j0d,y0k];omega
def rExtend:V->List V->Hp->VK->Prop:=λx vs H Q => ∃ l b xs zs,x=.ref l/\vs=[.ref b]/\H l=some (.lst xs)/\H b=some (.lst zs)/\xs.length+zs.length<=sizeLine/\Q .non (upd H l (.lst (xs ++ zs)))
def aj5:V->List V->Hp->VK->Prop:=λx vs H Q => ∃ l xs y,x=.ref l/\vs=[]/\H l=some (.lst xs)/\xs[xs.length-1]? = some y/\Q y (upd H l (.lst xs.dropLast))
theorem bf2:MtM X "list.pop" aj5:=by
 intro pins s σ H x vs v us Q I rx rv h;obtain ⟨l,xs,y,rfl,rfl,hH,hy,q⟩:=h
 cases rx
 have hus:=rv.zero;subst hus;obtain ⟨z,its,n,r,hl,e⟩:=I.lstM hH;obtain ⟨u,hu,ru⟩:=r.get hy
 have hy':its.toArray[its.toArray.size-1]? = some u:=by
  show its.toArray[its.length-1]? = some u;rw [<- Array.getElem?_toList,<- hl];exact hu
 refine call_meets F.slot_list_pop ⟨_,e,rfl⟩ F.entry_list_pop (F.args_list_pop_1 _) (MeetsSeq.list_pop_last l its.toArray n u hy' (by rw [q0j];omega)) ⟨e,?_⟩
 refine ⟨y,_,I.lset (its':=its.dropLast) hH e ?_ r.dropLast ?_,ru,q⟩
 ·show its.toArray.eraseIdxIfInBounds (its.toArray.size-1)=its.dropLast.toArray
  rw [q0j,List.eraseIdxIfInBounds_toArray,aK2]
 ·rw [List.length_dropLast]
  omega
def Z1:R2:=λx y H Q => ∃ l b xs zs,x=.ref l/\y=.ref b/\H l=some (.lst xs)/\H b=some (.lst zs)/\xs.length+zs.length<=sizeLine/\∀ p,H p=none->Q (.ref p) (upd H p (.lst (xs ++ zs)))
theorem at3:OpR X (binaryOp .Add) Z1:=by
 intro pins s σ H x y v u Q I rx ry h;obtain ⟨l,b,xs,zs,rfl,rfl,hH,hB,hz,q⟩:=h
 cases rx
 cases ry
 obtain ⟨z,its,n,r,hl,e⟩:=I.lstM hH;obtain ⟨z2,its2,n2,r2,hl2,e2⟩:=I.lstM hB;refine PySem.P.add_list e e2 ?_ (by rw [q0j,q0j];omega)
 have ea:its.toArray ++ its2.toArray=(its ++ its2).toArray:=by simp
 rw [ea];exact ⟨.ref _,_,I.lnew (t':=s.toks) (r.append r2) (by rw [j0d];omega),rfl,q _ I.fresh⟩
def aj4:R2:=λx y H Q => ∃ l k xs,x=.ref l/\y=.int k/\H l=some (.lst xs)/\-(2 ^ 63)<=k/\k<2 ^ 63/\xs.length*k.toNat<=sizeLine /\
 ∀ p,H p=none->Q (.ref p) (upd H p (.lst (q0z k.toNat xs).flatten))
theorem ba2 {α:Type} (xs:List α) (k:Nat):(q0z k xs).flatten.length=k*xs.length:=by
 induction k with
 | zero=>simp
 | succ k ih=>rw [y0t,y0b,j0d,ih,Nat.succ_mul,m0x]
theorem aU8:OpR X (binaryOp .Mult) aj4:=by
 intro pins s σ H x y v u Q I rx ry h;obtain ⟨l,k,xs,rfl,rfl,hH,h1,h2,hz,q⟩:=h
 cases rx
 obtain ⟨t,rfl⟩:=ry;obtain ⟨z,its,n,r,hl,e⟩:=I.lstM hH;have hlen:its.toArray.size*k.toNat<=sizeLine:=by rw [q0j,<- hl];exact hz
 have hcap:¬ its.toArray.size*k.toNat > (2 ^ 63-1) / 8:=by
  have:(sizeLine:Nat)<=(2 ^ 63-1) / 8:=by decide
  omega
 have hfit:¬ (!Builtin.List.listFitsIndex k)=true:=by
  rw [fitsIndex_both h1 h2];exact q0r
 have hlong:¬ Builtin.List.listTooLong (its.toArray.size*k.toNat)=true:=by
  rw [aV0 hlen];exact q0r
 have hnew:List.foldl (λx1 x2=>x1 ++ x2) #[] (q0z (if its.toArray.isEmpty=true then 0 else k.toNat) its.toArray)=(q0z k.toNat its).flatten.toArray:=by
  have f0:∀ m:Nat,List.foldl (λx1 x2=>x1 ++ x2) #[] (q0z m its.toArray)=(q0z m its).flatten.toArray:=λm=>by
   have:=ay5 its m [];rw [v0s] at this;exact this
  rw [f0]
  cases its with
  | nil=>simp
  | cons a r'=>rw [if_neg (by simp)]
 refine wpAny_binaryOp_repeat_ref (T := "list") (U := "int") (by decide) ⟨_,e,rfl⟩ (λs'=>typeIs_int s' k t) noFill_list_mul F.fills_int_mul F.slot_int_rmul repeat_list F.slot_int_index.lookup
  (call_meets F.slot_int_rmul (typeIs_int s k t) F.entry_int_rmul (F.args_int_rmul_2 _ _) (int___rmul___int_list k t l its.toArray n)
   ⟨e,rfl,⟨_,e,rfl⟩,call_meets F.slot_list_mul ⟨_,e,rfl⟩ F.entry_list_mul (F.args_list_mul_2 _ _) (AutoListH.list___mul___list_int_3 l its.toArray n k t hfit hcap hlong) ⟨e,?_⟩⟩)
 rw [hnew];exact ⟨.ref _,_,I.lnew (t':=s.toks) (r.rep k.toNat) (by rw [ba2,g0j];exact hz),rfl,q _ I.fresh⟩
end
end L2
namespace Att
open PySem PySem.W PySem.Calls PyProof.Rows
theorem ar0 {P:Params} {h:Heap}:∀ (ns:List Int) (vs:List Value),WellAll P h vs (ns.map WData.int)->IntsAre vs ns:=by
 intro ns
 induction ns with
 | nil =>
  intro vs w;rw [v0w] at w
  cases w
  exact .nil
 | cons n ns ih =>
  intro vs w;rw [z0s] at w
  cases w with
  | cons a b =>
   cases a
   exact .cons _ _ (ih _ b)
theorem aO7 {l:OpenLaw} {n:Nat} (hn:l.most=some n) {P:Params} {h:Heap} {args:List WData} {vals:List Value}
  (hpre:l.row.toRowW.claim.pre args=true) (hwl:WellAll P h vals args) :
  ∃ a vs ns,vals=[Value.ref a]/\args=[WData.list (ns.map WData.int)]/\h.get? a=some { cls:=.type "list",data:=.seq vs.toArray }/\IntsAre vs ns/\ns.length<=n:=by
 have hsh:WShape.hasAll [] args [.list .int]=true:=(pre_splitW hpre).1;have hc:l.pre.holds [] { args:=args }=true:=(pre_splitW hpre).2;obtain ⟨d,r,rfl,h1,h2⟩:=hasAllW_cons hsh;obtain rfl:=hasAllW_nil h2;obtain ⟨xs,rfl,h3⟩:=hasW_list h1;obtain ⟨ns,rfl⟩:=items_int h3
 have hlen:ns.length<=n:=by
  unfold OpenLaw.pre at hc
  have h4:(WTm.not (.lt (.lit (.int (n:Int))) (.len (.arg 0)))).holds [] { args:=[.list (ns.map .int)] }=true:=by
   have h4:=(holds_andW hc).1;rw [hn] at h4;exact h4
  have h5:=condW_of h4 (w_not (w_lt w_lit (w_len_list (w_arg rfl))));rw [q0d] at h5;refine Nat.le_of_not_lt λq=>?_;have q':(n:Int)<((ns.length:Nat):Int):=⋯
  first
   | (rw [decide_eq_true q'] at h5;exact absurd h5 (by decide))
   | (simp at h5;omega)
 cases hwl with
 | cons w1 w2 =>
  cases w2
  cases w1 with
  | list ho hall=>exact ⟨_,_,ns,rfl,rfl,ho,ar0 ns _ hall,hlen⟩
theorem aP0 (l:OpenLaw) (args:List WData):l.row.toRowW.claim.post args (.bool true) args=true :=
 postW_of (r:=l.row.toRowW) (X:=(true == true))
  (show WShape.has [] (.bool true) .bool=true by first | rfl | decide | simp [WShape.has,WShape.arms,WShape.armsAll])
  (show (WTm.eq .res (.lit (.bool true))).value [] { args:=args,res:=some (.bool true),after:=args }=some (.bool (true == true)) from w_eq_bool (w_res rfl) w_lit) rfl
theorem attach_call {l:OpenLaw} {n:Nat} {q:Program} {loose:List Str} {XP:(Str->Option Value)->Heap->Prop} {YP:World->Heap->Prop} {d:DefRec}
  (hn:l.most=some n) (hdf:d.params.defaults=[])
  (call:∀ (w:World) (s₀ s₁:Shared) (mg mb:Str->Option Value) (fa:Addr) (o:Obj) (pm cd doc:Value) (a:Addr) (vs:List Value) (ns:List Int),
   Ground q loose [] XP w s₀ mg mb s₁.heap->YP w s₁.heap ->
   s₁.heap.get? fa=some o->o.data=.func (docDef d.name d.params d.body d.scope pm cd doc)->s₁.heap.CodeRec cd d.name->mg d.name=some (.ref fa) ->
   s₁.heap.get? a=some { cls:=.type "list",data:=.seq vs.toArray }->IntsAre vs ns->ns.length<=n->s₁.gens = #[] ->
   codeAny (model l.prog w) callerA (.call (.ref fa) ⟨[.ref a],[]⟩) (λr s'=>r=.ok (.ret (.bool true))/\OldK s₁.heap s'.heap/\s'.os=s₁.os/\AllBare s'.gens) s₁) :
  WalkO q loose XP YP l.row.toRowW d [] (λf vs=>PySem.call f vs):=by
 intro w s₀ s₁ mg mb G Y fa o pm cd doc dV kV ho hd hcd hD hmg hg args vals as hpre hlay hrd hwl hlo;obtain rfl:dV=.none:=Dflts.none hD hdf;obtain rfl:kV=.none:=Dflts.noKw hD;obtain ⟨a,vs,ns,rfl,rfl,hobj,hints,hlen⟩:=aO7 hn hpre hwl;refine enter_call (codeAny_mono (call w s₀ s₁ mg mb fa o pm cd doc a vs ns G Y ho (fd_plain hd) hcd hmg hobj hints hlen hg) λr s' hq=>?_);obtain ⟨rfl,h2,h3,h4⟩:=hq;exact ⟨.inl ⟨.bool true,.bool true,[],rfl,λ_=>rfl,.bool true,aP0 l _,λ_=>⟨List.Pairwise.nil,λ_ hm=>(nomatch hm)⟩⟩,h2,h3,h4⟩
end Att
namespace L2
open PySem PySem.Spec PyProof.Rows
theorem ax0:∀ {vs:List Value} {ns:List Int},IntsAre vs ns->m6 (ns.map V.int) vs
 | _,_,.nil=>.nil
 | _,_,.cons n t h=>.cons ⟨t,rfl⟩ (ax0 h)
def bh3 (H:Hp):Prop:=∀ b,H b=none \/ ∃ o xs,H b=some (.frz o (.lst xs))
theorem aV5 {P:Program} {w:World} {K:q0a} {mg mb:Str->Option Value} {CX:CXT} {k:Nat} {fa a:Addr} {fd:FuncData} {x:Str} {sp:Sp} {s₁:Shared} {vs:List Value} {ns:List Int}
  (KX:K.In s₁.heap) (hns:s₁.heap.Ns mainGlobals mg) (hb:s₁.heap.Ns builtinsNs mb) (hbb:∀ x:Str,x ≠ "__name__"->mb x=bootBuiltins x) (hlim:s₁.heap.NoLimit) (hg:s₁.gens = #[])
  (ha:s₁.heap.get? a=some { cls:=.type "list",data:=.seq vs.toArray }) (hi:IntsAre vs ns) (hl:ns.length<=sizeLine) (hr:ac5 k callerA)
  (F:∀ base:Heap,K.In base->base.Ns mainGlobals mg->af4 P w K mg base CX k fa fd [x] sp) (hbind:∀ (s:Shared) (u:Value),BindsTo s fd ⟨[u],[]⟩ [(x,u)])
  (hsp:∀ H:Hp,bh3 H->SqL K H a (ns.map V.int)->sp [.ref a] H (λv _=>v=.bl true) λ_ _ _=>False)
  (hCX:∀ H e s',CX [] H s₁ (λ_ _ _=>False) e s'->False) :
  codeAny (model P w) callerA (.call (.ref fa) ⟨[.ref a],[]⟩) (λr s'=>r=.ok (.ret (.bool true))/\OldK s₁.heap s'.heap/\s'.os=s₁.os/\AllBare s'.gens) s₁:=by
 have rv:=ax0 hi;have lenV:=hi.length
 -- from an abstract heap in which nothing but the script may be tracked
 have core:∀ H:Hp,bh3 H->SqL K H a (ns.map V.int)->HOk P w H s₁.heap->(∀ b,H b ≠ none->b=a)->(H a ≠ none->K.lookup a=none) ->
   codeAny (model P w) callerA (.call (.ref fa) ⟨[.ref a],[]⟩) (λr s'=>r=.ok (.ret (.bool true))/\OldK s₁.heap s'.heap/\s'.os=s₁.os/\AllBare s'.gens) s₁:=by
  intro H hO hS hok hA hK;have base_of:∀ {b:Addr} {o:Obj},s₁.heap.get? b=some o->H b=none->(aD2 s₁.heap H).get? b=some o:=λe n=>aW2 e n
  have noA:∀ {b:Addr} {o:Obj} {es:Array DictEntry} {ep:Nat},s₁.heap.get? b=some o->o.data=.dict es ep->H b=none:=fun {b o es ep} e d=>by
   cases q:H b with
   | none=>rfl
   | some u =>
    have e':b=a:=hA b (by rw [q];simp)
    subst e';rw [ha] at e;cases e;have d':Data.seq vs.toArray _=Data.dict es ep:=d
    cases d'
  have nsK:∀ {b:Addr} {m:Str->Option Value},s₁.heap.Ns b m->(aD2 s₁.heap H).Ns b m:=fun {b m} ⟨o,es,ep,e,d,r⟩=>⟨o,es,ep,base_of e (noA e d),d,r⟩
  have hKb:K.In (aD2 s₁.heap H):=λb o e=>base_of (KX b o e) (by
   cases q:H b with
   | none=>rfl
   | some u =>
    have e':b=a:=hA b (by rw [q];simp)
    subst e';rw [hK (by rw [q];simp)] at e;cases e)
  have hM:Mod K mg (aD2 s₁.heap H):=⟨hKb,nsK hns,⟨mb,nsK hb,hbb⟩,let ⟨mc,h1,h2⟩:=hlim;⟨mc,nsK h1,h2⟩⟩;have e0:aY2 P w K mg (aD2 s₁.heap H) callerA [] s₁ H:=⟨rfl,hM,λb o e=>aZ7 e,Nat.le_of_eq (aQ5 _ _),trivial,λb hb=>absurd (show b ∈ ([]:List Addr) from hb) (by simp),hok,.of_eq hg⟩
  refine codeAny_mono ((F _ hKb (nsK hns)).run callerA [] s₁ H ⟨[.ref a],[]⟩ [.ref a] [.ref a] _ _ hr e0 (hbind s₁ (.ref a)) (.cons rfl .nil) (hsp H hO hS)) λr s' h=>?_
  cases r with
  | error e=>exact (hCX H e s' h).elim
  | ok fl =>
   cases fl with
   | next=>exact False.elim h
   | brk=>exact False.elim h
   | cont=>exact False.elim h
   | ret u =>
    obtain ⟨v,H',os,bare,un,hok',r',q⟩:=h;have q':v=.bl true:=q;subst q';obtain rfl:u=Value.bool true:=r';refine ⟨rfl,OldK.of_keep λb o e=>?_,os,bare⟩
    cases q:H b with
    | none=>exact un.keep b o e q (by intro z;exact absurd (show b ∈ ([]:List Addr) from z) (by simp)) (by simp)
    | some u =>
     rcases hO b with z | ⟨ob,xs,z⟩
     ·rw [q] at z;cases z
     ·have z2:=un.frzs b ob _ z
      obtain ⟨e1,_⟩:=hok b _ z;obtain ⟨e2,_⟩:=hok' b _ z2;rw [e] at e1;cases e1;exact e2
 cases hk:K.lookup a with
 | some o =>
  -- the script is one of the module's own objects
  have e:=KX a o hk;rw [ha] at e
  cases e
  refine core (λ_=>none) (λ_=>.inl rfl) (.inr ⟨_,vs.toArray,_,hk,rfl,rfl,rfl,by rw [q0j,lenV];exact hl,by simpa using rv⟩) (λb u z=>by have z':(none:Option HO)=some u:=z;cases z') (λb z=>absurd rfl z) λz=>absurd rfl z
 | none =>
  refine core (λb=>if b=a then some (.frz { cls:=.type "list",data:=.seq vs.toArray } (.lst (ns.map V.int))) else none) (λb=>?_) (.inl (.inr ⟨{ cls:=.type "list",data:=.seq vs.toArray },if_pos rfl⟩)) (λb u z=>?_) (λb z=>?_) λ_=>hk
  ·by_cases hb:b=a
   ·exact .inr ⟨_,_,if_pos hb⟩
   ·exact .inl (if_neg hb)
  ·by_cases hb:b=a
   ·have z':=(if_pos hb).symm.trans z
    cases z'
    subst hb;exact ⟨ha,by rw [q0d];exact hl,vs,_,rv,ha⟩
   ·have z':=(if_neg hb).symm.trans z
    cases z'
  ·by_cases hb:b=a
   ·exact hb
   ·exact absurd (if_neg hb) z
abbrev KOf {K:q0a} {h:Heap} (_:K.In h):q0a:=K
theorem aL1 {l:g0s} {n k:Nat} {q:Program} {loose:List Str} {XP:(Str->Option Value)->Heap->Prop} {YP:World->Heap->Prop} {d:DefRec} {K:Params->q0a} {CX:World->CXT} {sp:World->Sp} {x:Str}
  (hn:l.most=some n) (hn2:n<=sizeLine) (hdf:d.params.defaults=[]) (hr:ac5 k callerA)
  (hY:∀ (w:World) (h:Heap),YP w h->(K w.params).In h)
  (F:∀ (w:World) (mg:Str->Option Value) (fa:Addr) (h:Heap),(K w.params).In h->h.Ns mainGlobals mg->mg d.name=some (.ref fa) ->
   ∃ fd:FuncData,(∀ (s:Shared) (u:Value),BindsTo s fd ⟨[u],[]⟩ [(x,u)]) /\
    ∀ base:Heap,(K w.params).In base->base.Ns mainGlobals mg->af4 l.prog w (K w.params) mg base (CX w) k fa fd [x] (sp w))
  (hsp:∀ (w:World) (H:Hp) (a:Addr) (ns:List Int),ns.length<=n->bh3 H->SqL (K w.params) H a (ns.map V.int)->sp w [.ref a] H (λv _=>v=.bl true) λ_ _ _=>False)
  (hCX:∀ (w:World) (H:Hp) (s:Shared) (e:Value) (s':Shared),CX w [] H s (λ_ _ _=>False) e s'->False) :
  PySem.W.WalkO q loose XP YP l.row.toRowW d [] (λf vs=>PySem.call f vs):=by
 refine Att.attach_call hn hdf λw s₀ s₁ mg mb fa o pm cd doc a vs ns G Y ho hd hcd hmg hobj hints hlen hg=>?_;have KX:=hY w _ Y;obtain ⟨fd,hb,hF⟩:=F w mg fa _ KX G.T.g hmg;exact aV5 KX G.T.g G.T.b G.T.builtins G.T.nolimit hg hobj hints (z0d hlen hn2) hr hF hb (λH hO hS=>hsp w H a ns hlen hO hS) λH e s'=>hCX w H s₁ e s'
end L2
namespace L2
open PySem PySem.Spec PyProof.Rows
def ag2 (s:Stmt):Arguments:=match s with
 | .FunctionDef _ a _ _ _ _ _ _ _ _=>a
 | _=>{ posonlyargs:=[],args:=[],vararg:=none,kwonlyargs:=[],kw_defaults:=[],kwarg:=none,defaults:=[] }
def Y9 (s:Stmt):List Stmt:=match s with
 | .FunctionDef _ _ b _ _ _ _ _ _ _=>b
 | _=>[]
def c9 (s:Stmt):Scope:=match s with
 | .FunctionDef _ _ _ _ _ _ sc _ _ _=>sc
 | _=>{ kind:=.function,names:=[],isGenerator:=false,isCoroutine:=false }
abbrev CX0:CXT:=λ_ _ _ _ _ _=>False
abbrev E0:XK:=λ_ _ _=>False
theorem f9 {X:Cx}:aE2 CX0 X E0:=λ_ _ _ _ _ _ _ h=>h.elim
structure Fun (K:q0a) (x qual:Str) (st:Stmt) (f:Addr) (fd:FuncData):Prop where
 ex:∃ (oc:Value) (od:Option Addr) (kV doc pm:Value) (an:Option Addr) (cdv ct:Value) (osl:Array (Option Value)),
  fd=y0r x qual (ag2 st) (Y9 st) (c9 st) .none kV doc pm an cdv ct/\K.lookup f=some ⟨oc,od,.func fd,osl⟩/\m0h K cdv qual=true
 kp:y0e K (.ref f)=true
section
variable {P:Program} {w:World} {K:q0a} {mg:Str->Option Value} {base:Heap}
theorem Fun.ok {x qual:Str} {st:Stmt} {f:Addr} {fd:FuncData} {N ps:List Str} {k:Nat} {sp:Sp} (F:Fun K x qual st f fd) (S:i7 N ps (c9 st)) (len:∀ vs H Q E,sp vs H Q E->vs.length=ps.length)
  (hbody:∀ (cdv:Value) (A:Around) (outer:List Env) (s:Shared) (H:Hp) (vs:List V) (Q:VK) (E:XK),ac5 k (A.deeper (envOfC qual (c9 st) s.heap.objs.size f cdv))->sp vs H Q E ->
   ∃ t,PSs (Z6 CX0 P w K mg base N qual (c9 st) f cdv A outer s H E).nox (Y9 st) t/\t { nx:=λ_ H'=>Q .non H',rt:=Q } (start N vs) H):af4 P w K mg base CX0 (k+1) f fd ps sp:=by
 obtain ⟨oc,od,kV,doc,pm,an,cdv,ct,osl,rfl,lk,hcd⟩:=F.ex;refine bi6 lk hcd S len λA outer s H vs Q E hr hsp=>?_;obtain ⟨t,h,q⟩:=hbody cdv A outer s H vs Q E hr hsp;exact ⟨t,h.nox,q⟩
theorem Fun.binds {x qual:Str} {st:Stmt} {f:Addr} {fd:FuncData} {ps:List Str} (F:Fun K x qual st f fd)
  (h:∀ (kV doc pm:Value) (an:Option Addr) (cdv ct:Value) (us:List Value),us.length=ps.length->bindArgs (y0r x qual (ag2 st) (Y9 st) (c9 st) .none kV doc pm an cdv ct) ⟨us,[]⟩=pure (ps.zip us)):an6 K fd ps []:=by
 obtain ⟨oc,od,kV,doc,pm,an,cdv,ct,osl,rfl,lk,hcd⟩:=F.ex;exact .all (h kV doc pm an cdv ct)
theorem bf8 {x qual:Str} {st:Stmt} {f:Addr} {oc:Value} {od an:Option Addr} {osl:Array (Option Value)} {kV doc pm cdv ct:Value} (l:K.lookup f=some ⟨oc,od,.func (y0r x qual (ag2 st) (Y9 st) (c9 st) .none kV doc pm an cdv ct),osl⟩)
  (c:m0h K cdv qual=true) (k:y0e K (.ref f)=true):Fun K x qual st f (y0r x qual (ag2 st) (Y9 st) (c9 st) .none kV doc pm an cdv ct):=⟨⟨oc,od,kV,doc,pm,an,cdv,ct,osl,rfl,l,c⟩,k⟩
end
section
variable {X:Cx}
theorem pv (i : Nat) {x : Str} {pos : Pos} (hN : X.N[i]? = some x := by rfl) (hv : Vis X.env.scope x := by first | exact Or.inl rfl | exact Or.inr (Or.inl rfl) | exact Or.inr (Or.inr rfl)) (hd : (x == ("__debug__" : Str)) = false := by decide)
    (hcd:(x == ("__classdict__" : Str))=false:=by decide):PE X (.Name x pos) (B3 i):=be4 hN hv hd hcd
end
theorem bk7 {A B:Prop} (h:A):if true=true then A else B:=by
 rw [if_pos rfl];exact h
theorem F2 {c A B:Prop} [Decidable c] (h1:c->A) (h2:¬ c->B):if c then A else B:=by
 by_cases h:c
 ·rw [if_pos h]
  exact h1 h
 ·rw [if_neg h]
  exact h2 h
def c7 (H H':Hp):Prop:=∀ b o,H b=some o->H' b=some o
theorem c7.refl (H:Hp):c7 H H:=λ_ _ h=>h
theorem c7.trans {H H1 H2:Hp} (a:c7 H H1) (b:c7 H1 H2):c7 H H2:=λc o h=>b c o (a c o h)
theorem c7.free {H H':Hp} (e:c7 H H') {l:Addr} (h:H' l=Option.none):H l=Option.none:=by
 cases q:H l with
 | none=>rfl
 | some o =>
  rw [e l o q] at h
  cases h
theorem c7.seq {K:q0a} {H H':Hp} {a:Addr} {xs:List V} (e:c7 H H') (h:SqL K H a xs):SqL K H' a xs:=by
 rcases h with (h | ⟨o,h⟩) | h
 ·exact .inl (.inl (e _ _ h))
 ·exact .inl (.inr ⟨o,e _ _ h⟩)
 ·exact .inr h
def CXR (P:Program) (w:World):CXT:=λouter H s E e s' => ∃ (a:Addr) (cls a0:Value) (H':Hp) (B:Heap),e=.ref a/\s'.os=s.os/\AllBare s'.gens /\
 Heap.FlyingW B outer a cls a0 s'.heap/\(∀ b o,s.heap.get? b=some o->H b=none->b ∉ frs outer->B.get? b=some o)/\(∀ b o,s.heap.get? b=some o->b ∉ frs outer->∃ o',B.get? b=some o') /\
 HOk P w H' B/\Un (frs outer) [] H H' s.heap s'.heap/\H' a=none/\E cls none H'
structure bl4 (K:q0a) (C:Addr) (bm:List Value) (newId:String):Prop where
 ok:PySem.W.excIn K C bm newId=true
section
variable {X:Cx} {pins:List (Addr × Obj)} {σ:St} {H H':Hp} {s s':Shared}
def Exc (cls:Value) (a:Addr):HO:=.ext λh => ∃ o vs,h.get? a=some o/\o.cls=cls/\o.data=.fields vs
end
abbrev Cx.body (X:Cx) (xe:Value->Shared->Prop) (pn:List (Addr × Obj)):Cx:={ X with xe:=xe,pn:=pn }
abbrev Cx.suite (X:Cx) (a:Addr):Cx:={ X with A:=X.A.mark (some (.ref a)),calm:=false,xe:=λ_ _=>False }
structure bj6 (k:Nat) (A:Around):Prop where
 dp:A.depth+3*k+5<recursionLimit
 un:A.units+16*k+200<cLine
structure bj9 (P:Program) (w:World) (K:q0a) (mg:Str->Option Value) (base:Heap) (k:Nat) (f:Addr) (fd:FuncData) (ps:List Str) (sp:Sp):Prop where
 len:∀ vs H Q E,sp vs H Q E->vs.length=ps.length
 run:∀ (A:Around) (outer:List Env) (s:Shared) (H:Hp) (args:Args) (us:List Value) (vs:List V) (Q:VK) (E:XK),bj6 k A->aY2 P w K mg base A outer s H->BindsTo s fd args (ps.zip us)->m6 vs us->sp vs H Q E ->
  codeAny (model P w) A (.call (.ref f) args) (CR CX0 outer P w H s Q E) s
section
variable {X:Cx} {CX:CXT} {k:Nat} {f:Addr} {fd:FuncData} {ps:List Str} {sp:Sp} {E:XK} {x:Str} {p pos:Pos} {e:Expr} {es:List Expr} {t:TA}
structure FnV (P:Program) (w:World) (K:q0a) (mg:Str->Option Value) (base:Heap) (k:Nat) (f:Addr) (sp:Sp):Prop where
 ex:∃ fd ps,af4 P w K mg base (CXR P w) k f fd ps sp/\an6 K fd ps []
 kp:y0e K (.ref f)=true
end
end L2
-- the class of an exception,isinstance,great numbers
set_option maxRecDepth 100000
namespace L2
open PySem PySem.W PySem.Spec PyProof.Rows Builtin Builtin.ObjectAttr Builtin.Getset_descriptor
section
variable {prog:Program} {w:World} {A:Around} {E:Value->Shared->Prop} {s:Shared} {K:Frag} {a C:Addr} {o:Obj}
theorem aw7 {R:Result->Shared->Prop} {tp:Value} (X:K.In s.heap) (hx:s.heap.get? a=some o) (hc:o.cls=.ref C) (hm:mroIn K C (.type "object")=some true)
  (h:R (.ok (.ret (.ref C))) s):codeAny (model prog w) A (.call (.builtin "getset_descriptor.__get__") ⟨[.builtin "object.__class__",.ref a,tp],[]⟩) R s:=by
 obtain ⟨hh,g,dr,t,os⟩:=s;have L0:Looks (model prog w) hh (typeOf (.ref a)) (.ref C):=hc ▸ (Looks.ld hx).andThen .now;have L1:=looks_mroIn (M:=model prog w) X hm;refine codeAny_call_builtin KF.slot_gs.plain KF.entry_gs (KF.slot_gs.check _ _ _ _ _ _ _ _ KF.type_class (KF.args_gs _ _ _) ?_);unfold Builtin.«getset_descriptor.__get__» descrGet;rw [dga_obj];refine wpAny_bind (wpAny_pure ?_);unfold descrGetter descrCheckInstance descrNameAndClass isInstance;simp only [KF.owner_class]
 repeat lk
 refine ⟨Code.quiet_builtin _ (by decide +kernel),codeAny_builtin KF.entry_class ?_⟩
 unfold Builtin.«object.__class__» shownTypeOf
 repeat lk
 exact h
theorem aQ8 {tk:Tok} {Q:Fin->Shared->Prop} (X:K.In s.heap) (hx:s.heap.get? a=some o) (hc:o.cls=.ref C) (g3:findIn K (.ref C) "__class__" = some (some (.builtin "object.__class__"))) (hm:mroIn K C (.type "object")=some true)
  (hq:Q (.done (.ret (.ref C))) s):wpAny (model prog w) A (Builtin.«object.__getattribute__» ⟨[.ref a,.str "__class__" tk],[]⟩) Q E s:=by
 obtain ⟨hh,g,dr,t,os⟩:=s;have L0:Looks (model prog w) hh (typeOf (.ref a)) (.ref C):=hc ▸ (Looks.ld hx).andThen .now;have L1:=looks_findIn (M:=model prog w) X g3;have f5:typeOf (.builtin "object.__class__")=pure (.type "getset_descriptor"):=KF.type_class
 have f6:=F.slot_gs_get.lookup;have f7:=F.slot_gs_set.lookup
 repeat (any_goals (first | assumption | (with_reducible refine wpAny_loadPart_at hx ?_;rw [hc]) | with_reducible refine L1.at ?_ | wp_step))
 refine aw7 X hx hc hm ?_
 repeat (any_goals (first | assumption | wp_step))
theorem aR0 {M:Model} {nameV:Value} {Q:Unit->Shared->Prop} (X:K.In s.heap) (hx:s.heap.get? a=some o) (hc:o.cls=.ref C) (hmB:mroIn K C (.type "BaseException")=some true) (hq:Q () s) :
  wpAny M A (checkBuiltinCall "BaseException.__getattribute__" ⟨[.ref a,nameV],[]⟩) Q E s:=by
 obtain ⟨hh,g,d,t,os⟩:=s;have L3:=looks_mroIn (M:=M) X hmB;have hk:builtinKind "BaseException.__getattribute__" = some .slot:=by decide +kernel
 have hsplit:splitId "BaseException.__getattribute__" = some ("BaseException","__getattribute__"):=by decide +kernel
 have ha:=F.args_bexc_ga (.ref a) nameV;simp only [checkBuiltinCall,hk,hsplit];refine wpAny_bind ?_
 ·unfold isInstance
  repeat (first | (with_reducible refine wpAny_loadPart_at hx ?_;rw [hc]) | with_reducible refine L3.at ?_ | wp_step)
  exact hq
theorem aQ9 {Q:Option Value->Shared->Prop} (X:K.In s.heap) (hx:s.heap.get? a=some o) (hc:o.cls=.ref C) (g1:findIn K (.ref C) "__getattribute__" = some (some (.builtin "BaseException.__getattribute__"))) (g2:findIn K (.ref C) "__getattr__" = some none)
  (g3:findIn K (.ref C) "__class__" = some (some (.builtin "object.__class__"))) (hm:mroIn K C (.type "object")=some true) (hmB:mroIn K C (.type "BaseException")=some true) 
  (h:Q (some (.ref C)) { s with toks:=s.toks+1 }):wpAny (model prog w) A (getAttr? (.ref a) "__class__") Q E s:=by
 obtain ⟨hh,g,d,t,os⟩:=s;have L0:Looks (model prog w) hh (typeOf (.ref a)) (.ref C):=hc ▸ (Looks.ld hx).andThen .now;have L1:=looks_findIn (M:=model prog w) X g1;have L2:=looks_findIn (M:=model prog w) X g2;have L3:=looks_mroIn (M:=model prog w) X hmB;unfold getAttr? getAttrBy? getAttrBy;refine wpAny_bind (wpAny_mkText (wpAny_bind (wpAny_attempt (wpAny_holding (wpAny_bind (L0.at (wpAny_bind (L1.at ?_))))))));have hx2:(Value.builtin "BaseException.__getattribute__" == Value.builtin "object.__getattribute__")=false:=by decide +kernel
 have hx1:(onTheHeap (Value.ref C) && Value.builtin "BaseException.__getattribute__" == Value.builtin "object.__getattribute__")=false:=by rw [hx2];rfl
 show wpAny _ _ (if (onTheHeap (Value.ref C) && Value.builtin "BaseException.__getattribute__" == Value.builtin "object.__getattribute__")=true then _ else _) _ _ _
 rw [if_neg (by rw [hx1];decide)]
 have f3:=PySem.F.attr_ValueError.ga.bind (.ref a);have hx0:(false && onTheHeap (Value.builtin "BaseException.__getattribute__"))=false:=rfl
 unfold getAttrByItsOwn hookBefore
 repeat (any_goals (first | assumption | (with_reducible refine wpAny_loadPart_at hx ?_;rw [hc]) | with_reducible refine L1.at ?_ | with_reducible refine L2.at ?_ | wp_step))
 refine codeAny_call_builtin PySem.F.attr_ValueError.ga.plain F.entry_bexc_ga (aR0 X hx hc hmB (aQ8 X hx hc g3 hm ?_))
 dsimp only
 unfold handedOut;exact wpAny_pure (wpAny_pure h)
structure aE3 (K:Frag) (C:Addr):Prop where
 cl:(clsIn K C).isSome=true
 g1:findIn K (.ref C) "__getattribute__" = some (some (.builtin "BaseException.__getattribute__"))
 g2:findIn K (.ref C) "__getattr__" = some none
 g3:findIn K (.ref C) "__class__" = some (some (.builtin "object.__class__"))
 hm:mroIn K C (.type "object")=some true
 hB:mroIn K C (.type "BaseException")=some true
theorem aV6 (c:aE3 K C):KitX K (.ref a) (.ref C) (λh => ∃ o,h.get? a=some o/\o.cls=.ref C) where
 ty:=λ_ _ _ ⟨o,hx,hc⟩=>hc ▸ (Looks.ld hx).andThen .now
 it:=λ_ _ X _=>by
  obtain ⟨cdD,hcD⟩:=v0v.mp c.cl;unfold clsIn at hcD
  split at hcD
  ·rename_i c' d' cd' sl' ho
   intro A' Q' E' s' k q;unfold isType loadHead;exact wpAny_bind (wpAny_loadPart (k _ _ (X _ _ ho)) (wpAny_pure q))
  ·cases hcD
 ne:=λh tp dd its n sl X htp=>by
  obtain ⟨cdD,hcD⟩:=v0v.mp c.cl;refine Bool.eq_false_iff.mpr λq=>?_;have e:C=tp:=Value.ref.inj (beq_iff_eq.mp q);subst e;unfold clsIn at hcD
  split at hcD
  ·rename_i c' d' cd' sl' ho
   have z:=(X _ _ ho).symm.trans htp
   cases z
  ·cases hcD
 ca:=λX ⟨o,hx,hc⟩ k=>aQ9 X hx hc c.g1 c.g2 c.g3 c.hm c.hB k
end
section
variable {X:Cx}
def bj3:V->Value
 | .ty n=>.type n
 | .ref a=>.ref a
 | _=>.none
def isC:V->Prop
 | .ty _=>True
 | .ref _=>True
 | _=>False
inductive TyX (K:Frag) (H:Hp):V->Value->Prop where
 | of {x:V} {t:Value} (h:ao8 K H x t):TyX K H x t
 | exc {a C:Addr} (e:H a=some (Exc (.ref C) a)) (c:aE3 K C):TyX K H (.ref a) (.ref C)
 | sqt {a:Addr} {xs:List V} (h:SqT K H a xs):TyX K H (.ref a) (.type "tuple")
 | sql {a:Addr} {xs:List V} (h:SqL K H a xs):TyX K H (.ref a) (.type "list")
def aj7 (K:Frag):List V->Hp->VK->Prop:=λxs H Q => ∃ x c t b,xs=[x,c]/\isC c/\TyX K H x t/\kitOne K t (bj3 c)=some b/\Q (.bl b) H
theorem R0:X3 X (.builtin "isinstance") (aj7 X.K):=by
 intro pins s σ H us vs Q I r h;obtain ⟨x,c,t,b,rfl,ic,ty,e,q⟩:=h;obtain ⟨u,cu,rfl,rx,rc⟩:=m6.two r
 have ec:cu=bj3 c:=by
  cases c with
  | ty n=>exact rc
  | ref a=>exact rc
  | _=>exact False.elim ic
 subst ec;have fin:∀ tk,EP X pins σ Q (.bool b) { s with toks:=tk }:=λtk=>⟨.bl b,H,I.tok tk,rfl,q⟩
 cases ty with
 | of ty=>exact aQ2 I rx ty e fin
 | @exc a C ea cl =>
  cases (show u=Value.ref a from rx)
  obtain ⟨⟨o,_,h1,h2,_⟩,_⟩:=(show K1 X.prog X.w H s.heap a (Exc (.ref C) a) from I.hok a _ ea);exact kia_one (aV6 cl) I.kIn ⟨o,h1,h2⟩ e (λz=>nomatch z) fin
 | @sqt a xs h =>
  cases (show u=Value.ref a from rx)
  obtain ⟨_,_,⟨o,h1,h2,_⟩,_⟩:=I.tuple h;exact kia_one kitx_tuple I.kIn ⟨o,h1,h2⟩ e (λz=>nomatch z) fin
 | @sql a xs h =>
  cases (show u=Value.ref a from rx)
  obtain ⟨_,_,⟨o,n,h1,h2,_⟩,_⟩:=I.list h;exact kia_one kitx_list I.kIn ⟨o,h1,h2⟩ e (λz=>nomatch z) fin
theorem p7:OpR X (binaryOp .Mult) (rI IntMulOk λi j=>.int (i*j)):=opI λ_ _ _ _ _ _ _ hc q=>mul_int q hc
def av7 (_ j:Int):Prop:=j ≠ 0/\j.natAbs.log2<9000
theorem E2:OpR X (binaryOp .FloorDiv) (rI av7 λi j=>.int (i.fdiv j)):=opI λ_ _ _ _ _ _ _ hc q=>floordiv_int hc.1 q (.inl (PyProof.noPylong_of_log2 hc.2))
end
open PySem PySem.Spec PyProof.Rows
inductive D where
 | v (x:V)
 | tup (ds:List D)
 | lst (ds:List D)
mutual
def eqD:D->D->Bool
 | .v x,.v y=>eqV x y
 | .tup a,.tup b=>K3 a b
 | .lst a,.lst b=>K3 a b
 | _,_=>false
def K3:List D->List D->Bool
 | [],[]=>true
 | x :: xs,y :: ys=>eqD x y && K3 xs ys
 | _,_=>false
end
mutual
def okD:D->D->Bool
 | .v _,.v _=>true
 | .tup a,.tup b=>ad2 a b
 | .lst a,.lst b=>ad2 a b
 | _,_=>false
def ad2:List D->List D->Bool
 | x :: xs,y :: ys=>okD x y && ad2 xs ys
 | _,_=>true
end
mutual
def dpD:D->Nat
 | .v _=>0
 | .tup a=>ao7 a+1
 | .lst a=>ao7 a+1
def ao7:List D->Nat
 | []=>0
 | x :: xs=>max (dpD x) (ao7 xs)
end
mutual
inductive IsD (K:q0a) (H:Hp):V->D->Prop where
 | v {x:V} (f:aM5 x=true):IsD K H x (.v x)
 | tup {p:Addr} {xs:List V} {ds:List D} (h:SqT K H p xs) (t:af3 K H xs ds):IsD K H (.ref p) (.tup ds)
 | lst {p:Addr} {xs:List V} {ds:List D} (h:SqL K H p xs) (t:af3 K H xs ds):IsD K H (.ref p) (.lst ds)
inductive af3 (K:q0a) (H:Hp):List V->List D->Prop where
 | nil:af3 K H [] []
 | cons {x:V} {xs:List V} {d:D} {ds:List D} (h:IsD K H x d) (t:af3 K H xs ds):af3 K H (x :: xs) (d :: ds)
end
theorem af3.length {K:q0a} {H:Hp}:∀ {xs:List V} {ds:List D},af3 K H xs ds->xs.length=ds.length
 | _,_,.nil=>rfl
 | _,_,.cons _ t=>congrArg (· + 1) t.length
theorem aW9:∀ {x:V},aM5 x=true->eqV x x=true
 | .non,_=>rfl
 | .bl a,_=>by simp [eqV]
 | .int a,_=>by simp [eqV]
 | .str a,_=>by simp [eqV]
 | .byt _,h=>absurd (show false=true from h) q0r
 | .flt _,h=>absurd (show false=true from h) q0r
 | .ref _,h=>absurd (show false=true from h) q0r
 | .ty _,h=>absurd (show false=true from h) q0r
section
variable {X:Cx} {pins:List (Addr × Obj)} {σ:St} {H:Hp} {s:Shared}
mutual
theorem au9 (I:Inv X pins σ H s):∀ {x:V} {d d':D},IsD X.K H x d->IsD X.K H x d'->okD d d'=true->eqD d d'=true
 | _,_,_,.v f,b,_=>by
  cases b with
  | v _=>rw [eqD];exact aW9 f
  | tup _ _=>exact absurd (show false=true from f) q0r
  | lst _ _=>exact absurd (show false=true from f) q0r
 | _,_,_,.tup h t,b,ok=>by
  cases b with
  | v f=>exact absurd (show false=true from f) q0r
  | tup h' t' =>
   have e:=I.tuple_inj h h';subst e;rw [eqD];rw [okD] at ok;exact ao6 I t t' ok
  | lst _ _=>simp [okD] at ok
 | _,_,_,.lst h t,b,ok=>by
  cases b with
  | v f=>exact absurd (show false=true from f) q0r
  | tup _ _=>simp [okD] at ok
  | lst h' t' =>
   have e:=I.list_inj h h';subst e;rw [eqD];rw [okD] at ok;exact ao6 I t t' ok
theorem ao6 (I:Inv X pins σ H s):∀ {xs:List V} {ds ds':List D},af3 X.K H xs ds->af3 X.K H xs ds'->ad2 ds ds'=true->K3 ds ds'=true
 | _,_,_,.nil,b,_=>by cases b;rw [K3]
 | _,_,_,.cons h t,b,ok=>by
  cases b with
  | cons h' t' =>
   rw [ad2,y0f] at ok;rw [K3,au9 I h h' ok.1,ao6 I t t' ok.2];rfl
end
def ae8 (ds ds':List D) (j:Nat):Bool:=match ds[j]?,ds'[j]? with
 | some d,some d'=>eqD d d'
 | _,_=>true
theorem af1 (n:Nat) (e:Nat->Bool):(z0q (n+1)).all e=(e 0 && (z0q n).all λj=>e (j+1)):=by
 rw [m0a,List.all_cons,List.all_map];rfl
theorem ag5:∀ (ds ds':List D),((z0q (min ds.length ds'.length)).all (ae8 ds ds') && ds.length == ds'.length)=K3 ds ds'
 | [],[]=>by rw [K3];rfl
 | [],_ :: _=>by simp [K3]
 | _ :: _,[]=>by simp [K3]
 | x :: xs,y :: ys=>by
  have ih:=ag5 xs ys;rw [K3,<- ih];have e1:min (x :: xs).length (y :: ys).length=min xs.length ys.length+1:=by simp only [z0n];omega
  rw [e1,af1]
  have e2:((x :: xs).length == (y :: ys).length)=(xs.length == ys.length):=by
   by_cases h:xs.length=ys.length <;> simp [h]
  rw [e2,Bool.and_assoc];rfl
theorem ai2 (ds ds':List D) (h:ds.length=ds'.length):(z0q ds.length).all (ae8 ds ds')=K3 ds ds':=by
 rw [<- ag5,<- h,Nat.min_self];simp
theorem au8:∀ (ds ds':List D),ds.length ≠ ds'.length->K3 ds ds'=false
 | [],[],h=>absurd rfl h
 | [],_ :: _,_=>by simp [K3]
 | _ :: _,[],_=>by simp [K3]
 | x :: xs,y :: ys,h=>by
  rw [K3,au8 xs ys (λe=>h (by simp [e]))];simp
theorem ax5 (I:Inv X pins σ H s) {p p':Addr} {xs ys:List V} {ds ds':List D} {A:Around} (h:SqT X.K H p xs) (t:af3 X.K H xs ds) (h':SqT X.K H p' ys) (t':af3 X.K H ys ds') (hu:A.units<cLine)
  (q:∀ {us vs:List Value},m6 xs us->m6 ys vs->∀ (j:Nat) (h1:j<us.length) (h2:j<vs.length),SeqAt.EqAt A.in1 s us[j] vs[j] (ae8 ds ds' j)):SeqAt.RcAt A s (.ref p) (.ref p') (K3 ds ds'):=by
  obtain ⟨its,r1,i1,_⟩:=I.tuple h;obtain ⟨its',r2,i2,_⟩:=I.tuple h';have z:=SeqAt.RcAt.tuples (A:=A) (items:=its.toArray) (items2:=its'.toArray) (e:=ae8 ds ds') i1 i2 hu (λj h1 h2=>q r1 r2 j (by simpa using h1) (by simpa using h2))
  have e1:its.toArray.size=ds.length:=by rw [q0j,<- r1.length,t.length]
  have e2:its'.toArray.size=ds'.length:=by rw [q0j,<- r2.length,t'.length]
  rw [e1,e2,ag5] at z;exact z
theorem ax6 (I:Inv X pins σ H s) {p p':Addr} {xs ys:List V} {ds ds':List D} {A:Around} (h:SqL X.K H p xs) (t:af3 X.K H xs ds) (h':SqL X.K H p' ys) (t':af3 X.K H ys ds') (hu:A.units<cLine)
  (q:∀ {us vs:List Value},m6 xs us->m6 ys vs->∀ (j:Nat) (h1:j<us.length) (h2:j<vs.length),SeqAt.EqAt A.in1 s us[j] vs[j] (ae8 ds ds' j)):SeqAt.RcAt A s (.ref p) (.ref p') (K3 ds ds'):=by
  obtain ⟨its,r1,i1,_⟩:=I.list h;obtain ⟨its',r2,i2,_⟩:=I.list h';have e1:its.toArray.size=ds.length:=by rw [q0j,<- r1.length,t.length]
  have e2:its'.toArray.size=ds'.length:=by rw [q0j,<- r2.length,t'.length]
  by_cases hl:ds.length=ds'.length
  ·have z:=SeqAt.RcAt.lists (A:=A) (items:=its.toArray) (items2:=its'.toArray) (e:=ae8 ds ds') i1.isList i2.isList (by rw [e1,e2,hl]) hu (λj h1 h2=>q r1 r2 j (by simpa using h1) (by simpa using h2))
   rw [e1,ai2 ds ds' hl] at z;exact z
  ·rw [au8 ds ds' hl]
   exact SeqAt.RcAt.lists_lengths i1.isList i2.isList (by rw [e1,e2];simpa using hl) hu
mutual
theorem bg0 (I:Inv X pins σ H s):∀ {x y:V} {d d':D} {u v:Value} {A:Around},IsD X.K H x d->IsD X.K H y d'->okD d d'=true->A9 x u->A9 y v->A.units+dpD d<cLine->SeqAt.EqAt A s u v (eqD d d')
 | _,_,_,_,_,_,_,.v f,b,ok,r,r',_=>by
  cases b with
  | v f'=>rw [eqD];exact bf9 r r' f f'
  | tup _ _=>simp [okD] at ok
  | lst _ _=>simp [okD] at ok
 | _,_,_,_,u,v,A,.tup (p:=p) h t,b,ok,r,r',hu=>by
  cases b with
  | v _=>simp [okD] at ok
  | @tup p' _ _ h' t' =>
   cases (show u=Value.ref p from r)
   cases (show v=Value.ref p' from r')
   by_cases hp:p=p'
   ·subst hp
    rw [au9 I (.tup h t) (.tup h' t') ok];exact SeqAt.EqAt.same _
   ·rw [okD] at ok
    rw [dpD] at hu;rw [eqD];exact SeqAt.EqAt.of_refs hp (ax5 I h t h' t' ⋯ λr1 r2 j h1 h2=>ac3 (A:=A.in1) I t t' ok r1 r2 (by show A.units+1+_<_;omega) j h1 h2)
  | lst _ _=>simp [okD] at ok
 | _,_,_,_,u,v,A,.lst (p:=p) h t,b,ok,r,r',hu=>by
  cases b with
  | v _=>simp [okD] at ok
  | tup _ _=>simp [okD] at ok
  | @lst p' _ _ h' t' =>
   cases (show u=Value.ref p from r)
   cases (show v=Value.ref p' from r')
   by_cases hp:p=p'
   ·subst hp
    rw [au9 I (.lst h t) (.lst h' t') ok];exact SeqAt.EqAt.same _
   ·rw [okD] at ok
    rw [dpD] at hu;rw [eqD];exact SeqAt.EqAt.of_refs hp (ax6 I h t h' t' ⋯ λr1 r2 j h1 h2=>ac3 (A:=A.in1) I t t' ok r1 r2 (by show A.units+1+_<_;omega) j h1 h2)
theorem ac3 (I:Inv X pins σ H s):∀ {xs ys:List V} {ds ds':List D} {us vs:List Value} {A:Around},af3 X.K H xs ds->af3 X.K H ys ds'->ad2 ds ds'=true->m6 xs us->m6 ys vs->A.units+ao7 ds<cLine ->
  ∀ (j:Nat) (h1:j<us.length) (h2:j<vs.length),SeqAt.EqAt A s us[j] vs[j] (ae8 ds ds' j)
 | _,_,_,_,_,_,_,.nil,_,_,r,_,_=>λj h1 _=>by cases r;exact absurd h1 (Nat.not_lt_zero _)
 | _,_,_,_,_,_,A,.cons h t,b,ok,r,r',hu=>λj h1 h2=>by
  cases b with
  | nil=>cases r';exact absurd h2 (Nat.not_lt_zero _)
  | cons h' t' =>
   cases r with
   | cons r rs =>
    cases r' with
    | cons r' rs' =>
     rw [ad2,y0f] at ok;rw [ao7] at hu
     cases j with
     | zero=>exact bg0 I h h' ok.1 r r' ⋯
     | succ j=>exact ac3 I t t' ok.2 rs rs' ⋯ j (by simpa using h1) (by simpa using h2)
end
def D.isV:D->Bool
 | .v _=>true
 | _=>false
def bk4 (K:q0a):R2:=λx y H Q => ∃ d d',d.isV=false/\IsD K H x d/\IsD K H y d'/\okD d d'=true/\dpD d<=60/\Q (.bl (eqD d d')) H
theorem aB7 (hu:X.A.units+64<cLine):OpR X (compareOp .Eq) (bk4 X.K):=by
 intro pins s σ H x y v u Q I rx ry h;obtain ⟨d,d',nf,h1,h2,ok,dp,q⟩:=h;have fin:EP X pins σ Q (.bool (eqD d d')) s:=⟨.bl _,H,I,rfl,q⟩
 cases h1 with
 | v f =>
  cases h2 with
  | v f'=>exact absurd (show true=false from nf) (by decide)
  | tup _ _=>simp [okD] at ok
  | lst _ _=>simp [okD] at ok
 | @tup p xs ds h t =>
  cases h2 with
  | v f'=>simp [okD] at ok
  | @tup p' ys ds' h' t' =>
   cases (show v=Value.ref p from rx)
   cases (show u=Value.ref p' from ry)
   rw [okD] at ok;rw [dpD] at dp;rw [eqD] at fin;exact ax5 I h t h' t' ⋯ (λr1 r2 j h1 h2=>ac3 (A:=X.A.in1) I t t' ok r1 r2 (by show X.A.units+1+_<_;omega) j h1 h2) X.prog X.w X.xe _ fin
  | lst _ _=>simp [okD] at ok
 | @lst p xs ds h t =>
  cases h2 with
  | v f'=>simp [okD] at ok
  | tup _ _=>simp [okD] at ok
  | @lst p' ys ds' h' t' =>
   cases (show v=Value.ref p from rx)
   cases (show u=Value.ref p' from ry)
   rw [okD] at ok;rw [dpD] at dp;rw [eqD] at fin;exact ax6 I h t h' t' ⋯ (λr1 r2 j h1 h2=>ac3 (A:=X.A.in1) I t t' ok r1 r2 (by show X.A.units+1+_<_;omega) j h1 h2) X.prog X.w X.xe _ fin
end
open PySem PySem.Spec PyProof.Rows
section
variable {X:Cx}
def F6:V->List V->Hp->VK->Prop:=λx vs H Q => ∃ i,x=.int i/\vs=[]/\Q (.int (Builtin.Int.intBits i)) H
theorem aa3:MtM X "int.bit_length" F6:=by
 intro pins s σ H x vs v us Q I rx rv h;obtain ⟨i,rfl,rfl,q⟩:=h;obtain ⟨t,rfl⟩:=rx
 cases m6.zero rv
 exact call_int_bit_length ⟨.int _,H,I.tok _,⟨_,rfl⟩,q⟩
end
open PySem PySem.Spec PyProof.Rows
structure Df (K:q0a) (mg:Str->Option Value) (x:Str) (st:Stmt) (ps:List Str) (f:Addr):Prop where
 ex:∃ fd,Fun K x x st f fd/\an6 K fd ps []
 m:mg x=some (.ref f)
structure Def (P:Program) (w:World) (K:q0a) (mg:Str->Option Value) (base:Heap) (CX:CXT) (k:Nat) (x:Str) (f:Addr) (ps:List Str) (sp:Sp):Prop where
 ex:∃ fd,af4 P w K mg base CX k f fd ps sp/\an6 K fd ps []
 m:mg x=some (.ref f)
 kp:y0e K (.ref f)=true
structure DefX (P:Program) (w:World) (K:q0a) (mg:Str->Option Value) (base:Heap) (k:Nat) (x:Str) (f:Addr) (ps:List Str) (sp:Sp):Prop where
 ex:∃ fd,bj9 P w K mg base k f fd ps sp/\an6 K fd ps []
 m:mg x=some (.ref f)
 kp:y0e K (.ref f)=true
section
variable {P:Program} {w:World} {K:q0a} {mg:Str->Option Value} {base:Heap} {k:Nat} {x:Str} {f:Addr} {ps N:List Str} {sp:Sp} {st:Stmt} {CX:CXT}
theorem Df.ok (d:Df K mg x st ps f) (S:i7 N ps (c9 st)) (len:∀ vs H Q E,sp vs H Q E->vs.length=ps.length)
  (hbody:∀ (cdv:Value) (A:Around) (outer:List Env) (s:Shared) (H:Hp) (vs:List V) (Q:VK) (E:XK),ac5 k (A.deeper (envOfC x (c9 st) s.heap.objs.size f cdv))->sp vs H Q E ->
   ∃ t,PSs (Z6 CX0 P w K mg base N x (c9 st) f cdv A outer s H E).nox (Y9 st) t/\t { nx:=λ_ H'=>Q .non H',rt:=Q } (start N vs) H):Def P w K mg base CX0 (k+1) x f ps sp:=by
 obtain ⟨fd,F,b⟩:=d.ex;exact ⟨⟨fd,F.ok S len hbody,b⟩,d.m,F.kp⟩
theorem Def.imp {sp':Sp} (d:Def P w K mg base CX k x f ps sp) (h:∀ vs H Q E,sp' vs H Q E->sp vs H Q E):Def P w K mg base CX k x f ps sp' :=
 let ⟨fd,F,b⟩:=d.ex
 ⟨⟨fd,F.imp h,b⟩,d.m,d.kp⟩
end
section
variable {X:Cx} {CX:CXT} {k j:Nat} {f:Addr} {ps:List Str} {sp:Sp} {E:XK} {x:Str} {p pos:Pos} {e:Expr} {es:List Expr} {t:TA}
def V8 (sp:Sp) (E:XK) (t:TA):TE:=λσ H Q=>t σ H λvs H1=>sp vs H1 Q E
theorem d4 (d : Def X.prog X.w X.K X.mg X.base CX j x f ps sp) (hr : ac5 k X.A) (ha : PA X (e :: es) t) (hx : aE2 CX X E) (hj : j ≤ k := by decide) (hg : Gl X x := by rfl)
    (hdb:(x == ("__debug__" : Str))=false:=by decide) (he:starEach (e :: es) X.env=(false,eval e X.env) :: starEach es X.env:=by rfl) (hpl:(backTo pos (starEach es X.env)).any (·.1)=false:=by rfl) :
    PE X (.Call (.Name x p) (e :: es) [] pos) (V8 sp E t):=by
  obtain ⟨fd,F,b⟩:=d.ex;have z:=aZ3 (E:=E) (es:=es) (e:=e) (p:=p) (pos:=pos) (F.mono hj) hr hg d.m d.kp b .nil hx ha hdb he hpl;intro pins s σ H Q I h;refine z pins s σ H Q I ?_;unfold bb9
  simpa only [List.append_nil,V8] using h
end
theorem c7.new {H:Hp} {p:Addr} (h:H p=none) (o:HO):c7 H (upd H p o):=λb u q=>by rw [g9 (i9 q h)];exact q
theorem c7.tup {K:q0a} {H H':Hp} {a:Addr} {xs:List V} (e:c7 H H') (h:SqT K H a xs):SqT K H' a xs:=by
 rcases h with h | h
 ·rcases h with h | ⟨o,h⟩
  ·exact .inl (.inl (e _ _ h))
  ·exact .inl (.inr ⟨o,e _ _ h⟩)
 ·exact .inr h
open PySem PySem.Spec PyProof.Rows
section
variable {prog:Program} {w:World} {A:Around} {R:Result->Shared->Prop} {s:Shared}
theorem ag3 {elt target iter:Expr} {scope:Scope} {pos:Pos} {it acc:Value} {env:Env} (I:Nat->Shared->Prop)
  (turn:∀ n s,I n s->wpAny (model prog w) A (pyNext it) (λr s₁=>match r with
   | none=>R (.ok .next) s₁
   | some v=>wpAny (model prog w) A (letOwnedTupleGo target it v) (λ_ s₁'=>wpAny (model prog w) A (assign target env v) (λ_ s₂=>wpAny (model prog w) A (eval elt env) (λx s₃ =>
     wpAny (model prog w) A (call (.builtin "list.append") [acc,x]) (λ_ s₄ => ∃ m,m<n/\I m s₄) (λ_ _=>False) s₃)
     (λ_ _=>False) s₂) (λ_ _=>False) s₁') (λ_ _=>False) s₁) (λ_ _=>False) s)
  (n:Nat) (h:I n s) :
  codeAny (model prog w) A (.compLoop (.ListComp elt [⟨target,iter,[],0⟩] scope pos) 0 it acc env) R s:=by
 refine codeAny_loop rfl I (λn s hI=>?_) n h
 show wpAny _ _ ((compTurn (.ListComp elt [⟨target,iter,[],0⟩] scope pos) 0 it acc env).onRaise (λx=>do noteFrame x env;theTreesLotGoes x)) _ _ s
 refine wpAny_noted ?_;rw [compTurn_list1];have no:∀ {P:Value->Shared->Prop} (e:Value) (s:Shared),False->P e s:=λ_ _ h=>h.elim;refine wpAny_bind (wpAny_standAt (wpAny_bind (wpAny_mono (turn n s hI) (λr s₁ h₁=>?_) no)))
 cases r with
 | none=>exact wpAny_pure h₁
 | some v =>
  refine wpAny_bind (wpAny_mono h₁ (λ_ s₁' h₁'=>?_) no)
  exact wpAny_bind (wpAny_mono h₁' (λ_ s₂ h₂=>wpAny_bind (wpAny_bind (wpAny_mono h₂ (λx s₃ h₃=>wpAny_bind (wpAny_mono h₃
   (λ_ s₄ h₄=>wpAny_pure (wpAny_pure ⟨rfl,h₄⟩)) no)) no))) no)
end
abbrev Cx.block (X:Cx) (scope:Scope) (cl:List (Str × Addr)) (C:Addr) (Nc:List Str) (s₂:Shared) (H₂:Hp) (fp:List Addr) (pins:List (Addr × Obj)):Cx :=
 { X with N:=Nc,s₀:=s₂,H₀:=H₂,env:=compEnvC scope cl C X.env,outer:=X.stack,ex:=fp,fn:=λ_=>false,pn:=X.pn ++ pins,xe:=λ_ _=>False }
def x4 (caps:List (Option Nat)) (σ:St):St:=caps.map λo=>o.bind λj=>(σ[j]?).join
def aE6 (wi:TI) (caps:List (Option Nat)) (g:TG) (te:TE):TE:=λσ H Q=>wi σ H λJ H1 => ∀ D,H1 D=none->∃ W:Nat->Nat->St->Hp->Prop,(∃ m,W 0 m (x4 caps σ) (upd H1 D (.lst []))) /\
 ∀ i m σc H2,W i m σc H2->(J.stop i H2/\Q (.ref D) H2) \/
  (J.go i H2/\∀ x H3,J.yld i H2 x H3->g x σc H3 λσ4 H4=>te σ4 H4 λy H5 => ∃ ys,H5 D=some (.lst ys)/\ys.length<sizeLine/\∃ m',m'<m/\W (i+1) m' σ4 (upd H5 D (.lst (ys ++ [y]))))
section
variable {X:Cx}
structure G2 (X:Cx) (scope:Scope) (cl:List (Str × Addr)) (Nc:List Str) (caps:List (Option Nat)):Prop where
 clos:closureFor scope X.env=pure cl
 sub:∀ x c,cl.lookup x=some c->X.env.cells.lookup x=some c
 has:∀ x,(relabel scope X.env).names.lookup x=some .cell \/ (relabel scope X.env).names.lookup x=some .free->∃ c,cl.lookup x=some c
 nocell:∀ x ∈ scope.names,x.2 ≠ .cell
 kind:scope.kind=.function
 names:∀ x ∈ scope.names,x.2=.local->scope.names.lookup x.1=some .local
 len:caps.length=Nc.length
 cap:∀ (i j:Nat) (x:Str),caps[i]? = some (some j)->Nc[i]? = some x->X.N[j]? = some x/\Vis X.env.scope x/\X.env.kindOf x ≠ some .local/\((relabel scope X.env).names.lookup x=some .cell \/ (relabel scope X.env).names.lookup x=some .free)
theorem Inv.sameC {pins:List (Addr × Obj)} {σ:St} {H H':Hp} {s s':Shared} {h'':Heap} {fp:List Addr} {C:Addr} (I:Inv X pins σ H s) (hf:∀ b ∈ fp,ad3 X pins H b) (os:s'.os=s.os) (bare:AllBare s'.gens)
  (un:Un (frs X.stack) fp H H' s.heap s'.heap) (hok:HOk X.prog X.w H' s'.heap) (hC:s.heap.objs.size<=C) (hCn:H' C=none) (sb:v0e C s'.heap h''):Inv X pins σ H' { s' with heap:=h'' }:=by
 have ne:∀ b o,s.heap.get? b=some o->b ≠ C:=λb o e=>q0v (q0b (q0e e) hC);refine I.call' (s':={ s' with heap:=h'' }) (ch:=fp) os ⟨λb o e n h1 h2=>(sb.2 b (ne b o e)).trans (un.keep b o e n h1 h2),λb o e n h1 h2=>?_,un.free,λb o e h2=>?_,un.tups,un.frzs,un.tbls⟩ (λb u e=>?_) bare (λb hb=>?_)
 ·obtain ⟨sl,z⟩:=un.slot b o e n h1 h2
  exact ⟨sl,(sb.2 b (ne b o e)).trans z⟩
 ·obtain ⟨o',z⟩:=un.there b o e h2
  exact ⟨o',(sb.2 b (ne b o e)).trans z⟩
 ·refine (hok b u e).stay (λc v hc q=>(sb.2 c ?_).trans q) (λ_ q=>q) λ_ _ q=>q
  rintro rfl;rcases hc with rfl | hc
  ·rw [hCn] at e;cases e
  ·rw [hCn] at hc;cases hc
 ·obtain ⟨_,f1,_,f3,f4,f5⟩:=hf b hb
  exact ⟨f3,f1,f4,f5⟩
theorem t8 {elt tg iter:Expr} {scope:Scope} {pos:Pos} {cl:List (Str × Addr)} {Nc:List Str} {caps:List (Option Nat)} {wi:TI} {g:TG} {te:TE} (hc:X.calm=true) (cp:G2 X scope cl Nc caps) (hi:PI X tg iter wi)
  (hg:∀ C s₂ H₂ fp pins,PG (X.block scope cl C Nc s₂ H₂ fp pins) tg g) (he:∀ C s₂ H₂ fp pins,PE (X.block scope cl C Nc s₂ H₂ fp pins) elt te) (hs:∀ x,foldedSetIterable iter X.env x=pure x:=by intro _;rfl) :
  PE X (.ListComp elt [⟨tg,iter,[],0⟩] scope pos) (aE6 wi caps g te):=by
 intro pins s σ H Q I h;rw [eval_ListComp];refine wpAny_comprehension_free (use:=none) rfl hs cp.clos cp.kind cp.names ?_;refine thn (hi pins s σ H _ I h) λv s1 h1=>thn h1 λitv s2 h2=>?_;obtain ⟨it,fp,tn,J,H2,e,I2,T,st2,f2,hW⟩:=h2;subst e;refine wpAny_newObj_type ?_ (by show 0<=sizeLine;exact z0u _)
 refine wpAny_newFunctionEnv cp.nocell (by intro y hy;simp at hy) (λh4 hns hsb=>?_) cp.kind
 dsimp only at hns hsb ⊢
 generalize hH3:s2.heap.push { cls:=.type "list",dict:=none,data:=.seq ([]:List Value).toArray }=H3 at hns hsb ⊢
 have hCe:H3.objs.size=s2.heap.objs.size+1:=by rw [<- hH3,z0m]
 have N0:∀ b o,s2.heap.get? b=some o->b ≠ H3.objs.size:=λb o e=>by rw [hCe];exact q0v (v0b (q0e e))
 have old:∀ b o,s2.heap.get? b=some o->h4.get? b=some o:=λb o e=>hsb.extBut b o (N0 b o e) (q0f _ (hH3 ▸ q0f _ e))
 have hD:h4.get? s2.heap.objs.size=some { cls:=.type "list",dict:=none,data:=.seq ([]:List Value).toArray } :=
  hsb.extBut _ _ (by rw [hCe];exact q0v (j0r _)) (q0f _ (hH3 ▸ q0y _ rfl))
 have hDn:H2 s2.heap.objs.size=none:=I2.fresh;have hCn:H2 H3.objs.size=none:=I2.hok.fresh (by rw [hCe];exact j0j _)
 have hCs:s2.heap.objs.size<=H3.objs.size:=by rw [hCe];exact j0j _
 have hDC:s2.heap.objs.size ≠ H3.objs.size:=by rw [hCe];exact q0v (j0r _)
 have fpl:∀ b ∈ fp,∃ o,s2.heap.get? b=some o:=λb hb=>let ⟨o,e,_⟩:=T.obj _ _ st2 b hb;⟨o,e⟩;have fpC:∀ b ∈ fp,b ≠ H3.objs.size:=λb hb=>let ⟨o,e⟩:=fpl b hb;N0 b o e;have fpD:∀ b ∈ fp,b ≠ s2.heap.objs.size:=λb hb=>let ⟨o,e⟩:=fpl b hb;q0v (q0e e);have stkN:∀ b,b ≠ X.env.locals->b ∉ X.fs->b ∉ frs X.stack:=λb h1 h2 z=>(z0r.mp (I2.stkSub b z)).elim h1 h2;obtain ⟨W,⟨m0,w0⟩,turn⟩:=hW s2.heap.objs.size hDn
 have okB:(X.block scope cl H3.objs.size Nc s2 H2 fp pins).Ok:=by
  refine ⟨I2.ok.mod,?_,I2.ok.glob,I2.ok.blt,hCs,λx y c h1 h2=>I2.ok.inj x y c (cp.sub x c h1) (cp.sub y c h2),λx hx=>cp.has x hx,λx c h=>(by cases h),I2.ok.hd,I2.ok.frames,.inl rfl,λb hb=>⟨fpC b hb,λx c h=>(f2 b hb).2.2.2.2.1 x c (cp.sub x c h)⟩,I2.bs,z0d I2.ok.bsz I2.sz,λb o e hb=>?_,λb hb=>stkN b (f2 b hb).2.1 (f2 b hb).2.2.1,I2.stack,I2.stkFree⟩
  ·exact cp.kind
  ·rcases (f2 b hb).2.2.2.1 with z | z
   ·exact I2.ok.noex b o e z
   ·exact absurd (q0b (q0e e) (z0d I2.ok.bsz z)) (j0m _)
 have hokB:HOk X.prog X.w (upd H2 s2.heap.objs.size (.lst [])) h4:=I2.hok.laid old (q0m _) ⟨z0u _,[],_,.nil,hD⟩
 have IB:Inv (X.block scope cl H3.objs.size Nc s2 H2 fp pins) [] (x4 caps σ) (upd H2 s2.heap.objs.size (.lst [])) { s2 with heap:=h4,toks:=s2.toks+([]:List (Str × Value)).length }:=by
  refine ⟨okB,rfl,I2.bare,Un.laid old (q0m _) hDn,⟨_,hns,λi x v e1 e2 e3=>?_⟩,λx c e=>?_,(show upd H2 s2.heap.objs.size (.lst []) H3.objs.size=none by rw [g9 (Ne.symm hDC)];exact hCn),λx c e=>?_,λp hp=>?_,hokB,?_⟩
  ·unfold x4 at e2
   rw [q0q] at e2
   cases hcap:caps[i]? with
   | none=>rw [hcap] at e2;cases e2
   | some o =>
    rw [hcap] at e2
    cases o with
    | none=>cases e2
    | some j =>
     have hj:σ[j]? = some (some v):=by
      have e2':(σ[j]?).join=some v:=Option.some.inj e2
      cases q:σ[j]? with
      | none=>rw [q] at e2';cases e2'
      | some z=>rw [q] at e2';exact congrArg some e2'
     obtain ⟨n1,n2,n3,n4⟩:=cp.cap i j x hcap e1;obtain ⟨m,hm,hl⟩:=I2.loc;obtain ⟨u,r,q⟩:=hl j x v n1 hj n2;rcases q with ⟨k,_⟩ | ⟨k,c,ec,z⟩
     ·exact absurd k n3
     ·obtain ⟨c',ec'⟩:=cp.has x n4
      have:=cp.sub x c' ec';rw [ec] at this;cases this;obtain ⟨oc,ho,hd⟩:=z;exact ⟨u,r,.inr ⟨n4,c,ec',oc,old _ _ ho,hd⟩⟩
  ·obtain ⟨v,oc,ho,hd⟩:=I2.cell x c (cp.sub x c e)
   exact ⟨v,oc,old _ _ ho,hd⟩
  ·obtain ⟨v,oc,ho,hd⟩:=I2.cell x c (cp.sub x c e)
   rw [g9 (q0v (q0e ho))];exact I2.freeC x c (cp.sub x c e)
  ·have hp':p ∈ X.pn ++ pins:=by simpa using hp
   obtain ⟨e1,e2,e3,e4,e5⟩:=I2.pin p hp';exact ⟨old _ _ e1,by rw [g9 (q0v (q0e e1))];exact e2,N0 _ _ e1,stkN _ e3 e4,e5⟩
  ·show (x4 caps σ).length=Nc.length
   unfold x4;rw [q0d];exact cp.len
 have stat:∀ {H':Hp},(∀ b ∈ fp,H' b=none)->∀ b ∈ fp,ad3 (X.block scope cl H3.objs.size Nc s2 H2 fp pins) [] H' b:=λhn b hb =>
  ⟨hn b hb,fpC b hb,stkN b (f2 b hb).2.1 (f2 b hb).2.2.1,.inl hb,λx c h=>(f2 b hb).2.2.2.2.1 x c (cp.sub x c h),λp hp=>(f2 b hb).2.2.2.2.2 p (by simpa using hp)⟩
 have loop:∀ s5:Shared,s5={ s2 with heap:=h4,toks:=s2.toks+([]:List (Str × Value)).length } ->
   codeAny (model X.prog X.w) X.A (.compLoop (.ListComp elt [⟨tg,iter,[],0⟩] scope pos) 0 (.ref it) (.ref s2.heap.objs.size) (compEnvC scope cl H3.objs.size X.env))
    (compPost (model X.prog X.w) X.A X.xe none (EP X pins σ Q) (.ref s2.heap.objs.size) H3.objs.size) s5:=by
  rintro s5 rfl;refine ag3 (λn s' => ∃ i σ' H',Inv (X.block scope cl H3.objs.size Nc s2 H2 fp pins) [] σ' H' s'/\tn i s'.heap/\(∀ b ∈ fp,H' b=none)/\W i n σ' H') ?_ m0 ⟨0,_,_,IB,T.keep _ _ _ st2 λb hb o e=>old b o e,λb hb=>by rw [g9 (fpD b hb)];exact (f2 b hb).1,w0⟩
  rintro n s6 ⟨i,σ6,H6,I6,st6,fr6,w6⟩;rcases turn i n σ6 H6 w6 with ⟨stop,qn⟩ | ⟨go,step⟩
  ·refine thn (T.done (X.block scope cl H3.objs.size Nc s2 H2 fp pins) rfl rfl rfl hc i [] s6 σ6 H6 _ I6 (stat fr6) st6 stop) λr s7 zq=>?_
   obtain ⟨hr,I7⟩:=zq;subst hr;obtain ⟨m7,hn7,_⟩:=id I7.loc;exact ⟨m7,hn7,λh' sb=>⟨.ref s2.heap.objs.size,H6,I2.sameC f2 I7.os I7.bare I7.base I7.hok hCs I7.free sb,rfl,qn⟩⟩
  ·refine thn (T.item (X.block scope cl H3.objs.size Nc s2 H2 fp pins) rfl rfl rfl hc i [] s6 σ6 H6 _ I6 (stat fr6) st6 go) λr s7 zq=>?_
   obtain ⟨u,hr,h7⟩:=zq;subst hr;refine thn h7 λ_ s8 zq=>?_;obtain ⟨x,H8,I8,r8,y8,st8,fr8⟩:=zq;have I8':=I8.pinned (stat fr8) (T.obj _ _ st8);refine thn (hg _ _ _ _ _ _ s8 σ6 H8 x u _ I8' r8 (step x H8 y8)) λ_ s9 zq=>?_;obtain ⟨σ9,H9,I9,q9⟩:=zq;refine thn (he _ _ _ _ _ _ s9 σ9 H9 _ I9 q9) λu10 s10 zq=>?_;obtain ⟨v10,H10,I10,r10,ys,hys,hlen,m',hm',w'⟩:=zq;refine thn (J7 _ s10 σ9 H10 (.ref s2.heap.objs.size) [v10] (.ref s2.heap.objs.size) [u10] (λ_ H11=>H11=upd H10 s2.heap.objs.size (.lst (ys ++ [v10]))) I10 rfl (.cons r10 .nil) ⟨_,ys,v10,rfl,rfl,hys,hlen,rfl⟩) λ_ s11 zq=>?_;obtain ⟨_,H11,I11,_,hH11⟩:=zq;subst hH11;refine ⟨m',hm',i+1,σ9,_,I11.unpinned,T.keep _ _ _ st8 λb hb o e=>(I11.pin (b,o) (q0k _ (q0k _ (t4 hb e)))).1,λb hb=>?_,w'⟩;obtain ⟨o,e,d⟩:=T.obj _ _ st8 b hb;exact (I11.pin (b,o) (q0k _ (q0k _ (t4 hb e)))).2.1
 exact codeAny_compStart_list (loop _ rfl) (T.self _ 0 _ _ _ (T.keep _ _ _ st2 λb hb o e=>old b o e) (loop _ rfl))
end
open PySem PySem.Spec PyProof.Rows
def Q5 (scope osc:Scope):List (Str × NameKind):=scope.names.map λ(n,k)=>if (k == .free && osc.kind == .function && osc.names.lookup n == some .cell) then (n,.cell) else (n,k)
def aQ3 (o:Option NameKind):Bool:=o == some .cell || o == some .free
def aX4 (scope osc:Scope) (N ks Nc:List Str) (caps:List (Option Nat)):Bool :=
 ((Q5 scope osc).all λy => !(y.2 == .cell || y.2 == .free) || ks.contains y.1) && (scope.names.all λy=>y.2 != .cell) && scope.kind == .function &&
 (scope.names.all λy=>y.2 != .local || scope.names.lookup y.1 == some .local) && caps.length == Nc.length &&
 ((caps.zip Nc).all λp=>match p.1 with
  | none=>true
  | some j=>N[j]? == some p.2 && aQ3 (osc.names.lookup p.2) && aQ3 ((Q5 scope osc).lookup p.2))
theorem ak6 {α β:Type} [BEq α] [LawfulBEq α]:∀ {l:List (α × β)} {x:α} {v:β},l.lookup x=some v->(x,v) ∈ l
 | [],_,_,h=>by simp at h
 | (a,b) :: r,x,v,h=>by
  rw [y0s] at h
  split at h
  ·rename_i e
   have:=eq_of_beq e;subst this
   cases h
   exact q0u
  ·exact q0p _ (ak6 h)
theorem P3 {β:Type}:∀ {l:List (Str × β)} {x:Str},x ∈ l.map (·.1)->∃ c,l.lookup x=some c
 | [],_,h=>by simp at h
 | (a,b) :: r,x,h=>by
  rw [y0s]
  by_cases e:x=a
  ·subst e;exact ⟨b,by simp⟩
  ·have:(x == a)=false:=by simpa using e
   rw [this];rcases z0r.mp h with z | z
   ·exact absurd z e
   ·exact P3 z
theorem ar6 {o:Option NameKind} (h:aQ3 o=true):o=some .cell \/ o=some .free:=by
 unfold aQ3 at h;simp only [g0t,beq_iff_eq] at h;exact h
theorem G2.of {X:Cx} {scope osc:Scope} {cl:List (Str × Addr)} {N ks Nc:List Str} {caps:List (Option Nat)} (clos:closureFor scope X.env=pure cl) (hN:X.N=N) (hosc:X.env.scope=osc) (hks:cl.map (·.1)=ks)
  (sub:∀ x c,cl.lookup x=some c->X.env.cells.lookup x=some c) (ok:aX4 scope osc N ks Nc caps=true):G2 X scope cl Nc caps:=by
 unfold aX4 at ok;simp only [y0f,List.all_eq_true,beq_iff_eq,g0t,y0c,bne_iff_ne,ne_eq] at ok;obtain ⟨⟨⟨⟨⟨o1,o2⟩,o3⟩,o4⟩,o5⟩,o6⟩:=ok;have er:(relabel scope X.env).names=Q5 scope osc:=by subst hosc;rfl
 have kof:∀ x,X.env.kindOf x=osc.names.lookup x:=λx=>by subst hosc;rfl
 refine ⟨clos,sub,λx h=>?_,λx hx=>o2 x hx,o3,λx hx hl=>?_,o5,λi j x h1 h2=>?_⟩
 ·rw [er] at h
  refine P3 ?_;rw [hks]
  have key:∀ k,(Q5 scope osc).lookup x=some k->(k=.cell \/ k=.free)->x ∈ ks:=λk hk hcf=>by
   rcases o1 (x,k) (ak6 hk) with z | z
   ·rcases hcf with rfl | rfl <;> simp at z
   ·simpa using z
  rcases h with h | h
  ·exact key _ h (.inl rfl)
  ·exact key _ h (.inr rfl)
 ·rcases o4 x hx with z | z
  ·exact absurd hl z
  ·exact z
 ·have hm:(some j,x) ∈ caps.zip Nc:=by
   have:(caps.zip Nc)[i]? = some (some j,x):=by
    rw [g0g];exact ⟨h1,h2⟩
   exact q0h this
  have z:=o6 _ hm;simp only [y0f,beq_iff_eq] at z;obtain ⟨⟨z1,z2⟩,z3⟩:=z;have c2:=ar6 z2;have c3:=ar6 z3;refine ⟨by rw [hN];exact z1,?_,?_,?_⟩
  ·rw [hosc]
   rcases c2 with c | c
   ·exact .inr (.inl c)
   ·exact .inr (.inr c)
  ·rw [kof]
   rcases c2 with c | c <;> rw [c] <;> decide
  ·rw [er];exact c3
open PySem PySem.Spec PyProof.Rows
section
variable {X:Cx} {pins:List (Addr × Obj)} {σ:St} {H:Hp} {s:Shared}
theorem Inv.turnLaid {h':Heap} {t':Nat} {fp:List Addr} {a:Addr} {o:HO} (I:Inv X pins σ H s) (hf:∀ b ∈ fp,ad3 X pins H b)
  (k:∀ b u,b ∉ fp->s.heap.get? b=some u->h'.get? b=some u) (hp:s.heap.objs.size<=a) (new:K1 X.prog X.w (upd H a o) h' a o):Inv X pins σ (upd H a o) { s with heap:=h',toks:=t' }:=by
 have hn:H a=none:=I.hok.fresh hp;have nf:∀ b u,H b=some u->b ∉ fp:=λb u e z=>by rw [(hf b z).1] at e;cases e
 have ne:∀ b u,s.heap.get? b=some u->b ≠ a:=λb u e=>q0v (q0b (q0e e) hp)
 refine I.step (g':=s.gens) (d':=s.drawn) (ch:=fp) (λb hb=>?_) (λb o _ _ hc e _=>k b o hc e) (λb o _ _ hc e _=>⟨o.slots,k b o hc e⟩) (λb o _ e n=>by rw [g9 (ne b o e)];exact n)
  (λb o hc e=>⟨o,k b o hc e⟩) (λb xs e=>by rw [g9 (i9 e hn)];exact e) (λb o u e=>by rw [g9 (i9 e hn)];exact e) (λb ps e=>⟨#[],by rw [g9 (i9 e hn),e];simp⟩) (λm hm=>?_) (λb u e=>?_) I.bare
 ·obtain ⟨_,f1,_,f3,f4,f5⟩:=hf b hb
  exact ⟨f3,f1,f4,f5⟩
 ·obtain ⟨o,es,ep,ho,r⟩:=hm
  exact ⟨o,es,ep,k _ o (λz=>(hf _ z).2.1 rfl) ho,r⟩
 ·by_cases hb:b=a
  ·subst hb;rw [c5] at e;cases e;exact new
  ·rw [g9 hb] at e
   refine (I.hok b u e).stay (λc v hc q=>k c v ?_ q) (λc q=>by rw [g9 (i9 q hn)];exact q) λc xs q=>by rw [g9 (i9 q hn)];exact q
   rcases hc with z | z
   ·rw [z];exact nf b u e
   ·exact nf c _ z
end
def Ite (K:q0a) (a:Addr):It :=
 ⟨λi H => ∃ xs x,SqL K H a xs/\xs[i]? = some x,λi H y H' => ∀ xs,SqL K H a xs->∃ x p,xs[i]? = some x/\H p=none/\y=.ref p/\H'=upd H p (.tup [.int i,x]),λi H => ∃ xs,SqL K H a xs/\xs.length<=i⟩
theorem aO3 {P:Program} {w:World} {K:q0a} {elts:List Expr} {k:Nat} {tpos:Pos} (a e it:Addr) (hei:e ≠ it) :
  aK9 P w K (.Tuple elts k tpos) (Ite K a) [e,it] e (λi h=>(∃ old,IsEnum h e it ((i:Nat):Int) old)/\h.IsListIter it a i) where
 mem:=by simp
 obj:=λi h st b hb=>by
  obtain ⟨⟨old,he⟩,hit⟩:=st;rcases (by simpa using hb:b=e \/ b=it) with z | z
  ·subst z
   exact ⟨_,he,λv z=>by cases z⟩
  ·subst z
   obtain ⟨o,e,c,d⟩:=hit;exact ⟨o,e,λv z=>by rw [d] at z;cases z⟩
 keep:=λi h h' st k=>⟨let ⟨old,he⟩:=st.1;⟨old,k e (by simp) _ he⟩,st.2.at λo e=>k it (by simp) o e⟩
 item:=by
  intro X hP hw hK hc i pins s σ H E I hf st hg;subst hP hw hK;obtain ⟨xs,x,hq,hx⟩:=hg;obtain ⟨its,rv,p,hz⟩:=I.list hq;obtain ⟨u,hu,ru⟩:=rv.get hx;obtain ⟨⟨old,he⟩,hit⟩:=st;have helt:e<s.heap.objs.size:=q0e he;have hilt:it<s.heap.objs.size:=by obtain ⟨_,x,_⟩:=id hit;exact q0e x
  refine wpAny_pyNext_enum_item he hit p.isList (x:=u) (by simpa using hu) hei λh' ho hit' hT hsz kk=>?_
  refine ⟨_,rfl,?_⟩;refine wpAny_letOwnedTupleGo_enum (s:={ s with heap:=h',toks:=s.toks+1 }) ho λh'' he' sb=>?_;have hT':h''.get? s.heap.objs.size=some { cls:=.type "tuple",data:=.seq #[.int i s.toks,u] }:=(sb.2 _ (j0y helt)).trans hT
  refine ⟨.ref s.heap.objs.size,upd H s.heap.objs.size (.tup [.int i,x]),I.turnLaid (fp:=[e,it]) (t':=s.toks+1) hf (λb v hb q=>?_) (q0m _) ?_,rfl,?_,?_,λb hb=>?_⟩
  ·have h1:b ≠ e:=λz=>hb (by simp [z])
   have h2:b ≠ it:=λz=>hb (by simp [z])
   exact (sb.2 b h1).trans (kk b v h1 h2 q)
  ·exact ⟨(show 2<=sizeLine by decide +kernel),[.int i s.toks,u],.cons ⟨_,rfl⟩ (.cons ru .nil),_,hT',rfl,_,rfl⟩
  ·intro ys hy
   rw [I.list_inj hy hq];exact ⟨x,_,hx,I.fresh,rfl,rfl⟩
  ·refine ⟨⟨u,by have:=he';simpa using this⟩,hit'.at λo q=>(sb.2 it hei.symm).trans q⟩
  ·have hlt:b<s.heap.objs.size:=by
    rcases (by simpa using hb:b=e \/ b=it) with z | z
    ·rw [z];exact helt
    ·rw [z];exact hilt
   rw [g9 (q0v hlt)];exact (hf b hb).1
 done:=by
  intro X hP hw hK hc i pins s σ H E I hf st hg;subst hP hw hK;obtain ⟨xs,hq,hx⟩:=hg;obtain ⟨its,rv,p,hz⟩:=I.list hq;obtain ⟨⟨old,he⟩,hit⟩:=st;obtain ⟨f0,f1,f2,f3,f4,f5⟩:=hf it (by simp)
  have hl:=rv.length;exact wpAny_pyNext_enum_end (I.ok.hd hc) he hit p.isList (by simp;omega) λh' eb=>⟨rfl,I.turned (t':=s.toks) (λb o hb e=>eb b o hb e) f0 f1 f3 f4 f5⟩
 self:=λ_ _ _ _ _ st h=>by
  obtain ⟨⟨old,he⟩,_⟩:=st;exact wpAny_pyIter_enum he h
section
variable {X:Cx}
def T9 (K:q0a) (ta:TA):TI:=λσ H R=>ta σ H λvs H1 => ∃ a,vs=[.ref a]/\(∃ xs,SqL K H1 a xs)/\R (Ite K a) H1
theorem ar3 {elts:List Expr} {k:Nat} {tpos:Pos} {l:Expr} {ta:TA} {p pos:Pos} (hg:Gl X "enumerate") (hm:X.mg "enumerate" = none) (ha:PA X [l] ta) (hs:starEach [l] X.env=[(false,eval l X.env)]:=by rfl) :
  PI X (.Tuple elts k tpos) (.Call (.Name "enumerate" p) [l] [] pos) (T9 X.K ta):=by
 intro pins s σ H R I h;refine Call_ (Z5 I hg hm (u:=.type "enumerate") (by decide +kernel) (PyProof.Rows.callWith_type1 (thn (ha pos pins s σ H _ I h) λus s1 ⟨vs,H1,I1,r1,q1⟩=>?_) hs rfl))
 obtain ⟨a,e,⟨xs,hq⟩,q⟩:=q1;subst e;obtain ⟨u,rfl,rx⟩:=ad4 r1
 cases rx
 obtain ⟨its,rv,p,hz⟩:=I1.list hq;refine call_enumerate_list p.isList λh' he hit hsz kk=>?_;refine wpAny_pyIter_enum he ?_;have I2:Inv X pins σ H1 { s1 with heap:=h' }:=I1.kept (t':=s1.toks) kk;refine ⟨s1.heap.objs.size+1,[s1.heap.objs.size+1,s1.heap.objs.size],_,_,H1,rfl,I2,aO3 a _ _ (Nat.succ_ne_self _),⟨⟨_,he⟩,hit⟩,λb hb=>?_,q⟩
 have hb':s1.heap.objs.size<=b:=by
  rcases (by simpa using hb:b=s1.heap.objs.size+1 \/ b=s1.heap.objs.size) with z | z
  ·rw [z];exact j0j _
  ·rw [z];exact q0m _
 obtain ⟨f0,f1,f2,f3,f4,f5⟩:=I1.fpOk (H':=H1) hb' (I1.hok.fresh hb');exact ⟨f0,f1,f2,f3,f4,f5⟩
def aY5 (wi:TI) (caps:List (Option Nat)) (g:TG) (tt:TT) (te:TE):TE:=λσ H Q=>wi σ H λJ H1 => ∀ D,H1 D=none->∃ W:Nat->Nat->St->Hp->Prop,(∃ m,W 0 m (x4 caps σ) (upd H1 D (.lst []))) /\
 ∀ i m σc H2,W i m σc H2->(J.stop i H2/\Q (.ref D) H2) \/
  (J.go i H2/\∀ x H3,J.yld i H2 x H3->g x σc H3 λσ4 H4=>tt σ4 H4 λb H4'=>if b=true then te σ4 H4' λy H5 => ∃ ys,H5 D=some (.lst ys)/\ys.length<sizeLine/\∃ m',m'<m/\W (i+1) m' σ4 (upd H5 D (.lst (ys ++ [y])))
   else ∃ m',m'<m/\W (i+1) m' σ4 H4')
open PySem PySem.Spec PyProof.Rows
theorem aw9 (bs:List Bool):(z0q bs.length).all (λi=>(bs[i]?).getD true)=bs.all id:=by
 induction bs with
 | nil=>rfl
 | cons b bs ih =>
  rw [z0n,af1,List.all_cons,<- ih];rfl
theorem aX6 (hc:X.calm=true):X3 X (.builtin "all") (λxs H Q => ∃ (p:Addr) (bs:List Bool),xs=[.ref p]/\SqL X.K H p (bs.map V.bl)/\Q (.bl (bs.all id)) H):=by
 intro pins s σ H xs us Q I r h;obtain ⟨p,bs,rfl,hq,q⟩:=h;obtain ⟨u,rfl,rx⟩:=ad4 r
 cases rx
 obtain ⟨its,r',pl,hz⟩:=I.list hq;have hlen:its.length=bs.length:=by rw [<- r'.length,q0d]
 have hp:p ≠ s.heap.objs.size:=by
  obtain ⟨o,ho,_⟩:=pl.isList;exact q0v (q0e ho)
 refine call_all_walk (wpAny_pyIter_list pl.isList ?_);refine ⟨s.heap.objs.size,_,_,_,_,_,λi=>(bs[i]?).getD true,rfl,Walks.list (A:=X.A.in1) (I.ok.hd hc) _ p hp its.toArray,⟨⟨_,q0y _ rfl,rfl,rfl⟩,pl.isList.at λo e=>q0f _ e⟩,?_,?_⟩
 ·intro i v s' Q' E' hv hQ
  have hv':its[i]? = some v:=by simpa using hv
  have hi:i<bs.length:=by rw [<- hlen];exact (q0g.mp hv').1
  obtain ⟨u,hu,ru⟩:=r'.get (i:=i) (x:=.bl bs[i]) (by rw [q0q,q0c hi];rfl)
  rw [hv'] at hu
  cases hu
  cases ru
  simp only [q0c hi] at hQ;exact wpAny_truthy_bool hQ
 ·intro h' tk kk
  have e:(z0q its.toArray.size).all (λi=>(bs[i]?).getD true)=bs.all id:=by rw [q0j,hlen,aw9]
  rw [e];refine ⟨.bl _,H,I.kept (t':=tk) λb o e=>kk b o ?_ (q0f _ e),rfl,q⟩;intro z;have:b=s.heap.objs.size:=by simpa using z
  exact absurd (q0e e) (by rw [this];exact j0m _)
def bk3 (K:q0a):R2:=λx y H Q => ∃ d d',d.isV=false/\IsD K H x d/\IsD K H y d'/\okD d d'=true/\dpD d<=60/\Q (.bl (!eqD d d')) H
theorem aj9 (hu:X.A.units+64<cLine):OpR X (compareOp .NotEq) (bk3 X.K):=by
 intro pins s σ H x y v u Q I rx ry h;obtain ⟨d,d',nf,h1,h2,ok,dp,q⟩:=h;have fin:EP X pins σ Q (.bool (!eqD d d')) s:=⟨.bl _,H,I,rfl,q⟩
 cases h1 with
 | v f =>
  cases h2 with
  | v f'=>exact absurd (show true=false from nf) (by decide)
  | tup _ _=>simp [okD] at ok
  | lst _ _=>simp [okD] at ok
 | @tup p xs ds h t =>
  cases h2 with
  | v f'=>simp [okD] at ok
  | @tup p' ys ds' h' t' =>
   cases (show v=Value.ref p from rx)
   cases (show u=Value.ref p' from ry)
   rw [okD] at ok;rw [dpD] at dp;rw [eqD] at fin;obtain ⟨its,r1,i1,_⟩:=I.tuple h;obtain ⟨its',r2,i2,_⟩:=I.tuple h';have q':∀ (j:Nat) (h1:j<its.length) (h2:j<its'.length),SeqAt.EqAt X.A.in1 s its[j] its'[j] (ae8 ds ds' j):=λj h1 h2=>ac3 (A:=X.A.in1) I t t' ok r1 r2 (by show X.A.units+1+_<_;omega) j h1 h2
   have z:=SeqAt.RcNeAt.tuples (A:=X.A) (items:=its.toArray) (items2:=its'.toArray) (e:=ae8 ds ds') i1 i2 ⋯ (λj h1 h2=>q' j (by simpa using h1) (by simpa using h2))
   have e1:its.toArray.size=ds.length:=by rw [q0j,<- r1.length,t.length]
   have e2:its'.toArray.size=ds'.length:=by rw [q0j,<- r2.length,t'.length]
   rw [e1,e2,ag5] at z;exact PySem.EqBoolInt.of_rcne z fin
  | lst _ _=>simp [okD] at ok
 | @lst p xs ds h t =>
  cases h2 with
  | v f'=>simp [okD] at ok
  | tup _ _=>simp [okD] at ok
  | @lst p' ys ds' h' t' =>
   cases (show v=Value.ref p from rx)
   cases (show u=Value.ref p' from ry)
   rw [okD] at ok;rw [dpD] at dp;rw [eqD] at fin;obtain ⟨its,r1,i1,_⟩:=I.list h;obtain ⟨its',r2,i2,_⟩:=I.list h';have q':∀ (j:Nat) (h1:j<its.length) (h2:j<its'.length),SeqAt.EqAt X.A.in1 s its[j] its'[j] (ae8 ds ds' j):=λj h1 h2=>ac3 (A:=X.A.in1) I t t' ok r1 r2 (by show X.A.units+1+_<_;omega) j h1 h2
   have e1:its.toArray.size=ds.length:=by rw [q0j,<- r1.length,t.length]
   have e2:its'.toArray.size=ds'.length:=by rw [q0j,<- r2.length,t'.length]
   by_cases hl:ds.length=ds'.length
   ·have z:=SeqAt.RcNeAt.lists (A:=X.A) (items:=its.toArray) (items2:=its'.toArray) (e:=ae8 ds ds') i1.isList i2.isList (by rw [e1,e2,hl]) ⋯ (λj h1 h2=>q' j (by simpa using h1) (by simpa using h2))
    rw [e1,ai2 ds ds' hl] at z;exact PySem.EqBoolInt.of_rcne z fin
   ·rw [au8 ds ds' hl] at fin
    exact PySem.EqBoolInt.of_rcne (SeqAt.RcNeAt.lists_lengths (A:=X.A) i1.isList i2.isList (by rw [e1,e2];simpa using hl) ⋯) fin
def aF9 (xs:List V) (lo hi st:Option Int):List V :=
 (sliceRange (sliceBounds lo hi st xs.length).1 (sliceBounds lo hi st xs.length).2.1 (sliceBounds lo hi st xs.length).2.2).filterMap (xs[·]?)
theorem m6.picks {xs:List V} {us:List Value} (r:m6 xs us):∀ ks:List Nat,m6 (ks.filterMap (xs[·]?)) (ks.filterMap (us[·]?))
 | []=>.nil
 | k :: ks=>by
  rw [j0p,j0p]
  cases h:xs[k]? with
  | none=>rw [r.none_of h];exact r.picks ks
  | some x =>
   obtain ⟨u,hu,ru⟩:=r.get h;rw [hu];exact .cons ru (r.picks ks)
def ai6 (K:q0a) (te:TE) (tl th tk:TO):TE:=λσ H Q=>te σ H λx H1=>tl σ H1 λl H2=>th σ H2 λu H3=>tk σ H3 λk H4 =>
 ∃ a xs,x=.ref a/\SqL K H4 a xs/\k ≠ some 0/\∀ p,H4 p=none->Q (.ref p) (upd H4 p (.lst (aF9 xs l u k)))
theorem aP2 {e:Expr} {te:TE} {lo hi:Option Expr} {st:Expr} {tl th tk:TO} {pos p2:Pos} (he:PE X e te) (hl:PO X lo tl) (hu:PO X hi th) (hk:PO X (some st) tk):PE X (.Subscript e (.Slice lo hi (some st) p2) pos) (ai6 X.K te tl th tk):=by
 intro pins s σ H Q I h;refine Subscript_ (thn (he pins s σ H _ I h) λv s1 zq=>?_);obtain ⟨x,H1,I1,r1,q1⟩:=zq;refine wpAny_Slice (thn (hl pins s1 σ H1 _ I1 q1) λvl s2 ⟨l,H2,I2,pl,q2⟩=>thn (hu pins s2 σ H2 _ I2 q2) λvu s3 ⟨u,H3,I3,pu,q3⟩=>thn (hk pins s3 σ H3 _ I3 q3) λvk s4 zq=>?_);obtain ⟨k,H4,I4,pk,q4⟩:=zq;obtain ⟨a,xs,rfl,hq,h0,q⟩:=q4
 cases r1
 have I5:Inv X pins σ H4 { s4 with heap:=s4.heap.push { cls:=.type "slice",data:=.fields #[vl,vu,vk] } }:=I4.kept (t':=s4.toks) λb ob q=>q0f _ q
 obtain ⟨its,r,ht,hz⟩:=I5.list hq;have hlen:=r.length
 show wpAny (model X.prog X.w) X.A (subscriptTail e (.Slice lo hi (some st) p2) (.ref a) (.ref s4.heap.objs.size)) (EP X pins σ Q) X.xe { s4 with heap:=s4.heap.push { cls:=.type "slice",data:=.fields #[vl,vu,vk] } }
 refine tail_any (ops:=[.ref a,.ref s4.heap.objs.size]) (s:={ s4 with heap:=s4.heap.push { cls:=.type "slice",data:=.fields #[vl,vu,vk] } }) (T := "list") ht.isList.typeIs slot_list_getitem.lookup ?_ (by with_unfolding_all rfl)
 refine wpAny_getItem_list_slice ht.isList (Heap.IsSliceOf.new ..) pl pu pk h0 ?_ (by rw [q0j] <;> omega)
 have ep:(slicePick its.toArray l u k)=((sliceRange (sliceBounds l u k xs.length).1 (sliceBounds l u k xs.length).2.1 (sliceBounds l u k xs.length).2.2).filterMap (its[·]?)).toArray:=by
  unfold slicePick;rw [q0j,<- hlen]
  simp
 rw [ep];have hv:m6 (aF9 xs l u k) ((sliceRange (sliceBounds l u k xs.length).1 (sliceBounds l u k xs.length).2.1 (sliceBounds l u k xs.length).2.2).filterMap (its[·]?)):=m6.picks r _
 have hsz:=slicePick_size_le its.toArray l u k;rw [ep,q0j,q0j,<- hv.length] at hsz;refine ⟨.ref _,_,I5.laid (t':=s4.toks) (o:=.lst (aF9 xs l u k)) (λb ob q=>q0f _ q) (q0m _) ?_,rfl,q _ (I5.hok.fresh (q0m _))⟩;exact ⟨⋯,_,0,hv,q0y _ rfl⟩
end
def o0 (D:Addr) (n:Nat) (Pv:Nat->St->Hp->Prop) (i:Nat) (σ4:St) (y:V) (H5:Hp):Prop :=
 ∃ ys,H5 D=some (.lst ys)/\ys.length<sizeLine/\∃ m',m'<n-i/\(m'=n-(i+1)/\i+1<=n/\Pv (i+1) σ4 (upd H5 D (.lst (ys ++ [y]))))
theorem o0.mk {D:Addr} {n:Nat} {Pv:Nat->St->Hp->Prop} {i:Nat} {σ4:St} {y:V} {H5:Hp} {ys:List V} (hi:i<n) (h:H5 D=some (.lst ys)) (hl:ys.length<sizeLine) (p:Pv (i+1) σ4 (upd H5 D (.lst (ys ++ [y])))):o0 D n Pv i σ4 y H5 :=
 ⟨ys,h,hl,_,⋯,rfl,hi,p⟩
section
variable {K:q0a} {a D:Addr} {xs:List V} {g:TG} {te:TE} {σ0:St} {H0:Hp} {Q:VK}
theorem aR3 (Pv:Nat->St->Hp->Prop) (h0:Pv 0 σ0 H0) (hl:∀ i σ H,i<=xs.length->Pv i σ H->SqL K H a xs)
  (hs:∀ i x σ H,xs[i]? = some x->Pv i σ H->g x σ H λσ4 H4=>te σ4 H4 λy H5=>o0 D xs.length Pv i σ4 y H5) (hd:∀ σ H,Pv xs.length σ H->Q (.ref D) H) :
  ∃ W:Nat->Nat->St->Hp->Prop,(∃ m,W 0 m σ0 H0)/\∀ i m σc H2,W i m σc H2->((Itl K a).stop i H2/\Q (.ref D) H2) \/
   ((Itl K a).go i H2/\∀ x H3,(Itl K a).yld i H2 x H3->g x σc H3 λσ4 H4=>te σ4 H4 λy H5 => ∃ ys,H5 D=some (.lst ys)/\ys.length<sizeLine/\∃ m',m'<m/\W (i+1) m' σ4 (upd H5 D (.lst (ys ++ [y])))):=by
 refine ⟨λi m σ H=>m=xs.length-i/\i<=xs.length/\Pv i σ H,⟨xs.length,by simp,z0u _,h0⟩,?_⟩
 rintro i m σ H ⟨rfl,hi,p⟩;have q:=hl i σ H hi p
 by_cases hlt:i<xs.length
 ·refine .inr ⟨⟨xs,xs[i],q,q0c hlt⟩,?_⟩
  rintro x H3 ⟨rfl,hx⟩;exact hs i x σ _ (hx xs q) p
 ·have e:i=xs.length:=⋯
  subst e;exact .inl ⟨⟨xs,q,q0m _⟩,hd σ H p⟩
theorem aK5 {lo:Int} {n:Nat} (Pv:Nat->St->Hp->Prop) (h0:Pv 0 σ0 H0)
  (hs:∀ i σ H,i<n->Pv i σ H->g (.int (lo+i)) σ H λσ4 H4=>te σ4 H4 λy H5=>o0 D n Pv i σ4 y H5) (hd:∀ σ H,Pv n σ H->Q (.ref D) H) :
  ∃ W:Nat->Nat->St->Hp->Prop,(∃ m,W 0 m σ0 H0)/\∀ i m σc H2,W i m σc H2->((Itr lo n).stop i H2/\Q (.ref D) H2) \/
   ((Itr lo n).go i H2/\∀ x H3,(Itr lo n).yld i H2 x H3->g x σc H3 λσ4 H4=>te σ4 H4 λy H5 => ∃ ys,H5 D=some (.lst ys)/\ys.length<sizeLine/\∃ m',m'<m/\W (i+1) m' σ4 (upd H5 D (.lst (ys ++ [y])))):=by
 refine ⟨λi m σ H=>m=n-i/\i<=n/\Pv i σ H,⟨n,by simp,z0u _,h0⟩,?_⟩
 rintro i m σ H ⟨rfl,hi,p⟩
 by_cases hlt:i<n
 ·refine .inr ⟨hlt,?_⟩
  rintro x H3 ⟨rfl,rfl⟩;exact hs i σ _ hlt p
 ·have e:i=n:=⋯
  subst e;exact .inl ⟨q0m _,hd σ H p⟩
end
end L2
namespace R
theorem ak4 {n d:Int} (hd:0<d) (hc:q0s n d=1):(z0a n d).num=n/\((z0a n d).den:Int)=d:=by
 obtain ⟨k,rfl⟩:∃ k:Nat,d=k:=⟨d.toNat,⋯⟩;have hk:k ≠ 0:=⋯
 have hc':n.natAbs.Coprime k:=by
  rw [v0h] at hc
  simpa [Nat.Coprime] using hc
 have e:(⟨n,k,hk,hc'⟩:Rat)=z0a n k:=Rat.mk_eq_divInt;rw [<- e];exact ⟨rfl,rfl⟩
theorem J9 {n d t b:Int} (hd:0<d) (hc:q0s n d=1) (hb:b ≠ 0) (h:n*b=t*d):n=(z0a t b).num/\d=((z0a t b).den:Int):=by
 have e:z0a n d=z0a t b:=(y0a ⋯ hb).mpr h;obtain ⟨h1,h2⟩:=ak4 hd hc;rw [e] at h1 h2;exact ⟨h1.symm,h2.symm⟩
theorem j5 {g n:Int} (hg:g ≠ 0):(g*n).fdiv g=n:=by
 rw [u0r];exact Int.mul_fdiv_cancel n hg
theorem J8 {t b:Int} (hb:b ≠ 0):0<q0s t b:=Int.gcd_pos_of_ne_zero_right t hb
theorem P4 {t b n d:Int} (hb:b ≠ 0) (h1:t=(q0s t b:Int)*n) (h2:b=(q0s t b:Int)*d):q0s n d=1:=by
 have hg:=J8 (t:=t) hb
 have e:q0s ((q0s t b:Int)*n) ((q0s t b:Int)*d)=q0s t b*q0s n d:=by
  rw [Int.gcd_mul_left];simp
 rw [<- h1,<- h2] at e;exact g0h hg (by rw [<- e,q1b])
theorem aC9 {t b g:Int} (hb:b ≠ 0) (hg:g=if b<0 then -(Int.gcd t b:Int) else (Int.gcd t b:Int)):t.fdiv g=(Rat.divInt t b).num/\b.fdiv g=((Rat.divInt t b).den:Int):=by
  have hp:(0:Int)<Int.gcd t b:=by have:=J8 (t:=t) hb;omega
  obtain ⟨n,hn⟩:=Int.gcd_dvd_left t b;obtain ⟨d,hd⟩:=Int.gcd_dvd_right t b;have hc:=P4 hb hn hd
  by_cases hs:b<0
  · rw [if_pos hs] at hg
    subst hg;have hg0:(-(Int.gcd t b:Int)) ≠ 0:=⋯;have e1:t=-(Int.gcd t b:Int)*(-n):=by rw [Int.neg_mul_neg];exact hn
    have e2:b=-(Int.gcd t b:Int)*(-d):=by rw [Int.neg_mul_neg];exact hd
    have f1 : t.fdiv (-(Int.gcd t b : Int)) = -n := by conv => lhs; arg 1; rw [e1]
                                                       exact j5 hg0
    have f2 : b.fdiv (-(Int.gcd t b : Int)) = -d := by conv => lhs; arg 1; rw [e2]
                                                       exact j5 hg0
    rw [f1,f2]
    have hd0:0 < -d:=by
      rcases Int.lt_or_le d 0 with z | z
      · omega
      · have:=Int.mul_nonneg (Int.le_of_lt hp) z;omega
    refine J9 hd0 (by rw [Int.gcd_neg,Int.neg_gcd];exact hc) hb ?_
    conv=>lhs;rw [hd]
    conv=>rhs;rw [hn]
    generalize (Int.gcd t b:Int)=g
    grind
  · rw [if_neg hs] at hg
    subst hg;have hg0:((Int.gcd t b:Int)) ≠ 0:=⋯
    have f1 : t.fdiv (Int.gcd t b : Int) = n := by conv => lhs; arg 1; rw [hn]
                                                   exact j5 hg0
    have f2 : b.fdiv (Int.gcd t b : Int) = d := by conv => lhs; arg 1; rw [hd]
                                                   exact j5 hg0
    rw [f1,f2]
    have hd0:0<d:=by
      rcases Int.lt_or_le 0 d with z | z
      · exact z
      · have:=Int.mul_nonneg (Int.le_of_lt hp) (show 0<=-d by omega);rw [Int.mul_neg] at this;omega
    refine J9 hd0 hc hb ?_
    conv=>lhs;rw [hd]
    conv=>rhs;rw [hn]
    generalize (Int.gcd t b:Int)=g
    grind
theorem ap5 {x y:Int} (h:∀ k:Int,k ∣ x->k ∣ y->k ∣ 1):q0s x y=1:=by
 have:=h (q0s x y:Int) (j0c x y) (j0b x y);have h2:=u0m.mpr this
 simpa using h2
theorem av0 {x y k:Int} (h:q0s x y=1) (h1:k ∣ x) (h2:k ∣ y):k ∣ 1:=by
 have:=Int.dvd_coe_gcd h1 h2;rw [h] at this
 simpa using this
theorem P5 {k m n:Int} (h1:q0s k m=1) (h2:q0s k n=1):q0s k (m*n)=1:=by
 rw [v0h] at *;rw [z0p];exact Nat.Coprime.mul_right h1 h2
theorem af0 {k m:Int} (h1:q0s k m=1):q0s m k=1:=by rw [u0s];exact h1
theorem aD8 {k m n:Int} (h1:q0s k m=1) (h:n ∣ m):q0s k n=1:=ap5 λj a b=>av0 h1 a (y0m b h)
theorem an4 {k m n:Int} (h1:q0s k m=1) (h:n ∣ k):q0s n m=1:=ap5 λj a b=>av0 h1 (y0m a h) b
theorem aS7 {a b c d g1 g2:Int} (hb:0<b) (hd:0<d) (h1:q0s a b=1) (h2:q0s c d=1) (hg1:g1=(q0s a d:Int)) (hg2:g2=(q0s c b:Int)) :
  0<b.fdiv g2*d.fdiv g1/\q0s (a.fdiv g1*c.fdiv g2) (b.fdiv g2*d.fdiv g1)=1/\(a.fdiv g1*c.fdiv g2)*(b*d)=(a*c)*(b.fdiv g2*d.fdiv g1):=by
 have p1:0<g1:=by rw [hg1];have:=J8 (t:=a) (b:=d) ⋯;omega
 have p2:0<g2:=by rw [hg2];have:=J8 (t:=c) (b:=b) ⋯;omega
 obtain ⟨a',ha'⟩:g1 ∣ a:=hg1 ▸ j0c a d;obtain ⟨d',hd'⟩:g1 ∣ d:=hg1 ▸ j0b a d;obtain ⟨c',hc'⟩:g2 ∣ c:=hg2 ▸ j0c c b;obtain ⟨b',hb'⟩:g2 ∣ b:=hg2 ▸ j0b c b;have c1:q0s a' d'=1:=P4 (t:=a) (b:=d) ⋯ (by rw [<- hg1];exact ha') (by rw [<- hg1];exact hd')
 have c2:q0s c' b'=1:=P4 (t:=c) (b:=b) ⋯ (by rw [<- hg2];exact hc') (by rw [<- hg2];exact hb')
 have ea:a.fdiv g1=a':=by rw [ha'];exact j5 ⋯
 have ed:d.fdiv g1=d':=by rw [hd'];exact j5 ⋯
 have ec:c.fdiv g2=c':=by rw [hc'];exact j5 ⋯
 have eb:b.fdiv g2=b':=by rw [hb'];exact j5 ⋯
 rw [ea,ed,ec,eb]
 have bp:0<b':=by
  rcases g0k 0 b' with z | z
  ·exact z
  ·have:=m0j (Int.le_of_lt p2) (show 0<=-b' by omega);rw [m0b] at this;omega
 have dp:0<d':=by
  rcases g0k 0 d' with z | z
  ·exact z
  ·have:=m0j (Int.le_of_lt p1) (show 0<=-d' by omega);rw [m0b] at this;omega
 have x1:q0s a' b'=1:=aD8 (an4 h1 (ha' ▸ u0g _ _)) (hb' ▸ u0g _ _);have x2:q0s c' d'=1:=aD8 (an4 h2 (hc' ▸ u0g _ _)) (hd' ▸ u0g _ _);refine ⟨q1c bp dp,af0 (P5 (af0 (P5 x1 c1)) (af0 (P5 c2 x2))),?_⟩;rw [ha',hb',hc',hd']
 grind
theorem al8 (q:Rat):q0s q.num q.den=1:=by
 rw [v0h]
 simpa using q.reduced
theorem m9 (q:Rat):(0:Int)<q.den:=by have:=q.den_nz;omega
theorem aK8 (p q:Rat):p+q=z0a (p.num*q.den+q.num*p.den) (p.den*q.den):=by
 have h1:=m9 p;have h2:=m9 q
 conv=>lhs;rw [<- z0e p,<- z0e q]
 exact m0k _ _ ⋯ ⋯
theorem aI6 (p q:Rat):p-q=z0a (p.num*q.den-q.num*p.den) (p.den*q.den):=by
 have h1:=m9 p;have h2:=m9 q
 conv=>lhs;rw [<- z0e p,<- z0e q]
 exact Rat.divInt_sub_divInt _ _ ⋯ ⋯
theorem ak5 (p q:Rat):p*q=z0a (p.num*q.num) (p.den*q.den):=by
 conv=>lhs;rw [<- z0e p,<- z0e q]
 exact j0q _ _
theorem aK4 (p q:Rat):p / q=z0a (p.num*q.den) (p.den*q.num):=by
 rw [y0z,Rat.inv_def]
 conv=>lhs;lhs;rw [<- z0e p]
 exact j0q _ _
theorem aH4 (a b:Int):q0s b (a.fmod b)=q0s a b:=by
 have e:=Int.mul_fdiv_add_fmod a b;rw [u0s a b]
 conv=>rhs;rw [<- e]
 rw [show b*a.fdiv b+a.fmod b=a.fmod b+a.fdiv b*b by rw [u0r,Int.add_comm]]
 simp
theorem ae5 (a:Int) {b:Int} (hb:b ≠ 0):(a.fmod b).natAbs<b.natAbs:=by
 rcases g0k b 0 with h | h
 ·have e:=Int.neg_fmod_neg a b
  have h1:=y0h (-a) (show 0 < -b by omega)
  have h2:=y0w (-a) (show 0 < -b by omega)
  omega
 ·have h1:=y0h a (show 0<b by omega)
  have h2:=y0w a (show 0<b by omega)
  omega
open PySem L2 PyProof.Rows
section
variable {P:Program} {w:World} {K:q0a} {mg:Str->Option Value} {base:Heap}
theorem N9 {a:Int} {m:Nat} (h:a.natAbs<2 ^ m):Builtin.Int.intBits a<=m:=by
 unfold Builtin.Int.intBits
 split
 ·exact z0u _
 ·rename_i hz
  have h0:a.natAbs ≠ 0:=by
   intro z;have:a=0:=⋯
   simp [this] at hz
  have:=(Nat.log2_lt h0).mpr h;omega
theorem L7 {a b:Int} {m n:Nat} (ha:a.natAbs<2 ^ m) (hb:b.natAbs<2 ^ n) (h:m+n<=134217728:=by decide):IntMulOk a b:=IntMulOk.of_le (N9 ha) (N9 hb) h
theorem Y8 {j:Int} (h0:j ≠ 0) (h:j.natAbs<2 ^ 9000):av7 i j:=⟨h0,(Nat.log2_lt ⋯).mpr h⟩
theorem d6 {m n:Nat} (h:m<=n):2 ^ m<=2 ^ n:=Nat.pow_le_pow_right (by decide) h
theorem Y6 {a:Nat} {m n:Nat} (h:a<2 ^ m) (hm:m<=n:=by decide):a<2 ^ n:=q0b h (d6 hm)
def t7 (q:Rat):List V:=[.int q.num,.int (q.den:Int)]
structure Bd (q:Rat):Prop where
 n:q.num.natAbs<2 ^ 3000
 d:q.den<2 ^ 3000
def Num (K:q0a) (H:Hp) (v:V) (q:Rat):Prop:=∃ p,v=.ref p/\SqT K H p (t7 q)
def ap0 (H:Hp) (Q:VK) (q:Rat):Prop:=∀ r H',c7 H H'->H' r=some (.tup (t7 q))->Q (.ref r) H'
theorem v8:(2:Nat)<=sizeLine:=by decide
theorem bd7:(1:Nat)<=sizeLine:=by decide
theorem au5 {a b:Int} {n:Nat} (hb:b ≠ 0) (h:b.natAbs<n):((q0s a b:Nat):Int).natAbs<n:=by
 have h1:q0s a b ∣ b.natAbs:=by
  have:=u0m.mpr (j0b a b)
  simpa using this
 have h2:=v0n ⋯ h1;simp only [z0b];omega
theorem aH3 {a b:Int} {n:Nat} (hb:a ≠ 0) (h:a.natAbs<n):((q0s a b:Nat):Int).natAbs<n:=by
 rw [u0s];exact au5 hb h
theorem ac2 {a g:Int} (hg:0<g) (hd:g ∣ a):(a.fdiv g).natAbs<=a.natAbs:=by
 obtain ⟨n,rfl⟩:=hd;rw [j5 ⋯,z0p];exact v0a _ ⋯
theorem W5 {q:Rat}:q.num=0 ↔ q=0:=by
 constructor
 ·intro h;exact Rat.num_eq_zero.mp h
 ·intro h;rw [h];rfl
theorem at0 (q:Rat):atI (t7 q) 0=some (.int q.num):=rfl
theorem at1 (q:Rat):atI (t7 q) 1=some (.int (q.den:Int)):=rfl
theorem aP6 {a b:Int} (h:a.natAbs<2 ^ 64):IntMulOk a b:=IntMulOk.of_left (N9 h)
theorem ay2 {a b:Int} (h:b.natAbs<2 ^ 64):IntMulOk a b:=IntMulOk.of_right (N9 h)
def ap1:Sp:=λvs H Q _ => ∃ t b:Int,vs=[.int t,.int b]/\b ≠ 0/\b.natAbs<2 ^ 6000/\ap0 H Q (z0a t b)
def k8 (H:Hp) (u:Addr):Prop:=∃ g m p:Int,H u=some (.lst [.int g,.int m,.int p])/\0<=g/\0<=m/\m<2 ^ 40/\0<p/\p<2 ^ 40
def l4 (u:Addr) (H H':Hp):Prop:=∀ b o,H b=some o->b ≠ u->H' b=some o
theorem c7.x {H H':Hp} (s:c7 H H') (u:Addr):l4 u H H':=λb o h _=>s b o h
theorem l4.trans {u:Addr} {H H1 H2:Hp} (a:l4 u H H1) (b:l4 u H1 H2):l4 u H H2:=λc o h n=>b c o (a c o h n) n
theorem l4.upd (u:Addr) (H:Hp) (o:HO):l4 u H (upd H u o):=λb p h n=>by rw [g9 n];exact h
theorem c7.urn {H H':Hp} {u:Addr} (s:c7 H H') (h:k8 H u):k8 H' u:=let ⟨g,m,p,h1,r⟩:=h;⟨g,m,p,s _ _ h1,r⟩
def bc0 (K:q0a):Sp:=λvs H Q _ => ∃ (a:Addr) (ns:List Int) (k:Int),vs=[.ref a,.int k]/\SqL K H a (ns.map V.int)/\0<=k/\k<64/\∀ r H',c7 H H'->H r=none->k8 H' r->Q (.ref r) H'
def be2:List V:=[.int 1899999979,.int 1899998977,.int 1899997949,.int 1899996929,.int 1899995927,.int 1899994903,.int 1899993877,.int 1899992839]
theorem aU0 {k:Int} (h0:0<=k):∃ p:Int,atI be2 (k.fmod 8)=some (.int p)/\1899992839<=p/\p<=1899999979:=by
 have h1:=y0h k (show (0:Int)<8 by decide)
 have h2:=y0w k (show (0:Int)<8 by decide)
 have h3:k.fmod 8=0 \/ k.fmod 8=1 \/ k.fmod 8=2 \/ k.fmod 8=3 \/ k.fmod 8=4 \/ k.fmod 8=5 \/ k.fmod 8=6 \/ k.fmod 8=7:=⋯;rcases h3 with h | h | h | h | h | h | h | h <;> rw [h] <;> exact ⟨_,rfl,by decide,by decide⟩
theorem aR8 {ns:List Int} {k:Int} (h0:0<=k) (h:k<(ns.length:Int)):∃ v:Int,atI (ns.map V.int) k=some (.int v):=by
 have hk:k.toNat<ns.length:=⋯;have ek:k=((k.toNat:Nat):Int):=⋯;have q:atI (ns.map V.int) ((k.toNat:Nat):Int)=some (.int ns[k.toNat]):=C7 (by rw [q0q,q0c hk] <;> rfl)
 rw [<- ek] at q;exact ⟨_,q⟩
def C8:Sp:=λvs H Q _ => ∃ (u:Addr) (n:Int),vs=[.ref u,.int n]/\k8 H u/\0<n/\n<2 ^ 40/\∀ r H',0<=r->r<n->l4 u H H'->k8 H' u->Q (.int r) H'
structure Sm (q:Rat):Prop where
 n:q.num.natAbs<=10 ^ 12
 d:q.den<=10 ^ 12
theorem O0 {t b:Int} (hb:b ≠ 0):(z0a t b).num.natAbs<=t.natAbs/\(z0a t b).den<=b.natAbs:=by
 have hp:=J8 (t:=t) hb;obtain ⟨e1,e2⟩:=aC9 (t:=t) (b:=b) (g:=if b<0 then -(q0s t b:Int) else (q0s t b:Int)) hb rfl
 have key:∀ x:Int,(q0s t b:Int) ∣ x->(x.fdiv (if b<0 then -(q0s t b:Int) else (q0s t b:Int))).natAbs<=x.natAbs:=by
  rintro x ⟨n,hn⟩
  split
  ·have:x=-(q0s t b:Int)*(-n):=by rw [Int.neg_mul_neg];exact hn
   rw [this,j5 ⋯,z0p];exact v0a _ ⋯
  ·rw [hn,j5 ⋯,z0p]
   exact v0a _ ⋯
 have k1:=key t (j0c t b);have k2:=key b (j0b t b);rw [e1] at k1;rw [e2] at k2;exact ⟨k1,⋯⟩
theorem bh9 {t b:Int} (hb:b ≠ 0) (h1:t.natAbs<=10 ^ 12) (h2:b.natAbs<=10 ^ 12):Sm (z0a t b):=by
 obtain ⟨e1,e2⟩:=O0 (t:=t) hb;exact ⟨⋯,⋯⟩
def as3:Sp:=λvs H Q _ => ∃ u,vs=[.ref u]/\k8 H u/\∀ r H',r=0 \/ r=1 \/ r=2->l4 u H H'->k8 H' u->Q (.int r) H'
theorem w5 {H:Hp} {u l:Addr} (hu:k8 H u) (hl:H l=none):l ≠ u:=by
 obtain ⟨g,m,p,h,r⟩:=hu;exact (i9 h hl).symm
theorem J0 {H:Hp} {u l:Addr} {o:HO} (hu:k8 H u) (hl:H l=none):k8 (upd H l o) u:=by
 obtain ⟨g,m,p,h,r⟩:=hu;exact ⟨g,m,p,by rw [g9 (i9 h hl)];exact h,r⟩
def spNumber:Sp:=λvs H Q _ => ∃ u kd,vs=[.ref u,.int kd]/\k8 H u/\∀ r q H',Sm q->l4 u H H'->k8 H' u->H' r=some (.tup (t7 q))->Q (.ref r) H'
def al2:Sp:=λvs H Q _ => ∃ i:Int,vs=[.int i]/\Q (.bl true) H
theorem aH2:z0c K (.type "int") (.type "int")=some true:=by unfold z0c;rw [if_pos (by decide)]
theorem aD0:z0c K (.type "int") (.type "bool")=some false:=by kernel_rfl
theorem aH1:z0c K (.type "tuple") (.type "tuple")=some true:=by unfold z0c;rw [if_pos (by decide)]
def X0 (q:Rat):D:=.tup [.v (.int q.num),.v (.int (q.den:Int))]
theorem aD1 {H:Hp} {a:Addr} {q:Rat} (h:SqT K H a (t7 q)):IsD K H (.ref a) (X0 q):=.tup h (.cons (.v rfl) (.cons (.v rfl) .nil))
theorem aM8 (q:Rat):eqD (X0 q) (X0 q)=true:=by simp [X0,eqD,K3,eqV]
theorem aM2 (p q:Rat):okD (X0 p) (X0 q)=true:=by simp [X0,okD,ad2]
theorem bg2 (q:Rat):dpD (X0 q)<=60:=by simp [X0,dpD,ao7]
def aL9 (K:q0a):Sp:=λvs H Q _ => ∃ x q,vs=[x]/\(∃ p,x=.ref p/\SqT K H p (t7 q))/\(q.den:Int).natAbs<2 ^ 6000/\∀ H',c7 H H'->Q (.bl true) H'
end
open PySem L2 PyProof.Rows
inductive t5 (H:Hp):List V->List Rat->Prop where
 | nil:t5 H [] []
 | cons {p:Addr} {q:Rat} {vs:List V} {qs:List Rat} (h:H p=some (.tup (t7 q))) (t:t5 H vs qs):t5 H (.ref p :: vs) (q :: qs)
def X1 (H H':Hp):Prop:=∀ b xs,H b=some (.tup xs)->H' b=some (.tup xs)
theorem _root_.L2.c7.tups {H H':Hp} (s:c7 H H'):X1 H H':=λb xs h=>s b _ h
theorem l4.tups {u:Addr} {H H':Hp} (s:l4 u H H') (hu:k8 H u):X1 H H':=λb xs h=>by
 obtain ⟨g,m,p,e,_⟩:=hu;exact s b _ h (bc3 h e (by intro z;cases z))
theorem X1.lst {H:Hp} {a:Addr} {xs:List V} {o:HO} (h:H a=some (.lst xs)):X1 H (upd H a o):=λb ys e=>by
 rw [g9 (bc3 e h (by intro z;cases z))];exact e
theorem X1.new {H:Hp} {a:Addr} {o:HO} (h:H a=none):X1 H (upd H a o):=(c7.new h o).tups
theorem t5.mono {H H':Hp} (e:X1 H H'):∀ {vs:List V} {qs:List Rat},t5 H vs qs->t5 H' vs qs
 | _,_,.nil=>.nil
 | _,_,.cons h t=>.cons (e _ _ h) (t.mono e)
theorem t5.length {H:Hp}:∀ {vs:List V} {qs:List Rat},t5 H vs qs->vs.length=qs.length
 | _,_,.nil=>rfl
 | _,_,.cons _ t=>congrArg (· + 1) t.length
theorem t5.take {H:Hp}:∀ {vs:List V} {qs:List Rat} (m:Nat),t5 H vs qs->t5 H (vs.take m) (qs.take m)
 | _,_,0,_=>by simp;exact .nil
 | _,_,_+1,.nil=>.nil
 | _,_,m+1,.cons h t=>.cons h (t.take m)
theorem t5.drop {H:Hp}:∀ {vs:List V} {qs:List Rat} (m:Nat),t5 H vs qs->t5 H (vs.drop m) (qs.drop m)
 | _,_,0,h=>h
 | _,_,_+1,.nil=>.nil
 | _,_,m+1,.cons h t=>t.drop m
theorem t5.append {H:Hp}:∀ {vs ws:List V} {qs rs:List Rat},t5 H vs qs->t5 H ws rs->t5 H (vs ++ ws) (qs ++ rs)
 | _,_,_,_,.nil,b=>b
 | _,_,_,_,.cons h t,b=>.cons h (t.append b)
theorem t5.get {H:Hp}:∀ {vs:List V} {qs:List Rat} {i:Nat} {q:Rat},t5 H vs qs->qs[i]? = some q->∃ p,vs[i]? = some (.ref p)/\H p=some (.tup (t7 q))
 | _,_,_,_,.nil,e=>by simp at e
 | _,_,0,_,.cons h t,e=>by
  have:=Option.some.inj e;subst this;exact ⟨_,rfl,h⟩
 | _,_,i+1,_,.cons h t,e=>by
  obtain ⟨p,e1,e2⟩:=t.get (i:=i) (by simpa using e)
  exact ⟨p,by simpa using e1,e2⟩
theorem t5.getV {H:Hp}:∀ {vs:List V} {qs:List Rat} {i:Nat} {v:V},t5 H vs qs->vs[i]? = some v->∃ p q,v=.ref p/\qs[i]? = some q/\H p=some (.tup (t7 q))
 | _,_,_,_,.nil,e=>by simp at e
 | _,_,0,_,.cons h t,e=>by
  have:=Option.some.inj e;subst this;exact ⟨_,_,rfl,rfl,h⟩
 | _,_,i+1,_,.cons h t,e=>by
  obtain ⟨p,q,e0,e1,e2⟩:=t.getV (i:=i) (by simpa using e)
  exact ⟨p,q,e0,by simpa using e1,e2⟩
theorem t5.isDs {K:q0a} {H:Hp}:∀ {vs:List V} {qs:List Rat},t5 H vs qs->af3 K H vs (qs.map X0)
 | _,_,.nil=>.nil
 | _,_,.cons h t=>.cons (aD1 (SqT.of h)) t.isDs
theorem aY9 {p q:Rat} (h1:p.num=q.num) (h2:p.den=q.den):p=q:=by
 cases p;cases q;simp at h1 h2;subst h1 h2;rfl
theorem aX0 (p q:Rat):eqD (X0 p) (X0 q)=decide (p=q):=by
 by_cases h:p=q
 ·subst h;rw [aM8];simp
 ·rw [decide_eq_false h]
  simp only [X0,eqD,K3,eqV,Bool.and_true]
  by_cases h1:p.num=q.num
  ·have h2:p.den ≠ q.den:=λz=>h (aY9 h1 z)
   have:((p.den:Int) == (q.den:Int))=false:=by
    rw [beq_eq_false_iff_ne];intro z;exact h2 ⋯
   rw [this,Bool.and_false]
  ·have:(p.num == q.num)=false:=by rw [beq_eq_false_iff_ne];exact h1
   rw [this,Bool.false_and]
theorem ay7:∀ ps qs:List Rat,K3 (ps.map X0) (qs.map X0)=decide (ps=qs)
 | [],[]=>by simp [K3]
 | [],_ :: _=>by simp [K3]
 | _ :: _,[]=>by simp [K3]
 | p :: ps,q :: qs=>by
  rw [z0s,z0s,K3,aX0,ay7 ps qs]
  by_cases h1:p=q <;> by_cases h2:ps=qs <;> simp [h1,h2]
theorem ay0:∀ ps qs:List Rat,ad2 (ps.map X0) (qs.map X0)=true
 | [],[]=>by simp [ad2]
 | [],_ :: _=>by simp [ad2]
 | _ :: _,[]=>by simp [ad2]
 | p :: ps,q :: qs=>by rw [z0s,z0s,ad2,aM2,ay0 ps qs];rfl
theorem ay9:∀ qs:List Rat,ao7 (qs.map X0)<=1
 | []=>by simp [ao7]
 | q :: qs=>by
  have h1:dpD (X0 q)<=1:=by simp [X0,dpD,ao7]
  have h2:=ay9 qs;rw [z0s,ao7];omega
def F4 (qs:List Rat):D:=.lst (qs.map X0)
theorem M6 {K:q0a} {H:Hp} {a:Addr} {vs:List V} {qs:List Rat} (h:SqL K H a vs) (n:t5 H vs qs):IsD K H (.ref a) (F4 qs):=.lst h n.isDs
theorem aa8 (ps qs:List Rat):eqD (F4 ps) (F4 qs)=decide (ps=qs):=by unfold F4;rw [eqD,ay7]
theorem ae4 (ps qs:List Rat):okD (F4 ps) (F4 qs)=true:=by unfold F4;rw [okD,ay0]
theorem an3 (qs:List Rat):dpD (F4 qs)<=2:=by unfold F4;rw [dpD];have:=ay9 qs;omega
structure N3 (qs:List Rat) (m:Nat):Prop where
 le:m<=qs.length
 zero:∀ (i:Nat) (q:Rat),m<=i->qs[i]? = some q->q=0
 last:m ≠ 0->∀ q,qs[m-1]? = some q->q ≠ 0
theorem N3.uniq {qs:List Rat} {m n:Nat} (a:N3 qs m) (b:N3 qs n):m=n:=by
 have key:∀ {m n:Nat},N3 qs m->N3 qs n->¬ m<n:=by
  intro m n a b h;have hn:n-1<qs.length:=by have:=b.le;omega
  exact b.last ⋯ _ (q0c hn) (a.zero (n-1) _ ⋯ (q0c hn))
 have:=key a b;have:=key b a;omega
theorem av3 (vs:List V) {m:Nat} (h:m<=vs.length):ah5 vs none (some (m:Int))=vs.take m:=by
 unfold ah5;have e1:HT.sIx vs.length 0 none=0:=by simp [HT.sIx]
 have e2:HT.sIx vs.length vs.length (some (m:Int))=m:=by
  simp only [HT.sIx]
  split <;> omega
 rw [e1,e2];simp
end R
set_option maxRecDepth 100000
namespace L2
open PySem PySem.Spec PyProof.Rows
def WhN (Pv:St->Hp->Prop) (μ:St->Hp->Nat) (m:Nat):St->Hp->Prop:=λσ' H' => ∃ m',m'<m/\(m'=μ σ' H'/\Pv σ' H')
theorem WhN.mk {Pv:St->Hp->Prop} {μ:St->Hp->Nat} {m:Nat} {σ':St} {H':Hp} (h:Pv σ' H') (l:μ σ' H'<m):WhN Pv μ m σ' H':=⟨_,l,rfl,h⟩
def WhB (tb:TS) (D:ah6) (Pv:St->Hp->Prop) (μ:St->Hp->Nat) (m:Nat) (σ:St) (H1:Hp):Prop :=
 ∃ N:St->Hp->Prop,(∀ σ' H',N σ' H'->∃ m',m'<m/\(m'=μ σ' H'/\Pv σ' H'))/\tb { D with nx:=N,ct:=N,bk:=D.nx } σ H1
theorem WhB.mk {tb:TS} {D:ah6} {Pv:St->Hp->Prop} {μ:St->Hp->Nat} {m:Nat} {σ:St} {H1:Hp} (h:tb { D with nx:=WhN Pv μ m,ct:=WhN Pv μ m,bk:=D.nx } σ H1):WhB tb D Pv μ m σ H1:=⟨_,λ_ _ n=>n,h⟩
theorem aS2 {c:TT} {tb:TS} {D:ah6} {σ:St} {H:Hp} (Pv:St->Hp->Prop) (μ:St->Hp->Nat) (h0:Pv σ H)
  (hs:∀ σ H,Pv σ H->c σ H λb H1=>if b=true then WhB tb D Pv μ (μ σ H) σ H1 else D.nx σ H1):aA0 c tb D σ H:=by
 refine ⟨λm σ H=>m=μ σ H/\Pv σ H,⟨_,rfl,h0⟩,?_⟩;rintro m σ H ⟨rfl,p⟩;exact hs σ H p
theorem c7.over {H H1:Hp} {l:Addr} (s:c7 H H1) (hl:H l=none) (o:HO):c7 H (upd H1 l o):=λb u h=>by
 rw [g9 (i9 h hl)];exact s b u h
def X2 (J:It) (D:Addr) (σ0:St) (H0:Hp) (g:TG) (te:TE) (Q:VK):Prop:=∃ W:Nat->Nat->St->Hp->Prop,(∃ m,W 0 m σ0 H0) /\
 ∀ i m σc H2,W i m σc H2->(J.stop i H2/\Q (.ref D) H2) \/
  (J.go i H2/\∀ x H3,J.yld i H2 x H3->g x σc H3 λσ4 H4=>te σ4 H4 λy H5 => ∃ ys,H5 D=some (.lst ys)/\ys.length<sizeLine/\∃ m',m'<m/\W (i+1) m' σ4 (upd H5 D (.lst (ys ++ [y]))))
theorem D4 (wi:TI) (caps:List (Option Nat)) (g:TG) (te:TE):aE6 wi caps g te=λσ H Q=>wi σ H λJ H1 => ∀ D,H1 D=none->X2 J D (x4 caps σ) (upd H1 D (.lst [])) g te Q:=rfl
def bh6 (J:It) (D:Addr) (σ0:St) (H0:Hp) (g:TG) (tt:TT) (te:TE) (Q:VK):Prop:=∃ W:Nat->Nat->St->Hp->Prop,(∃ m,W 0 m σ0 H0) /\
 ∀ i m σc H2,W i m σc H2->(J.stop i H2/\Q (.ref D) H2) \/
  (J.go i H2/\∀ x H3,J.yld i H2 x H3->g x σc H3 λσ4 H4=>tt σ4 H4 λb H4'=>if b=true then te σ4 H4' λy H5 => ∃ ys,H5 D=some (.lst ys)/\ys.length<sizeLine/\∃ m',m'<m/\W (i+1) m' σ4 (upd H5 D (.lst (ys ++ [y])))
   else ∃ m',m'<m/\W (i+1) m' σ4 H4')
theorem y0 (wi:TI) (caps:List (Option Nat)) (g:TG) (tt:TT) (te:TE):aY5 wi caps g tt te=λσ H Q=>wi σ H λJ H1 => ∀ D,H1 D=none->bh6 J D (x4 caps σ) (upd H1 D (.lst [])) g tt te Q:=rfl
section
variable {K:q0a} {a D:Addr} {xs:List V} {g:TG} {te:TE} {σ0:St} {H0:Hp} {Q:VK}
theorem y9 (xs:List V) (Pv:Nat->St->Hp->Prop) (h0:Pv 0 σ0 H0) (hl:∀ i σ H,i<=xs.length->Pv i σ H->SqL K H a xs)
  (hs:∀ i x σ H,xs[i]? = some x->Pv i σ H->g x σ H λσ4 H4=>te σ4 H4 λy H5=>o0 D xs.length Pv i σ4 y H5) (hd:∀ σ H,Pv xs.length σ H->Q (.ref D) H):X2 (Itl K a) D σ0 H0 g te Q:=aR3 Pv h0 hl hs hd
theorem I0 {lo:Int} {n:Nat} (Pv:Nat->St->Hp->Prop) (h0:Pv 0 σ0 H0)
  (hs:∀ i σ H,i<n->Pv i σ H->g (.int (lo+i)) σ H λσ4 H4=>te σ4 H4 λy H5=>o0 D n Pv i σ4 y H5) (hd:∀ σ H,Pv n σ H->Q (.ref D) H):X2 (Itr lo n) D σ0 H0 g te Q:=aK5 Pv h0 hs hd
end
theorem j6 {cells:List (Str × Addr)}:∀ (x:Str) (c:Addr),([]:List (Str × Addr)).lookup x=some c->cells.lookup x=some c:=λx c h=>by cases h
theorem i8 {cells cl:List (Str × Addr)} {k:Str} {a:Addr} (h:cells.lookup k=some a) (r:∀ (x:Str) (c:Addr),cl.lookup x=some c->cells.lookup x=some c):∀ (x:Str) (c:Addr),((k,a) :: cl).lookup x=some c->cells.lookup x=some c:=λx c e=>by
 rw [y0s] at e
 split at e
 ·rename_i q
  have:=eq_of_beq q;subst this
  cases e
  exact h
 ·exact r x c e
end L2
namespace R
open PySem L2 PyProof.Rows
theorem l4.over {u:Addr} {H H1:Hp} {l:Addr} (s:l4 u H H1) (hl:H l=none) (o:HO):l4 u H (L2.upd H1 l o):=λb x h n=>by
 rw [g9 (i9 h hl)];exact s b x h n
theorem l4.free {u:Addr} {H H':Hp} {l:Addr} (s:l4 u H H') (hu:k8 H' u) (h:H' l=none):H l=none:=by
 cases e:H l with
 | none=>rfl
 | some o =>
  by_cases q:l=u
  ·subst q
   obtain ⟨_,_,_,z,_⟩:=hu;rw [z] at h;cases h
  ·rw [s l o e q] at h;cases h
theorem k8.other {H:Hp} {u l:Addr} {o:HO} (h:k8 H u) (ne:l ≠ u):k8 (upd H l o) u:=by
 obtain ⟨g,m,p,e,r⟩:=h;exact ⟨g,m,p,by rw [g9 ne.symm];exact e,r⟩
theorem aG9 {H:Hp} {p l:Addr} {o:HO} (h:upd H p o l=none):H l=none:=by
 by_cases q:l=p
 ·subst q;rw [c5] at h;cases h
 ·rw [g9 q] at h;exact h
theorem bf1 {H:Hp} {p l:Addr} {o:HO} (h:upd H p o l=none):l ≠ p:=λq=>by
 subst q;rw [c5] at h;cases h
theorem ai1 {K:q0a}:z0c K (.type "list") (.type "list")=some true:=by unfold z0c;rw [if_pos (by decide)]
end R
set_option maxRecDepth 100000
namespace L2
open PySem PySem.Spec PyProof.Rows
def Itz (K:PySem.W.Frag) (a b:Addr):It :=
  ⟨λi H => ∃ xs ys x y,SqL K H a xs/\SqL K H b ys/\xs[i]? = some x/\ys[i]? = some y,
   λi H v H' => ∀ xs ys,SqL K H a xs->SqL K H b ys->∃ x y p,xs[i]? = some x/\ys[i]? = some y/\H p=none/\v=.ref p/\H'=upd H p (.tup [x,y]),
   λi H => ∃ xs ys,SqL K H a xs/\SqL K H b ys/\(xs.length<=i \/ ys.length<=i)⟩
theorem aS5 {P:Program} {w:World} {K:q0a} {elts:List Expr} {k:Nat} {tpos:Pos} (a b z TI TO i1 i2:Addr) (D:ZipApart z TI TO i1 i2 a b) :
  aK9 P w K (.Tuple elts k tpos) (Itz K a b) [z,TI,TO,i1,i2] z (λi h=>IsZip h z TI TO .none/\IsPair h TI (.ref i1) (.ref i2)/\(∃ a b,IsPair h TO a b)/\h.IsListIter i1 a i/\h.IsListIter i2 b i) where
 mem:=by simp
 obj:=λi h st c hc=>by
  obtain ⟨hz,hTI,⟨p,q,hTO⟩,h1,h2⟩:=st;rcases (by simpa using hc:c=z \/ c=TI \/ c=TO \/ c=i1 \/ c=i2) with e | e | e | e | e <;> subst e
  ·exact ⟨_,hz,λv z=>by cases z⟩
  ·exact ⟨_,hTI,λv z=>by cases z⟩
  ·exact ⟨_,hTO,λv z=>by cases z⟩
  ·obtain ⟨o,e,c,d⟩:=h1
   exact ⟨o,e,λv z=>by rw [d] at z;cases z⟩
  ·obtain ⟨o,e,c,d⟩:=h2
   exact ⟨o,e,λv z=>by rw [d] at z;cases z⟩
 keep:=λi h h' st k=>by
  obtain ⟨hz,hTI,⟨p,q,hTO⟩,h1,h2⟩:=st;exact ⟨k z (by simp) _ hz,k TI (by simp) _ hTI,⟨p,q,k TO (by simp) _ hTO⟩,h1.at λo e=>k i1 (by simp) o e,h2.at λo e=>k i2 (by simp) o e⟩
 item:=by
  intro X hP hw hK hc i pins s σ H E I hf st hg;subst hP hw hK;obtain ⟨xs,ys,x,y,hq,hq',hx,hy⟩:=hg;obtain ⟨its,rv,p,hlz⟩:=I.list hq;obtain ⟨its',rv',p',hlz'⟩:=I.list hq';obtain ⟨u,hu,ru⟩:=rv.get hx;obtain ⟨u',hu',ru'⟩:=rv'.get hy;obtain ⟨hz,hTI,⟨pa,pb,hTO⟩,h1,h2⟩:=st;have zlt:z<s.heap.objs.size:=q0e hz;refine wpAny_pyNext_zip_item D hz hTI hTO h1 h2 p.isList p'.isList (x:=u) (y:=u') (by simpa using hu) (by simpa using hu') λh' a1 a2 a3 a4 a5 a6 kk=>?_
  refine ⟨_,rfl,?_⟩;refine wpAny_letOwnedTupleGo_zip (s:={ s with heap:=h' }) a1 λh'' hz'' sb=>?_;have up:∀ c o,c ≠ z->h'.get? c=some o->h''.get? c=some o:=λc o n q=>(sb.2 c n).trans q;have hT':h''.get? s.heap.objs.size=some { cls:=.type "tuple",data:=.seq #[u,u'] }:=up _ _ (j0y zlt) a5
  refine ⟨.ref s.heap.objs.size,upd H s.heap.objs.size (.tup [x,y]),I.turnLaid (fp:=[z,TI,TO,i1,i2]) (t':=s.toks) hf (λc v hb q=>?_) (q0m _) ?_,rfl,?_,?_,λc hb=>?_⟩
  ·have n1:c ≠ z:=λe=>hb (by simp [e])
   have n2:c ≠ TO:=λe=>hb (by simp [e])
   have n3:c ≠ i1:=λe=>hb (by simp [e])
   have n4:c ≠ i2:=λe=>hb (by simp [e])
   exact up c v n1 (kk c v n1 n2 n3 n4 q)
  ·exact ⟨(show 2<=sizeLine by decide +kernel),[u,u'],.cons ru (.cons ru' .nil),_,hT',rfl,_,rfl⟩
  ·intro vs ws hv hw
   rw [I.list_inj hv hq,I.list_inj hw hq'];exact ⟨x,y,_,hx,hy,I.fresh,rfl,rfl⟩
  ·refine ⟨hz'',up _ _ D.TIz (kk _ _ D.TIz D.TITO D.TIi1 D.TIi2 hTI),⟨u,u',up _ _ D.TOz a2⟩,a3.at λo q=>up _ o D.i1z q,a4.at λo q=>up _ o D.i2z q⟩
  ·have hlt:c<s.heap.objs.size:=by
    have l1:i1<s.heap.objs.size:=by obtain ⟨_,e,_⟩:=h1;exact q0e e
    have l2:i2<s.heap.objs.size:=by obtain ⟨_,e,_⟩:=h2;exact q0e e
    rcases (by simpa using hb:c=z \/ c=TI \/ c=TO \/ c=i1 \/ c=i2) with e | e | e | e | e <;> rw [e]
    ·exact zlt
    ·exact q0e hTI
    ·exact q0e hTO
    ·exact l1
    ·exact l2
   rw [g9 (q0v hlt)];exact (hf c hb).1
 done:=by
  intro X hP hw hK hc i pins s σ H E I hf st hg;subst hP hw hK;obtain ⟨xs,ys,hq,hq',hend⟩:=hg;obtain ⟨its,rv,p,hlz⟩:=I.list hq;obtain ⟨its',rv',p',hlz'⟩:=I.list hq';obtain ⟨hz,hTI,⟨pa,pb,hTO⟩,h1,h2⟩:=st;have l1:=rv.length;have l2:=rv'.length;refine wpAny_pyNext_zip_end (I.ok.hd hc) D hz hTI hTO h1 h2 p.isList p'.isList ?_ λh' kk=>⟨rfl,?_⟩
  ·rcases hend with e | e
   ·exact .inl (by simp;omega)
   ·exact .inr (by simp;omega)
  ·have nf:∀ b u,H b=some u->b ∉ [z,TI,TO,i1,i2]:=λb u e q=>by rw [(hf b q).1] at e;cases e
   have k:∀ b u,b ∉ [z,TI,TO,i1,i2]->s.heap.get? b=some u->h'.get? b=some u:=λc o hb q=>kk c o (λe=>hb (by simp [e])) (λe=>hb (by simp [e])) (λe=>hb (by simp [e])) (λe=>hb (by simp [e])) q
   refine I.step (t':=s.toks) (g':=s.gens) (d':=s.drawn) (ch:=[z,TI,TO,i1,i2]) (λb hb=>?_) (λb o _ _ hc e _=>k b o hc e) (λb o _ _ hc e _=>⟨o.slots,k b o hc e⟩) (λb o _ e n=>n)
    (λb o hc e=>⟨o,k b o hc e⟩) (λb xs e=>e) (λb o u e=>e) (λb ps e=>⟨#[],by rw [e];simp⟩) (λm hm=>?_) (λb u e=>?_) I.bare
   ·obtain ⟨_,f1,_,f3,f4,f5⟩:=hf b hb
    exact ⟨f3,f1,f4,f5⟩
   ·obtain ⟨o,es,ep,ho,r⟩:=hm
    exact ⟨o,es,ep,k _ o (λq=>(hf _ q).2.1 rfl) ho,r⟩
   ·refine (I.hok b u e).stay (λc v hc q=>k c v ?_ q) (λc q=>q) λc xs q=>q
    rcases hc with q | q
    ·rw [q];exact nf b u e
    ·exact nf c _ q
 self:=λ_ _ _ _ _ st h=>wpAny_pyIter_zip st.1 h
section
variable {X:Cx}
def ae6 (K:q0a) (ta:TA):TI:=λσ H R=>ta σ H λvs H1 => ∃ a b,vs=[.ref a,.ref b]/\(∃ xs,SqL K H1 a xs)/\(∃ ys,SqL K H1 b ys)/\R (Itz K a b) H1
theorem as8 {elts:List Expr} {k:Nat} {tpos:Pos} {l l':Expr} {ta:TA} {p pos:Pos} (hg:Gl X "zip") (hm:X.mg "zip" = none) (ha:PA X [l,l'] ta) (hs:starEach [l,l'] X.env=[(false,eval l X.env),(false,eval l' X.env)]:=by rfl) (hs2:starEach [l'] X.env=[(false,eval l' X.env)]:=by rfl) :
  PI X (.Tuple elts k tpos) (.Call (.Name "zip" p) [l,l'] [] pos) (ae6 X.K ta):=by
 intro pins s σ H R I h;refine Call_ (Z5 I hg hm (u:=.type "zip") (by decide +kernel) (PyProof.Rows.callWith_type1 (thn (ha pos pins s σ H _ I h) λus s1 ⟨vs,H1,I1,r1,q1⟩=>?_) (by rw [hs,hs2]) (by rw [hs2];rfl)))
 obtain ⟨a,b,e,⟨xs,hq⟩,⟨ys,hq'⟩,q⟩:=q1;subst e;obtain ⟨u,u',rfl,rx,rx'⟩:=m6.two r1
 cases rx
 cases rx'
 obtain ⟨its,rv,p,hz⟩:=I1.list hq;obtain ⟨its',rv',p',hz'⟩:=I1.list hq';have a1:a<s1.heap.objs.size:=by obtain ⟨_,e,_⟩:=p.isList;exact q0e e
 have a2:b<s1.heap.objs.size:=by obtain ⟨_,e,_⟩:=p'.isList;exact q0e e
 refine call_zip_2 p.isList p'.isList λh' hz hTI hTO hi1 hi2 hsz kk=>?_;refine wpAny_pyIter_zip hz ?_;have I2:Inv X pins σ H1 { s1 with heap:=h' }:=I1.kept (t':=s1.toks) kk;refine ⟨_,_,_,_,H1,rfl,I2,aS5 a b _ _ _ _ _ (zipApart_new a1 a2),⟨hz,hTI,⟨_,_,hTO⟩,hi1,hi2⟩,λc hb=>?_,q⟩
 have hb':s1.heap.objs.size<=c:=by
  rcases (by simpa using hb:c=s1.heap.objs.size+4 \/ c=s1.heap.objs.size+2 \/ c=s1.heap.objs.size+3 \/ c=s1.heap.objs.size \/ c=s1.heap.objs.size+1) with e | e | e | e | e <;> rw [e]
  ·exact j0w _ _
  ·exact j0w _ _
  ·exact j0w _ _
  ·exact q0m _
  ·exact j0w _ _
 obtain ⟨f0,f1,f2,f3,f4,f5⟩:=I1.fpOk (H':=H1) hb' (I1.hok.fresh hb');exact ⟨f0,f1,f2,f3,f4,f5⟩
end
section
variable {prog:Program} {w:World} {A:Around} {E:Value->Shared->Prop} {s:Shared}
theorem ba6 {a b:Int} {t u:Tok} {Q:Value->Shared->Prop} (h:Q (.bool (decide (a > b))) s):wpAny (model prog w) A (richCompare .Gt (.int a t) (.int b u)) Q E s :=
 richCompare_gives (op:=.Gt) (typeIs_int s _ t) (typeIs_int s _ u) F.slot_int_gt F.entry_int_gt (F.args_int_gt_2 _ _) (gives_int_gt _ _ t u) (λx=>nomatch x) h
theorem aE1 {id:String} {b:Builtin} {args:List Value} {kw:List (Str × Value)} {Q:Value->Shared->Prop} (hk:builtinKind id=none) (hp:plainId id=true)
  (hb:entryFor table id=some b) (ha:argsOk id ⟨args,kw⟩)
  (hc:wpAny (model prog w) A.in1 (b ⟨args,kw⟩) (λfin s'=>match fin with
   | .done f=>(match (Except.ok f:Result) with | .ok (.ret v)=>Q v s' | .ok _=>False | .error e=>E e s')
   | .again c'=>c'.quiet=true/\codeAny (model prog w) A c' (λr s'=>match r with | .ok (.ret v)=>Q v s' | .ok _=>False | .error e=>E e s') s') E s) :
  wpAny (model prog w) A (call (.builtin id) args kw) Q E s:=by
 refine wpAny_call (codeAny_call_builtin hp hb ?_);simp only [checkBuiltinCall,hk]
 cases hsig:Manifest.signature? id with
 | none=>exact wpAny_pure hc
 | some sig =>
  have ha':Bind.checkArgs id sig ⟨args,kw⟩=pure ():=by simpa only [argsOk,hsig] using ha
  simp only [ha'];exact wpAny_pure hc
variable {R:Result->Shared->Prop} {I:Addr} {fp wr:List Addr} {n:Nat} {P:Nat->Value->Prop} {St:Nat->Heap->Prop}
theorem aP9 (W:Walks prog w A.in1 I fp wr n P St) (hint:∀ i v,P i v->∃ x t,v=.int x t) (S:Addr) (hSf:S ∉ fp) (d:Value) :
  ∀ (k j:Nat) (s:Shared) (x0:Int) (t0:Tok) (c:Nat),n-(j+1)=k->j+1<=n->St (j+1) s.heap ->
  s.heap.get? S=some { cls:=.type "list",dict:=none,data:=.seq #[.int x0 t0,.int x0 t0] c,slots:=#[] } ->
  (∀ x t h' tk,(∀ b o,b ∉ wr->b ≠ S->s.heap.get? b=some o->h'.get? b=some o)->R (.ok (.ret (.int x t))) { s with heap:=h',toks:=tk }) ->
  codeAny (model prog w) A (.builtin "max.loop" ⟨[.ref I,.none,.ref S],[("default",d)]⟩) R s:=by
 have hSw:S ∉ wr:=λh=>hSf (W.sub _ h);have hname:(toString "max" ++ toString ".loop" : String) = "max.loop" := by decide
 intro k
 induction k with
 | zero =>
  intro j s x0 t0 c hk hj hst hS hR;have hin:j+1=n:=⋯;refine codeAny_builtin F.entry_max_loop ?_;rw [Around.under_plainId F.plain_max_loop _]
  show wpAny _ A.in1 (seqItems? (.ref S) >>= _) _ _ s;refine wpAny_bind (wpAny_seqItems hS rfl ?_)
  show wpAny _ A.in1 (tryCatch (pyNext (.ref I)) _ >>= _) _ _ s;refine wpAny_bind (wpAny_tryCatch (W.done s _ _ (hin ▸ hst) λh' tk hk'=>?_));have hS':=hk' S _ hSw hS
  show wpAny _ A.in1 (updateSeq S (λ_ => #[]) >>= _) _ _ _;refine wpAny_bind ?_;refine wpAny_updateSeq hS' rfl (wpAny_bind (wpAny_letGo (wpAny_pure ?_)));exact hR x0 t0 _ tk λb o hbw hbS e=>(j0n _ _ (Ne.symm hbS)).trans (hk' b o hbw e)
 | succ k ih =>
  intro j s x0 t0 c hk hj hst hS hR;have hlt:j+1<n:=⋯;refine codeAny_builtin F.entry_max_loop ?_;rw [Around.under_plainId F.plain_max_loop _]
  show wpAny _ A.in1 (seqItems? (.ref S) >>= _) _ _ s;refine wpAny_bind (wpAny_seqItems hS rfl ?_)
  show wpAny _ A.in1 (tryCatch (pyNext (.ref I)) _ >>= _) _ _ s;refine wpAny_bind (wpAny_tryCatch (W.item (j+1) s _ _ hlt hst λv h' tk hP hst' hk'=>?_));obtain ⟨x1,t1,rfl⟩:=hint _ _ hP;have hS':=hk' S _ hSw hS
  show wpAny _ A.in1 (tryCatch (holding [.int x1 t1,.int x1 t1] (richCompare .Gt (.int x1 t1) (.int x0 t0) >>= _)) _ >>= _) _ _ _;refine wpAny_bind (wpAny_tryCatch (wpAny_holding (wpAny_bind (ba6 ?_))));refine wpAny_bind (wpAny_holding (wpAny_truthy_bool ?_));refine wpAny_bind (wpAny_letGo (wpAny_pure ?_))
  cases hb:decide (x1 > x0) with
  | true =>
   simp only [if_true];refine wpAny_bind ?_;refine wpAny_updateSeq hS' rfl (wpAny_bind (wpAny_letGo ?_));rw [hname]
   refine wpAny_pure ⟨plainId_quiet F.plain_max_loop _,ih (j+1) _ x1 t1 _ ⋯ hlt (W.frame _ _ _ hst' λb hbf o e=>?_) (v0g _ hS' rfl)
    λx t h'' tk'' hk''=>?_⟩
   ·exact (j0n _ _ (λh:S=b=>hSf (by rw [h];exact hbf))).trans e
   ·exact hR x t h'' tk'' λb o hbw hbS e=>hk'' b o hbw hbS ((j0n _ _ (Ne.symm hbS)).trans (hk' b o hbw e))
  | false =>
   simp only [y0x,if_false];refine wpAny_bind (wpAny_letGo ?_);rw [hname];refine wpAny_pure ⟨plainId_quiet F.plain_max_loop _,ih (j+1) _ x0 t0 c ⋯ hlt hst' hS' λx t h'' tk'' hk''=>?_⟩;exact hR x t h'' tk'' λb o hbw hbS e=>hk'' b o hbw hbS (hk' b o hbw e)
theorem aJ8 (W:Walks prog w A.in1 I fp wr n P St) (hint:∀ i v,P i v->∃ x t,v=.int x t) (S:Addr) (hSf:S ∉ fp) {x0:Int} {t0:Tok} {c:Nat} (hst:St 0 s.heap)
  (hS:s.heap.get? S=some { cls:=.type "list",dict:=none,data:=.seq #[] c,slots:=#[] })
  (hR:∀ x t h' tk,(∀ b o,b ∉ wr->b ≠ S->s.heap.get? b=some o->h'.get? b=some o)->R (.ok (.ret (.int x t))) { s with heap:=h',toks:=tk }) :
  codeAny (model prog w) A (.builtin "max.loop" ⟨[.ref I,.none,.ref S],[("default",.int x0 t0)]⟩) R s:=by
 have hSw:S ∉ wr:=λh=>hSf (W.sub _ h);have hname:(toString "max" ++ toString ".loop" : String) = "max.loop" := by decide
 refine codeAny_builtin F.entry_max_loop ?_;rw [Around.under_plainId F.plain_max_loop _]
 show wpAny _ A.in1 (seqItems? (.ref S) >>= _) _ _ s;refine wpAny_bind (wpAny_seqItems hS rfl ?_)
 show wpAny _ A.in1 (tryCatch (pyNext (.ref I)) _ >>= _) _ _ s
 by_cases hn:0<n
 ·refine wpAny_bind (wpAny_tryCatch (W.item 0 s _ _ hn hst λv h' tk hP hst' hk'=>?_))
  obtain ⟨x1,t1,rfl⟩:=hint _ _ hP;have hS':=hk' S _ hSw hS
  show wpAny _ A.in1 (updateSeq S (λ_ => #[.int x1 t1,.int x1 t1]) >>= _) _ _ _;refine wpAny_bind ?_;refine wpAny_updateSeq hS' rfl ?_;rw [hname];refine wpAny_pure ⟨plainId_quiet F.plain_max_loop _,aP9 W hint S hSf _ _ 0 _ x1 t1 _ rfl hn (W.frame _ _ _ hst' λb hbf o e=>?_) (v0g _ hS' rfl) λx t h'' tk'' hk''=>?_⟩
  ·exact (j0n _ _ (λh:S=b=>hSf (by rw [h];exact hbf))).trans e
  ·exact hR x t h'' tk'' λb o hbw hbS e=>hk'' b o hbw hbS ((j0n _ _ (Ne.symm hbS)).trans (hk' b o hbw e))
 ·have h0:n=0:=⋯
  refine wpAny_bind (wpAny_tryCatch (W.done s _ _ (by rw [h0];exact hst) λh' tk hk'=>?_))
  show wpAny _ A.in1 (rule _ >>= _) _ _ _;refine wpAny_bind (wpAny_rule (wpAny_pure ?_));exact hR x0 t0 _ tk λb o hbw hbS e=>hk' b o hbw e
theorem aR9 (a d:Value):argsOk "max" ⟨[a],[("default",d)]⟩:=by unfold argsOk;kernel_rfl
end
section
variable {X:Cx}
def V6 (K:q0a) (ta:TA):TE:=λσ H Q=>ta σ H λvs H1 => ∃ (a:Addr) (ns:List Int),vs=[.ref a]/\SqL K H1 a (ns.map V.int)/\∀ i:Int,Q (.int i) H1
theorem aR6 (hc:X.calm=true) {pins:List (Addr × Obj)} {s:Shared} {σ:St} {H:Hp} {a:Addr} {ns:List Int} {Q:VK} {x0:Int} {t0:Tok} (I:Inv X pins σ H s) (hq:SqL X.K H a (ns.map V.int)) (q:∀ i:Int,Q (.int i) H) :
  wpAny (model X.prog X.w) X.A (call (.builtin "max") [.ref a] [("default",.int x0 t0)]) (EP X pins σ Q) X.xe s:=by
 have hname:(toString "max" ++ toString ".loop" : String) = "max.loop" := by decide
 obtain ⟨its,r',pl,hz⟩:=I.list hq
 have hp:a ≠ s.heap.objs.size:=by
  obtain ⟨o,ho,_⟩:=pl.isList;exact q0v (q0e ho)
 refine aE1 F.kind_max F.plain_max F.entry_max (aR9 _ _) ?_
 show wpAny _ X.A.in1 (Builtin.Builtins.bindParams "max" ["key","default"] 0 ⟨[],[("default",.int x0 t0)]⟩ >>= _) _ _ s
 refine wpAny_bind (wpAny_of_eq (show Builtin.Builtins.bindParams "max" ["key","default"] 0 ⟨[],[("default",.int x0 t0)]⟩=pure [none,some (.int x0 t0)] from by with_unfolding_all rfl) ?_)
 refine wpAny_bind (wpAny_pure ?_);refine wpAny_bind (wpAny_pyIter_list pl.isList ?_);refine wpAny_bind (wpAny_newObj_type ?_);have a1:a<s.heap.objs.size:=by obtain ⟨o,ho,_⟩:=pl.isList;exact q0e ho
 rw [hname];refine wpAny_pure ⟨plainId_quiet F.plain_max_loop _,?_⟩;refine aJ8 (Walks.list (A:=X.A.in1) (I.ok.hd hc) s.heap.objs.size a hp its.toArray) ?_ _ ?_ ⟨⟨_,q0f _ (q0y _ rfl),rfl,rfl⟩,pl.isList.at λo e=>q0f _ (q0f _ e)⟩ (q0y _ rfl) ?_
 ·intro i v hv
  have hv':its[i]? = some v:=by simpa using hv
  have hi:i<ns.length:=by
   have:=(q0g.mp hv').1;rw [<- r'.length,q0d] at this;exact this
  obtain ⟨u,hu,ru⟩:=r'.get (i:=i) (x:=.int ns[i]) (by rw [q0q,q0c hi];rfl)
  rw [hv'] at hu
  cases hu
  obtain ⟨t,rfl⟩:=ru;exact ⟨_,_,rfl⟩
 ·rw [z0m]
  intro z;rcases (by simpa using z:s.heap.objs.size+1=s.heap.objs.size \/ s.heap.objs.size+1=a) with e | e
  ·exact absurd e (Nat.succ_ne_self _)
  ·exact absurd a1 (by rw [<- e];exact Nat.not_lt.mpr (j0j _))
 ·intro x t h' tk kk
  refine ⟨.int x,H,I.kept (t':=tk) λb o e=>kk b o ?_ ?_ (q0f _ (q0f _ e)),⟨t,rfl⟩,q x⟩
  ·intro z
   have:b=s.heap.objs.size:=by simpa using z
   exact absurd (q0e e) (by rw [this];exact j0m _)
  ·rw [z0m]
   intro z;exact absurd (q0e e) (by rw [z];exact Nat.not_lt.mpr (j0j _))
theorem aZ2 {l:Expr} {ta:TA} {p pos p1 p2:Pos} {x0:Int} {j:Nat} (hc:X.calm=true) (hg:Gl X "max") (hm:X.mg "max" = none) (ha:PA X [l] ta) (hs:starEach [l] X.env=[(false,eval l X.env)]:=by rfl) :
  PE X (.Call (.Name "max" p) [l] [⟨some "default",.Constant (.int x0) j p1,p2⟩] pos) (V6 X.K ta):=by
 intro pins s σ H Q I h;refine wpAny_Call_Name_kw (Z5 I hg hm (u:=.builtin "max") (by decide +kernel) ?_ (by decide) (by decide))
 refine callWith_kw (thn (ha pos pins s σ H _ I h) λus s1 zq=>?_) (by rw [hs];rfl) (by rw [hs];rfl) rfl rfl
 obtain ⟨vs,H1,I1,r1,q1⟩:=zq;obtain ⟨a,ns,e,hq,q⟩:=q1;subst e;obtain ⟨u,rfl,rx⟩:=ad4 r1
 cases rx
 show wpAny _ _ (evalAll [do let v <- eval (.Constant (.int x0) j p1) X.env;standAt pos;pure v]) _ _ _
 unfold evalAll;refine wpAny_bind (wpAny_bind (wpAny_Constant_int (wpAny_bind (wpAny_standAt (wpAny_pure ?_)))));unfold evalAll;refine wpAny_bind (wpAny_holding (wpAny_pure (wpAny_pure ?_)));exact aR6 hc (I1.tok _) hq q
end
end L2
set_option maxRecDepth 100000
namespace R
open PySem L2 PyProof.Rows
structure BdN (k:Nat) (q:Rat):Prop where
 n:q.num.natAbs<2 ^ k
 d:q.den<2 ^ k
theorem BdN.mono {m n:Nat} {q:Rat} (h:BdN m q) (l:m<=n):BdN n q:=⟨q0b h.n (d6 l),q0b h.d (d6 l)⟩
theorem Sm.bdN {q:Rat} (s:Sm q):BdN 40 q:=⟨q0t s.n (by decide),q0t s.d (by decide)⟩
theorem BdN.mul {m n:Nat} {p q:Rat} (a:BdN m p) (b:BdN n q):BdN (m+n) (p*q):=by
 rw [ak5];have hb:(p.den:Int)*q.den ≠ 0:=m0y (q1c (m9 p) (m9 q));obtain ⟨e1,e2⟩:=O0 (t:=p.num*q.num) hb;rw [z0p] at e1 e2;refine ⟨q0t e1 ?_,q0t e2 ?_⟩
 ·rw [z0w];exact z0h a.n b.n
 ·rw [z0w,z0b,z0b];exact z0h a.d b.d
structure SmW (q:Rat):Prop where
 n:q.num.natAbs<2 ^ 42
 d:q.den<2 ^ 40
section
variable {α β:Type}
def Z0 [Add α]:List α->Nat->α->List α
 | [],_,_=>[]
 | y :: r,0,x=>(y+x) :: r
 | y :: r,k+1,x=>y :: Z0 r k x
theorem az7 [Add α]:∀ (f:List α) (k:Nat) (x:α),(Z0 f k x).length=f.length
 | [],_,_=>rfl
 | _ :: _,0,_=>rfl
 | _ :: r,k+1,x=>by simp [Z0,az7 r k x]
theorem az5 [Add α]:∀ (f:List α) (k:Nat) (x y:α),f[k]? = some y->f.set k (y+x)=Z0 f k x
 | [],_,_,_,h=>by simp at h
 | z :: r,0,x,y,h=>by cases h;rfl
 | z :: r,k+1,x,y,h=>by
  rw [y0y,Z0,az5 r k x y (by simpa using h)]
theorem af2 [Add α]:∀ (f:List α) (k i:Nat) (x:α),i ≠ k->(Z0 f k x)[i]? = f[i]?
 | [],_,_,_,_=>rfl
 | _ :: _,0,0,_,h=>absurd rfl h
 | _ :: _,0,i+1,_,_=>rfl
 | _ :: _,k+1,0,_,_=>rfl
 | _ :: r,k+1,i+1,x,h=>by
  simp only [Z0,j0k];exact af2 r k i x ⋯
theorem al0 [Add α]:∀ (f:List α) (k:Nat) (x y:α),f[k]? = some y->(Z0 f k x)[k]? = some (y+x)
 | [],_,_,_,h=>by simp at h
 | z :: r,0,x,y,h=>by cases h;rfl
 | z :: r,k+1,x,y,h=>by simp only [Z0,j0k];exact al0 r k x y (by simpa using h)
def E8 [Add α] [Mul α] (z:α) (f:List α) (i:Nat) (x:α) (q:List α):Nat->List α
 | 0=>f
 | j+1=>Z0 (E8 z f i x q j) (i+j) (x*(q[j]?).getD z)
def B7 [Add α] [Mul α] (z:α) (f p q:List α):Nat->List α
 | 0=>f
 | i+1=>E8 z (B7 z f p q i) i ((p[i]?).getD z) q q.length
theorem ao5 [Add α] [Mul α] (z:α) (f:List α) (i:Nat) (x:α) (q:List α):∀ j,(E8 z f i x q j).length=f.length
 | 0=>rfl
 | j+1=>by rw [E8,az7,ao5 z f i x q j]
theorem ag1 [Add α] [Mul α] (z:α) (f p q:List α):∀ n,(B7 z f p q n).length=f.length
 | 0=>rfl
 | n+1=>by rw [B7,ao5,ag1 z f p q n]
theorem ak8 [Add α] [Mul α] (z:α) (f:List α) (i:Nat) (x:α) (q:List α) (k:Nat):∀ j,i+j<=k->(E8 z f i x q j)[k]? = f[k]?
 | 0,_=>rfl
 | j+1,h=>by rw [E8,af2 _ _ _ _ ⋯,ak8 z f i x q k j ⋯]
theorem at2 [Add α] [Mul α] (z:α) (f p q:List α) (k:Nat):∀ n,n+q.length<=k+1->(B7 z f p q n)[k]? = f[k]?
 | 0,_=>rfl
 | n+1,h=>by rw [B7,ak8 _ _ _ _ _ _ _ ⋯,at2 z f p q k n ⋯]
end
def G9 (p q:List Rat):List Rat:=if p=[] \/ q=[] then [] else B7 0 (q0z (p.length+q.length-1) 0) p q p.length
def scl (s:Rat) (ws:List Int):List Rat:=ws.map λw:Int=>s*(w:Rat)
theorem aY7 (s:Rat) (ws:List Int):(scl s ws).length=ws.length:=by simp [scl]
theorem aP7 {p q:List Rat} (hp:p ≠ []) (hq:q ≠ []) {x y:Rat} (hx:p[p.length-1]? = some x) (hy:q[q.length-1]? = some y):(G9 p q)[(G9 p q).length-1]? = some (x*y):=by
 have lp:0<p.length:=v0p.mpr hp;have lq:0<q.length:=v0p.mpr hq;unfold G9;rw [if_neg (by simp [hp,hq]),ag1,v0f]
 obtain ⟨n,hn⟩:∃ n,p.length=n+1:=⟨p.length-1,⋯⟩;obtain ⟨m,hm⟩:∃ m,q.length=m+1:=⟨q.length-1,⋯⟩
 have hx':(p[n]?).getD 0=x:=by
  have:p[n]? = some x:=by rw [hn] at hx;simpa using hx
  rw [this];rfl
 have hy':(q[m]?).getD 0=y:=by
  have:q[m]? = some y:=by rw [hm] at hy;simpa using hy
  rw [this];rfl
 have key:∀ F:List Rat,B7 0 F p q (n+1)=Z0 (E8 0 (B7 0 F p q n) n x q m) (n+m) (x*y):=λF=>by
  rw [B7,hm,E8,hx',hy']
 rw [hn,hm,key];have e:n+1+(m+1)-1-1=n+m:=⋯;rw [e]
 have h0:(E8 (0:Rat) (B7 0 (q0z (n+1+(m+1)-1) 0) p q n) n x q m)[n+m]? = some 0:=by
  rw [ak8 _ _ _ _ _ _ _ ⋯,at2 _ _ _ _ _ _ (by rw [hm];omega),u0e,if_pos ⋯]
 rw [al0 _ _ _ _ h0]
 congr 1;grind
theorem am9 {p q:List Rat} (hp:p ≠ []) (hq:q ≠ []):(G9 p q).length=p.length+q.length-1:=by
 unfold G9;rw [if_neg (by simp [hp,hq]),ag1,v0f]
def k9 (qs:List Rat):Nat:=qs.foldl (λb q=>u0n b q.den) 1
theorem aQ1 (qs:List Rat) (q:Rat):k9 (qs ++ [q])=u0n (k9 qs) q.den:=by simp [k9]
theorem ap9:∀ (qs:List Rat) (b m:Nat),b ∣ m->(∀ q ∈ qs,q.den ∣ m)->qs.foldl (λb q=>u0n b q.den) b ∣ m
 | [],_,_,h,_=>h
 | q :: qs,b,m,h,k=>ap9 qs _ m (Nat.lcm_dvd h (k q q0u)) λr hr=>k r (q0p _ hr)
theorem au2 {qs:List Rat} {m:Nat} (h:∀ q ∈ qs,q.den ∣ m):k9 qs ∣ m:=ap9 qs 1 m (Nat.one_dvd _) h
theorem an2:∀ (qs:List Rat) (b:Nat),b ∣ qs.foldl (λb q=>u0n b q.den) b
 | [],_=>Nat.dvd_refl _
 | q :: qs,b=>m0q (Nat.dvd_lcm_left _ _) (an2 qs _)
theorem ap8:∀ (qs:List Rat) (b:Nat) (q:Rat),q ∈ qs->q.den ∣ qs.foldl (λb q=>u0n b q.den) b
 | r :: qs,b,q,h=>by
  rcases z0r.mp h with e | e
  ·subst e;exact m0q (Nat.dvd_lcm_right _ _) (an2 qs _)
  ·exact ap8 qs _ q e
theorem M8 {qs:List Rat} {q:Rat} (h:q ∈ qs):q.den ∣ k9 qs:=ap8 qs 1 q h
def E9 (ws:List Int):Nat:=ws.foldl (λc w=>q0s w c) 0
theorem aQ6 (ws:List Int) (w:Int):E9 (ws ++ [w])=q0s w (E9 ws):=by simp [E9]
theorem aq1:∀ (ws:List Int) (c:Nat),(ws.foldl (λc w=>q0s w c) c ∣ c)/\∀ w ∈ ws,((ws.foldl (λc w=>q0s w c) c:Nat):Int) ∣ w
 | [],c=>⟨Nat.dvd_refl _,by simp⟩
 | w :: ws,c=>by
  obtain ⟨h1,h2⟩:=aq1 ws (q0s w c);have a1:q0s w c ∣ c:=by have:=j0b w (c:Int);exact j0a.mp this
  refine ⟨m0q h1 a1,λv hv=>?_⟩;rcases z0r.mp hv with e | e
  ·subst e
   exact y0m (j0a.mpr h1) (j0c v (c:Int))
  ·exact h2 v e
theorem W9 {ws:List Int} {w:Int} (h:w ∈ ws):((E9 ws:Nat):Int) ∣ w:=(aq1 ws 0).2 w h
theorem aq0:∀ (ws:List Int),ws.foldl (λc w=>q0s w c) 1=1
 | []=>rfl
 | w :: ws=>by
  rw [j0z];have:q0s w ((1:Nat):Int)=1:=by simp
  rw [this,aq0 ws]
theorem aW5 {ws:List Int} (i:Nat) (h:E9 (ws.take i)=1):E9 ws=1:=by
 have e:ws=ws.take i ++ ws.drop i:=(List.take_append_drop i ws).symm;rw [e];unfold E9 at h ⊢;rw [List.foldl_append,h,aq0]
def j2 (B:Nat) (qs:List Rat):List Int:=qs.map λq=>q.num*(B:Int).fdiv (q.den:Int)
theorem ar9 {B:Nat} {q:Rat} (hB:0<B) (h:q.den ∣ B):q=z0a (q.num*(B:Int).fdiv (q.den:Int)) B:=by
 obtain ⟨e,he⟩:=h;have hd:(q.den:Int) ≠ 0:=by have:=q.den_nz;omega
 have e1:(B:Int).fdiv (q.den:Int)=(e:Int):=by
  rw [he,j0e];exact j5 hd
 rw [e1]
 conv=>lhs;rw [<- z0e q]
 rw [y0a hd ⋯,he,j0e]
 grind
end R
namespace L2
open PySem PySem.Spec PyProof.Rows
section
variable {K:q0a} {a b D:Addr} {xs ys:List V} {g:TG} {te:TE} {σ0:St} {H0:Hp} {Q:VK}
theorem aD7 (xs ys:List V) (Pv:Nat->St->Hp->Prop) (h0:Pv 0 σ0 H0) (hl:∀ i σ H,Pv i σ H->SqL K H a xs/\SqL K H b ys)
  (hs:∀ i x y σ H p,xs[i]? = some x->ys[i]? = some y->Pv i σ H->H p=none->g (.ref p) σ (upd H p (.tup [x,y])) λσ4 H4=>te σ4 H4 λv H5=>o0 D (min xs.length ys.length) Pv i σ4 v H5)
  (hd:∀ σ H,Pv (min xs.length ys.length) σ H->Q (.ref D) H):X2 (Itz K a b) D σ0 H0 g te Q:=by
 refine ⟨λi m σ H=>m=min xs.length ys.length-i/\i<=min xs.length ys.length/\Pv i σ H,⟨_,rfl,z0u _,h0⟩,?_⟩;rintro i m σ H ⟨rfl,hi,p⟩;obtain ⟨q,q'⟩:=hl i σ H p
 by_cases hlt:i<min xs.length ys.length
 ·have h1:i<xs.length:=⋯
  have h2:i<ys.length:=⋯;refine .inr ⟨⟨xs,ys,xs[i],ys[i],q,q',q0c h1,q0c h2⟩,?_⟩;intro v H3 hy;obtain ⟨x,y,r,e1,e2,hr,rfl,rfl⟩:=hy xs ys q q';exact hs i x y σ _ r e1 e2 p hr
 ·have e:i=min xs.length ys.length:=⋯
  subst e;exact .inl ⟨⟨xs,ys,q,q',⋯⟩,hd σ H p⟩
theorem aN2 (xs:List V) (Pv:Nat->St->Hp->Prop) (h0:Pv 0 σ0 H0) (hl:∀ i σ H,Pv i σ H->SqL K H a xs)
  (hs:∀ i x σ H p,xs[i]? = some x->Pv i σ H->H p=none->g (.ref p) σ (upd H p (.tup [.int i,x])) λσ4 H4=>te σ4 H4 λv H5=>o0 D xs.length Pv i σ4 v H5)
  (hd:∀ σ H,Pv xs.length σ H->Q (.ref D) H):X2 (Ite K a) D σ0 H0 g te Q:=by
 refine ⟨λi m σ H=>m=xs.length-i/\i<=xs.length/\Pv i σ H,⟨_,rfl,z0u _,h0⟩,?_⟩;rintro i m σ H ⟨rfl,hi,p⟩;have q:=hl i σ H p
 by_cases hlt:i<xs.length
 ·refine .inr ⟨⟨xs,xs[i],q,q0c hlt⟩,?_⟩
  intro x H3 hy;obtain ⟨y,r,hy1,hr,rfl,rfl⟩:=hy xs q;exact hs i y σ _ r hy1 p hr
 ·have e:i=xs.length:=⋯
  subst e;exact .inl ⟨⟨xs,q,q0m _⟩,hd σ H p⟩
theorem aH5 {tb:TS} {E:ah6} {σ:St} {H:Hp} (xs:List V) (Pv:Nat->St->Hp->Prop) (h0:Pv 0 σ H) (hl:∀ i σ H,Pv i σ H->SqL K H a xs)
  (hs:∀ i x σ H p,xs[i]? = some x->Pv i σ H->H p=none->g (.ref p) σ (upd H p (.tup [.int i,x])) λσ2 H2=>tb { E with nx:=Pv (i+1),ct:=Pv (i+1),bk:=E.nx } σ2 H2) (hd:∀ σ H,Pv xs.length σ H->E.nx σ H) :
  ∃ W:Nat->Nat->St->Hp->Prop,(∃ m,W 0 m σ H)/\∀ i m σ H,W i m σ H ->
   ((Ite K a).stop i H/\E.nx σ H) \/ ((Ite K a).go i H/\∃ N:St->Hp->Prop,(∀ σ' H',N σ' H'->∃ m',m'<m/\W (i+1) m' σ' H')/\∀ x H',(Ite K a).yld i H x H'->g x σ H' λσ2 H2=>tb { E with nx:=N,ct:=N,bk:=E.nx } σ2 H2):=by
 refine ⟨λi m σ H=>m=xs.length-i/\i<=xs.length/\Pv i σ H,⟨_,rfl,z0u _,h0⟩,?_⟩;rintro i m σ H ⟨rfl,hi,p⟩;have q:=hl i σ H p
 by_cases hlt:i<xs.length
 ·refine .inr ⟨⟨xs,xs[i],q,q0c hlt⟩,Pv (i+1),λσ' H' n=>⟨_,⋯,rfl,hlt,n⟩,?_⟩
  intro x H3 hy;obtain ⟨y,r,hy1,hr,rfl,rfl⟩:=hy xs q;exact hs i y σ _ r hy1 p hr
 ·have e:i=xs.length:=⋯
  subst e;exact .inl ⟨⟨xs,q,q0m _⟩,hd σ H p⟩
end
end L2
set_option maxRecDepth 100000
namespace R
open PySem L2 PyProof.Rows
def i4 (f:Nat->Rat):Nat->Rat
 | 0=>0
 | n+1=>i4 f n+f n
theorem ad5 (f:Nat->Rat):∀ n,i4 f (n+1)=f 0+i4 (λi=>f (i+1)) n
 | 0=>by simp only [i4];grind
 | n+1=>by
  rw [i4,ad5 f n,i4];grind
theorem m8 {f g:Nat->Rat}:∀ {n},(∀ i,i<n->f i=g i)->i4 f n=i4 g n
 | 0,_=>rfl
 | n+1,h=>by rw [i4,i4,m8 λi hi=>h i ⋯,h n ⋯]
theorem ah7:∀ (n:Nat) (f:Nat->Rat),i4 f n=i4 (λi=>f (n-1-i)) n
 | 0,_=>rfl
 | n+1,f=>by
  rw [ad5 (λi=>f (n+1-1-i)) n,i4,ah7 n f];have:i4 (λi=>f (n-1-i)) n=i4 (λi=>f (n+1-1-(i+1))) n:=m8 λi hi=>by congr 1;omega
  rw [this]
  show _=f (n+1-1-0)+_;rw [show n+1-1-0=n by omega]
  grind
theorem ab2 {f:Nat->Rat} {m:Nat}:∀ {n},m<=n->(∀ i,m<=i->i<n->f i=0)->i4 f n=i4 f m
 | 0,h,_=>by rw [show m=0 by omega]
 | n+1,h,z=>by
  by_cases e:m=n+1
  ·rw [e]
  ·rw [i4,z n ⋯ ⋯,ab2 (n:=n) ⋯ λi a b=>z i a ⋯]
   grind
theorem ay4 (f:List Rat) (i:Nat) (x:Rat) (q:List Rat) {k:Nat} (y:Rat) (hy:f[k]? = some y):∀ j,(E8 0 f i x q j)[k]? = some (y+if i<=k/\k<i+j then x*(q[k-i]?).getD 0 else 0)
 | 0=>by
  rw [E8,hy,if_neg ⋯];congr 1;grind
 | j+1=>by
  have ih:=ay4 f i x q y hy j;rw [E8]
  by_cases e:k=i+j
  ·subst e
   rw [al0 _ _ _ _ ih,if_neg ⋯,if_pos ⋯,show i+j-i=j by omega]
   congr 1;grind
  ·rw [af2 _ _ _ _ e,ih]
   by_cases h:i<=k/\k<i+j
   ·rw [if_pos h,if_pos ⋯]
   ·rw [if_neg h,if_neg ⋯]
def az9 (p q:List Rat) (k i:Nat):Rat:=if i<=k then (p[i]?).getD 0*(q[k-i]?).getD 0 else 0
theorem ax9 (f p q:List Rat) {k:Nat} (hy:f[k]? = some 0):∀ n,(B7 0 f p q n)[k]? = some (i4 (az9 p q k) n)
 | 0=>hy
 | n+1=>by
  rw [B7,ay4 _ _ _ _ _ (ax9 f p q hy n),i4]
  congr 2
  unfold az9
  by_cases h:n<=k
  ·rw [if_pos h]
   by_cases h2:k<n+q.length
   ·rw [if_pos ⟨h,h2⟩]
   ·rw [if_neg ⋯,z0k (l:=q) ⋯]
    show (0:Rat)=_*0
    grind
  ·rw [if_neg h,if_neg ⋯]
theorem at9 {p q:List Rat} (hp:p ≠ []) (hq:q ≠ []) {k:Nat} (hk:k<p.length+q.length-1):(G9 p q)[k]? = some (i4 (λi=>(p[i]?).getD 0*(q[k-i]?).getD 0) (k+1)):=by
 unfold G9;rw [if_neg (by simp [hp,hq]),ax9 _ _ _ (by rw [u0e,if_pos hk])]
 congr 1
 have h1:i4 (az9 p q k) (max p.length (k+1))=i4 (az9 p q k) p.length:=ab2 ⋯ λi a _=>by
  unfold az9;rw [z0k a]
  split
  ·show (0:Rat)*_=0;grind
  ·rfl
 have h2:i4 (az9 p q k) (max p.length (k+1))=i4 (az9 p q k) (k+1):=ab2 ⋯ λi a _=>by
  unfold az9;rw [if_neg ⋯]
 rw [<- h1,h2];exact m8 λi hi=>by unfold az9;rw [if_pos ⋯]
theorem aP8 (p q:List Rat):G9 p q=G9 q p:=by
 by_cases hp:p=[]
 ·subst hp;simp [G9]
 by_cases hq:q=[]
 ·subst hq;simp [G9]
 refine g0c λk=>?_
 by_cases hk:k<p.length+q.length-1
 ·rw [at9 hp hq hk,at9 hq hp ⋯,ah7]
  congr 1
  refine m8 λi hi=>?_;rw [show k+1-1-i=k-i by omega,show k-(k-i)=i by omega]
  grind
 ·rw [z0k (by rw [am9 hp hq];omega),z0k (by rw [am9 hq hp];omega)]
end R
namespace L2
theorem h9 {t R:TS} {D:ah6} {σ:St} {H:Hp} (P:St->Hp->Prop) (first:∀ N:St->Hp->Prop,(∀ σ H,P σ H->N σ H)->t { D with nx:=N } σ H) (aq5:∀ σ H,P σ H->R D σ H):ag6 t R D σ H:=first _ aq5
end L2
set_option maxRecDepth 100000
namespace R
section
variable {α:Type} [Lean.Grind.CommRing α]
def syn (c:α):List α->List α
 | []=>[]
 | a :: p=>match syn c p with
  | []=>[a]
  | h :: t=>(a+c*h) :: h :: t
def pass (c:α) (k:Nat) (l:List α):List α:=l.take k ++ syn c (l.drop k)
end
open PySem L2 PyProof.Rows
structure Bd6 (q:Rat):Prop where
 n:q.num.natAbs<2 ^ 6000
 d:q.den<2 ^ 6000
theorem BdN.bd6 {n:Nat} {q:Rat} (h:BdN n q) (l:n<=6000):Bd6 q:=⟨q0b h.n (d6 l),q0b h.d (d6 l)⟩
theorem ap7:∀ (qs:List Rat) (b:Nat),0<b->0<qs.foldl (λb q=>u0n b q.den) b
 | [],b,h=>h
 | q :: qs,b,h=>ap7 qs _ (Nat.lcm_pos h (by have:=q.den_nz;omega))
theorem G1 (qs:List Rat):0<k9 qs:=ap7 qs 1 (by decide)
theorem aD9 (qs:List Rat):q0s (E9 (j2 (k9 qs) qs):Int) (k9 qs:Int)=1:=by
 have hB:=G1 qs
 have key:∀ c:Nat,c ∣ E9 (j2 (k9 qs) qs)->c ∣ k9 qs->c=1:=by
  intro c h1 h2;have hc:0<c:=Nat.pos_of_dvd_of_pos h2 hB
  have h3:k9 qs ∣ k9 qs / c:=by
   refine au2 λq hq=>?_;obtain ⟨e,he⟩:=M8 hq;have hd:(q.den:Int) ≠ 0:=by have:=q.den_nz;omega
   have e1:(k9 qs:Int).fdiv (q.den:Int)=(e:Int):=by
    rw [he,j0e];exact j5 hd
   have m1:(c:Int) ∣ q.num*(e:Int):=by
    have:=y0m (j0a.mpr h1) (W9 (z0g.mpr ⟨q,hq,rfl⟩));rw [e1] at this;exact this
   have m2:c ∣ q.num.natAbs*e:=by
    have:=u0m.mpr m1;rw [z0p] at this
    simpa using this
   have m3:c ∣ q.den*e:=by rw [<- he];exact h2
   have m4:c ∣ e:=by
    have:=Nat.dvd_gcd m2 m3;rw [Nat.gcd_mul_right] at this;have hg:Nat.gcd q.num.natAbs q.den=1:=q.reduced;rw [hg,Nat.one_mul] at this;exact this
   obtain ⟨f,hf⟩:=m4;rw [he,hf];refine ⟨f,?_⟩;rw [show q.den*(c*f)=c*(q.den*f) by grind,Nat.mul_div_cancel_left _ hc]
  have h4:=v0n (Nat.div_pos (v0n hB h2) hc) h3;have h5:=Nat.div_mul_cancel h2
  by_cases hc1:c=1
  ·exact hc1
  ·have:k9 qs / c*2<=k9 qs / c*c:=m0u _ ⋯
   omega
 have z:=key (q0s (E9 (j2 (k9 qs) qs):Int) (k9 qs:Int));refine z ?_ ?_
 ·exact j0a.mp (j0c _ _)
 ·exact j0a.mp (j0b _ _)
def ap3 (ws:List Int):Int:=ws.foldl (λp v=>if v=0 then p else p*v) 1
theorem as7 (ws:List Int) (v:Int):ap3 (ws ++ [v])=if v=0 then ap3 ws else ap3 ws*v:=by simp [ap3]
theorem ac1:∀ (ws:List Int) (p:Int),p ∣ ws.foldl (λp v=>if v=0 then p else p*v) p
 | [],p=>Int.dvd_refl _
 | v :: ws,p=>by
  simp only [j0z]
  by_cases h:v=0
  ·rw [if_pos h];exact ac1 ws p
  ·rw [if_neg h];exact y0m ⟨v,rfl⟩ (ac1 ws _)
theorem an1:∀ (ws:List Int) (p v:Int),v ∈ ws->v ≠ 0->v ∣ ws.foldl (λp v=>if v=0 then p else p*v) p
 | [],p,v,h,_=>by cases h
 | u :: ws,p,v,h,hv=>by
  simp only [j0z];rcases z0r.mp h with e | e
  ·subst e
   rw [if_neg hv];exact y0m ⟨p,u0r _ _⟩ (ac1 ws _)
  ·exact an1 ws _ v e hv
theorem aO9 {ws:List Int} {v:Int} (h:v ∈ ws) (hv:v ≠ 0):v ∣ ap3 ws:=an1 ws 1 v h hv
theorem aW4 {b p v:Int} (h:v ∣ p):q0s (q0s b p:Nat) v=q0s b v:=by
 refine Nat.dvd_antisymm ?_ ?_
 ·refine m0c ?_ ?_
  ·exact y0m (j0c _ _) (j0c _ _)
  ·exact j0b _ _
 ·refine m0c ?_ (j0b _ _)
  exact j0a.mpr (m0c (j0c _ _) (y0m (j0b _ _) h))
end R
set_option maxRecDepth 100000
namespace L2
open PySem PySem.Spec PyProof.Rows
section
variable {prog:Program} {w:World} {A:Around} {R:Result->Shared->Prop} {s:Shared}
theorem aI0 {elt t1 i1 t2 i2:Expr} {scope:Scope} {pos:Pos} {it acc:Value} {env:Env}
  (h1:codeAny (model prog w) A (.compLoop (.ListComp elt [⟨t1,i1,[],0⟩,⟨t2,i2,[],0⟩] scope pos) 1 it acc env) R s)
  (h2:wpAny (model prog w) A (pyIter it) (λit' s'=>codeAny (model prog w) A (.compLoop (.ListComp elt [⟨t1,i1,[],0⟩,⟨t2,i2,[],0⟩] scope pos) 1 it' acc env) R s') (λ_ _=>False) s) :
  codeAny (model prog w) A (.compStart (.ListComp elt [⟨t1,i1,[],0⟩,⟨t2,i2,[],0⟩] scope pos) 1 it acc env) R s:=by
 refine codeAny_of_tree ?_
 show wpAny _ _ ((compStart (.ListComp elt [⟨t1,i1,[],0⟩,⟨t2,i2,[],0⟩] scope pos) 1 it acc env).onRaise _) _ _ s;refine wpAny_onRaise ?_;unfold compStart;rw [if_neg (show ¬((clausesOf (.ListComp elt [⟨t1,i1,[],0⟩,⟨t2,i2,[],0⟩] scope pos))[1]?.elim false λx=>x.is_async != 0)=true by intro h;cases h)]
 refine wpAny_bind (wpAny_askSetting ?_)
 split
 ·exact wpAny_pure ⟨rfl,h1⟩
 ·refine wpAny_bind (wpAny_rule ?_)
  refine wpAny_bind (wpAny_standAt ?_);refine wpAny_bind (wpAny_mono h2 (λit' s' h=>wpAny_pure ⟨rfl,h⟩) λ_ _ h=>h.elim)
theorem aK7 {elt t1 i1 t2 i2:Expr} {scope:Scope} {pos:Pos} {it acc:Value} {env:Env} (I:Nat->Shared->Prop)
  (turn:∀ n s,I n s->wpAny (model prog w) A (pyNext it) (λr s₁=>match r with
   | none=>R (.ok .next) s₁
   | some v=>wpAny (model prog w) A (letOwnedTupleGo t2 it v) (λ_ s₁'=>wpAny (model prog w) A (assign t2 env v) (λ_ s₂=>wpAny (model prog w) A (eval elt env) (λx s₃ =>
     wpAny (model prog w) A (call (.builtin "list.append") [acc,x]) (λ_ s₄ => ∃ m,m<n/\I m s₄) (λ_ _=>False) s₃)
     (λ_ _=>False) s₂) (λ_ _=>False) s₁') (λ_ _=>False) s₁) (λ_ _=>False) s)
  (n:Nat) (h:I n s) :
  codeAny (model prog w) A (.compLoop (.ListComp elt [⟨t1,i1,[],0⟩,⟨t2,i2,[],0⟩] scope pos) 1 it acc env) R s:=by
 refine codeAny_loop rfl I (λn s hI=>?_) n h
 show wpAny _ _ ((compTurn (.ListComp elt [⟨t1,i1,[],0⟩,⟨t2,i2,[],0⟩] scope pos) 1 it acc env).onRaise (λx=>do noteFrame x env;theTreesLotGoes x)) _ _ s
 refine wpAny_noted ?_;have no:∀ {P:Value->Shared->Prop} (e:Value) (s:Shared),False->P e s:=λ_ _ h=>h.elim;unfold compTurn;refine wpAny_bind (wpAny_standAt (wpAny_bind (wpAny_mono (turn n s hI) (λr s₁ h₁=>?_) no)))
 cases r with
 | none=>exact wpAny_pure h₁
 | some v =>
  refine wpAny_bind (wpAny_mono h₁ (λ_ s₁' h₁'=>?_) no);refine wpAny_bind (wpAny_mono h₁' (λ_ s₂ h₂=>?_) no);refine wpAny_bind ?_;rw [u0c];refine wpAny_pure ?_;exact wpAny_bind (wpAny_bind (wpAny_mono h₂ (λx s₃ h₃=>wpAny_bind (wpAny_mono h₃ (λ_ s₄ h₄=>wpAny_pure (wpAny_pure ⟨rfl,h₄⟩)) no)) no))
theorem aK6 {elt t1 i1 t2 i2:Expr} {scope:Scope} {pos:Pos} {it acc:Value} {env:Env} (hs:∀ x,foldedSetIterable i2 env x=pure x) (I:Nat->Shared->Prop)
  (turn:∀ n s,I n s->wpAny (model prog w) A (pyNext it) (λr s₁=>match r with
   | none=>R (.ok .next) s₁
   | some v=>wpAny (model prog w) A (letOwnedTupleGo t1 it v) (λ_ s₁'=>wpAny (model prog w) A (assign t1 env v) (λ_ s₂=>wpAny (model prog w) A (eval i2 env) (λx s₃ =>
     wpAny (model prog w) A (pyIter x) (λit2 s₄=>codeAny (model prog w) A (.compStart (.ListComp elt [⟨t1,i1,[],0⟩,⟨t2,i2,[],0⟩] scope pos) 1 it2 acc env) (λr s₅=>match r with
      | .ok _ => ∃ m,m<n/\I m s₅
      | .error _=>False) s₄) (λ_ _=>False) s₃)
     (λ_ _=>False) s₂) (λ_ _=>False) s₁') (λ_ _=>False) s₁) (λ_ _=>False) s)
  (n:Nat) (h:I n s) :
  codeAny (model prog w) A (.compLoop (.ListComp elt [⟨t1,i1,[],0⟩,⟨t2,i2,[],0⟩] scope pos) 0 it acc env) R s:=by
 refine codeAny_loop rfl I (λn s hI=>?_) n h
 show wpAny _ _ ((compTurn (.ListComp elt [⟨t1,i1,[],0⟩,⟨t2,i2,[],0⟩] scope pos) 0 it acc env).onRaise (λx=>do noteFrame x env;theTreesLotGoes x)) _ _ s
 refine wpAny_noted ?_;have no:∀ {P:Value->Shared->Prop} (e:Value) (s:Shared),False->P e s:=λ_ _ h=>h.elim;unfold compTurn;refine wpAny_bind (wpAny_standAt (wpAny_bind (wpAny_mono (turn n s hI) (λr s₁ h₁=>?_) no)))
 cases r with
 | none=>exact wpAny_pure h₁
 | some v =>
  refine wpAny_bind (wpAny_mono h₁ (λ_ s₁' h₁'=>?_) no);refine wpAny_bind (wpAny_mono h₁' (λ_ s₂ h₂=>?_) no);refine wpAny_bind ?_;rw [u0c];refine wpAny_pure ?_;refine wpAny_bind (wpAny_mono h₂ (λx s₃ h₃=>?_) no);refine wpAny_bind (wpAny_standAt ?_)
  dsimp only
  rw [if_neg (by decide),hs x]
  refine wpAny_bind (wpAny_pure ?_);refine wpAny_bind (wpAny_holding ?_);refine wpAny_mono h₃ (λit2 s₄ h₄=>?_) no;refine wpAny_bind (wpAny_runOwn ?_);refine codeAny_mono h₄ λr s₅ h₅=>?_
  cases r with
  | ok f=>exact wpAny_pure ⟨rfl,h₅⟩
  | error e=>exact h₅.elim
end
def aS8 (wi:TI) (caps:List (Option Nat)) (g:TG) (wi2:TI) (g2:TG) (te:TE):TE:=λσ H Q=>wi σ H λJ H1 => ∀ D,H1 D=none->∃ W:Nat->Nat->St->Hp->Prop,(∃ m,W 0 m (x4 caps σ) (upd H1 D (.lst []))) /\
 ∀ i m σc H2,W i m σc H2->(J.stop i H2/\Q (.ref D) H2) \/
  (J.go i H2/\∀ x H3,J.yld i H2 x H3->g x σc H3 λσ4 H4=>wi2 σ4 H4 λJ2 H5 => ∃ W2:Nat->Nat->St->Hp->Prop,(∃ m2,W2 0 m2 σ4 H5) /\
   ∀ i2 m2 σ6 H6,W2 i2 m2 σ6 H6->(J2.stop i2 H6/\∃ m',m'<m/\W (i+1) m' σ6 H6) \/
    (J2.go i2 H6/\∀ y H7,J2.yld i2 H6 y H7->g2 y σ6 H7 λσ8 H8=>te σ8 H8 λz H9 => ∃ ys,H9 D=some (.lst ys)/\ys.length<sizeLine/\∃ m3,m3<m2/\W2 (i2+1) m3 σ8 (upd H9 D (.lst (ys ++ [z])))))
section
variable {X:Cx}
theorem aU2 {elt tg iter tg2 iter2 : Expr} {scope : Scope} {pos : Pos} {cl : List (Str × Addr)} {Nc : List Str} {caps : List (Option Nat)} {wi wi2 : TI} {g g2 : TG} {te : TE} (hc : X.calm = true) (cp : G2 X scope cl Nc caps) (hi : PI X tg iter wi)
    (hg:∀ C s₂ H₂ fp pins,PG (X.block scope cl C Nc s₂ H₂ fp pins) tg g) (hi2:∀ C s₂ H₂ fp pins,PI (X.block scope cl C Nc s₂ H₂ fp pins) tg2 iter2 wi2) (hg2:∀ C s₂ H₂ fp pins,PG (X.block scope cl C Nc s₂ H₂ fp pins) tg2 g2) (he:∀ C s₂ H₂ fp pins,PE (X.block scope cl C Nc s₂ H₂ fp pins) elt te) (hs:∀ x,foldedSetIterable iter X.env x=pure x:=by intro _;rfl) (hs2:∀ (env:Env) x,foldedSetIterable iter2 env x=pure x:=by intro _ _;rfl) :
    PE X (.ListComp elt [⟨tg,iter,[],0⟩,⟨tg2,iter2,[],0⟩] scope pos) (aS8 wi caps g wi2 g2 te):=by
  intro pins s σ H Q I h;rw [eval_ListComp];refine wpAny_comprehension_free (use:=none) rfl hs cp.clos cp.kind cp.names ?_;refine thn (hi pins s σ H _ I h) λv s1 h1=>thn h1 λitv s2 h2=>?_;obtain ⟨it,fp,tn,J,H2,e,I2,T,st2,f2,hW⟩:=h2;subst e;refine wpAny_newObj_type ?_ (by show 0<=sizeLine;exact Nat.zero_le _)
  refine wpAny_newFunctionEnv cp.nocell (by intro y hy;simp at hy) (λh4 hns hsb=>?_) cp.kind
  dsimp only at hns hsb ⊢
  generalize hH3:s2.heap.push { cls:=.type "list",dict:=none,data:=.seq ([]:List Value).toArray }=H3 at hns hsb ⊢
  have hCe:H3.objs.size=s2.heap.objs.size+1:=by rw [<- hH3,Heap.size_push]
  have N0:∀ b o,s2.heap.get? b=some o->b ≠ H3.objs.size:=λb o e=>by rw [hCe];exact Nat.ne_of_lt (Nat.lt_succ_of_lt (Heap.lt_size e))
  have old:∀ b o,s2.heap.get? b=some o->h4.get? b=some o:=λb o e=>hsb.extBut b o (N0 b o e) (Heap.get?_push_of_some _ (hH3 ▸ Heap.get?_push_of_some _ e))
  have hD:h4.get? s2.heap.objs.size=some { cls:=.type "list",dict:=none,data:=.seq ([]:List Value).toArray } :=
    hsb.extBut _ _ (by rw [hCe];exact Nat.ne_of_lt (Nat.lt_succ_self _)) (Heap.get?_push_of_some _ (hH3 ▸ Heap.get?_push_size _ rfl))
  have hDn:H2 s2.heap.objs.size=none:=I2.fresh;have hCn:H2 H3.objs.size=none:=I2.hok.fresh (by rw [hCe];exact Nat.le_succ _)
  have hCs:s2.heap.objs.size<=H3.objs.size:=by rw [hCe];exact Nat.le_succ _
  have hDC:s2.heap.objs.size ≠ H3.objs.size:=by rw [hCe];exact Nat.ne_of_lt (Nat.lt_succ_self _)
  have fpl:∀ b ∈ fp,∃ o,s2.heap.get? b=some o:=λb hb=>let ⟨o,e,_⟩:=T.obj _ _ st2 b hb;⟨o,e⟩;have fpC:∀ b ∈ fp,b ≠ H3.objs.size:=λb hb=>let ⟨o,e⟩:=fpl b hb;N0 b o e;have fpD:∀ b ∈ fp,b ≠ s2.heap.objs.size:=λb hb=>let ⟨o,e⟩:=fpl b hb;Nat.ne_of_lt (Heap.lt_size e);have stkN:∀ b,b ≠ X.env.locals->b ∉ X.fs->b ∉ frs X.stack:=λb h1 h2 z=>(List.mem_cons.mp (I2.stkSub b z)).elim h1 h2;obtain ⟨W,⟨m0,w0⟩,turn⟩:=hW s2.heap.objs.size hDn
  have okB:(X.block scope cl H3.objs.size Nc s2 H2 fp pins).Ok:=by
    refine ⟨I2.ok.mod,?_,I2.ok.glob,I2.ok.blt,hCs,λx y c h1 h2=>I2.ok.inj x y c (cp.sub x c h1) (cp.sub y c h2),λx hx=>cp.has x hx,λx c h=>(by cases h),I2.ok.hd,I2.ok.frames,.inl rfl,λb hb=>⟨fpC b hb,λx c h=>(f2 b hb).2.2.2.2.1 x c (cp.sub x c h)⟩,I2.bs,Nat.le_trans I2.ok.bsz I2.sz,λb o e hb=>?_,λb hb=>stkN b (f2 b hb).2.1 (f2 b hb).2.2.1,I2.stack,I2.stkFree⟩
    · exact cp.kind
    · rcases (f2 b hb).2.2.2.1 with z | z
      · exact I2.ok.noex b o e z
      · exact absurd (Nat.lt_of_lt_of_le (Heap.lt_size e) (Nat.le_trans I2.ok.bsz z)) (Nat.lt_irrefl _)
  have hokB:HOk X.prog X.w (upd H2 s2.heap.objs.size (.lst [])) h4:=I2.hok.laid old (Nat.le_refl _) ⟨Nat.zero_le _,[],_,.nil,hD⟩
  have IB:Inv (X.block scope cl H3.objs.size Nc s2 H2 fp pins) [] (x4 caps σ) (upd H2 s2.heap.objs.size (.lst [])) { s2 with heap:=h4,toks:=s2.toks+([]:List (Str × Value)).length }:=by
    refine ⟨okB,rfl,I2.bare,Un.laid old (Nat.le_refl _) hDn,⟨_,hns,λi x v e1 e2 e3=>?_⟩,λx c e=>?_,(show upd H2 s2.heap.objs.size (.lst []) H3.objs.size=none by rw [g9 (Ne.symm hDC)];exact hCn),λx c e=>?_,λp hp=>?_,hokB,?_⟩
    · unfold x4 at e2
      rw [List.getElem?_map] at e2
      cases hcap:caps[i]? with
      | none=>rw [hcap] at e2;cases e2
      | some o =>
        rw [hcap] at e2
        cases o with
        | none=>cases e2
        | some j =>
          have hj:σ[j]? = some (some v):=by
            have e2':(σ[j]?).join=some v:=Option.some.inj e2
            cases q:σ[j]? with
            | none=>rw [q] at e2';cases e2'
            | some z=>rw [q] at e2';exact congrArg some e2'
          obtain ⟨n1,n2,n3,n4⟩:=cp.cap i j x hcap e1;obtain ⟨m,hm,hl⟩:=I2.loc;obtain ⟨u,r,q⟩:=hl j x v n1 hj n2;rcases q with ⟨k,_⟩ | ⟨k,c,ec,z⟩
          · exact absurd k n3
          · obtain ⟨c',ec'⟩:=cp.has x n4
            have:=cp.sub x c' ec';rw [ec] at this;cases this;obtain ⟨oc,ho,hd⟩:=z;exact ⟨u,r,.inr ⟨n4,c,ec',oc,old _ _ ho,hd⟩⟩
    · obtain ⟨v,oc,ho,hd⟩:=I2.cell x c (cp.sub x c e)
      exact ⟨v,oc,old _ _ ho,hd⟩
    · obtain ⟨v,oc,ho,hd⟩:=I2.cell x c (cp.sub x c e)
      rw [g9 (Nat.ne_of_lt (Heap.lt_size ho))];exact I2.freeC x c (cp.sub x c e)
    · have hp':p ∈ X.pn ++ pins:=by simpa using hp
      obtain ⟨e1,e2,e3,e4,e5⟩:=I2.pin p hp';exact ⟨old _ _ e1,by rw [g9 (Nat.ne_of_lt (Heap.lt_size e1))];exact e2,N0 _ _ e1,stkN _ e3 e4,e5⟩
    · show (x4 caps σ).length=Nc.length
      unfold x4;rw [List.length_map];exact cp.len
  have stat:∀ {H':Hp},(∀ b ∈ fp,H' b=none)->∀ b ∈ fp,ad3 (X.block scope cl H3.objs.size Nc s2 H2 fp pins) [] H' b:=λhn b hb =>
    ⟨hn b hb,fpC b hb,stkN b (f2 b hb).2.1 (f2 b hb).2.2.1,.inl hb,λx c h=>(f2 b hb).2.2.2.2.1 x c (cp.sub x c h),λp hp=>(f2 b hb).2.2.2.2.2 p (by simpa using hp)⟩
  have loop : ∀ s5 : Shared, s5 = { s2 with heap := h4, toks := s2.toks + ([] : List (Str × Value)).length } →
      codeAny (model X.prog X.w) X.A (.compLoop (.ListComp elt [⟨tg,iter,[],0⟩,⟨tg2,iter2,[],0⟩] scope pos) 0 (.ref it) (.ref s2.heap.objs.size) (compEnvC scope cl H3.objs.size X.env))
        (compPost (model X.prog X.w) X.A X.xe none (EP X pins σ Q) (.ref s2.heap.objs.size) H3.objs.size) s5:=by
    rintro s5 rfl;refine aK6 (hs2 _) (λn s' => ∃ i σ' H',Inv (X.block scope cl H3.objs.size Nc s2 H2 fp pins) [] σ' H' s'/\tn i s'.heap/\(∀ b ∈ fp,H' b=none)/\W i n σ' H') ?_ m0 ⟨0,_,_,IB,T.keep _ _ _ st2 λb hb o e=>old b o e,λb hb=>by rw [g9 (fpD b hb)];exact (f2 b hb).1,w0⟩
    rintro n s6 ⟨i,σ6,H6,I6,st6,fr6,w6⟩;rcases turn i n σ6 H6 w6 with ⟨stop,qn⟩ | ⟨go,step⟩
    · refine thn (T.done (X.block scope cl H3.objs.size Nc s2 H2 fp pins) rfl rfl rfl hc i [] s6 σ6 H6 _ I6 (stat fr6) st6 stop) λr s7 zq=>?_
      obtain ⟨hr,I7⟩:=zq;subst hr;obtain ⟨m7,hn7,_⟩:=id I7.loc;exact ⟨m7,hn7,λh' sb=>⟨.ref s2.heap.objs.size,H6,I2.sameC f2 I7.os I7.bare I7.base I7.hok hCs I7.free sb,rfl,qn⟩⟩
    · refine thn (T.item (X.block scope cl H3.objs.size Nc s2 H2 fp pins) rfl rfl rfl hc i [] s6 σ6 H6 _ I6 (stat fr6) st6 go) λr s7 zq=>?_
      obtain ⟨u,hr,h7⟩:=zq;subst hr;refine thn h7 λ_ s8 zq=>?_;obtain ⟨x,H8,I8,r8,y8,st8,fr8⟩:=zq;have I8':=I8.pinned (stat fr8) (T.obj _ _ st8);refine thn (hg _ _ _ _ _ _ s8 σ6 H8 x u _ I8' r8 (step x H8 y8)) λ_ s9 zq=>?_;obtain ⟨σ9,H9,I9,q9⟩:=zq;refine thn (hi2 _ _ _ _ _ _ s9 σ9 H9 _ I9 q9) λv10 s10 h10=>?_;refine thn h10 λit2v s11 h11=>?_;obtain ⟨it2,fp2,tn2,J2,H11,e11,I11,T2,st11,f11,W2,⟨m2,w2⟩,turn2⟩:=h11;subst e11;have stat2:∀ {H':Hp},(∀ b ∈ fp2,H' b=none)->∀ b ∈ fp2,ad3 (X.block scope cl H3.objs.size Nc s2 H2 fp pins) ([] ++ ao1 fp s8.heap) H' b:=λhn b hb=>⟨hn b hb,(f11 b hb).2⟩
      have inner : codeAny (model X.prog X.w) X.A (.compLoop (.ListComp elt [⟨tg, iter, [], 0⟩, ⟨tg2, iter2, [], 0⟩] scope pos) 1 (.ref it2) (.ref s2.heap.objs.size) (compEnvC scope cl H3.objs.size X.env)) (fun r s₅ => match r with
            | .ok _ => ∃ m,m<n/\∃ i σ' H',Inv (X.block scope cl H3.objs.size Nc s2 H2 fp pins) [] σ' H' s₅/\tn i s₅.heap/\(∀ b ∈ fp,H' b=none)/\W i m σ' H'
            | .error _=>False) s11:=by
        refine aK7 (λk s' => ∃ j σ' H',Inv (X.block scope cl H3.objs.size Nc s2 H2 fp pins) ([] ++ ao1 fp s8.heap) σ' H' s'/\tn2 j s'.heap/\(∀ b ∈ fp2,H' b=none)/\W2 j k σ' H') ?_ m2 ⟨0,_,_,I11,st11,λb hb=>(f11 b hb).1,w2⟩;rintro k s12 ⟨j,σ12,H12,I12,st12,fr12,w12⟩;rcases turn2 j k σ12 H12 w12 with ⟨stop,m',hm',w'⟩ | ⟨go2,step2⟩
        · refine thn (T2.done (X.block scope cl H3.objs.size Nc s2 H2 fp pins) rfl rfl rfl hc j _ s12 σ12 H12 _ I12 (stat2 fr12) st12 stop) λr s13 zq=>?_
          obtain ⟨hr,I13⟩:=zq;subst hr;refine ⟨m',hm',i+1,σ12,H12,I13.unpinned,T.keep _ _ _ st8 λb hb o e=>(I13.pin (b,o) (List.mem_append_right _ (List.mem_append_right _ (t4 hb e)))).1,λb hb=>?_,w'⟩;obtain ⟨o,e,d⟩:=T.obj _ _ st8 b hb;exact (I13.pin (b,o) (List.mem_append_right _ (List.mem_append_right _ (t4 hb e)))).2.1
        · refine thn (T2.item (X.block scope cl H3.objs.size Nc s2 H2 fp pins) rfl rfl rfl hc j _ s12 σ12 H12 _ I12 (stat2 fr12) st12 go2) λr s13 zq=>?_
          obtain ⟨u13,hr,h13⟩:=zq;subst hr;refine thn h13 λ_ s14 zq=>?_;obtain ⟨y,H14,I14,r14,y14,st14,fr14⟩:=zq;have I14':=I14.pinned (stat2 fr14) (T2.obj _ _ st14);refine thn (hg2 _ _ _ _ _ _ s14 σ12 H14 y u13 _ I14' r14 (step2 y H14 y14)) λ_ s15 zq=>?_;obtain ⟨σ15,H15,I15,q15⟩:=zq;refine thn (he _ _ _ _ _ _ s15 σ15 H15 _ I15 q15) λu16 s16 zq=>?_;obtain ⟨v16,H16,I16,r16,ys,hys,hlen,m3,hm3,w3⟩:=zq;refine thn (J7 _ s16 σ15 H16 (.ref s2.heap.objs.size) [v16] (.ref s2.heap.objs.size) [u16] (λ_ H17=>H17=upd H16 s2.heap.objs.size (.lst (ys ++ [v16]))) I16 rfl (.cons r16 .nil) ⟨_,ys,v16,rfl,rfl,hys,hlen,rfl⟩) λ_ s17 zq=>?_;obtain ⟨_,H17,I17,_,hH17⟩:=zq;subst hH17;refine ⟨m3,hm3,j+1,σ15,_,I17.unpinned,T2.keep _ _ _ st14 λb hb o e=>(I17.pin (b,o) (List.mem_append_right _ (List.mem_append_right _ (t4 hb e)))).1,λb hb=>?_,w3⟩;obtain ⟨o,e,d⟩:=T2.obj _ _ st14 b hb;exact (I17.pin (b,o) (List.mem_append_right _ (List.mem_append_right _ (t4 hb e)))).2.1
      exact aI0 inner (T2.self _ 0 _ _ _ st11 inner)
  exact codeAny_compStart_list (loop _ rfl) (T.self _ 0 _ _ _ (T.keep _ _ _ st2 λb hb o e=>old b o e) (loop _ rfl))
end
end L2
set_option maxRecDepth 100000
namespace R
theorem N5 {f:Nat->Rat}:∀ n,(∀ i,i<n->f i=0)->i4 f n=0
 | 0,_=>rfl
 | n+1,h=>by
  rw [i4,N5 n (λi hi=>h i ⋯),h n ⋯]
  grind
open PySem L2 PyProof.Rows
structure ClN (W:Nat) (qs:List Rat):Prop where
 l:k9 qs<2 ^ W
 w:∀ v ∈ j2 (k9 qs) qs,j0s v<2 ^ W
theorem ClN.den {W:Nat} {qs:List Rat} (h:ClN W qs) {q:Rat} (hq:q ∈ qs):q.den<2 ^ W:=q0t (v0n (G1 qs) (M8 hq)) h.l
theorem ClN.num {W:Nat} {qs:List Rat} (h:ClN W qs) {q:Rat} (hq:q ∈ qs):q.num.natAbs<2 ^ W:=by
 have h1:=h.w _ (z0g.mpr ⟨q,hq,rfl⟩);obtain ⟨e,he⟩:=M8 hq;have hp:=G1 qs;have h0:(q.den:Int) ≠ 0:=by have:=q.den_nz;omega
 have e1:(k9 qs:Int).fdiv (q.den:Int)=(e:Int):=by
  rw [he,j0e];exact j5 h0
 rw [e1,z0p,z0b] at h1;refine q0t (g0p _ ?_) h1;rcases Nat.eq_zero_or_pos e with z | z
 ·rw [z] at he;omega
 ·exact z
theorem ClN.bdN {W:Nat} {qs:List Rat} (h:ClN W qs) {q:Rat} (hq:q ∈ qs):BdN W q:=⟨h.num hq,h.den hq⟩
theorem ClN.take {W:Nat} {qs:List Rat} (h:ClN W qs) (i:Nat):k9 (qs.take i)<2 ^ W :=
 q0t (v0n (G1 qs) (au2 λq hq=>M8 (y0p hq))) h.l
theorem am5 (v:Int) (L:Nat):z0a 1 L*(v:Rat)=z0a v L:=by
 have h1:=z0e (v:Rat);rw [u0t,u0u] at h1
 conv=>lhs;rw [<- h1]
 rw [j0q]
 simp
theorem av2 (v:Int) {L:Nat} (h:0<L):(z0a v L).den ∣ L:=by
 have hL:(L:Int) ≠ 0:=⋯;obtain ⟨_,e2⟩:=aC9 (t:=v) (b:=(L:Int)) (g:=(q0s v L:Int)) hL (by rw [if_neg ⋯])
 obtain ⟨k,hk⟩:=j0b v (L:Int);have hg:=J8 (t:=v) hL
 have e3:(L:Int).fdiv (q0s v L:Int)=k:=by
  conv=>lhs;arg 1;rw [hk]
  exact j5 ⋯
 rw [e3] at e2;have:((z0a v L).den:Int) ∣ (L:Int):=⟨_,by rw [u0r,<- e2];exact hk⟩
 exact j0a.mp this
theorem aD4 (v:Int) {L:Nat} (h:0<L):(z0a v L).num*L=v*((z0a v L).den:Int):=by
 have hL:(L:Int) ≠ 0:=⋯;have hd:((z0a v L).den:Int) ≠ 0:=by have:=(z0a v L).den_nz;omega
 exact (y0a hd hL).mp (z0e _)
theorem aR4 {L W:Nat} {vs:List Int} (hL0:0<L) (hL:L<2 ^ W) (hv:∀ v ∈ vs,j0s v<2 ^ W):ClN W (scl (z0a 1 L) vs):=by
 have hd:k9 (scl (z0a 1 L) vs) ∣ L:=au2 λq hq=>by
  obtain ⟨v,_,rfl⟩:=z0g.mp hq;rw [am5];exact av2 v hL0
 have hle:=v0n hL0 hd;refine ⟨q0t hle hL,λu hu=>?_⟩;obtain ⟨q,hq,rfl⟩:=z0g.mp hu;obtain ⟨e,he⟩:=M8 hq;have h0:(q.den:Int) ≠ 0:=by have:=q.den_nz;omega
 have e1:(k9 (scl (z0a 1 L) vs):Int).fdiv (q.den:Int)=(e:Int):=by
  rw [he,j0e];exact j5 h0
 obtain ⟨v,hvm,hvq⟩:=z0g.mp hq;rw [am5] at hvq;have hc:=aD4 v hL0;rw [hvq] at hc
 have hc':q.num.natAbs*L=v.natAbs*q.den:=by
  have:=congrArg j0s hc
  rwa [z0p,z0p,z0b,z0b] at this
 rw [e1,z0p,z0b];refine q0t ?_ (hv v hvm)
 have h2:(q.num.natAbs*e)*L<=v.natAbs*L:=by
  calc (q.num.natAbs*e)*L=(q.num.natAbs*L)*e:=by rw [Nat.mul_right_comm]
   _=v.natAbs*(q.den*e):=by rw [hc',m0r]
   _<=v.natAbs*L:=m0u _ (by rw [<- he];exact hle)
 exact Nat.le_of_mul_le_mul_right h2 hL0
theorem aY8 (qs:List Rat):scl (z0a 1 (k9 qs)) (j2 (k9 qs) qs)=qs:=by
 unfold scl j2;rw [g0m]
 conv=>rhs;rw [<- List.map_id qs]
 refine y0u λq hq=>?_
 show z0a 1 (k9 qs)*((q.num*(k9 qs:Int).fdiv (q.den:Int):Int):Rat)=q;rw [am5];exact (ar9 (G1 qs) (M8 hq)).symm
open PySem L2 PyProof.Rows
structure bh2 (H:Hp) (p:Addr) (qs:List Rat):Prop where
 ex:∃ xs,H p=some (.lst xs)/\t5 H xs qs
 bd:∀ q ∈ qs,q.den<2 ^ 6000
 len:qs.length<900
 tl:N3 qs qs.length
inductive aY0 (H:Hp):List Addr->List (List Rat)->Prop where
 | nil:aY0 H [] []
 | cons {p:Addr} {ps:List Addr} {L:List Rat} {Ls:List (List Rat)} (h:bh2 H p L) (t:aY0 H ps Ls):aY0 H (p :: ps) (L :: Ls)
theorem aK3:∀ Ls:List (List Rat),K3 (Ls.map F4) (Ls.map F4)=true
 | []=>by simp [K3]
 | L :: Ls=>by rw [z0s,K3,aa8,aK3 Ls];simp
theorem av1:∀ Ls:List (List Rat),ao7 (Ls.map F4)<=2
 | []=>by simp [ao7]
 | L :: Ls=>by
  have h1:=an3 L;have h2:=av1 Ls;rw [z0s,ao7];omega
theorem A1 {ts:List Addr} {i:Nat} {x:V} (h:(ts.map V.ref)[i]? = some x):∃ p,ts[i]? = some p/\x=.ref p:=by
 rw [q0q] at h
 cases hw:ts[i]? with
 | none=>rw [hw] at h;cases h
 | some v=>rw [hw] at h;cases h;exact ⟨v,rfl,rfl⟩
theorem aq2:∀ Ls Ms:List (List Rat),K3 (Ls.map F4) (Ms.map F4)=decide (Ls=Ms)
 | [],[]=>by simp [K3]
 | [],_ :: _=>by simp [K3]
 | _ :: _,[]=>by simp [K3]
 | p :: ps,q :: qs=>by
  rw [z0s,z0s,K3,aa8,aq2 ps qs]
  by_cases h1:p=q <;> by_cases h2:ps=qs <;> simp [h1,h2]
theorem ap6:∀ Ls Ms:List (List Rat),ad2 (Ls.map F4) (Ms.map F4)=true
 | [],[]=>by simp [ad2]
 | [],_ :: _=>by simp [ad2]
 | _ :: _,[]=>by simp [ad2]
 | p :: ps,q :: qs=>by rw [z0s,z0s,ad2,ae4,ap6 ps qs];rfl
def F1 (Ls:List (List Rat)):D:=.lst (Ls.map F4)
theorem V2 (Ls Ms:List (List Rat)):eqD (F1 Ls) (F1 Ms)=decide (Ls=Ms):=by unfold F1;rw [eqD,aq2]
theorem V0 (Ls Ms:List (List Rat)):okD (F1 Ls) (F1 Ms)=true:=by unfold F1;rw [okD,ap6]
theorem aa9 (Ls:List (List Rat)):dpD (F1 Ls)<=60:=by unfold F1;rw [dpD];have:=av1 Ls;omega
end R
set_option maxRecDepth 100000
namespace L2
open PySem PySem.Spec PyProof.Rows
theorem ay1 {h:Heap} {a:Addr} {m:Str->Option Value} {o:Obj} (n:h.Ns a m) (e:h.get? a=some o) (v:Option Value) (z:o.data=.cell v):False:=by
 obtain ⟨o',es,ep,e',r⟩:=n;rw [e] at e'
 cases e'
 have d:=r.1;rw [d] at z;cases z
section
variable {X:Cx}
theorem ac0 {elt tg iter:Expr} {scope:Scope} {pos spos py:Pos} {y:Str} {i₀:Nat} {cl:List (Str × Addr)} {Nc:List Str} {caps:List (Option Nat)} {wi:TI} {g:TG} {te:TE} (hN:X.N.Nodup) (hi₀:X.N[i₀]? = some y) (hx:Loc X.env.scope y) (hc:X.calm=true) (cp:G2 X scope cl Nc caps) (hi:PI X tg iter wi)
  (hg:∀ C s₂ H₂ fp pins,PG (X.block scope cl C Nc s₂ H₂ fp pins) tg g) (he:∀ C s₂ H₂ fp pins,PE (X.block scope cl C Nc s₂ H₂ fp pins) elt te) (hs:∀ x,foldedSetIterable iter X.env x=pure x:=by intro _;rfl) (hsw:swapsWith (.ListComp elt [⟨tg,iter,[],0⟩] scope pos) (some (.Name y py)) spos.line X.env=pure true:=by rfl)
  (hf:X.fn y=true \/ X.env.scope.names.lookup y=some .local:=by first | exact .inl rfl | exact .inr rfl | assumption) :
  PS X (.Assign [.Name y py] (.ListComp elt [⟨tg,iter,[],0⟩] scope pos) spos) (ad1 (aE6 wi caps g te) (j7 i₀)):=by
 intro pins s σ H DD I h;rw [exec_Assign_Name_used _ _ _ _ hsw];refine wpAny_bind (wpAny_standAt (wpAny_bind ?_))
 show wpAny _ X.A (do let _ <- comprehension (.ListComp elt [⟨tg,iter,[],0⟩] scope pos) scope X.env _ (newList []) false (eval iter X.env) (some (assign (.Name y py) X.env))) _ _ s
 refine wpAny_bind (wpAny_mono (wpAny_comprehension_free (use:=some (assign (.Name y py) X.env)) (Q:=λ_ s'=>SP X pins DD .next s') rfl hs cp.clos cp.kind cp.names ?_) (λ_ s' hq=>wpAny_pure (wpAny_pure hq)) λ_ _ e=>e);refine thn (hi pins s σ H _ I h) λv s1 h1=>thn h1 λitv s2 h2=>?_;obtain ⟨it,fp,tn,J,H2,e,I2,T,st2,f2,hW⟩:=h2;subst e;refine wpAny_newObj_type ?_ (by show 0<=sizeLine;exact z0u _)
 refine wpAny_newFunctionEnv cp.nocell (by intro y hy;simp at hy) (λh4 hns hsb=>?_) cp.kind
 dsimp only at hns hsb ⊢
 generalize hH3:s2.heap.push { cls:=.type "list",dict:=none,data:=.seq ([]:List Value).toArray }=H3 at hns hsb ⊢
 have hCe:H3.objs.size=s2.heap.objs.size+1:=by rw [<- hH3,z0m]
 have N0:∀ b o,s2.heap.get? b=some o->b ≠ H3.objs.size:=λb o e=>by rw [hCe];exact q0v (v0b (q0e e))
 have old:∀ b o,s2.heap.get? b=some o->h4.get? b=some o:=λb o e=>hsb.extBut b o (N0 b o e) (q0f _ (hH3 ▸ q0f _ e))
 have hD:h4.get? s2.heap.objs.size=some { cls:=.type "list",dict:=none,data:=.seq ([]:List Value).toArray } :=
  hsb.extBut _ _ (by rw [hCe];exact q0v (j0r _)) (q0f _ (hH3 ▸ q0y _ rfl))
 have hDn:H2 s2.heap.objs.size=none:=I2.fresh;have hCn:H2 H3.objs.size=none:=I2.hok.fresh (by rw [hCe];exact j0j _)
 have hCs:s2.heap.objs.size<=H3.objs.size:=by rw [hCe];exact j0j _
 have hDC:s2.heap.objs.size ≠ H3.objs.size:=by rw [hCe];exact q0v (j0r _)
 have fpl:∀ b ∈ fp,∃ o,s2.heap.get? b=some o:=λb hb=>let ⟨o,e,_⟩:=T.obj _ _ st2 b hb;⟨o,e⟩;have fpC:∀ b ∈ fp,b ≠ H3.objs.size:=λb hb=>let ⟨o,e⟩:=fpl b hb;N0 b o e;have fpD:∀ b ∈ fp,b ≠ s2.heap.objs.size:=λb hb=>let ⟨o,e⟩:=fpl b hb;q0v (q0e e);have stkN:∀ b,b ≠ X.env.locals->b ∉ X.fs->b ∉ frs X.stack:=λb h1 h2 z=>(z0r.mp (I2.stkSub b z)).elim h1 h2;obtain ⟨W,⟨m0,w0⟩,turn⟩:=hW s2.heap.objs.size hDn
 have okB:(X.block scope cl H3.objs.size Nc s2 H2 fp pins).Ok:=by
  refine ⟨I2.ok.mod,?_,I2.ok.glob,I2.ok.blt,hCs,λx y c h1 h2=>I2.ok.inj x y c (cp.sub x c h1) (cp.sub y c h2),λx hx=>cp.has x hx,λx c h=>(by cases h),I2.ok.hd,I2.ok.frames,.inl rfl,λb hb=>⟨fpC b hb,λx c h=>(f2 b hb).2.2.2.2.1 x c (cp.sub x c h)⟩,I2.bs,z0d I2.ok.bsz I2.sz,λb o e hb=>?_,λb hb=>stkN b (f2 b hb).2.1 (f2 b hb).2.2.1,I2.stack,I2.stkFree⟩
  ·exact cp.kind
  ·rcases (f2 b hb).2.2.2.1 with z | z
   ·exact I2.ok.noex b o e z
   ·exact absurd (q0b (q0e e) (z0d I2.ok.bsz z)) (j0m _)
 have hokB:HOk X.prog X.w (upd H2 s2.heap.objs.size (.lst [])) h4:=I2.hok.laid old (q0m _) ⟨z0u _,[],_,.nil,hD⟩
 have IB:Inv (X.block scope cl H3.objs.size Nc s2 H2 fp pins) [] (x4 caps σ) (upd H2 s2.heap.objs.size (.lst [])) { s2 with heap:=h4,toks:=s2.toks+([]:List (Str × Value)).length }:=by
  refine ⟨okB,rfl,I2.bare,Un.laid old (q0m _) hDn,⟨_,hns,λi x v e1 e2 e3=>?_⟩,λx c e=>?_,(show upd H2 s2.heap.objs.size (.lst []) H3.objs.size=none by rw [g9 (Ne.symm hDC)];exact hCn),λx c e=>?_,λp hp=>?_,hokB,?_⟩
  ·unfold x4 at e2
   rw [q0q] at e2
   cases hcap:caps[i]? with
   | none=>rw [hcap] at e2;cases e2
   | some o =>
    rw [hcap] at e2
    cases o with
    | none=>cases e2
    | some j =>
     have hj:σ[j]? = some (some v):=by
      have e2':(σ[j]?).join=some v:=Option.some.inj e2
      cases q:σ[j]? with
      | none=>rw [q] at e2';cases e2'
      | some z=>rw [q] at e2';exact congrArg some e2'
     obtain ⟨n1,n2,n3,n4⟩:=cp.cap i j x hcap e1;obtain ⟨m,hm,hl⟩:=I2.loc;obtain ⟨u,r,q⟩:=hl j x v n1 hj n2;rcases q with ⟨k,_⟩ | ⟨k,c,ec,z⟩
     ·exact absurd k n3
     ·obtain ⟨c',ec'⟩:=cp.has x n4
      have:=cp.sub x c' ec';rw [ec] at this;cases this;obtain ⟨oc,ho,hd⟩:=z;exact ⟨u,r,.inr ⟨n4,c,ec',oc,old _ _ ho,hd⟩⟩
  ·obtain ⟨v,oc,ho,hd⟩:=I2.cell x c (cp.sub x c e)
   exact ⟨v,oc,old _ _ ho,hd⟩
  ·obtain ⟨v,oc,ho,hd⟩:=I2.cell x c (cp.sub x c e)
   rw [g9 (q0v (q0e ho))];exact I2.freeC x c (cp.sub x c e)
  ·have hp':p ∈ X.pn ++ pins:=by simpa using hp
   obtain ⟨e1,e2,e3,e4,e5⟩:=I2.pin p hp';exact ⟨old _ _ e1,by rw [g9 (q0v (q0e e1))];exact e2,N0 _ _ e1,stkN _ e3 e4,e5⟩
  ·show (x4 caps σ).length=Nc.length
   unfold x4;rw [q0d];exact cp.len
 have stat:∀ {H':Hp},(∀ b ∈ fp,H' b=none)->∀ b ∈ fp,ad3 (X.block scope cl H3.objs.size Nc s2 H2 fp pins) [] H' b:=λhn b hb =>
  ⟨hn b hb,fpC b hb,stkN b (f2 b hb).2.1 (f2 b hb).2.2.1,.inl hb,λx c h=>(f2 b hb).2.2.2.2.1 x c (cp.sub x c h),λp hp=>(f2 b hb).2.2.2.2.2 p (by simpa using hp)⟩
 have loop:∀ s5:Shared,s5={ s2 with heap:=h4,toks:=s2.toks+([]:List (Str × Value)).length } ->
   codeAny (model X.prog X.w) X.A (.compLoop (.ListComp elt [⟨tg,iter,[],0⟩] scope pos) 0 (.ref it) (.ref s2.heap.objs.size) (compEnvC scope cl H3.objs.size X.env))
    (compPost (model X.prog X.w) X.A X.xe (some (assign (.Name y py) X.env)) (λ_ s'=>SP X pins DD .next s') (.ref s2.heap.objs.size) H3.objs.size) s5:=by
  rintro s5 rfl;refine ag3 (λn s' => ∃ i σ' H',Inv (X.block scope cl H3.objs.size Nc s2 H2 fp pins) [] σ' H' s'/\tn i s'.heap/\(∀ b ∈ fp,H' b=none)/\W i n σ' H') ?_ m0 ⟨0,_,_,IB,T.keep _ _ _ st2 λb hb o e=>old b o e,λb hb=>by rw [g9 (fpD b hb)];exact (f2 b hb).1,w0⟩
  rintro n s6 ⟨i,σ6,H6,I6,st6,fr6,w6⟩;rcases turn i n σ6 H6 w6 with ⟨stop,qn⟩ | ⟨go,step⟩
  ·refine thn (T.done (X.block scope cl H3.objs.size Nc s2 H2 fp pins) rfl rfl rfl hc i [] s6 σ6 H6 _ I6 (stat fr6) st6 stop) λr s7 zq=>?_
   obtain ⟨hr,I7⟩:=zq;subst hr;obtain ⟨m7,hn7,_⟩:=id I7.loc;have Io:Inv X pins σ H6 s7:=I2.sameC (h'':=s7.heap) f2 I7.os I7.bare I7.base I7.hok hCs I7.free ⟨rfl,λ_ _=>rfl⟩;have fC:ad3 X pins H6 H3.objs.size:=I2.fpOk hCs I7.free;have fC':∀ b ∈ [H3.objs.size],ad3 X pins H6 b:=λb hb=>by rw [z0f.mp hb];exact fC
   obtain ⟨oC,esC,epC,hoC,restC⟩:=id hn7
   have obC:∀ b ∈ [H3.objs.size],∃ o,s7.heap.get? b=some o/\∀ v,o.data ≠ .cell v:=λb hb=>by
    rw [z0f.mp hb];exact ⟨oC,hoC,λv z=>ay1 hn7 hoC v z⟩
   have Ip:=Io.pinned fC' obC
   show wpAny (model X.prog X.w) X.A (assign (.Name y py) X.env (.ref s2.heap.objs.size)) _ _ s7;refine thn (d5 (pos:=py) hN hi₀ hx hf _ s7 σ H6 (.ref s2.heap.objs.size) (.ref s2.heap.objs.size) DD.nx Ip rfl qn) λ_ s9 zq=>?_;obtain ⟨σ9,H9,I9,q9⟩:=zq;have keepC:=(I9.pin (H3.objs.size,oC) (q0k _ (q0k _ (t4 (by simp) hoC)))).1
   have H9C:=(I9.pin (H3.objs.size,oC) (q0k _ (q0k _ (t4 (by simp) hoC)))).2.1
   refine ⟨m7,hn7.at' λo e=>by rw [hoC] at e;cases e;exact keepC,λh' sb=>?_⟩
   obtain ⟨_,g1,g2,g3,g4,g5⟩:=fC;exact ⟨σ9,H9,I9.unpinned.turned (t':=s9.toks) (λb o hb e=>(sb.2 b hb).trans e) H9C g1 g3 g4 g5,q9⟩
  ·refine thn (T.item (X.block scope cl H3.objs.size Nc s2 H2 fp pins) rfl rfl rfl hc i [] s6 σ6 H6 _ I6 (stat fr6) st6 go) λr s7 zq=>?_
   obtain ⟨u,hr,h7⟩:=zq;subst hr;refine thn h7 λ_ s8 zq=>?_;obtain ⟨x,H8,I8,r8,y8,st8,fr8⟩:=zq;have I8':=I8.pinned (stat fr8) (T.obj _ _ st8);refine thn (hg _ _ _ _ _ _ s8 σ6 H8 x u _ I8' r8 (step x H8 y8)) λ_ s9 zq=>?_;obtain ⟨σ9,H9,I9,q9⟩:=zq;refine thn (he _ _ _ _ _ _ s9 σ9 H9 _ I9 q9) λu10 s10 zq=>?_;obtain ⟨v10,H10,I10,r10,ys,hys,hlen,m',hm',w'⟩:=zq;refine thn (J7 _ s10 σ9 H10 (.ref s2.heap.objs.size) [v10] (.ref s2.heap.objs.size) [u10] (λ_ H11=>H11=upd H10 s2.heap.objs.size (.lst (ys ++ [v10]))) I10 rfl (.cons r10 .nil) ⟨_,ys,v10,rfl,rfl,hys,hlen,rfl⟩) λ_ s11 zq=>?_;obtain ⟨_,H11,I11,_,hH11⟩:=zq;subst hH11;refine ⟨m',hm',i+1,σ9,_,I11.unpinned,T.keep _ _ _ st8 λb hb o e=>(I11.pin (b,o) (q0k _ (q0k _ (t4 hb e)))).1,λb hb=>?_,w'⟩;obtain ⟨o,e,d⟩:=T.obj _ _ st8 b hb;exact (I11.pin (b,o) (q0k _ (q0k _ (t4 hb e)))).2.1
 exact codeAny_compStart_list (loop _ rfl) (T.self _ 0 _ _ _ (T.keep _ _ _ st2 λb hb o e=>old b o e) (loop _ rfl))
def Itv (K:q0a) (a:Addr) (n:Nat):It :=
 ⟨λi H=>i<n/\∃ xs x,SqL K H a xs/\xs[n-1-i]? = some x,λi H x H'=>H'=H/\∀ xs,SqL K H a xs->xs[n-1-i]? = some x,λi H=>i=n⟩
theorem aS6 {P:Program} {w:World} {K:q0a} {tg:Expr} (a it:Addr) (n:Nat):aK9 P w K tg (Itv K a n) [it] it (λi h=>h.IsRevIter it a ((n:Int)-1-(i:Int))) where
 mem:=by simp
 obj:=λi h st b hb=>by
  have e:b=it:=by simpa using hb
  subst e;obtain ⟨o,e,c,d⟩:=st;exact ⟨o,e,λv z=>by rw [d] at z;cases z⟩
 keep:=λi h h' st k=>st.at λo e=>k it (by simp) o e
 item:=by
  intro X hP hw hK hc i pins s σ H E I hf st hg;subst hP hw hK;obtain ⟨hi,xs,x,hq,hx⟩:=hg;obtain ⟨its,rv,p,hz⟩:=I.list hq;obtain ⟨u,hu,ru⟩:=rv.get hx;obtain ⟨f0,f1,f2,f3,f4,f5⟩:=hf it (by simp)
  have e:(n:Int)-1-(i:Int)=((n-1-i:Nat):Int):=⋯;rw [e] at st;refine wpAny_pyNext_rev_item st p.isList (x:=u) (by simpa using hu) λh' st' sb=>?_
  have I1:Inv X pins σ H { s with heap:=h' }:=I.turned (t':=s.toks) (λb o hb e=>(sb.2 b hb).trans e) f0 f1 f3 f4 f5;have e2:((n-1-i:Nat):Int)-1=(n:Int)-1-((i+1:Nat):Int):=⋯;rw [e2] at st';obtain ⟨o,e,c,d⟩:=id st';exact ⟨u,rfl,aW3 (s:={ s with heap:=h' }) e c d (by decide) ⟨x,H,I1,ru,⟨rfl,λys hy=>by rw [I.list_inj hy hq];exact hx⟩,st',λb hb=>(hf b hb).1⟩⟩
 done:=by
  intro X hP hw hK hc i pins s σ H E I hf st hg;subst hP hw hK;have e:i=n:=hg;subst e;have e:(i:Int)-1-(i:Int)=-1:=⋯;rw [e] at st;obtain ⟨f0,f1,f2,f3,f4,f5⟩:=hf it (by simp)
  exact wpAny_pyNext_rev_end (I.ok.hd hc) st λh' eb=>⟨rfl,I.turned (t':=s.toks) (λb o hb e=>eb b o hb e) f0 f1 f3 f4 f5⟩
 self:=λ_ _ _ _ _ st h=>wpAny_pyIter_revIter st h
def ak9 (K:q0a) (ta:TA):TI:=λσ H R=>ta σ H λvs H1 => ∃ a xs,vs=[.ref a]/\SqL K H1 a xs/\R (Itv K a xs.length) H1
theorem be3 {tg l:Expr} {ta:TA} {p pos:Pos} (hg:Gl X "reversed") (hm:X.mg "reversed" = none) (ha:PA X [l] ta) (hs:starEach [l] X.env=[(false,eval l X.env)]:=by rfl) :
  PI X tg (.Call (.Name "reversed" p) [l] [] pos) (ak9 X.K ta):=by
 intro pins s σ H R I h;refine Call_ (Z5 I hg hm (u:=.type "reversed") (by decide +kernel) (PyProof.Rows.callWith_type1 (thn (ha pos pins s σ H _ I h) λus s1 ⟨vs,H1,I1,r1,q1⟩=>?_) hs rfl))
 obtain ⟨a,xs,e,hq,q⟩:=q1;subst e;obtain ⟨u,rfl,rx⟩:=ad4 r1
 cases rx
 obtain ⟨its,rv,p,hz⟩:=I1.list hq;refine call_reversed_list p.isList ?_;have hl:=rv.length;have e:((its.toArray.size:Nat):Int)-1=(xs.length:Int)-1-((0:Nat):Int):=by simp;omega
 rw [e];have I2:Inv X pins σ H1 { s1 with heap:=s1.heap.push (revObj a ((xs.length:Int)-1-((0:Nat):Int))) }:=I1.kept (t':=s1.toks) λb o e=>q0f _ e;refine wpAny_pyIter_revIter (it:=s1.heap.objs.size) (l:=a) (i:=(xs.length:Int)-1-((0:Nat):Int)) ⟨_,q0y _ rfl,rfl,rfl⟩ ?_;refine ⟨s1.heap.objs.size,[s1.heap.objs.size],_,_,H1,rfl,I2,aS6 a _ xs.length,⟨_,q0y _ rfl,rfl,rfl⟩,λb hb=>?_,q⟩;have e:b=s1.heap.objs.size:=by simpa using hb
 subst e;exact I1.fpOk (q0m _) (I1.hok.fresh (q0m _))
def ipM (c:Int->Int->Prop) (f:Int->Int->Int):TIp:=λx y H Q => ∃ i j,x=.int i/\y=.int j/\c i j/\Q (.int (f i j)) H
theorem aV7:PIp X .Mult (ipM IntMulOk λi j=>i*j):=by
 intro pins s σ H x y v u Q I r1 r2 h;obtain ⟨i,j,e1,e2,hc,q⟩:=h;subst e1;subst e2;obtain ⟨t,rfl⟩:=r1;obtain ⟨t',rfl⟩:=r2;exact imul_int ⟨.int _,H,I.tok _,⟨_,rfl⟩,q⟩ hc
end
theorem ba9 {K:q0a} {a:Addr} {xs:List V} {g:TG} {tb:TS} {D:ah6} {σ:St} {H:Hp} (Pv:Nat->St->Hp->Prop) (h0:Pv 0 σ H) (hl:∀ i σ H,i<=xs.length->Pv i σ H->SqL K H a xs)
  (hs:∀ i x σ H,i<xs.length->xs[xs.length-1-i]? = some x->Pv i σ H->g x σ H λσ2 H2=>tb { D with nx:=Pv (i+1),ct:=Pv (i+1),bk:=D.nx } σ2 H2) (hd:∀ σ H,Pv xs.length σ H->D.nx σ H) :
  ∃ W:Nat->Nat->St->Hp->Prop,(∃ m,W 0 m σ H)/\∀ i m σ H,W i m σ H ->
   ((Itv K a xs.length).stop i H/\D.nx σ H) \/ ((Itv K a xs.length).go i H/\∃ N:St->Hp->Prop,(∀ σ' H',N σ' H'->∃ m',m'<m/\W (i+1) m' σ' H')/\∀ x H',(Itv K a xs.length).yld i H x H'->g x σ H' λσ2 H2=>tb { D with nx:=N,ct:=N,bk:=D.nx } σ2 H2):=by
 refine ⟨λi m σ H=>m=xs.length-i/\i<=xs.length/\Pv i σ H,⟨xs.length,by simp,z0u _,h0⟩,?_⟩
 rintro i m σ H ⟨rfl,hi,p⟩;have q:=hl i σ H hi p
 by_cases hlt:i<xs.length
 ·refine .inr ⟨⟨hlt,xs,xs[xs.length-1-i],q,q0c ⋯⟩,Pv (i+1),λσ' H' p'=>⟨xs.length-(i+1),⋯,rfl,hlt,p'⟩,λx H' y=>?_⟩
  obtain ⟨e,y⟩:=y;subst e;exact hs i x σ _ hlt (y xs q) p
 ·have e:i=xs.length:=⋯
  subst e;exact .inl ⟨rfl,hd σ H p⟩
def aj6 (K:q0a):List V->Hp->VK->Prop:=λxs H Q => ∃ p ys,xs=[.ref p]/\(SqL K H p ys \/ SqT K H p ys)/\Q (.int ys.length) H
end L2
set_option maxRecDepth 100000
namespace R
open PySem L2 PyProof.Rows
theorem aH9 (xs:List V) {n:Nat} (h:n<=xs.length):ah5 xs (some (n:Int)) none=xs.drop n:=by
 unfold ah5
 have e1:HT.sIx xs.length 0 (some (n:Int))=n:=by
  simp only [HT.sIx];rw [if_neg ⋯];omega
 have e2:HT.sIx xs.length xs.length none=xs.length:=rfl;rw [e1,e2,m0d (by rw [u0f];omega)]
theorem aN3 (xs:List V):ah5 xs (some 1) none=xs.drop 1:=by
 cases xs with
 | nil=>exact u0w (by have:=aq3 [] (some 1) none;simpa using this)
 | cons x xs=>exact aH9 (x :: xs) (n:=1) (by simp)
theorem d7 {α:Type} {l:List α} {i:Nat} {x:α} (h:l[i]? = some x):l.take (i+1)=l.take i ++ [x]:=by rw [u0d,h];rfl
theorem as1 {qs:List Rat} (h:∀ x,qs[qs.length-1]? = some x->x ≠ 0):N3 qs qs.length :=
 ⟨q0m _,λi q hi e=>(by rw [z0k hi] at e;cases e),λ_ q e=>h q e⟩
theorem aV1 (r:Rat):t7 (-r)=[.int (0-r.num),.int (r.den:Int)]:=by
 unfold t7;rw [u0z,m0z];rfl
theorem l4.seq {K:q0a} {u:Addr} {H H':Hp} {b:Addr} {xs:List V} (s:l4 u H H') (hu:H u=none) (h:SqL K H b xs):SqL K H' b xs:=by
 rcases h with h | h
 ·rcases h with h | ⟨o,h⟩
  ·exact .inl (.inl (s _ _ h (i9 h hu)))
  ·exact .inl (.inr ⟨o,s _ _ h (i9 h hu)⟩)
 ·exact .inr h
theorem aL0 {α β γ:Type} {f:α->β->γ} {xs:List α} {ys:List β} {i:Nat} {x:α} {y:β} (h1:xs[i]? = some x) (h2:ys[i]? = some y):(v0x f xs ys)[i]? = some (f x y):=by
 rw [j0x,h1,h2]
theorem az8 {qs:List Rat} {q:Rat} (h:q ≠ 0):N3 (qs ++ [q]) (qs ++ [q]).length:=by
 refine ⟨q0m _,λi p hi e=>?_,λ_ p e=>?_⟩
 ·rw [z0k hi] at e;cases e
 ·rw [j0d,y0k,Nat.add_sub_cancel,v0k (q0m _)] at e
  simp at e
  rw [<- e];exact h
def aL6 (K:q0a):Sp:=λvs H Q _ => ∃ (a:Addr) (ns:List Int),vs=[.ref a]/\SqL K H a (ns.map V.int)/\ns.length<=63/\∀ H',Q (.bl true) H'
structure ExT (K:q0a) (mg:Str->Option Value) (x:Str) (C:Addr):Prop where
 m:mg x=some (.ref C)
 ox:bl4 K C [.type "ValueError",.type "Exception",.type "BaseException",.type "object"] "ValueError.__new__"
 ec:aE3 K C
structure CAd where
 c_NoFraction:Addr
 c_NoPolynomial:Addr
 c_NoStretch:Addr
 c_NoRow:Addr
 c_NoPair:Addr
 c_NoBack:Addr
 c_NoForm:Addr
 c_NoParts:Addr
 c_NoDegree:Addr
 c_NoSteps:Addr
 c_NoBox:Addr
 c_NoGain:Addr
 c_NoText:Addr
 c_NoLine:Addr
 c_NoName:Addr
 c_NoDeed:Addr
 c_RestError:Addr
structure XTx (K:q0a) (mg:Str->Option Value) (a:CAd):Prop where
 x_NoFraction:ExT K mg "NoFraction" a.c_NoFraction
 x_NoPolynomial:ExT K mg "NoPolynomial" a.c_NoPolynomial
 x_NoStretch:ExT K mg "NoStretch" a.c_NoStretch
 x_NoRow:ExT K mg "NoRow" a.c_NoRow
 x_NoPair:ExT K mg "NoPair" a.c_NoPair
 x_NoBack:ExT K mg "NoBack" a.c_NoBack
 x_NoForm:ExT K mg "NoForm" a.c_NoForm
 x_NoParts:ExT K mg "NoParts" a.c_NoParts
 x_NoDegree:ExT K mg "NoDegree" a.c_NoDegree
 x_NoSteps:ExT K mg "NoSteps" a.c_NoSteps
 x_NoBox:ExT K mg "NoBox" a.c_NoBox
 x_NoGain:ExT K mg "NoGain" a.c_NoGain
 x_NoText:ExT K mg "NoText" a.c_NoText
 x_NoLine:ExT K mg "NoLine" a.c_NoLine
 x_NoName:ExT K mg "NoName" a.c_NoName
 x_NoDeed:ExT K mg "NoDeed" a.c_NoDeed
structure Kits (K:q0a) (a:CAd) (C:Addr) (j:Nat):Prop where
 k_NoFraction:z0c K (.ref C) (.ref a.c_NoFraction)=some (decide (j=0))
 k_NoPolynomial:z0c K (.ref C) (.ref a.c_NoPolynomial)=some (decide (j=1))
 k_NoStretch:z0c K (.ref C) (.ref a.c_NoStretch)=some (decide (j=2))
 k_NoRow:z0c K (.ref C) (.ref a.c_NoRow)=some (decide (j=3))
 k_NoPair:z0c K (.ref C) (.ref a.c_NoPair)=some (decide (j=4))
 k_NoBack:z0c K (.ref C) (.ref a.c_NoBack)=some (decide (j=5))
 k_NoForm:z0c K (.ref C) (.ref a.c_NoForm)=some (decide (j=6))
 k_NoParts:z0c K (.ref C) (.ref a.c_NoParts)=some (decide (j=7))
 k_NoDegree:z0c K (.ref C) (.ref a.c_NoDegree)=some (decide (j=8))
 k_NoSteps:z0c K (.ref C) (.ref a.c_NoSteps)=some (decide (j=9))
 k_NoBox:z0c K (.ref C) (.ref a.c_NoBox)=some (decide (j=10))
 k_NoGain:z0c K (.ref C) (.ref a.c_NoGain)=some (decide (j=11))
 k_NoText:z0c K (.ref C) (.ref a.c_NoText)=some (decide (j=12))
 k_NoLine:z0c K (.ref C) (.ref a.c_NoLine)=some (decide (j=13))
 k_NoName:z0c K (.ref C) (.ref a.c_NoName)=some (decide (j=14))
 k_NoDeed:z0c K (.ref C) (.ref a.c_NoDeed)=some (decide (j=15))
 kV:z0c K (.ref C) (.type "ValueError")=some true
 ec:aE3 K C
 ex:PySem.W.exmOne K (.ref C) (.ref a.c_RestError)=some true
def aY4 (j:Nat):List V:=[V.bl (decide (j=0)),V.bl (decide (j=1)),V.bl (decide (j=2)),V.bl (decide (j=3))] ++ [V.bl (decide (j=4)),V.bl (decide (j=5)),V.bl (decide (j=6)),V.bl (decide (j=7))] ++ [V.bl (decide (j=8)),V.bl (decide (j=9)),V.bl (decide (j=10)),V.bl (decide (j=11))] ++ [V.bl (decide (j=12)),V.bl (decide (j=13)),V.bl (decide (j=14)),V.bl (decide (j=15))]
theorem aa5 {ws:List Int} {i:Nat} {x:V} (h:(ws.map V.int)[i]? = some x):∃ v,ws[i]? = some v/\x=.int v:=by
 rw [q0q] at h
 cases hw:ws[i]? with
 | none=>rw [hw] at h;cases h
 | some v=>rw [hw] at h;cases h;exact ⟨v,rfl,rfl⟩
end R
namespace L2
open PySem PyProof.Rows
end L2
set_option maxRecDepth 100000
namespace R
open PySem L2 PyProof.Rows
theorem ax7 {α:Type}:∀ xs:List α,(z0q xs.length).filterMap (λk=>xs[k]?)=xs
 | []=>by simp
 | x :: r=>by
  rw [z0n,m0a,j0p]
  show x :: _=x :: r
  congr 1
  rw [List.filterMap_map];exact ax7 r
theorem aH6 {α β:Type} {f g:α->Option β}:∀ l:List α,(∀ x ∈ l,f x=g x)->l.filterMap f=l.filterMap g
 | [],_=>rfl
 | a :: l,h=>by
  rw [j0p,j0p,h a q0u,aH6 l λx hx=>h x (q0p _ hx)]
theorem aU1 (xs:List V):aF9 xs none none (some (-1))=xs.reverse:=by
 unfold aF9
 have e:sliceBounds none none (some (-1)) xs.length=((xs.length:Int)-1,-1,-1):=by
  simp [sliceBounds]
 rw [e];unfold sliceRange;have hn:¬ ((-1:Int) > 0):=by decide
 simp only [hn,if_false]
 have ec:(if (xs.length:Int)-1 > -1 then ((xs.length:Int)-1 - -1 - -1-1) / (- -1) else 0).toNat=xs.reverse.length:=by
  rw [List.length_reverse,show (- -1:Int)=1 from rfl,Int.ediv_one]
  split <;> omega
 rw [ec,List.filterMap_map]
 conv=>rhs;rw [<- ax7 xs.reverse]
 refine aH6 _ λk hk=>?_;have hk':k<xs.length:=by simpa using y0q.mp hk
 show xs[((xs.length:Int)-1 + -1*(k:Int)).toNat]? = xs.reverse[k]?;rw [List.getElem?_reverse hk']
 congr 1
 omega
theorem t5.rev {H:Hp}:∀ {vs:List V} {qs:List Rat},t5 H vs qs->t5 H vs.reverse qs.reverse
 | _,_,.nil=>.nil
 | _,_,.cons h t=>by
  rw [List.reverse_cons,List.reverse_cons];exact (t5.rev t).append (.cons h .nil)
mutual
def noU:D->Bool
 | .v _=>true
 | .tup ds=>bf0 ds
 | .lst ds=>(ds.length != 3) && bf0 ds
def bf0:List D->Bool
 | []=>true
 | d :: ds=>noU d && bf0 ds
end
end R
set_option maxRecDepth 100000
namespace L2
open PySem PySem.Spec PyProof.Rows
def smZ:List Int->Int
 | []=>0
 | a :: l=>a+smZ l
theorem as4:∀ (l m:List Int),smZ (l ++ m)=smZ l+smZ m
 | [],m=>by simp [smZ]
 | a :: l,m=>by rw [v0j,smZ,smZ,as4 l m];omega
theorem ap4 (ns:List Int):∀ k,k<=ns.length->preSum (λi=>(ns[i]?).getD 0) k=smZ (ns.take k)
 | 0,_=>by rw [List.take_zero];rfl
 | k+1,h=>by
  have hk:ns[k]? = some (ns[k]'⋯):=q0c _;rw [u0d,hk,as4,<- ap4 ns k ⋯]
  show preSum (λi=>(ns[i]?).getD 0) k+(ns[k]?).getD 0=preSum (λi=>(ns[i]?).getD 0) k+(ns[k]'⋯+0);rw [hk,Int.add_zero];rfl
def ah1 (K:q0a):List V->Hp->VK->Prop:=λxs H Q => ∃ (p:Addr) (ns:List Int),xs=[.ref p]/\SqL K H p (ns.map V.int)/\Q (.int (smZ ns)) H
section
variable {X:Cx}
theorem aX5 (hc:X.calm=true):X3 X (.builtin "sum") (ah1 X.K):=by
 intro pins s σ H xs us Q I r h;obtain ⟨p,ns,rfl,hq,q⟩:=h;obtain ⟨u,rfl,rx⟩:=ad4 r
 cases rx
 obtain ⟨its,r',pl,hz⟩:=I.list hq;have hlen:its.length=ns.length:=by rw [<- r'.length,q0d]
 have hp:p ≠ s.heap.objs.size:=by
  obtain ⟨o,ho,_⟩:=pl.isList;exact q0v (q0e ho)
 refine call_sum_walkAnyS (wpAny_pyIter_list pl.isList ?_);refine ⟨s.heap.objs.size,_,_,_,_,_,_,λi=>(ns[i]?).getD 0,rfl,(Walks.list (A:=X.A.in1) (I.ok.hd hc) _ p hp its.toArray).toS,⟨⟨_,q0y _ rfl,rfl,rfl⟩,pl.isList.at λo e=>q0f _ e⟩,?_,?_,?_⟩
 ·intro b hb
  have hb':b=s.heap.objs.size \/ b=p:=by simpa using hb
  show b<(s.heap.push _).objs.size;rw [z0m];rcases hb' with z | z
  ·rw [z];exact j0r _
  ·obtain ⟨o,ho,_⟩:=pl.isList
   rw [z];exact v0b (q0e ho)
 ·intro i v hv
  have hv':its[i]? = some v:=by simpa using hv
  have hi:i<ns.length:=by rw [<- hlen];exact (q0g.mp hv').1
  obtain ⟨u,hu,ru⟩:=r'.get (i:=i) (x:=.int ns[i]) (by rw [q0q,q0c hi];rfl)
  rw [hv'] at hu
  cases hu
  obtain ⟨t,rfl⟩:=(show ∃ t,v=Value.int ns[i] t from ru);exact ⟨t,by show _=Value.int ((ns[i]?).getD 0) t;rw [q0c hi];rfl⟩
 ·intro s' t' mv
  have e:preSum (λi=>(ns[i]?).getD 0) its.toArray.size=smZ ns:=by
   rw [q0j,hlen,ap4 ns _ (q0m _),y0g]
  rw [e];obtain ⟨h',g',d',tk',o'⟩:=s';obtain ⟨m1,m2,m3,m4,m5⟩:=mv;have m2':g'=s.gens:=m2;have m3':d'=s.drawn:=m3;have m4':o'=s.os:=m4;subst m2' m3' m4';refine ⟨.int _,H,?_,⟨_,rfl⟩,q⟩;refine I.kept (t':=tk') (h':=h') λb o e=>m1 b o ?_ (q0f _ e);intro z;have:b=s.heap.objs.size:=by simpa using z
  exact absurd (q0e e) (by rw [this];exact j0m _)
end
def ae0 (K:q0a):List V->Hp->VK->Prop:=λxs H Q => ∃ p ys,xs=[.ref p]/\(SqL K H p ys \/ SqT K H p ys)/\∀ l,H l=none->Q (.ref l) (upd H l (.lst ys))
open PySem PyProof.Rows
theorem ba8 {K:q0a} {a b:Addr} {g:TG} {tb:TS} {E:ah6} {σ:St} {H:Hp} (xs ys:List V) (Pv:Nat->St->Hp->Prop) (h0:Pv 0 σ H) (hl:∀ i σ H,Pv i σ H->SqL K H a xs/\SqL K H b ys)
  (hs:∀ i x y σ H p,xs[i]? = some x->ys[i]? = some y->Pv i σ H->H p=none->g (.ref p) σ (upd H p (.tup [x,y])) λσ2 H2=>tb { E with nx:=Pv (i+1),ct:=Pv (i+1),bk:=E.nx } σ2 H2) (hd:∀ σ H,Pv (min xs.length ys.length) σ H->E.nx σ H) :
  ∃ W:Nat->Nat->St->Hp->Prop,(∃ m,W 0 m σ H)/\∀ i m σ H,W i m σ H ->
   ((Itz K a b).stop i H/\E.nx σ H) \/ ((Itz K a b).go i H/\∃ N:St->Hp->Prop,(∀ σ' H',N σ' H'->∃ m',m'<m/\W (i+1) m' σ' H')/\∀ x H',(Itz K a b).yld i H x H'->g x σ H' λσ2 H2=>tb { E with nx:=N,ct:=N,bk:=E.nx } σ2 H2):=by
 refine ⟨λi m σ H=>m=min xs.length ys.length-i/\i<=min xs.length ys.length/\Pv i σ H,⟨_,rfl,z0u _,h0⟩,?_⟩;rintro i m σ H ⟨rfl,hi,p⟩;obtain ⟨q,q'⟩:=hl i σ H p
 by_cases hlt:i<min xs.length ys.length
 ·have h1:i<xs.length:=⋯
  have h2:i<ys.length:=⋯;refine .inr ⟨⟨xs,ys,xs[i],ys[i],q,q',q0c h1,q0c h2⟩,Pv (i+1),λσ' H' n=>⟨_,⋯,rfl,⋯,n⟩,?_⟩;intro v H3 hy;obtain ⟨x,y,r,e1,e2,hr,rfl,rfl⟩:=hy xs ys q q';exact hs i x y σ _ r e1 e2 p hr
 ·have e:i=min xs.length ys.length:=⋯
  subst e;exact .inl ⟨⟨xs,ys,q,q',⋯⟩,hd σ H p⟩
end L2
namespace R
open PySem L2 PyProof.Rows
inductive Rws (H:Hp):List Addr->List (List Rat)->Prop where
 | nil:Rws H [] []
 | cons {p:Addr} {xs:List V} {ps:List Addr} {L:List Rat} {Ls:List (List Rat)} (h:H p=some (.lst xs)) (n:t5 H xs L) (t:Rws H ps Ls):Rws H (p :: ps) (L :: Ls)
theorem Rws.length {H:Hp}:∀ {ts:List Addr} {M:List (List Rat)},Rws H ts M->ts.length=M.length
 | _,_,.nil=>rfl
 | _,_,.cons _ _ t=>congrArg (· + 1) t.length
theorem Rws.same {H H':Hp} (s:c7 H H'):∀ {ts:List Addr} {M:List (List Rat)},Rws H ts M->Rws H' ts M
 | _,_,.nil=>.nil
 | _,_,.cons h n t=>.cons (s _ _ h) (n.mono s.tups) (t.same s)
theorem Rws.samex {u:Addr} {H H':Hp} (s:l4 u H H') (hu:k8 H u):∀ {ts:List Addr} {M:List (List Rat)},(∀ t ∈ ts,t ≠ u)->Rws H ts M->Rws H' ts M
 | _,_,_,.nil=>.nil
 | _,_,hn,.cons h n t=>.cons (s _ _ h (hn _ q0u)) (n.mono (s.tups hu)) (t.samex s hu λx hx=>hn x (q0p _ hx))
theorem Rws.over {H:Hp} {l:Addr} {xs:List V} {o:HO} (hl:H l=some (.lst xs)):∀ {ts:List Addr} {M:List (List Rat)},l ∉ ts->Rws H ts M->Rws (upd H l o) ts M
 | _,_,_,.nil=>.nil
 | _,_,hn,.cons h n t=>.cons (by rw [g9 (λz=>hn (by rw [<- z];exact q0u))];exact h) (n.mono (X1.lst hl)) (t.over hl λz=>hn (q0p _ z))
theorem Rws.append {H:Hp}:∀ {ts us:List Addr} {M N:List (List Rat)},Rws H ts M->Rws H us N->Rws H (ts ++ us) (M ++ N)
 | _,_,_,_,.nil,h=>h
 | _,_,_,_,.cons h n t,k=>.cons h n (t.append k)
theorem Rws.get {H:Hp}:∀ {ts:List Addr} {M:List (List Rat)} {i:Nat} {p:Addr},Rws H ts M->ts[i]? = some p->∃ xs L,M[i]? = some L/\H p=some (.lst xs)/\t5 H xs L
 | _,_,_,_,.nil,e=>by simp at e
 | _,_,0,_,.cons h n _,e=>by cases e;exact ⟨_,_,rfl,h,n⟩
 | _,_,i+1,_,.cons _ _ t,e=>t.get (i:=i) (by simpa using e)
theorem Rws.isDs {K:q0a} {H:Hp}:∀ {ts:List Addr} {M:List (List Rat)},Rws H ts M->af3 K H (ts.map V.ref) (M.map F4)
 | _,_,.nil=>.nil
 | _,_,.cons h n t=>.cons (M6 (SqL.of h) n) t.isDs
def M7 (p q:List Rat):Rat:=(v0x (· * ·) p q).foldl (· + ·) 0
theorem ay6 (l:List Rat):∀ a:Rat,l.foldl (· + ·) a=a+l.foldl (· + ·) 0:=by
 induction l with
 | nil=>intro a;simp;grind
 | cons x l ih =>
  intro a;rw [j0z,j0z,ih (a+x),ih (0+x)];grind
theorem aT7 {m:Nat}:∀ l:List Int,(∀ v ∈ l,j0s v<2 ^ m)->(smZ l).natAbs<2 ^ (m+l.length)
 | [],_=>v0t _
 | a :: l,h=>by
  have ih:=aT7 l λv hv=>h v (q0p _ hv);have ha:=h a q0u;have hle:2 ^ m<=2 ^ (m+l.length):=d6 ⋯;have:=Int.natAbs_add_le a (smZ l);rw [z0n,show m+(l.length+1)=m+l.length+1 by omega,q1a]
  show (a+smZ l).natAbs<_;omega
theorem aR1 {p q:List Rat} (n:Nat) {x y:Rat} (hx:p[n]? = some x) (hy:q[n]? = some y):M7 (p.take (n+1)) (q.take (n+1))=M7 (p.take n) (q.take n)+x*y:=by
 have h1:n<p.length:=(q0g.mp hx).1;have h2:n<q.length:=(q0g.mp hy).1;unfold M7;rw [d7 hx,d7 hy,m0v (by rw [q0x,q0x];omega)]
 simp
end R
set_option maxRecDepth 100000
namespace L2
open PySem PySem.Spec PyProof.Rows
theorem K4 {M:Model} {A:Around} {E:Value->Shared->Prop} {s:Shared} {scope:Scope} {globals:Addr} {cl:List (Str × Addr)} {qual:Str} {func:Option Addr} {code:Value} {outer:Env} {Q:Env->Shared->Prop}
  (hQ:Q { scope,locals:=s.heap.objs.size,globals,cells:=cellsFrom (s.heap.objs.size+1) scope.names cl,qual,func,code:=outer.code,frame:=outer.frame,builtins:=outer.builtins }
   { s with heap:=pushCells (s.heap.push { cls:=.type "dict",data:=.dict #[] }) scope.names }) :
  wpAny M A (newFunctionEnv scope globals cl [] qual func code (some outer)) Q E s:=by
 simp only [newFunctionEnv,Option.isSome_some,if_true];refine wpAny_bind (wpAny_alloc ?_);refine wpAny_bind (wpAny_layCells _ (λname kind cells=>by cases hkc:kind == NameKind.cell <;> simp [hkc]) _ _ _ _ ?_)
 rw [show ({ s with heap:=s.heap.push { cls:=.type "dict",data:=.dict #[] } }:Shared).heap.objs.size=s.heap.objs.size+1 from z0m ..]
 rw [u0c];exact wpAny_bind (wpAny_pure (wpAny_pure hQ))
structure aY1 (h h':Heap) (names:List (Str × NameKind)) (acc cs:List (Str × Addr)):Prop where
 cell:∀ x c,cs.lookup x=some c->∃ v,h'.IsCell c v
 inj:∀ x y c,cs.lookup x=some c->cs.lookup y=some c->x=y
 old:∀ x c,cs.lookup x=some c->acc.lookup x=some c \/ h.objs.size<=c
 fresh:∀ x,(x,NameKind.cell) ∈ names->∀ c,cs.lookup x=some c->h.objs.size<=c
theorem aa4 {x name:Str} {a c:Addr} {acc:List (Str × Addr)} (h:((name,a) :: acc).lookup x=some c):(x=name/\c=a) \/ (x ≠ name/\acc.lookup x=some c):=by
 rw [y0s] at h
 by_cases e:x=name
 ·subst e
  simp at h
  exact .inl ⟨rfl,h.symm⟩
 ·have:(x == name)=false:=by simpa using e
  rw [this] at h;exact .inr ⟨e,h⟩
theorem ag4 : ∀ (names : List (Str × NameKind)) (h : Heap) (acc : List (Str × Addr)), (∀ x c, acc.lookup x = some c → ∃ v, h.IsCell c v) → (∀ x y c, acc.lookup x = some c → acc.lookup y = some c → x = y) →
    aY1 h (pushCells h names) names acc (cellsFrom h.objs.size names acc)
  | [],h,acc,hc,hi=>⟨hc,hi,λ_ _ e=>.inl e,λ_ hm=>by cases hm⟩
  | (name,kind) :: r,h,acc,hc,hi=>by
    unfold pushCells cellsFrom
    split
    · have ih := ag4 r (h.push { cls := .type "cell", data := .cell none }) ((name, h.objs.size) :: acc)
        (λx c e=>by
          rcases aa4 e with ⟨_,e2⟩ | ⟨_,e2⟩
          · subst e2;exact ⟨none,_,Heap.get?_push_size _ rfl,rfl⟩
          · obtain ⟨v,z⟩:=hc x c e2
            exact ⟨v,z.keeps λb o e=>Heap.get?_push_of_some _ e⟩)
        (λx y c e1 e2=>by
          rcases aa4 e1 with ⟨a1,a2⟩ | ⟨a1,a2⟩ <;> rcases aa4 e2 with ⟨b1,b2⟩ | ⟨b1,b2⟩
          · rw [a1,b1]
          · obtain ⟨v,z⟩:=hc y c b2
            exact absurd z.lt (by rw [a2];exact Nat.lt_irrefl _)
          · obtain ⟨v,z⟩:=hc x c a2
            exact absurd z.lt (by rw [b2];exact Nat.lt_irrefl _)
          · exact hi x y c a2 b2)
      rw [Heap.size_push] at ih;refine ⟨ih.cell,ih.inj,λx c e=>?_,λx hm c e=>?_⟩
      · rcases ih.old x c e with z | z
        · rcases aa4 z with ⟨_,e2⟩ | ⟨_,e2⟩
          · exact .inr (by rw [e2];exact Nat.le_refl _)
          · exact .inl e2
        · rw [Heap.size_push] at z
          exact .inr (Nat.le_of_succ_le z)
      · rcases List.mem_cons.mp hm with z | z
        · cases z
          rcases ih.old _ c e with z | z
          · rcases aa4 z with ⟨_,e2⟩ | ⟨e1,_⟩
            · rw [e2];exact Nat.le_refl _
            · exact absurd rfl e1
          · rw [Heap.size_push] at z
            exact Nat.le_of_succ_le z
        · have:=ih.fresh x z c e
          rw [Heap.size_push] at this;exact Nat.le_of_succ_le this
    · rename_i hk
      have ih:=ag4 r h acc hc hi;refine ⟨ih.cell,ih.inj,ih.old,λx hm c e=>?_⟩;rcases List.mem_cons.mp hm with z | z
      · cases z;exact absurd rfl hk
      · exact ih.fresh x z c e
theorem ac4 {x:Str}:∀ (names:List (Str × NameKind)) (n:Nat) (acc:List (Str × Addr)),(x,NameKind.cell) ∉ names->(cellsFrom n names acc).lookup x=acc.lookup x
 | [],_,_,_=>rfl
 | (name,kind) :: r,n,acc,h=>by
  unfold cellsFrom;have hr:(x,NameKind.cell) ∉ r:=λz=>h (q0p _ z)
  split
  ·rename_i hk
   rw [ac4 r _ _ hr,y0s]
   have:(x == name)=false:=by
    refine beq_eq_false_iff_ne.mpr λe=>h ?_;subst e;rw [<- beq_iff_eq.mp hk];exact q0u
   rw [this]
  ·exact ac4 r _ _ hr
theorem Z7 {x:Str}:∀ (names:List (Str × NameKind)) (n:Nat) (acc:List (Str × Addr)),((x,NameKind.cell) ∈ names \/ ∃ c,acc.lookup x=some c)->∃ c,(cellsFrom n names acc).lookup x=some c
 | [],_,_,h=>h.elim (λz=>by cases z) id
 | (name,kind) :: r,n,acc,h=>by
  unfold cellsFrom
  have up:(∃ c,acc.lookup x=some c)->∃ c,((name,n) :: acc).lookup x=some c:=λ⟨c,e⟩=>by
   rw [y0s]
   split
   ·exact ⟨_,rfl⟩
   ·exact ⟨c,e⟩
  split
  ·refine Z7 r _ _ ?_
   rcases h with z | z
   ·rcases z0r.mp z with z | z
    ·cases z
     exact .inr ⟨n,by simp⟩
    ·exact .inl z
   ·exact .inr (up z)
  ·rename_i hk
   refine Z7 r _ _ ?_;rcases h with z | z
   ·rcases z0r.mp z with z | z
    ·cases z;exact absurd rfl hk
    ·exact .inl z
   ·exact .inr z
def aP3 (scope:Scope) (x:Str):Bool:=scope.names.any λy=>y.1 == x && y.2 == .cell
theorem aB5 {scope:Scope} {x:Str} (h:aP3 scope x=true):(x,NameKind.cell) ∈ scope.names:=by
 unfold aP3 at h;obtain ⟨⟨a,k⟩,hm,hh⟩:=List.any_eq_true.mp h;simp only [y0f,beq_iff_eq] at hh;obtain ⟨rfl,rfl⟩:=hh;exact hm
abbrev Cx.blockC (X:Cx) (scope:Scope) (cl:List (Str × Addr)) (C:Addr) (Nc:List Str) (s₂:Shared) (H₂:Hp) (fp:List Addr) (pins:List (Addr × Obj)):Cx :=
 { X with N:=Nc,s₀:=s₂,H₀:=H₂,env:=compEnvC scope (cellsFrom (C+1) scope.names cl) C X.env,outer:=X.stack,ex:=fp,fn:=aP3 scope,pn:=X.pn ++ pins,xe:=λ_ _=>False }
structure ac9 (X:Cx) (scope:Scope) (cl:List (Str × Addr)) (Nc:List Str) (caps:List (Option Nat)):Prop where
 clos:closureFor scope X.env=pure cl
 sub:∀ x c,cl.lookup x=some c->X.env.cells.lookup x=some c
 has:∀ n x,(relabel scope X.env).names.lookup x=some .cell \/ (relabel scope X.env).names.lookup x=some .free->∃ c,(cellsFrom n scope.names cl).lookup x=some c
 kind:scope.kind=.function
 names:∀ x ∈ scope.names,x.2=.local->scope.names.lookup x.1=some .local
 len:caps.length=Nc.length
 cap:∀ (i j:Nat) (x:Str),caps[i]? = some (some j)->Nc[i]? = some x->X.N[j]? = some x/\Vis X.env.scope x/\X.env.kindOf x ≠ some .local/\((relabel scope X.env).names.lookup x=some .cell \/ (relabel scope X.env).names.lookup x=some .free) /\
  (∃ c,cl.lookup x=some c)/\∀ n c,cl.lookup x=some c->(cellsFrom n scope.names cl).lookup x=some c
def aN6 (scope osc:Scope) (N ks Nc:List Str) (caps:List (Option Nat)):Bool :=
 ((Q5 scope osc).all λy => !(y.2 == .cell || y.2 == .free) || ks.contains y.1 || aP3 scope y.1) && scope.kind == .function &&
 (scope.names.all λy=>y.2 != .local || scope.names.lookup y.1 == some .local) && caps.length == Nc.length &&
 ((caps.zip Nc).all λp=>match p.1 with
  | none=>true
  | some j=>N[j]? == some p.2 && aQ3 (osc.names.lookup p.2) && aQ3 ((Q5 scope osc).lookup p.2) && ks.contains p.2 && !aP3 scope p.2)
theorem ac9.of {X:Cx} {scope osc:Scope} {cl:List (Str × Addr)} {N ks Nc:List Str} {caps:List (Option Nat)} (clos:closureFor scope X.env=pure cl) (hN:X.N=N) (hosc:X.env.scope=osc) (hks:cl.map (·.1)=ks)
  (sub:∀ x c,cl.lookup x=some c->X.env.cells.lookup x=some c) (ok:aN6 scope osc N ks Nc caps=true):ac9 X scope cl Nc caps:=by
 unfold aN6 at ok;simp only [y0f,List.all_eq_true,beq_iff_eq,g0t,y0c,bne_iff_ne,ne_eq] at ok;obtain ⟨⟨⟨⟨o1,o3⟩,o4⟩,o5⟩,o6⟩:=ok;have er:(relabel scope X.env).names=Q5 scope osc:=by subst hosc;rfl
 have kof:∀ x,X.env.kindOf x=osc.names.lookup x:=λx=>by subst hosc;rfl
 refine ⟨clos,sub,λn x h=>?_,o3,λx hx hl=>?_,o5,λi j x h1 h2=>?_⟩
 ·rw [er] at h
  have key:∀ k,(Q5 scope osc).lookup x=some k->(k=.cell \/ k=.free)->∃ c,(cellsFrom n scope.names cl).lookup x=some c:=λk hk hcf=>by
   refine Z7 _ _ _ ?_;rcases o1 (x,k) (ak6 hk) with (z | z) | z
   ·rcases hcf with rfl | rfl <;> simp at z
   ·refine .inr (P3 ?_)
    rw [hks];simpa using z
   ·exact .inl (aB5 z)
  rcases h with h | h
  ·exact key _ h (.inl rfl)
  ·exact key _ h (.inr rfl)
 ·rcases o4 x hx with z | z
  ·exact absurd hl z
  ·exact z
 ·have hm:(some j,x) ∈ caps.zip Nc:=by
   have:(caps.zip Nc)[i]? = some (some j,x):=by
    rw [g0g];exact ⟨h1,h2⟩
   exact q0h this
  have z:=o6 _ hm;simp only [y0f,beq_iff_eq,y0c] at z;obtain ⟨⟨⟨⟨z1,z2⟩,z3⟩,z4⟩,z5⟩:=z;have c2:=ar6 z2;have c3:=ar6 z3;refine ⟨by rw [hN];exact z1,?_,?_,?_,P3 (by rw [hks];simpa using z4),λn c e=>?_⟩
  ·rw [hosc]
   rcases c2 with c | c
   ·exact .inr (.inl c)
   ·exact .inr (.inr c)
  ·rw [kof]
   rcases c2 with c | c <;> rw [c] <;> decide
  ·rw [er];exact c3
  ·rw [ac4 _ _ _ λhm=>?_]
   ·exact e
   ·have:aP3 scope x=true:=List.any_eq_true.mpr ⟨_,hm,by simp⟩
    rw [z5] at this;cases this
section
variable {X:Cx}
theorem aa2 {elt tg iter:Expr} {scope:Scope} {pos:Pos} {cl:List (Str × Addr)} {Nc:List Str} {caps:List (Option Nat)} {wi:TI} {g:TG} {te:TE} (hc:X.calm=true) (cp:ac9 X scope cl Nc caps) (hi:PI X tg iter wi)
  (hg:∀ C s₂ H₂ fp pins,PG (X.blockC scope cl C Nc s₂ H₂ fp pins) tg g) (he:∀ C s₂ H₂ fp pins,PE (X.blockC scope cl C Nc s₂ H₂ fp pins) elt te) (hs:∀ x,foldedSetIterable iter X.env x=pure x:=by intro _;rfl) :
  PE X (.ListComp elt [⟨tg,iter,[],0⟩] scope pos) (aE6 wi caps g te):=by
 intro pins s σ H Q I h;rw [eval_ListComp];refine wpAny_comprehension_free (use:=none) rfl hs cp.clos cp.kind cp.names ?_;refine thn (hi pins s σ H _ I h) λv s1 h1=>thn h1 λitv s2 h2=>?_;obtain ⟨it,fp,tn,J,H2,e,I2,T,st2,f2,hW⟩:=h2;subst e;refine wpAny_newObj_type ?_ (by show 0<=sizeLine;exact z0u _)
 refine K4 ?_
 dsimp only
 generalize hH3:s2.heap.push { cls:=.type "list",dict:=none,data:=.seq ([]:List Value).toArray }=H3
 have hCe:H3.objs.size=s2.heap.objs.size+1:=by rw [<- hH3,z0m]
 have N0:∀ b o,s2.heap.get? b=some o->b ≠ H3.objs.size:=λb o e=>by rw [hCe];exact q0v (v0b (q0e e))
 have hns0:=(Heap.Ns.new H3 (.type "dict")).keeps (pushCells_keeps scope.names _)
 have old0:∀ b o,s2.heap.get? b=some o->(pushCells (H3.push { cls:=.type "dict",data:=.dict #[] }) scope.names).get? b=some o:=λb o e=>pushCells_keeps _ _ b o (q0f _ (hH3 ▸ q0f _ e))
 have hD0:(pushCells (H3.push { cls:=.type "dict",data:=.dict #[] }) scope.names).get? s2.heap.objs.size=some { cls:=.type "list",dict:=none,data:=.seq ([]:List Value).toArray } :=
  pushCells_keeps _ _ _ _ (q0f _ (hH3 ▸ q0y _ rfl))
 have own:=ag4 scope.names (H3.push { cls:=.type "dict",data:=.dict #[] }) cl (λx c e=>by
   obtain ⟨v,o,ho,hd⟩:=I2.cell x c (cp.sub x c e);exact ⟨v,o,q0f _ (hH3 ▸ q0f _ ho),hd⟩) (λx y c h1 h2=>I2.ok.inj x y c (cp.sub x c h1) (cp.sub y c h2))
 rw [z0m] at own;generalize hh4:pushCells (H3.push { cls:=.type "dict",data:=.dict #[] }) scope.names=h4 at own hns0 old0 hD0 ⊢
 have hns:=hns0;have old:=old0;have hD:=hD0;have isOld:∀ x c,(cellsFrom (H3.objs.size+1) scope.names cl).lookup x=some c->X.env.cells.lookup x=some c \/ H3.objs.size+1<=c:=λx c e=>(own.old x c e).imp (cp.sub x c) λz=>by rw [z0m] at z;exact z
 have hDn:H2 s2.heap.objs.size=none:=I2.fresh;have hCn:H2 H3.objs.size=none:=I2.hok.fresh (by rw [hCe];exact j0j _)
 have hCs:s2.heap.objs.size<=H3.objs.size:=by rw [hCe];exact j0j _
 have hDC:s2.heap.objs.size ≠ H3.objs.size:=by rw [hCe];exact q0v (j0r _)
 have fpl:∀ b ∈ fp,∃ o,s2.heap.get? b=some o:=λb hb=>let ⟨o,e,_⟩:=T.obj _ _ st2 b hb;⟨o,e⟩;have fpC:∀ b ∈ fp,b ≠ H3.objs.size:=λb hb=>let ⟨o,e⟩:=fpl b hb;N0 b o e;have fpD:∀ b ∈ fp,b ≠ s2.heap.objs.size:=λb hb=>let ⟨o,e⟩:=fpl b hb;q0v (q0e e);have stkN:∀ b,b ≠ X.env.locals->b ∉ X.fs->b ∉ frs X.stack:=λb h1 h2 z=>(z0r.mp (I2.stkSub b z)).elim h1 h2
 have fpX:∀ b ∈ fp,∀ x c,(cellsFrom (H3.objs.size+1) scope.names cl).lookup x=some c->c ≠ b:=λb hb x c h=>by
  rcases isOld x c h with z | z
  ·exact (f2 b hb).2.2.2.2.1 x c z
  ·obtain ⟨o,e⟩:=fpl b hb
   exact j0y (q0b (q0e e) (z0d (z0d hCs (j0j _)) z))
 obtain ⟨W,⟨m0,w0⟩,turn⟩:=hW s2.heap.objs.size hDn
 have okB:(X.blockC scope cl H3.objs.size Nc s2 H2 fp pins).Ok:=by
  refine ⟨I2.ok.mod,?_,I2.ok.glob,I2.ok.blt,hCs,λx y c h1 h2=>own.inj x y c h1 h2,λx hx=>cp.has _ x hx,λx c h e=>z0d (z0d hCs (j0j _)) (by have z:=own.fresh x (aB5 h) c e;rw [z0m] at z;exact z),I2.ok.hd,I2.ok.frames,.inl rfl,λb hb=>⟨fpC b hb,λx c h=>fpX b hb x c h⟩,I2.bs,z0d I2.ok.bsz I2.sz,λb o e hb=>?_,λb hb=>stkN b (f2 b hb).2.1 (f2 b hb).2.2.1,I2.stack,I2.stkFree⟩
  ·exact cp.kind
  ·rcases (f2 b hb).2.2.2.1 with z | z
   ·exact I2.ok.noex b o e z
   ·exact absurd (q0b (q0e e) (z0d I2.ok.bsz z)) (j0m _)
 have hokB:HOk X.prog X.w (upd H2 s2.heap.objs.size (.lst [])) h4:=I2.hok.laid old (q0m _) ⟨z0u _,[],_,.nil,hD⟩
 have IB:Inv (X.blockC scope cl H3.objs.size Nc s2 H2 fp pins) [] (x4 caps σ) (upd H2 s2.heap.objs.size (.lst [])) { s2 with heap:=h4 }:=by
  refine ⟨okB,rfl,I2.bare,Un.laid old (q0m _) hDn,⟨_,hns,λi x v e1 e2 e3=>?_⟩,λx c e=>?_,(show upd H2 s2.heap.objs.size (.lst []) H3.objs.size=none by rw [g9 (Ne.symm hDC)];exact hCn),λx c e=>?_,λp hp=>?_,hokB,?_⟩
  ·unfold x4 at e2
   rw [q0q] at e2
   cases hcap:caps[i]? with
   | none=>rw [hcap] at e2;cases e2
   | some o =>
    rw [hcap] at e2
    cases o with
    | none=>cases e2
    | some j =>
     have hj:σ[j]? = some (some v):=by
      have e2':(σ[j]?).join=some v:=Option.some.inj e2
      cases q:σ[j]? with
      | none=>rw [q] at e2';cases e2'
      | some z=>rw [q] at e2';exact congrArg some e2'
     obtain ⟨n1,n2,n3,n4,n5,n6⟩:=cp.cap i j x hcap e1;obtain ⟨m,hm,hl⟩:=I2.loc;obtain ⟨u,r,q⟩:=hl j x v n1 hj n2;rcases q with ⟨k,_⟩ | ⟨k,c,ec,z⟩
     ·exact absurd k n3
     ·obtain ⟨c',ec'⟩:=n5
      have:=cp.sub x c' ec';rw [ec] at this;cases this;obtain ⟨oc,ho,hd⟩:=z;exact ⟨u,r,.inr ⟨n4,c,n6 _ _ ec',oc,old _ _ ho,hd⟩⟩
  ·exact own.cell x c e
  ·show upd H2 s2.heap.objs.size (.lst []) c=none
   rcases isOld x c e with z | z
   ·obtain ⟨v,oc,ho,hd⟩:=I2.cell x c z
    rw [g9 (q0v (q0e ho))];exact I2.freeC x c z
   ·have hz:s2.heap.objs.size<c:=q0b (q0t hCs (j0r _)) z
    rw [g9 (j0y hz)];exact I2.hok.fresh (v0d hz)
  ·have hp':p ∈ X.pn ++ pins:=by simpa using hp
   obtain ⟨e1,e2,e3,e4,e5⟩:=I2.pin p hp';exact ⟨old _ _ e1,by rw [g9 (q0v (q0e e1))];exact e2,N0 _ _ e1,stkN _ e3 e4,e5⟩
  ·show (x4 caps σ).length=Nc.length
   unfold x4;rw [q0d];exact cp.len
 have stat:∀ {H':Hp},(∀ b ∈ fp,H' b=none)->∀ b ∈ fp,ad3 (X.blockC scope cl H3.objs.size Nc s2 H2 fp pins) [] H' b:=λhn b hb =>
  ⟨hn b hb,fpC b hb,stkN b (f2 b hb).2.1 (f2 b hb).2.2.1,.inl hb,λx c h=>fpX b hb x c h,λp hp=>(f2 b hb).2.2.2.2.2 p (by simpa using hp)⟩
 have loop:∀ s5:Shared,s5={ s2 with heap:=h4 } ->
   codeAny (model X.prog X.w) X.A (.compLoop (.ListComp elt [⟨tg,iter,[],0⟩] scope pos) 0 (.ref it) (.ref s2.heap.objs.size) (compEnvC scope (cellsFrom (H3.objs.size+1) scope.names cl) H3.objs.size X.env))
    (compPost (model X.prog X.w) X.A X.xe none (EP X pins σ Q) (.ref s2.heap.objs.size) H3.objs.size) s5:=by
  rintro s5 rfl;refine ag3 (λn s' => ∃ i σ' H',Inv (X.blockC scope cl H3.objs.size Nc s2 H2 fp pins) [] σ' H' s'/\tn i s'.heap/\(∀ b ∈ fp,H' b=none)/\W i n σ' H') ?_ m0 ⟨0,_,_,IB,T.keep _ _ _ st2 λb hb o e=>old b o e,λb hb=>by rw [g9 (fpD b hb)];exact (f2 b hb).1,w0⟩
  rintro n s6 ⟨i,σ6,H6,I6,st6,fr6,w6⟩;rcases turn i n σ6 H6 w6 with ⟨stop,qn⟩ | ⟨go,step⟩
  ·refine thn (T.done (X.blockC scope cl H3.objs.size Nc s2 H2 fp pins) rfl rfl rfl hc i [] s6 σ6 H6 _ I6 (stat fr6) st6 stop) λr s7 zq=>?_
   obtain ⟨hr,I7⟩:=zq;subst hr;obtain ⟨m7,hn7,_⟩:=id I7.loc;exact ⟨m7,hn7,λh' sb=>⟨.ref s2.heap.objs.size,H6,I2.sameC f2 I7.os I7.bare I7.base I7.hok hCs I7.free sb,rfl,qn⟩⟩
  ·refine thn (T.item (X.blockC scope cl H3.objs.size Nc s2 H2 fp pins) rfl rfl rfl hc i [] s6 σ6 H6 _ I6 (stat fr6) st6 go) λr s7 zq=>?_
   obtain ⟨u,hr,h7⟩:=zq;subst hr;refine thn h7 λ_ s8 zq=>?_;obtain ⟨x,H8,I8,r8,y8,st8,fr8⟩:=zq;have I8':=I8.pinned (stat fr8) (T.obj _ _ st8);refine thn (hg _ _ _ _ _ _ s8 σ6 H8 x u _ I8' r8 (step x H8 y8)) λ_ s9 zq=>?_;obtain ⟨σ9,H9,I9,q9⟩:=zq;refine thn (he _ _ _ _ _ _ s9 σ9 H9 _ I9 q9) λu10 s10 zq=>?_;obtain ⟨v10,H10,I10,r10,ys,hys,hlen,m',hm',w'⟩:=zq;refine thn (J7 _ s10 σ9 H10 (.ref s2.heap.objs.size) [v10] (.ref s2.heap.objs.size) [u10] (λ_ H11=>H11=upd H10 s2.heap.objs.size (.lst (ys ++ [v10]))) I10 rfl (.cons r10 .nil) ⟨_,ys,v10,rfl,rfl,hys,hlen,rfl⟩) λ_ s11 zq=>?_;obtain ⟨_,H11,I11,_,hH11⟩:=zq;subst hH11;refine ⟨m',hm',i+1,σ9,_,I11.unpinned,T.keep _ _ _ st8 λb hb o e=>(I11.pin (b,o) (q0k _ (q0k _ (t4 hb e)))).1,λb hb=>?_,w'⟩;obtain ⟨o,e,d⟩:=T.obj _ _ st8 b hb;exact (I11.pin (b,o) (q0k _ (q0k _ (t4 hb e)))).2.1
 exact codeAny_compStart_list (loop _ rfl) (T.self _ 0 _ _ _ (T.keep _ _ _ st2 λb hb o e=>old b o e) (loop _ rfl))
end
end L2
set_option maxRecDepth 100000
namespace R
open PySem L2 PyProof.Rows
def O6 (H:Hp) (Q:VK) (M:List (List Rat)):Prop:=∀ (r:Addr) (ts:List Addr) (H':Hp),c7 H H'->H r=none->(∀ t ∈ ts,H t=none/\t ≠ r)->ts.Nodup->H' r=some (.lst (ts.map V.ref))->Rws H' ts M->Q (.ref r) H'
structure t6 (H:Hp) (D:Addr) (M:List (List Rat)) (H2:Hp):Prop where
 same:c7 H H2
 at':∃ ts:List Addr,H2 D=some (.lst (ts.map V.ref))/\(∀ t ∈ ts,H t=none/\t ≠ D)/\ts.Nodup/\Rws H2 ts M
structure E6 (H:Hp) (D:Addr) (L:List Rat) (H2:Hp):Prop where
 same:c7 H H2
 at':∃ xs:List V,H2 D=some (.lst xs)/\t5 H2 xs L
theorem t6.start {H:Hp} {D:Addr} (h:H D=none):t6 H D [] (upd H D (.lst [])):=⟨c7.new h _,[],c5,by simp,.nil,.nil⟩
theorem E6.start {H:Hp} {D:Addr} (h:H D=none):E6 H D [] (upd H D (.lst [])):=⟨c7.new h _,[],c5,.nil⟩
theorem t6.res {H H2:Hp} {D:Addr} {M:List (List Rat)} {Q:VK} (k:O6 H Q M) (h:H D=none) (t:t6 H D M H2):Q (.ref D) H2 :=
 let ⟨s,ts,e,hn,nd,r⟩:=t;k D ts H2 s h hn nd e r
theorem E6.add {H H2 H3:Hp} {D p:Addr} {L:List Rat} {q:Rat} (t:E6 H D L H2) (h:H D=none) (s:c7 H2 H3) (e:H3 p=some (.tup (t7 q))) :
  ∃ ys,H3 D=some (.lst ys)/\ys.length=L.length/\E6 H D (L ++ [q]) (upd H3 D (.lst (ys ++ [.ref p]))):=by
 obtain ⟨s2,xs,e2,n2⟩:=t;have eD:=s _ _ e2;exact ⟨xs,eD,n2.length,(s2.trans s).over h _,_,c5,((n2.mono s.tups).append (.cons e .nil)).mono (X1.lst eD)⟩
theorem t6.add {H H2 H3:Hp} {D D2:Addr} {M:List (List Rat)} {L:List Rat} (t:t6 H D M H2) (h:H D=none) (h2:H2 D2=none) (r:E6 H2 D2 L H3) :
  ∃ ys,H3 D=some (.lst ys)/\ys.length=M.length/\t6 H D (M ++ [L]) (upd H3 D (.lst (ys ++ [.ref D2]))):=by
 obtain ⟨s2,ts,e2,hn,nd,n2⟩:=t;obtain ⟨s,xs,e3,n3⟩:=r;have eD:=s _ _ e2;have hD2:D2 ≠ D:=(i9 e2 h2).symm
 have hnt:D2 ∉ ts:=λz=>by
  obtain ⟨i,hi⟩:=j0g.mp z;obtain ⟨_,_,_,e,_⟩:=n2.get hi;rw [h2] at e;cases e
 refine ⟨_,eD,by rw [q0d,n2.length],(s2.trans s).over h _,ts ++ [D2],by rw [c5,j0u];rfl,?_,?_,?_⟩
 ·intro t ht
  rcases z0y.mp ht with z | z
  ·exact hn t z
  ·rw [z0f.mp z]
   refine ⟨?_,hD2⟩
   cases q:H D2 with
   | none=>rfl
   | some o=>rw [s2 _ _ q] at h2;cases h2
 ·rw [List.nodup_append]
  refine ⟨nd,by simp,λa ha b hb=>?_⟩
  rw [z0f.mp hb];rintro rfl;exact hnt ha
 ·refine ((n2.same s).append (.cons e3 n3 .nil)).over eD λz=>?_
  rcases z0y.mp z with z | z
  ·exact (hn D z).2 rfl
  ·exact hD2 (z0f.mp z).symm
def NmC (K:q0a) (H:Hp) (p:Addr) (q:Rat):Prop:=H p=some (.tup (t7 q)) \/ ∀ H',SqT K H' p (t7 q)
theorem NmC.sqt {K:q0a} {H:Hp} {p:Addr} {q:Rat}:NmC K H p q->SqT K H p (t7 q)
 | .inl h=>SqT.of h
 | .inr h=>h H
theorem NmC.mono {K:q0a} {H H':Hp} {p:Addr} {q:Rat} (e:X1 H H'):NmC K H p q->NmC K H' p q
 | .inl h=>.inl (e _ _ h)
 | .inr h=>.inr h
inductive M3 (K:q0a) (H:Hp):List V->List Rat->Prop where
 | nil:M3 K H [] []
 | cons {p:Addr} {q:Rat} {vs:List V} {qs:List Rat} (h:NmC K H p q) (t:M3 K H vs qs):M3 K H (.ref p :: vs) (q :: qs)
theorem M3.mono {K:q0a} {H H':Hp} (e:X1 H H'):∀ {vs:List V} {qs:List Rat},M3 K H vs qs->M3 K H' vs qs
 | _,_,.nil=>.nil
 | _,_,.cons h t=>.cons (h.mono e) (t.mono e)
theorem M3.length {K:q0a} {H:Hp}:∀ {vs:List V} {qs:List Rat},M3 K H vs qs->vs.length=qs.length
 | _,_,.nil=>rfl
 | _,_,.cons _ t=>congrArg (· + 1) t.length
theorem M3.getV {K:q0a} {H:Hp}:∀ {vs:List V} {qs:List Rat} {i:Nat} {v:V},M3 K H vs qs->vs[i]? = some v->∃ p q,v=.ref p/\qs[i]? = some q/\NmC K H p q
 | _,_,_,_,.nil,e=>by simp at e
 | _,_,0,_,.cons h t,e=>by cases e;exact ⟨_,_,rfl,rfl,h⟩
 | _,_,i+1,_,.cons _ t,e=>t.getV (i:=i) (by simpa using e)
theorem t5.toC {K:q0a} {H:Hp}:∀ {vs:List V} {qs:List Rat},t5 H vs qs->M3 K H vs qs
 | _,_,.nil=>.nil
 | _,_,.cons h t=>.cons (.inl h) t.toC
inductive ao9 (K:q0a) (H:Hp):List Addr->List (List Rat)->Prop where
 | nil:ao9 K H [] []
 | cons {p:Addr} {xs:List V} {ps:List Addr} {L:List Rat} {Ls:List (List Rat)} (h:H p=some (.lst xs)) (n:M3 K H xs L) (t:ao9 K H ps Ls):ao9 K H (p :: ps) (L :: Ls)
theorem Rws.toC {K:q0a} {H:Hp}:∀ {ts:List Addr} {M:List (List Rat)},Rws H ts M->ao9 K H ts M
 | _,_,.nil=>.nil
 | _,_,.cons h n t=>.cons h n.toC t.toC
theorem ao9.length {K:q0a} {H:Hp}:∀ {ts:List Addr} {M:List (List Rat)},ao9 K H ts M->ts.length=M.length
 | _,_,.nil=>rfl
 | _,_,.cons _ _ t=>congrArg (· + 1) t.length
theorem ao9.get {K:q0a} {H:Hp}:∀ {ts:List Addr} {M:List (List Rat)} {i:Nat} {p:Addr},ao9 K H ts M->ts[i]? = some p->∃ xs L,M[i]? = some L/\H p=some (.lst xs)/\M3 K H xs L
 | _,_,_,_,.nil,e=>by simp at e
 | _,_,0,_,.cons h n _,e=>by cases e;exact ⟨_,_,rfl,h,n⟩
 | _,_,i+1,_,.cons _ _ t,e=>t.get (i:=i) (by simpa using e)
structure TabC (K:q0a) (H:Hp) (D:Addr) (M:List (List Rat)) (H2:Hp):Prop where
 same:c7 H H2
 at':∃ ts:List Addr,H2 D=some (.lst (ts.map V.ref))/\(∀ t ∈ ts,H t=none/\t ≠ D)/\ts.Nodup/\ao9 K H2 ts M
structure RowC (K:q0a) (H:Hp) (D:Addr) (L:List Rat) (H2:Hp):Prop where
 same:c7 H H2
 at':∃ xs:List V,H2 D=some (.lst xs)/\M3 K H2 xs L
theorem t6.to {H H2 H3:Hp} {D:Addr} {M:List (List Rat)} (t:t6 H D M H2) (s:c7 H2 H3):t6 H D M H3 :=
 let ⟨s2,ts,e,hn,nd,r⟩:=t;⟨s2.trans s,ts,s _ _ e,hn,nd,r.same s⟩
def av5 (M:List (List Rat)) (j:Nat):List Rat:=M.map λL=>(L[j]?).getD 0
def Y7 (M:List (List Rat)) (n:Nat):List (List Rat):=(z0q n).map (av5 M)
def M1 (n:Nat):List (List Rat):=(z0q n).map λi=>(z0q n).map λj=>if i=j then 1 else 0
def an8 (M N:List (List Rat)):List (List Rat):=v0x (v0x (· + ·)) M N
def am2 (M N:List (List Rat)):List (List Rat):=M.map λL=>(Y7 N N.length).map (M7 L)
theorem ab9 {n i:Nat} (h:i<n):(z0q n)[i]? = some i:=by rw [q0c (by simpa using h)];simp
theorem aW6 {M:List (List Rat)} {n i:Nat} (h:i<n):(Y7 M n)[i]? = some (av5 M i):=by unfold Y7;rw [q0q,ab9 h];rfl
theorem aa7 (M:List (List Rat)) (n:Nat):(Y7 M n).length=n:=by simp [Y7]
theorem ar8 (M:List (List Rat)) (n:Nat):(av5 M n).length=M.length:=by simp [av5]
theorem aS3 {n i:Nat} (h:i<n):(M1 n)[i]? = some ((z0q n).map λj=>if i=j then 1 else 0):=by unfold M1;rw [q0q,ab9 h];rfl
theorem k7 {α:Type} {l:List α} {n:Nat} (h:l.length<=n):l.take n=l:=m0d h
theorem p8 {n:Nat} (h:n<=100):n<sizeLine:=q0t h (by decide)
theorem O6.from {H H1:Hp} {Q:VK} {M:List (List Rat)} (k:O6 H Q M) (s:c7 H H1):O6 H1 Q M:=λr ts H' s' hr hts nd e R=>k r ts H' (s.trans s') (s.free hr) (λt ht=>⟨s.free (hts t ht).1,(hts t ht).2⟩) nd e R
theorem aF8 {M N:List (List Rat)} {i:Nat} {L:List Rat} (h:M[i]? = some L):(am2 M N)[i]? = some ((Y7 N N.length).map (M7 L)):=by unfold am2;rw [q0q,h];rfl
theorem ae2 (M N:List (List Rat)):(am2 M N).length=M.length:=by simp [am2]
def ClA (D:Addr) (H:Hp) (v:V) (p:List Rat):Prop:=∃ r l,v=.ref r/\H r=some (.tup [.ref l,.int (k9 p)])/\H l=some (.lst ((j2 (k9 p) p).map V.int))/\l ≠ D
inductive ClL (D:Addr) (H:Hp):List V->List (List Rat)->Prop where
 | nil:ClL D H [] []
 | cons {v:V} {p:List Rat} {vs:List V} {ps:List (List Rat)} (h:ClA D H v p) (t:ClL D H vs ps):ClL D H (v :: vs) (p :: ps)
structure ClR (H:Hp) (D:Addr) (M:List (List Rat)) (H2:Hp):Prop where
 same:c7 H H2
 at':∃ vs:List V,H2 D=some (.lst vs)/\ClL D H2 vs M
def aY3 (J:It) (D:Addr) (σ0:L2.St) (H0:Hp) (g:TG) (wi2:TI) (g2:TG) (te:TE) (Q:VK):Prop:=∃ W:Nat->Nat->L2.St->Hp->Prop,(∃ m,W 0 m σ0 H0) /\
 ∀ i m σc H2,W i m σc H2->(J.stop i H2/\Q (.ref D) H2) \/
  (J.go i H2/\∀ x H3,J.yld i H2 x H3->g x σc H3 λσ4 H4=>wi2 σ4 H4 λJ2 H5 => ∃ W2:Nat->Nat->L2.St->Hp->Prop,(∃ m2,W2 0 m2 σ4 H5) /\
   ∀ i2 m2 σ6 H6,W2 i2 m2 σ6 H6->(J2.stop i2 H6/\∃ m',m'<m/\W (i+1) m' σ6 H6) \/
    (J2.go i2 H6/\∀ y H7,J2.yld i2 H6 y H7->g2 y σ6 H7 λσ8 H8=>te σ8 H8 λz H9 => ∃ ys,H9 D=some (.lst ys)/\ys.length<sizeLine/\∃ m3,m3<m2/\W2 (i2+1) m3 σ8 (upd H9 D (.lst (ys ++ [z])))))
theorem B2 (wi:TI) (caps:List (Option Nat)) (g:TG) (wi2:TI) (g2:TG) (te:TE):aS8 wi caps g wi2 g2 te=λσ H Q=>wi σ H λJ H1 => ∀ D,H1 D=none->aY3 J D (x4 caps σ) (upd H1 D (.lst [])) g wi2 g2 te Q:=rfl
def bd1 (D:Addr) (n:Nat) (Pv:Nat->L2.St->Hp->Prop) (i:Nat) (g2:TG) (te:TE) (σ4:L2.St) (J2:It) (H5:Hp):Prop:=∃ W2:Nat->Nat->L2.St->Hp->Prop,(∃ m2,W2 0 m2 σ4 H5) /\
 ∀ i2 m2 σ6 H6,W2 i2 m2 σ6 H6->(J2.stop i2 H6/\∃ m',m'<n-i/\m'=n-(i+1)/\i+1<=n/\Pv (i+1) σ6 H6) \/
  (J2.go i2 H6/\∀ y H7,J2.yld i2 H6 y H7->g2 y σ6 H7 λσ8 H8=>te σ8 H8 λz H9 => ∃ ys,H9 D=some (.lst ys)/\ys.length<sizeLine/\∃ m3,m3<m2/\W2 (i2+1) m3 σ8 (upd H9 D (.lst (ys ++ [z]))))
theorem aX3 {K:q0a} {a D:Addr} {g g2:TG} {wi2:TI} {te:TE} {σ0:L2.St} {H0:Hp} {Q:VK} (xs:List V) (Pv:Nat->L2.St->Hp->Prop) (h0:Pv 0 σ0 H0) (hl:∀ i σ H,i<=xs.length->Pv i σ H->SqL K H a xs)
  (hs:∀ i x σ H,xs[i]? = some x->Pv i σ H->g x σ H λσ4 H4=>wi2 σ4 H4 λJ2 H5=>bd1 D xs.length Pv i g2 te σ4 J2 H5)
  (hd:∀ σ H,Pv xs.length σ H->Q (.ref D) H):aY3 (Itl K a) D σ0 H0 g wi2 g2 te Q:=by
 refine ⟨λi m σ H=>m=xs.length-i/\i<=xs.length/\Pv i σ H,⟨xs.length,by simp,z0u _,h0⟩,?_⟩
 rintro i m σ H ⟨rfl,hi,p⟩;have q:=hl i σ H hi p
 by_cases hlt:i<xs.length
 ·refine .inr ⟨⟨xs,xs[i],q,by simp [hlt]⟩,λx H' y=>?_⟩
  obtain ⟨e,y⟩:=y;subst e;exact hs i x σ _ (y xs q) p
 ·have e:i=xs.length:=⋯
  subst e;exact .inl ⟨⟨xs,q,q0m _⟩,hd σ H p⟩
theorem bb5 {K:q0a} {b D:Addr} {n i:Nat} {Pv:Nat->L2.St->Hp->Prop} {g2:TG} {te:TE} {σ4:L2.St} {H5:Hp} (ys:List V) (Pw:Nat->L2.St->Hp->Prop) (hi:i<n) (h0:Pw 0 σ4 H5) (hl:∀ j σ H,j<=ys.length->Pw j σ H->SqL K H b ys)
  (hs:∀ j y σ H,ys[j]? = some y->Pw j σ H->g2 y σ H λσ8 H8=>te σ8 H8 λz H9=>o0 D ys.length Pw j σ8 z H9) (hd:∀ σ H,Pw ys.length σ H->Pv (i+1) σ H):bd1 D n Pv i g2 te σ4 (Itl K b) H5:=by
 refine ⟨λj m2 σ H=>m2=ys.length-j/\j<=ys.length/\Pw j σ H,⟨ys.length,by simp,z0u _,h0⟩,?_⟩
 rintro j m2 σ6 H6 ⟨rfl,hj,p6⟩;have q6:=hl j σ6 H6 hj p6
 by_cases hlt2:j<ys.length
 ·refine .inr ⟨⟨ys,ys[j],q6,by simp [hlt2]⟩,λz H' y2=>?_⟩
  obtain ⟨e,y2⟩:=y2;subst e;exact hs j z σ6 _ (y2 ys q6) p6
 ·have e:j=ys.length:=⋯
  subst e;exact .inl ⟨⟨ys,q6,q0m _⟩,n-(i+1),⋯,rfl,hi,hd _ _ p6⟩
end R
set_option maxRecDepth 100000
namespace L2
open PySem PySem.Spec PyProof.Rows
structure Stp (prog:Program) (w:World) (it src:Addr) (ar:Array Value) (st:Nat->Heap->Prop):Prop where
 stay:∀ {k:Nat} {h h':Heap},st k h->(∀ o,h.get? it=some o->h'.get? it=some o)->(∀ o,h.get? src=some o->h'.get? src=some o)->st k h'
 item:∀ {A:Around} {E:Value->Shared->Prop} {s:Shared} {k:Nat} {v:Value} {Q:Value->Shared->Prop},st k s.heap->ar[k]? = some v->(∀ h',st (k+1) h'->v0e it s.heap h'->Q v { s with heap:=h' })->wpAny (model prog w) A (Builtin.SmallTypes.nextOf (.ref it)) Q E s
 fin:∀ {A:Around} {E:Value->Shared->Prop} {s:Shared} {k:Nat} {Q:Value->Shared->Prop},A.handled=none->st k s.heap->ar[k]? = none->(∀ h' e,Heap.ExtBut it s.heap h'->(∃ o,h'.get? e=some o/\o.cls=.type "StopIteration")->E (.ref e) { s with heap:=h' })->wpAny (model prog w) A (Builtin.SmallTypes.nextOf (.ref it)) Q E s
def bj5 (it src:Addr) (ar:Array Value) (k:Nat) (h:Heap):Prop:=h.IsTupleIter it src k/\h.IsTuple src ar
theorem af6 {prog:Program} {w:World} {it src:Addr} {ar:Array Value} (ne:src ≠ it):Stp prog w it src ar (bj5 it src ar) where
 stay:=λst h1 h2=>⟨st.1.at h1,by obtain ⟨o,e,r⟩:=st.2;exact ⟨o,h2 o e,r⟩⟩
 item:=by
  intro A E s k v Q st hv hQ;obtain ⟨hi,ht⟩:=st;obtain ⟨ob,gob,cob,dob⟩:=id hi;obtain ⟨os,gos,_,ns,dos⟩:=id ht;unfold Builtin.SmallTypes.nextOf;refine wpAny_bind (wpAny_callSpecial?_slot (name:=Str.ofString "__next__") hi.typeIs F.slot_tuple_iterator_next (wpAny_call_entry F.slot_tuple_iterator_next hi.typeIs F.entry_tuple_iterator_next ?_ (F.args_tuple_iterator_next_1 _)))
  show wpAny _ _ (field (.ref it) 0 >>= _) _ _ s;refine wpAny_bind (wpAny_field gob dob (x:=.ref src) rfl ?_)
  show wpAny _ _ (if (Value.ref src == Value.none)=true then _ else _) _ _ s;rw [if_neg (show ¬ ((Value.ref src == Value.none)=true) from q0r)]
  show wpAny _ _ (field (.ref it) 1 >>= _) _ _ s;refine wpAny_bind (wpAny_field gob dob (x:=.int k 0) rfl ?_)
  show wpAny _ _ (seqItems? (.ref src) >>= _) _ _ s;refine wpAny_bind (wpAny_seqItems gos dos ?_);simp only [g0d,hv];refine wpAny_bind (wpAny_setField gob dob (by simp) (wpAny_pure ⟨v,rfl,wpAny_pure (hQ _ ⟨?_,?_⟩ (v0e.update ..))⟩))
  ·exact ⟨_,v0g _ gob (Obj.isFreed_of_fields (Obj.data_mapFields dob _)),(Obj.cls_mapFields ..).trans cob,by rw [Obj.data_mapFields dob];simp [rawInt]⟩
  ·exact ht.extBut (v0e.update ..).extBut ne
 fin:=by
  intro A E s k Q hh st hv hE;obtain ⟨hi,ht⟩:=st;obtain ⟨ob,gob,cob,dob⟩:=id hi;obtain ⟨os,gos,_,ns,dos⟩:=id ht;unfold Builtin.SmallTypes.nextOf;refine wpAny_bind (wpAny_callSpecial?_slot (name:=Str.ofString "__next__") hi.typeIs F.slot_tuple_iterator_next (wpAny_call_entry F.slot_tuple_iterator_next hi.typeIs F.entry_tuple_iterator_next ?_ (F.args_tuple_iterator_next_1 _)))
  show wpAny _ _ (field (.ref it) 0 >>= _) _ _ s;refine wpAny_bind (wpAny_field gob dob (x:=.ref src) rfl ?_)
  show wpAny _ _ (if (Value.ref src == Value.none)=true then _ else _) _ _ s;rw [if_neg (show ¬ ((Value.ref src == Value.none)=true) from q0r)]
  show wpAny _ _ (field (.ref it) 1 >>= _) _ _ s;refine wpAny_bind (wpAny_field gob dob (x:=.int k 0) rfl ?_)
  show wpAny _ _ (seqItems? (.ref src) >>= _) _ _ s;refine wpAny_bind (wpAny_seqItems gos dos ?_);simp only [g0d,hv];refine wpAny_bind (wpAny_rule (wpAny_bind (wpAny_setField gob dob (by simp) ?_)))
  show wpAny _ _ (newExc (.type "StopIteration") [] >>= _) _ _ _;refine wpAny_bind ?_;simp only [newExc,newTuple];refine wpAny_bind (wpAny_newObj_type ?_ (by size_fits));refine wpAny_bind (m:=firstArgMember _ _) (wpAny_of_eq (a:=Value.none) (by first | rfl | (simp only [firstArgMember];rfl)) ?_);refine wpAny_newObj_type ?_ (by size_fits)
  simp only [raiseNew];refine wpAny_bind (wpAny_handled ?_);(first | rw [show A.in1.handled=none from hh] | rw [hh]);refine wpAny_bind (wpAny_pure (wpAny_throw ?_));exact hE _ _ (((v0e.update ..).extBut.push _).push _) ⟨_,q0y _ rfl,rfl⟩
section
variable {prog:Program} {w:World} {A:Around} {E:Value->Shared->Prop} {s:Shared}
theorem aO0 {z TI TO i1 i2 a b:Addr} {k:Nat} {xs ys:Array Value} {x y p q:Value} {S1 S2:Nat->Heap->Prop} {Q:Value->Shared->Prop} (D:ZipApart z TI TO i1 i2 a b) (N1:Stp prog w i1 a xs S1) (N2:Stp prog w i2 b ys S2)
  (gz:IsZip s.heap z TI TO .none) (gI:IsPair s.heap TI (.ref i1) (.ref i2)) (gO:IsPair s.heap TO p q) (t1:S1 k s.heap) (t2:S2 k s.heap) (ex:xs[k]? = some x) (ey:ys[k]? = some y) (r1:∃ o,s.heap.get? i1=some o) (r2:∃ o,s.heap.get? i2=some o)
  (hQ:∀ h',IsZip h' z TI TO (rawInt s.heap.objs.size)->IsPair h' TO x y->S1 (k+1) h'->S2 (k+1) h'->IsPair h' s.heap.objs.size x y->h'.objs.size=s.heap.objs.size+1->(∀ c o,c ≠ z->c ≠ TO->c ≠ i1->c ≠ i2->s.heap.get? c=some o->h'.get? c=some o)->Q (.ref s.heap.objs.size) { s with heap:=h' }) :
  wpAny (model prog w) A (Builtin.«zip.__next__» ⟨[.ref z],[]⟩) (λfin s' => ∃ v,fin=.done (.ret v)/\Q v s') E s:=by
 show wpAny _ _ (field (.ref z) 2 >>= _) _ _ _;refine wpAny_bind (wpAny_field gz rfl (x:=.bool false) rfl ?_)
 show wpAny _ _ (field (.ref z) 3 >>= _) _ _ _;refine wpAny_bind (wpAny_field gz rfl (x:=.ref TI) rfl ?_);refine wpAny_bind (wpAny_seqItems gI rfl ?_)
 show wpAny _ _ (Builtin.SmallTypes.ownedTupleIsFree (.ref z) >>= _) _ _ _;refine wpAny_bind ?_;unfold Builtin.SmallTypes.ownedTupleIsFree;refine wpAny_bind (wpAny_field gz rfl (x:=.none) rfl (wpAny_pure ?_));simp only [if_true];refine wpAny_bind (wpAny_rule ?_);refine wpAny_bind (wpAny_field gz rfl (x:=.ref TO) rfl ?_);refine wpAny_bind (wpAny_setField_rec gz (by simp) λh₁ z1 u1=>?_)
 replace z1:IsZip h₁ z TI TO .ellipsis:=z1
 refine wpAny_bind ?_;simp only [List.zipIdx_cons,List.zipIdx_nil,List.forIn_cons,u0c];refine wpAny_bind (wpAny_bind (wpAny_onRaise ?_));show wpAny _ _ (Builtin.SmallTypes.nextOf (.ref i1) >>= _) _ _ _;refine wpAny_bind (N1.item (N1.stay t1 (λo e=>u1.extBut _ _ D.i1z e) λo e=>u1.extBut _ _ D.l1z e) ex λh₂ n1 u2=>wpAny_pure ?_);have O2:IsPair h₂ TO p q:=u2.extBut _ _ D.TOi1 (u1.extBut _ _ D.TOz gO);refine wpAny_bind (wpAny_seqItems O2 rfl ?_);refine wpAny_bind (wpAny_updateSeq_pair O2 λh₃ O3 u3=>?_)
 replace O3:IsPair h₃ TO x q:=O3
 refine wpAny_bind (wpAny_letGo (wpAny_pure ?_));refine wpAny_bind (wpAny_bind (wpAny_onRaise ?_));show wpAny _ _ (Builtin.SmallTypes.nextOf (.ref i2) >>= _) _ _ _;have m2:S2 k h₃:=N2.stay t2 (λo e=>u3.extBut _ _ D.TOi2.symm (u2.extBut _ _ D.i12.symm (u1.extBut _ _ D.i2z e))) λo e=>u3.extBut _ _ D.l2TO (u2.extBut _ _ D.l2i1 (u1.extBut _ _ D.l2z e));refine wpAny_bind (N2.item m2 ey λh₄ n2 u4=>wpAny_pure ?_);have O4:IsPair h₄ TO x q:=u4.extBut _ _ D.TOi2 O3;refine wpAny_bind (wpAny_seqItems O4 rfl ?_);refine wpAny_bind (wpAny_updateSeq_pair O4 λh₅ O5 u5=>?_)
 replace O5:IsPair h₅ TO x y:=O5
 refine wpAny_bind (wpAny_letGo (wpAny_pure (wpAny_pure ?_)));refine wpAny_bind (wpAny_seqItems O5 rfl ?_);refine wpAny_bind (wpAny_newTuple ?_);have sz:h₅.objs.size=s.heap.objs.size:=by rw [u5.1,u4.1,u3.1,u2.1,u1.1]
 have z5:IsZip h₅ z TI TO .ellipsis:=u5.extBut _ _ D.TOz.symm (u4.extBut _ _ D.i2z.symm (u3.extBut _ _ D.TOz.symm (u2.extBut _ _ D.i1z.symm z1)));have k5:∀ c o,c ≠ z->c ≠ TO->c ≠ i1->c ≠ i2->s.heap.get? c=some o->h₅.get? c=some o:=λc o c1 c2 c3 c4 e=>u5.extBut _ _ c2 (u4.extBut _ _ c4 (u3.extBut _ _ c2 (u2.extBut _ _ c3 (u1.extBut _ _ c1 e))));have n15:S1 (k+1) h₅:=N1.stay n1 (λo e=>u5.extBut _ _ D.TOi1.symm (u4.extBut _ _ D.i12 (u3.extBut _ _ D.TOi1.symm e))) λo e=>u5.extBut _ _ D.l1TO (u4.extBut _ _ D.l1i2 (u3.extBut _ _ D.l1TO e));have n25:S2 (k+1) h₅:=N2.stay n2 (λo e=>u5.extBut _ _ D.TOi2.symm e) λo e=>u5.extBut _ _ D.l2TO e;have lz:z<h₅.objs.size:=q0e z5
 show wpAny _ _ (Builtin.SmallTypes.ownedTupleHandOut (.ref z) (.ref h₅.objs.size) >>= _) _ _ _;refine wpAny_bind ?_;unfold Builtin.SmallTypes.ownedTupleHandOut;have z6:IsZip (h₅.push { cls:=.type "tuple",data:=.seq #[x,y] }) z TI TO .ellipsis:=q0f _ z5
 refine wpAny_bind (wpAny_setField_rec z6 (by simp) λh₇ z7 u7=>?_)
 replace z7:IsZip h₇ z TI TO (rawInt h₅.objs.size):=z7
 refine wpAny_setField_rec z7 (by simp) λh₈ z8 u8=>?_
 replace z8:IsZip h₈ z TI TO (rawInt h₅.objs.size):=z8
 have up:∀ c o,c ≠ z->h₅.get? c=some o->h₈.get? c=some o:=λc o c1 e=>u8.extBut _ _ c1 (u7.extBut _ _ c1 (q0f _ e));have T8:IsPair h₈ h₅.objs.size x y:=u8.extBut _ _ (j0y lz) (u7.extBut _ _ (j0y lz) (q0y _ rfl));have s8:h₈.objs.size=h₅.objs.size+1:=by rw [u8.1,u7.1,z0m]
 rw [sz] at z8 T8 s8;refine wpAny_pure ⟨_,rfl,?_⟩
 show Q (.ref h₅.objs.size) _;rw [sz];exact hQ h₈ z8 (up _ _ D.TOz O5) (N1.stay n15 (λo e=>up _ o D.i1z e) λo e=>up _ o D.l1z e) (N2.stay n25 (λo e=>up _ o D.i2z e) λo e=>up _ o D.l2z e) T8 s8 λc o c1 c2 c3 c4 e=>up c o c1 (k5 c o c1 c2 c3 c4 e)
theorem aS1 {z TI TO i1 i2 a b:Addr} {k:Nat} {xs ys:Array Value} {p q:Value} {S1 S2:Nat->Heap->Prop} {Q:Fin->Shared->Prop} (hh:A.handled=none) (D:ZipApart z TI TO i1 i2 a b) (N1:Stp prog w i1 a xs S1) (N2:Stp prog w i2 b ys S2)
  (gz:IsZip s.heap z TI TO .none) (gI:IsPair s.heap TI (.ref i1) (.ref i2)) (gO:IsPair s.heap TO p q) (t1:S1 k s.heap) (t2:S2 k s.heap) (ends:xs[k]? = none \/ ys[k]? = none)
  (hE:∀ h' e,(∀ c o,c ≠ z->c ≠ TO->c ≠ i1->c ≠ i2->s.heap.get? c=some o->h'.get? c=some o)->(∃ o,h'.get? e=some o/\o.cls=.type "StopIteration")->E (.ref e) { s with heap:=h' }):wpAny (model prog w) A (Builtin.«zip.__next__» ⟨[.ref z],[]⟩) Q E s:=by
 show wpAny _ _ (field (.ref z) 2 >>= _) _ _ _;refine wpAny_bind (wpAny_field gz rfl (x:=.bool false) rfl ?_)
 show wpAny _ _ (field (.ref z) 3 >>= _) _ _ _;refine wpAny_bind (wpAny_field gz rfl (x:=.ref TI) rfl ?_);refine wpAny_bind (wpAny_seqItems gI rfl ?_)
 show wpAny _ _ (Builtin.SmallTypes.ownedTupleIsFree (.ref z) >>= _) _ _ _;refine wpAny_bind ?_;unfold Builtin.SmallTypes.ownedTupleIsFree;refine wpAny_bind (wpAny_field gz rfl (x:=.none) rfl (wpAny_pure ?_));simp only [if_true];refine wpAny_bind (wpAny_rule ?_);refine wpAny_bind (wpAny_field gz rfl (x:=.ref TO) rfl ?_);refine wpAny_bind (wpAny_setField_rec gz (by simp) λh₁ z1 u1=>?_)
 replace z1:IsZip h₁ z TI TO .ellipsis:=z1
 refine wpAny_bind ?_;simp only [List.zipIdx_cons,List.zipIdx_nil,List.forIn_cons,u0c];refine wpAny_bind (wpAny_bind (wpAny_onRaise ?_));show wpAny _ _ (Builtin.SmallTypes.nextOf (.ref i1) >>= _) _ _ _;have m1:S1 k h₁:=N1.stay t1 (λo e=>u1.extBut _ _ D.i1z e) λo e=>u1.extBut _ _ D.l1z e
 cases ex:xs[k]? with
 | none =>
  refine wpAny_bind (N1.fin hh m1 ex λh₂ e u2 he=>?_);obtain ⟨oe,goe,coe⟩:=he;have z2:IsZip h₂ z TI TO .ellipsis:=u2 _ _ D.i1z.symm z1;have ez:e ≠ z:=λx=>by subst x;rw [z2] at goe;cases goe;simp at coe
  refine wpAny_setField_rec z2 (by simp) λh₃ _ u3=>hE h₃ e (λc o c1 _ c3 _ x=>u3.extBut _ _ c1 (u2 _ _ c3 (u1.extBut _ _ c1 x))) ⟨oe,u3.extBut _ _ ez goe,coe⟩
 | some x =>
  have ey:ys[k]? = none:=by rcases ends with h | h;rw [ex] at h;cases h;exact h
  refine wpAny_bind (N1.item m1 ex λh₂ n1 u2=>wpAny_pure ?_);have O2:IsPair h₂ TO p q:=u2.extBut _ _ D.TOi1 (u1.extBut _ _ D.TOz gO);refine wpAny_bind (wpAny_seqItems O2 rfl ?_);refine wpAny_bind (wpAny_updateSeq_pair O2 λh₃ O3 u3=>?_);refine wpAny_bind (wpAny_letGo (wpAny_pure ?_));refine wpAny_bind (wpAny_bind (wpAny_onRaise ?_));show wpAny _ _ (Builtin.SmallTypes.nextOf (.ref i2) >>= _) _ _ _;have m2:S2 k h₃:=N2.stay t2 (λo e=>u3.extBut _ _ D.TOi2.symm (u2.extBut _ _ D.i12.symm (u1.extBut _ _ D.i2z e))) λo e=>u3.extBut _ _ D.l2TO (u2.extBut _ _ D.l2i1 (u1.extBut _ _ D.l2z e));refine wpAny_bind (N2.fin hh m2 ey λh₄ e u4 he=>?_);obtain ⟨oe,goe,coe⟩:=he;have z4:IsZip h₄ z TI TO .ellipsis:=u4 _ _ D.i2z.symm (u3.extBut _ _ D.TOz.symm (u2.extBut _ _ D.i1z.symm z1));have ez:e ≠ z:=λx=>by subst x;rw [z4] at goe;cases goe;simp at coe
  refine wpAny_setField_rec z4 (by simp) λh₅ _ u5=>hE h₅ e (λc o c1 c2 c3 c4 x=>u5.extBut _ _ c1 (u4 _ _ c4 (u3.extBut _ _ c2 (u2.extBut _ _ c3 (u1.extBut _ _ c1 x))))) ⟨oe,u5.extBut _ _ ez goe,coe⟩
theorem aN9 {z TI TO i1 i2 a b:Addr} {k:Nat} {xs ys:Array Value} {x y p q:Value} {S1 S2:Nat->Heap->Prop} {Q:Option Value->Shared->Prop} (D:ZipApart z TI TO i1 i2 a b) (N1:Stp prog w i1 a xs S1) (N2:Stp prog w i2 b ys S2)
  (gz:IsZip s.heap z TI TO .none) (gI:IsPair s.heap TI (.ref i1) (.ref i2)) (gO:IsPair s.heap TO p q) (t1:S1 k s.heap) (t2:S2 k s.heap) (ex:xs[k]? = some x) (ey:ys[k]? = some y) (r1:∃ o,s.heap.get? i1=some o) (r2:∃ o,s.heap.get? i2=some o)
  (hQ:∀ h',IsZip h' z TI TO (rawInt s.heap.objs.size)->IsPair h' TO x y->S1 (k+1) h'->S2 (k+1) h'->IsPair h' s.heap.objs.size x y->h'.objs.size=s.heap.objs.size+1->(∀ c o,c ≠ z->c ≠ TO->c ≠ i1->c ≠ i2->s.heap.get? c=some o->h'.get? c=some o)->Q (some (.ref s.heap.objs.size)) { s with heap:=h' }):wpAny (model prog w) A (pyNext (.ref z)) Q E s:=by
 have ty:s.TypeIs (.ref z) "zip" := ⟨_,gz,rfl⟩
 unfold pyNext;exact wpAny_bind (wpAny_attempt (wpAny_callSpecial?_slot (name:=Str.ofString "__next__") ty F.slot_zip_next (wpAny_call_entry F.slot_zip_next ty F.entry_zip_next (aO0 D N1 N2 gz gI gO t1 t2 ex ey r1 r2 λh' a1 a2 a3 a4 a5 a6 a7=>wpAny_pure (hQ h' a1 a2 a3 a4 a5 a6 a7)) (F.args_zip_next_1 _))))
theorem aN8 {z TI TO i1 i2 a b:Addr} {k:Nat} {xs ys:Array Value} {p q:Value} {S1 S2:Nat->Heap->Prop} {Q:Option Value->Shared->Prop} (hh:A.handled=none) (D:ZipApart z TI TO i1 i2 a b) (N1:Stp prog w i1 a xs S1) (N2:Stp prog w i2 b ys S2)
  (gz:IsZip s.heap z TI TO .none) (gI:IsPair s.heap TI (.ref i1) (.ref i2)) (gO:IsPair s.heap TO p q) (t1:S1 k s.heap) (t2:S2 k s.heap) (ends:xs[k]? = none \/ ys[k]? = none)
  (hQ:∀ h',(∀ c o,c ≠ z->c ≠ TO->c ≠ i1->c ≠ i2->s.heap.get? c=some o->h'.get? c=some o)->Q none { s with heap:=h' }):wpAny (model prog w) A (pyNext (.ref z)) Q E s:=by
 have ty:s.TypeIs (.ref z) "zip" := ⟨_,gz,rfl⟩
 unfold pyNext;refine wpAny_bind (wpAny_attempt (wpAny_callSpecial?_slot (name:=Str.ofString "__next__") ty F.slot_zip_next (wpAny_call_entry F.slot_zip_next ty F.entry_zip_next (aS1 hh D N1 N2 gz gI gO t1 t2 ends λh' e hk he=>?_) (F.args_zip_next_1 _))))
 obtain ⟨o,ho,hc⟩:=he;exact wpAny_bind (wpAny_isInstance (T := "StopIteration") (b:=true) ⟨o,ho,hc⟩ isSubtype_stop (wpAny_pure (hQ _ hk)))
abbrev zt1 (h:Heap) (a:Addr):Heap:=h.push { cls:=.type "tuple_iterator",data:=.fields #[.ref a,.int 0 0] }
abbrev zt2 (h:Heap) (a b:Addr):Heap:=(zt1 h a).push { cls:=.type "tuple_iterator",data:=.fields #[.ref b,.int 0 0] }
abbrev zt3 (h:Heap) (a b:Addr):Heap:=(zt2 h a b).push { cls:=.type "tuple",data:=.seq #[.ref h.objs.size,.ref (zt1 h a).objs.size] }
abbrev zt4 (h:Heap) (a b:Addr):Heap:=(zt3 h a b).push { cls:=.type "tuple",data:=.seq #[.none,.none] }
abbrev zt5 (h:Heap) (a b:Addr):Heap:=(zt4 h a b).push { cls:=.type "zip",data:=.fields #[.none,.bool false,.bool false,.ref (zt2 h a b).objs.size,.ref (zt3 h a b).objs.size] }
theorem aJ7 (a b:Addr) (xs ys:Array Value):Meets (Builtin.«zip.__new__» ⟨[.type "zip",.ref a,.ref b],[]⟩) (λ_ R s=>s.heap.IsTuple a xs/\s.heap.IsTuple b ys/\R (.ok (.ret (.ref (zt4 s.heap a b).objs.size))) { s with heap:=zt5 s.heap a b }) :=
 .of_wp λprog w A R s h=>by
  obtain ⟨hp,g,d,tk,os⟩:=s;obtain ⟨ha,hb,h⟩:=h;have hsub:=sub_zip;have L1:y0j (Shared.heap ⟨hp,g,d,tk,os⟩) a xs:=ha;have L2:y0j (Shared.heap ⟨hp.push { cls:=.type "tuple_iterator",data:=.fields #[.ref a,.int 0 0] },g,d,tk,os⟩) b ys:=y0j.push hb _
  wp_walk using wpAny_pyIter_tuple L1,wpAny_pyIter_tuple L2
  exact ⟨_,rfl,h⟩
theorem aR5 {a b:Addr} {xs ys:Array Value} {Q:Value->Shared->Prop} (ha:s.heap.IsTuple a xs) (hb:s.heap.IsTuple b ys)
  (h:∀ h',IsZip h' (s.heap.objs.size+4) (s.heap.objs.size+2) (s.heap.objs.size+3) .none->IsPair h' (s.heap.objs.size+2) (.ref s.heap.objs.size) (.ref (s.heap.objs.size+1))->IsPair h' (s.heap.objs.size+3) .none .none->h'.IsTupleIter s.heap.objs.size a 0->h'.IsTupleIter (s.heap.objs.size+1) b 0->h'.objs.size=s.heap.objs.size+5->(∀ c o,s.heap.get? c=some o->h'.get? c=some o)->Q (.ref (s.heap.objs.size+4)) { s with heap:=h' }):wpAny (model prog w) A (call (.type "zip") [.ref a,.ref b]) Q E s:=by
 refine callType_new F.called_zip (by decide) (F.typeCall_zip_2 _ _) (F.newCall_zip_2 _ _) (λobj=>F.args_object_init_3 obj _ _) F.entry_zip_new (aJ7 a b xs ys) ⟨ha,hb,?_⟩
 have z1:(zt1 s.heap a).objs.size=s.heap.objs.size+1:=z0m ..;have z2:(zt2 s.heap a b).objs.size=s.heap.objs.size+2:=by rw [z0m,z1]
 have z3:(zt3 s.heap a b).objs.size=s.heap.objs.size+3:=by rw [z0m,z2]
 have z4:(zt4 s.heap a b).objs.size=s.heap.objs.size+4:=by rw [z0m,z3]
 have z5:(zt5 s.heap a b).objs.size=s.heap.objs.size+5:=by rw [z0m,z4]
 have p1:∀ {h:Heap} {c:Addr} {o o':Obj},h.get? c=some o->(h.push o').get? c=some o:=λe=>q0f _ e;have g5:(zt5 s.heap a b).get? (zt4 s.heap a b).objs.size=some _:=q0y _ rfl;have g4:(zt5 s.heap a b).get? (zt3 s.heap a b).objs.size=some _:=p1 (q0y _ rfl);have g3:(zt5 s.heap a b).get? (zt2 s.heap a b).objs.size=some _:=p1 (p1 (q0y _ rfl));have g2:(zt5 s.heap a b).get? (zt1 s.heap a).objs.size=some _:=p1 (p1 (p1 (q0y _ rfl)));have g1:(zt5 s.heap a b).get? s.heap.objs.size=some _:=p1 (p1 (p1 (p1 (q0y _ rfl))))
 show _/\_;rw [z2,z3,z4] at g5;rw [z1,z2] at g3;rw [z3] at g4;rw [z1] at g2;rw [z4];exact ⟨⟨_,g5,rfl⟩,h _ g5 g3 g4 ⟨_,g1,rfl,rfl⟩ ⟨_,g2,rfl,rfl⟩ z5 λc o x=>p1 (p1 (p1 (p1 (p1 x))))⟩
end
def bh5 (K:PySem.W.Frag) (a b:Addr):It :=
  ⟨λi H => ∃ xs ys x y,SqT K H a xs/\SqT K H b ys/\xs[i]? = some x/\ys[i]? = some y,
   λi H v H' => ∀ xs ys,SqT K H a xs->SqT K H b ys->∃ x y p,xs[i]? = some x/\ys[i]? = some y/\H p=none/\v=.ref p/\H'=upd H p (.tup [x,y]),
   λi H => ∃ xs ys,SqT K H a xs/\SqT K H b ys/\(xs.length<=i \/ ys.length<=i)⟩
theorem aO1 {P:Program} {w:World} {K:q0a} {elts:List Expr} {k:Nat} {tpos:Pos} (a b z TI TO i1 i2:Addr) (D:ZipApart z TI TO i1 i2 a b) :
  aK9 P w K (.Tuple elts k tpos) (bh5 K a b) [z,TI,TO,i1,i2] z (λi h=>IsZip h z TI TO .none/\IsPair h TI (.ref i1) (.ref i2)/\(∃ a b,IsPair h TO a b)/\h.IsTupleIter i1 a i/\h.IsTupleIter i2 b i) where
 mem:=by simp
 obj:=λi h st c hc=>by
  obtain ⟨hz,hTI,⟨p,q,hTO⟩,h1,h2⟩:=st;rcases (by simpa using hc:c=z \/ c=TI \/ c=TO \/ c=i1 \/ c=i2) with e | e | e | e | e <;> subst e
  ·exact ⟨_,hz,λv z=>by cases z⟩
  ·exact ⟨_,hTI,λv z=>by cases z⟩
  ·exact ⟨_,hTO,λv z=>by cases z⟩
  ·obtain ⟨o,e,c,d⟩:=h1
   exact ⟨o,e,λv z=>by rw [d] at z;cases z⟩
  ·obtain ⟨o,e,c,d⟩:=h2
   exact ⟨o,e,λv z=>by rw [d] at z;cases z⟩
 keep:=λi h h' st k=>by
  obtain ⟨hz,hTI,⟨p,q,hTO⟩,h1,h2⟩:=st;exact ⟨k z (by simp) _ hz,k TI (by simp) _ hTI,⟨p,q,k TO (by simp) _ hTO⟩,h1.at λo e=>k i1 (by simp) o e,h2.at λo e=>k i2 (by simp) o e⟩
 item:=by
  intro X hP hw hK hc i pins s σ H E I hf st hg;subst hP hw hK;obtain ⟨xs,ys,x,y,hq,hq',hx,hy⟩:=hg;obtain ⟨its,rv,p,hlz⟩:=I.tuple hq;obtain ⟨its',rv',p',hlz'⟩:=I.tuple hq';obtain ⟨u,hu,ru⟩:=rv.get hx;obtain ⟨u',hu',ru'⟩:=rv'.get hy;obtain ⟨hz,hTI,⟨pa,pb,hTO⟩,h1,h2⟩:=st;have zlt:z<s.heap.objs.size:=q0e hz;refine aN9 D (af6 (ar:=its.toArray) D.l1i1) (af6 (ar:=its'.toArray) D.l2i2) hz hTI hTO ⟨h1,(show y0j _ a its.toArray from p)⟩ ⟨h2,(show y0j _ b its'.toArray from p')⟩ (x:=u) (y:=u') (by simpa using hu) (by simpa using hu') (by obtain ⟨o,e,_⟩:=h1;exact ⟨o,e⟩) (by obtain ⟨o,e,_⟩:=h2;exact ⟨o,e⟩) λh' a1 a2 a3' a4' a5 a6 kk=>?_
  have a3:=a3'.1;have a4:=a4'.1;refine ⟨_,rfl,?_⟩;refine wpAny_letOwnedTupleGo_zip (s:={ s with heap:=h' }) a1 λh'' hz'' sb=>?_;have up:∀ c o,c ≠ z->h'.get? c=some o->h''.get? c=some o:=λc o n q=>(sb.2 c n).trans q;have hT':h''.get? s.heap.objs.size=some { cls:=.type "tuple",data:=.seq #[u,u'] }:=up _ _ (j0y zlt) a5
  refine ⟨.ref s.heap.objs.size,upd H s.heap.objs.size (.tup [x,y]),I.turnLaid (fp:=[z,TI,TO,i1,i2]) (t':=s.toks) hf (λc v hb q=>?_) (q0m _) ?_,rfl,?_,?_,λc hb=>?_⟩
  ·have n1:c ≠ z:=λe=>hb (by simp [e])
   have n2:c ≠ TO:=λe=>hb (by simp [e])
   have n3:c ≠ i1:=λe=>hb (by simp [e])
   have n4:c ≠ i2:=λe=>hb (by simp [e])
   exact up c v n1 (kk c v n1 n2 n3 n4 q)
  ·exact ⟨(show 2<=sizeLine by decide +kernel),[u,u'],.cons ru (.cons ru' .nil),_,hT',rfl,_,rfl⟩
  ·intro vs ws hv hw
   rw [I.tuple_inj hv hq,I.tuple_inj hw hq'];exact ⟨x,y,_,hx,hy,I.fresh,rfl,rfl⟩
  ·refine ⟨hz'',up _ _ D.TIz (kk _ _ D.TIz D.TITO D.TIi1 D.TIi2 hTI),⟨u,u',up _ _ D.TOz a2⟩,a3.at λo q=>up _ o D.i1z q,a4.at λo q=>up _ o D.i2z q⟩
  ·have hlt:c<s.heap.objs.size:=by
    have l1:i1<s.heap.objs.size:=by obtain ⟨_,e,_⟩:=h1;exact q0e e
    have l2:i2<s.heap.objs.size:=by obtain ⟨_,e,_⟩:=h2;exact q0e e
    rcases (by simpa using hb:c=z \/ c=TI \/ c=TO \/ c=i1 \/ c=i2) with e | e | e | e | e <;> rw [e]
    ·exact zlt
    ·exact q0e hTI
    ·exact q0e hTO
    ·exact l1
    ·exact l2
   rw [g9 (q0v hlt)];exact (hf c hb).1
 done:=by
  intro X hP hw hK hc i pins s σ H E I hf st hg;subst hP hw hK;obtain ⟨xs,ys,hq,hq',hend⟩:=hg;obtain ⟨its,rv,p,hlz⟩:=I.tuple hq;obtain ⟨its',rv',p',hlz'⟩:=I.tuple hq';obtain ⟨hz,hTI,⟨pa,pb,hTO⟩,h1,h2⟩:=st;have l1:=rv.length;have l2:=rv'.length;refine aN8 (I.ok.hd hc) D (af6 (ar:=its.toArray) D.l1i1) (af6 (ar:=its'.toArray) D.l2i2) hz hTI hTO ⟨h1,(show y0j _ a its.toArray from p)⟩ ⟨h2,(show y0j _ b its'.toArray from p')⟩ ?_ λh' kk=>⟨rfl,?_⟩
  ·rcases hend with e | e
   ·exact .inl (by simp;omega)
   ·exact .inr (by simp;omega)
  ·have nf:∀ b u,H b=some u->b ∉ [z,TI,TO,i1,i2]:=λb u e q=>by rw [(hf b q).1] at e;cases e
   have k:∀ b u,b ∉ [z,TI,TO,i1,i2]->s.heap.get? b=some u->h'.get? b=some u:=λc o hb q=>kk c o (λe=>hb (by simp [e])) (λe=>hb (by simp [e])) (λe=>hb (by simp [e])) (λe=>hb (by simp [e])) q
   refine I.step (t':=s.toks) (g':=s.gens) (d':=s.drawn) (ch:=[z,TI,TO,i1,i2]) (λb hb=>?_) (λb o _ _ hc e _=>k b o hc e) (λb o _ _ hc e _=>⟨o.slots,k b o hc e⟩) (λb o _ e n=>n)
    (λb o hc e=>⟨o,k b o hc e⟩) (λb xs e=>e) (λb o u e=>e) (λb ps e=>⟨#[],by rw [e];simp⟩) (λm hm=>?_) (λb u e=>?_) I.bare
   ·obtain ⟨_,f1,_,f3,f4,f5⟩:=hf b hb
    exact ⟨f3,f1,f4,f5⟩
   ·obtain ⟨o,es,ep,ho,r⟩:=hm
    exact ⟨o,es,ep,k _ o (λq=>(hf _ q).2.1 rfl) ho,r⟩
   ·refine (I.hok b u e).stay (λc v hc q=>k c v ?_ q) (λc q=>q) λc xs q=>q
    rcases hc with q | q
    ·rw [q];exact nf b u e
    ·exact nf c _ q
 self:=λ_ _ _ _ _ st h=>wpAny_pyIter_zip st.1 h
section
variable {X:Cx}
def W6 (K:q0a) (ta:TA):TI:=λσ H R=>ta σ H λvs H1 => ∃ a b,vs=[.ref a,.ref b]/\(∃ xs,SqT K H1 a xs)/\(∃ ys,SqT K H1 b ys)/\R (bh5 K a b) H1
theorem aZ1 {elts:List Expr} {k:Nat} {tpos:Pos} {l l':Expr} {ta:TA} {p pos:Pos} (hg:Gl X "zip") (hm:X.mg "zip" = none) (ha:PA X [l,l'] ta) (hs:starEach [l,l'] X.env=[(false,eval l X.env),(false,eval l' X.env)]:=by rfl) (hs2:starEach [l'] X.env=[(false,eval l' X.env)]:=by rfl) :
  PI X (.Tuple elts k tpos) (.Call (.Name "zip" p) [l,l'] [] pos) (W6 X.K ta):=by
 intro pins s σ H R I h;refine Call_ (Z5 I hg hm (u:=.type "zip") (by decide +kernel) (PyProof.Rows.callWith_type1 (thn (ha pos pins s σ H _ I h) λus s1 ⟨vs,H1,I1,r1,q1⟩=>?_) (by rw [hs,hs2]) (by rw [hs2];rfl)))
 obtain ⟨a,b,e,⟨xs,hq⟩,⟨ys,hq'⟩,q⟩:=q1;subst e;obtain ⟨u,u',rfl,rx,rx'⟩:=m6.two r1
 cases rx
 cases rx'
 obtain ⟨its,rv,p,hz⟩:=I1.tuple hq;obtain ⟨its',rv',p',hz'⟩:=I1.tuple hq';have a1:a<s1.heap.objs.size:=by obtain ⟨_,e,_⟩:=p;exact q0e e
 have a2:b<s1.heap.objs.size:=by obtain ⟨_,e,_⟩:=p';exact q0e e
 refine aR5 (show y0j _ a its.toArray from p) (show y0j _ b its'.toArray from p') λh' hz hTI hTO hi1 hi2 hsz kk=>?_;refine wpAny_pyIter_zip hz ?_;have I2:Inv X pins σ H1 { s1 with heap:=h' }:=I1.kept (t':=s1.toks) kk;refine ⟨_,_,_,_,H1,rfl,I2,aO1 a b _ _ _ _ _ (zipApart_new a1 a2),⟨hz,hTI,⟨_,_,hTO⟩,hi1,hi2⟩,λc hb=>?_,q⟩
 have hb':s1.heap.objs.size<=c:=by
  rcases (by simpa using hb:c=s1.heap.objs.size+4 \/ c=s1.heap.objs.size+2 \/ c=s1.heap.objs.size+3 \/ c=s1.heap.objs.size \/ c=s1.heap.objs.size+1) with e | e | e | e | e <;> rw [e]
  ·exact j0w _ _
  ·exact j0w _ _
  ·exact j0w _ _
  ·exact q0m _
  ·exact j0w _ _
 obtain ⟨f0,f1,f2,f3,f4,f5⟩:=I1.fpOk (H':=H1) hb' (I1.hok.fresh hb');exact ⟨f0,f1,f2,f3,f4,f5⟩
end
open PySem PyProof.Rows
end L2
set_option maxRecDepth 100000
namespace HT
open PySem PyProof.Rows
end HT
namespace L2
open PySem PySem.Spec PyProof.Rows
end L2
set_option maxRecDepth 100000
namespace PySem
open Sem (wp)
open AutoSeq1 (wpAny_loadPart')
end PySem
namespace L2
open PySem PySem.Spec PyProof.Rows
section
variable {X:Cx}
theorem ap2 {elt tg iter:Expr} {scope:Scope} {pos spos py:Pos} {y:Str} {i₀:Nat} {cl:List (Str × Addr)} {Nc:List Str} {caps:List (Option Nat)} {wi:TI} {g:TG} {te:TE} (hN:X.N.Nodup) (hi₀:X.N[i₀]? = some y) (hx:Loc X.env.scope y) (hc:X.calm=true) (cp:ac9 X scope cl Nc caps) (hi:PI X tg iter wi)
  (hg:∀ C s₂ H₂ fp pins,PG (X.blockC scope cl C Nc s₂ H₂ fp pins) tg g) (he:∀ C s₂ H₂ fp pins,PE (X.blockC scope cl C Nc s₂ H₂ fp pins) elt te) (hs:∀ x,foldedSetIterable iter X.env x=pure x:=by intro _;rfl) (hsw:swapsWith (.ListComp elt [⟨tg,iter,[],0⟩] scope pos) (some (.Name y py)) spos.line X.env=pure true:=by rfl)
  (hf:X.fn y=true \/ X.env.scope.names.lookup y=some .local:=by first | exact .inl rfl | exact .inr rfl | assumption) :
  PS X (.Assign [.Name y py] (.ListComp elt [⟨tg,iter,[],0⟩] scope pos) spos) (ad1 (aE6 wi caps g te) (j7 i₀)):=by
 intro pins s σ H DD I h;rw [exec_Assign_Name_used _ _ _ _ hsw];refine wpAny_bind (wpAny_standAt (wpAny_bind ?_))
 show wpAny _ X.A (do let _ <- comprehension (.ListComp elt [⟨tg,iter,[],0⟩] scope pos) scope X.env _ (newList []) false (eval iter X.env) (some (assign (.Name y py) X.env))) _ _ s
 refine wpAny_bind (wpAny_mono (wpAny_comprehension_free (use:=some (assign (.Name y py) X.env)) (Q:=λ_ s'=>SP X pins DD .next s') rfl hs cp.clos cp.kind cp.names ?_) (λ_ s' hq=>wpAny_pure (wpAny_pure hq)) λ_ _ e=>e);refine thn (hi pins s σ H _ I h) λv s1 h1=>thn h1 λitv s2 h2=>?_;obtain ⟨it,fp,tn,J,H2,e,I2,T,st2,f2,hW⟩:=h2;subst e;refine wpAny_newObj_type ?_ (by show 0<=sizeLine;exact z0u _)
 refine K4 ?_
 dsimp only
 generalize hH3:s2.heap.push { cls:=.type "list",dict:=none,data:=.seq ([]:List Value).toArray }=H3
 have hCe:H3.objs.size=s2.heap.objs.size+1:=by rw [<- hH3,z0m]
 have N0:∀ b o,s2.heap.get? b=some o->b ≠ H3.objs.size:=λb o e=>by rw [hCe];exact q0v (v0b (q0e e))
 have hns0:=(Heap.Ns.new H3 (.type "dict")).keeps (pushCells_keeps scope.names _)
 have old0:∀ b o,s2.heap.get? b=some o->(pushCells (H3.push { cls:=.type "dict",data:=.dict #[] }) scope.names).get? b=some o:=λb o e=>pushCells_keeps _ _ b o (q0f _ (hH3 ▸ q0f _ e))
 have hD0:(pushCells (H3.push { cls:=.type "dict",data:=.dict #[] }) scope.names).get? s2.heap.objs.size=some { cls:=.type "list",dict:=none,data:=.seq ([]:List Value).toArray } :=
  pushCells_keeps _ _ _ _ (q0f _ (hH3 ▸ q0y _ rfl))
 have own:=ag4 scope.names (H3.push { cls:=.type "dict",data:=.dict #[] }) cl (λx c e=>by
   obtain ⟨v,o,ho,hd⟩:=I2.cell x c (cp.sub x c e);exact ⟨v,o,q0f _ (hH3 ▸ q0f _ ho),hd⟩) (λx y c h1 h2=>I2.ok.inj x y c (cp.sub x c h1) (cp.sub y c h2))
 rw [z0m] at own;generalize hh4:pushCells (H3.push { cls:=.type "dict",data:=.dict #[] }) scope.names=h4 at own hns0 old0 hD0 ⊢
 have hns:=hns0;have old:=old0;have hD:=hD0;have isOld:∀ x c,(cellsFrom (H3.objs.size+1) scope.names cl).lookup x=some c->X.env.cells.lookup x=some c \/ H3.objs.size+1<=c:=λx c e=>(own.old x c e).imp (cp.sub x c) λz=>by rw [z0m] at z;exact z
 have hDn:H2 s2.heap.objs.size=none:=I2.fresh;have hCn:H2 H3.objs.size=none:=I2.hok.fresh (by rw [hCe];exact j0j _)
 have hCs:s2.heap.objs.size<=H3.objs.size:=by rw [hCe];exact j0j _
 have hDC:s2.heap.objs.size ≠ H3.objs.size:=by rw [hCe];exact q0v (j0r _)
 have fpl:∀ b ∈ fp,∃ o,s2.heap.get? b=some o:=λb hb=>let ⟨o,e,_⟩:=T.obj _ _ st2 b hb;⟨o,e⟩;have fpC:∀ b ∈ fp,b ≠ H3.objs.size:=λb hb=>let ⟨o,e⟩:=fpl b hb;N0 b o e;have fpD:∀ b ∈ fp,b ≠ s2.heap.objs.size:=λb hb=>let ⟨o,e⟩:=fpl b hb;q0v (q0e e);have stkN:∀ b,b ≠ X.env.locals->b ∉ X.fs->b ∉ frs X.stack:=λb h1 h2 z=>(z0r.mp (I2.stkSub b z)).elim h1 h2
 have fpX:∀ b ∈ fp,∀ x c,(cellsFrom (H3.objs.size+1) scope.names cl).lookup x=some c->c ≠ b:=λb hb x c h=>by
  rcases isOld x c h with z | z
  ·exact (f2 b hb).2.2.2.2.1 x c z
  ·obtain ⟨o,e⟩:=fpl b hb
   exact j0y (q0b (q0e e) (z0d (z0d hCs (j0j _)) z))
 obtain ⟨W,⟨m0,w0⟩,turn⟩:=hW s2.heap.objs.size hDn
 have okB:(X.blockC scope cl H3.objs.size Nc s2 H2 fp pins).Ok:=by
  refine ⟨I2.ok.mod,?_,I2.ok.glob,I2.ok.blt,hCs,λx y c h1 h2=>own.inj x y c h1 h2,λx hx=>cp.has _ x hx,λx c h e=>z0d (z0d hCs (j0j _)) (by have z:=own.fresh x (aB5 h) c e;rw [z0m] at z;exact z),I2.ok.hd,I2.ok.frames,.inl rfl,λb hb=>⟨fpC b hb,λx c h=>fpX b hb x c h⟩,I2.bs,z0d I2.ok.bsz I2.sz,λb o e hb=>?_,λb hb=>stkN b (f2 b hb).2.1 (f2 b hb).2.2.1,I2.stack,I2.stkFree⟩
  ·exact cp.kind
  ·rcases (f2 b hb).2.2.2.1 with z | z
   ·exact I2.ok.noex b o e z
   ·exact absurd (q0b (q0e e) (z0d I2.ok.bsz z)) (j0m _)
 have hokB:HOk X.prog X.w (upd H2 s2.heap.objs.size (.lst [])) h4:=I2.hok.laid old (q0m _) ⟨z0u _,[],_,.nil,hD⟩
 have IB:Inv (X.blockC scope cl H3.objs.size Nc s2 H2 fp pins) [] (x4 caps σ) (upd H2 s2.heap.objs.size (.lst [])) { s2 with heap:=h4 }:=by
  refine ⟨okB,rfl,I2.bare,Un.laid old (q0m _) hDn,⟨_,hns,λi x v e1 e2 e3=>?_⟩,λx c e=>?_,(show upd H2 s2.heap.objs.size (.lst []) H3.objs.size=none by rw [g9 (Ne.symm hDC)];exact hCn),λx c e=>?_,λp hp=>?_,hokB,?_⟩
  ·unfold x4 at e2
   rw [q0q] at e2
   cases hcap:caps[i]? with
   | none=>rw [hcap] at e2;cases e2
   | some o =>
    rw [hcap] at e2
    cases o with
    | none=>cases e2
    | some j =>
     have hj:σ[j]? = some (some v):=by
      have e2':(σ[j]?).join=some v:=Option.some.inj e2
      cases q:σ[j]? with
      | none=>rw [q] at e2';cases e2'
      | some z=>rw [q] at e2';exact congrArg some e2'
     obtain ⟨n1,n2,n3,n4,n5,n6⟩:=cp.cap i j x hcap e1;obtain ⟨m,hm,hl⟩:=I2.loc;obtain ⟨u,r,q⟩:=hl j x v n1 hj n2;rcases q with ⟨k,_⟩ | ⟨k,c,ec,z⟩
     ·exact absurd k n3
     ·obtain ⟨c',ec'⟩:=n5
      have:=cp.sub x c' ec';rw [ec] at this;cases this;obtain ⟨oc,ho,hd⟩:=z;exact ⟨u,r,.inr ⟨n4,c,n6 _ _ ec',oc,old _ _ ho,hd⟩⟩
  ·exact own.cell x c e
  ·show upd H2 s2.heap.objs.size (.lst []) c=none
   rcases isOld x c e with z | z
   ·obtain ⟨v,oc,ho,hd⟩:=I2.cell x c z
    rw [g9 (q0v (q0e ho))];exact I2.freeC x c z
   ·have hz:s2.heap.objs.size<c:=q0b (q0t hCs (j0r _)) z
    rw [g9 (j0y hz)];exact I2.hok.fresh (v0d hz)
  ·have hp':p ∈ X.pn ++ pins:=by simpa using hp
   obtain ⟨e1,e2,e3,e4,e5⟩:=I2.pin p hp';exact ⟨old _ _ e1,by rw [g9 (q0v (q0e e1))];exact e2,N0 _ _ e1,stkN _ e3 e4,e5⟩
  ·show (x4 caps σ).length=Nc.length
   unfold x4;rw [q0d];exact cp.len
 have stat:∀ {H':Hp},(∀ b ∈ fp,H' b=none)->∀ b ∈ fp,ad3 (X.blockC scope cl H3.objs.size Nc s2 H2 fp pins) [] H' b:=λhn b hb =>
  ⟨hn b hb,fpC b hb,stkN b (f2 b hb).2.1 (f2 b hb).2.2.1,.inl hb,λx c h=>fpX b hb x c h,λp hp=>(f2 b hb).2.2.2.2.2 p (by simpa using hp)⟩
 have loop:∀ s5:Shared,s5={ s2 with heap:=h4 } ->
   codeAny (model X.prog X.w) X.A (.compLoop (.ListComp elt [⟨tg,iter,[],0⟩] scope pos) 0 (.ref it) (.ref s2.heap.objs.size) (compEnvC scope (cellsFrom (H3.objs.size+1) scope.names cl) H3.objs.size X.env))
    (compPost (model X.prog X.w) X.A X.xe (some (assign (.Name y py) X.env)) (λ_ s'=>SP X pins DD .next s') (.ref s2.heap.objs.size) H3.objs.size) s5:=by
  rintro s5 rfl;refine ag3 (λn s' => ∃ i σ' H',Inv (X.blockC scope cl H3.objs.size Nc s2 H2 fp pins) [] σ' H' s'/\tn i s'.heap/\(∀ b ∈ fp,H' b=none)/\W i n σ' H') ?_ m0 ⟨0,_,_,IB,T.keep _ _ _ st2 λb hb o e=>old b o e,λb hb=>by rw [g9 (fpD b hb)];exact (f2 b hb).1,w0⟩
  rintro n s6 ⟨i,σ6,H6,I6,st6,fr6,w6⟩;rcases turn i n σ6 H6 w6 with ⟨stop,qn⟩ | ⟨go,step⟩
  ·refine thn (T.done (X.blockC scope cl H3.objs.size Nc s2 H2 fp pins) rfl rfl rfl hc i [] s6 σ6 H6 _ I6 (stat fr6) st6 stop) λr s7 zq=>?_
   obtain ⟨hr,I7⟩:=zq;subst hr;obtain ⟨m7,hn7,_⟩:=id I7.loc;have Io:Inv X pins σ H6 s7:=I2.sameC (h'':=s7.heap) f2 I7.os I7.bare I7.base I7.hok hCs I7.free ⟨rfl,λ_ _=>rfl⟩;have fC:ad3 X pins H6 H3.objs.size:=I2.fpOk hCs I7.free;have fC':∀ b ∈ [H3.objs.size],ad3 X pins H6 b:=λb hb=>by rw [z0f.mp hb];exact fC
   obtain ⟨oC,esC,epC,hoC,restC⟩:=id hn7
   have obC:∀ b ∈ [H3.objs.size],∃ o,s7.heap.get? b=some o/\∀ v,o.data ≠ .cell v:=λb hb=>by
    rw [z0f.mp hb];exact ⟨oC,hoC,λv z=>ay1 hn7 hoC v z⟩
   have Ip:=Io.pinned fC' obC
   show wpAny (model X.prog X.w) X.A (assign (.Name y py) X.env (.ref s2.heap.objs.size)) _ _ s7;refine thn (d5 (pos:=py) hN hi₀ hx hf _ s7 σ H6 (.ref s2.heap.objs.size) (.ref s2.heap.objs.size) DD.nx Ip rfl qn) λ_ s9 zq=>?_;obtain ⟨σ9,H9,I9,q9⟩:=zq;have keepC:=(I9.pin (H3.objs.size,oC) (q0k _ (q0k _ (t4 (by simp) hoC)))).1
   have H9C:=(I9.pin (H3.objs.size,oC) (q0k _ (q0k _ (t4 (by simp) hoC)))).2.1
   refine ⟨m7,hn7.at' λo e=>by rw [hoC] at e;cases e;exact keepC,λh' sb=>?_⟩
   obtain ⟨_,g1,g2,g3,g4,g5⟩:=fC;exact ⟨σ9,H9,I9.unpinned.turned (t':=s9.toks) (λb o hb e=>(sb.2 b hb).trans e) H9C g1 g3 g4 g5,q9⟩
  ·refine thn (T.item (X.blockC scope cl H3.objs.size Nc s2 H2 fp pins) rfl rfl rfl hc i [] s6 σ6 H6 _ I6 (stat fr6) st6 go) λr s7 zq=>?_
   obtain ⟨u,hr,h7⟩:=zq;subst hr;refine thn h7 λ_ s8 zq=>?_;obtain ⟨x,H8,I8,r8,y8,st8,fr8⟩:=zq;have I8':=I8.pinned (stat fr8) (T.obj _ _ st8);refine thn (hg _ _ _ _ _ _ s8 σ6 H8 x u _ I8' r8 (step x H8 y8)) λ_ s9 zq=>?_;obtain ⟨σ9,H9,I9,q9⟩:=zq;refine thn (he _ _ _ _ _ _ s9 σ9 H9 _ I9 q9) λu10 s10 zq=>?_;obtain ⟨v10,H10,I10,r10,ys,hys,hlen,m',hm',w'⟩:=zq;refine thn (J7 _ s10 σ9 H10 (.ref s2.heap.objs.size) [v10] (.ref s2.heap.objs.size) [u10] (λ_ H11=>H11=upd H10 s2.heap.objs.size (.lst (ys ++ [v10]))) I10 rfl (.cons r10 .nil) ⟨_,ys,v10,rfl,rfl,hys,hlen,rfl⟩) λ_ s11 zq=>?_;obtain ⟨_,H11,I11,_,hH11⟩:=zq;subst hH11;refine ⟨m',hm',i+1,σ9,_,I11.unpinned,T.keep _ _ _ st8 λb hb o e=>(I11.pin (b,o) (q0k _ (q0k _ (t4 hb e)))).1,λb hb=>?_,w'⟩;obtain ⟨o,e,d⟩:=T.obj _ _ st8 b hb;exact (I11.pin (b,o) (q0k _ (q0k _ (t4 hb e)))).2.1
 exact codeAny_compStart_list (loop _ rfl) (T.self _ 0 _ _ _ (T.keep _ _ _ st2 λb hb o e=>old b o e) (loop _ rfl))
end
end L2
set_option maxRecDepth 100000
namespace R
open PySem L2 PyProof.Rows
def top (i:Nat):Stmt:=PySem.Challenge.pw_restward_k35_worths_at_tables.main.body.getD i (.Pass ⟨0,0,0,0⟩)
end R
set_option maxRecDepth 100000
local macro_rules | `(tactic| simp! [$ls,*]) => do
  let a <- ("L2.ak9 L2.ipM L2.aj6 L2.ah1 L2.ae0 B2 L2.W6 L2.D4 L2.y0 L2.V6 L2.ae6 L2.aj4 L2.tSl L2.ai6 L2.K5 L2.A4 L2.Q6 L2.aj5 L2.F8 L2.T9 L2.x4 z0s v0w u0h u0j u0k L2.ag6 L2.ai8 L2.aj0 L2.tOr L2.ai7 L2.V3 L2.tB L2.tOp L2.tUn L2.ag9 L2.tBM L2.B3 L2.tC L2.tCB L2.ag7 L2.ad1 L2.j7 L2.ae7 L2.G3 L2.l9 L2.G4 L2.A3 L2.N4 L2.ag8 L2.ai5 L2.ad0 L2.tIf L2.V9 L2.V4 L2.V8 L2.V7 L2.V5 L2.L8 L2.ai9 L2.rI L2.rI0 L2.rU L2.F6 L2.N8 L2.ae1 L2.Q7 L2.rEq L2.rNe L2.aj7 L2.Z1 L2.W8 L2.W7 L2.K0 L2.Z6 L2.Cx.nox L2.Cx.wish y0d j0k v0y y0y Option.some.injEq L2.V.int.injEq L2.V.bl.injEq L2.V.ref.injEq L2.V.str.injEq exists_eq_left' exists_eq_left exists_and_left true_and and_true List.cons.injEq reduceCtorEq y0x if_false if_true exists_const L2.tyV z0n v0u exists_eq v0r v0j v0s decide_eq_true_eq not_true_eq_false not_false_eq_true y0c decide_eq_false_iff_not g0a u0x and_assoc false_and false_or or_false".splitOn " ").toArray.mapM λs => `(Lean.Parser.Tactic.simpLemma| $(Lean.mkIdent s.toName):ident)
  let b:=ls.getElems.map λx=>(⟨x.raw⟩:Lean.TSyntax `Lean.Parser.Tactic.simpLemma)
  let c:=a ++ b
  `(tactic| simp only [↓reduceIte,$[$c],*])
local macro_rules | `(tactic| subst_eqs) => `(tactic| simp! [])
local macro_rules | `(tactic| and_intros) => `(tactic| exact ⟨rfl, rfl, rfl, by decide +kernel, rfl, by decide +kernel, by decide +kernel⟩)
namespace R
open PySem L2 PyProof.Rows
section
variable {P:Program} {w:World} {K:q0a} {mg:Str->Option Value} {base:Heap}
def al4:Sp:=λvs H Q _ => ∃ a b:Int,vs=[.int a,.int b]/\(a.natAbs<2 ^ 6000 \/ b.natAbs<2 ^ 6000)/\Q (.int (q0s a b)) H
abbrev J4:Stmt:=top 9
theorem X6:i7 ["one","other"] ["one","other"] (c9 J4):=by and_intros
theorem am6 {f:Addr} (d:Df K mg "common_divisor" J4 ["one","other"] f) (c_SHORT:∃ t,mg "SHORT" = some (.int 6000 t)) (n_abs:mg "abs" = none):Def P w K mg base CX0 1 "common_divisor" f ["one","other"] al4:=by
  obtain ⟨tS,c_SHORT⟩:=c_SHORT;refine d.ok (N:=["one","other"]) X6 (λvs H Q E ⟨a,b,h,_⟩=>by rw [h];rfl) (λcdv A outer s H vs Q E hr h=>?_)
  obtain ⟨a,b,rfl,hab,q⟩:=h
  refine ⟨_, (c6 (B8 (PW.pt (aI9 (j9 ac8 (ao2 PySem.F.plainAttrs_int PySem.F.slot_int_bit_length PySem.F.type_int_bit_length aa3 (pv 1)) (ar4 (v := .int 6000) rfl c_SHORT ⟨_, rfl⟩) (j1 _)) (aB3 (j9 ac8 (ao2 PySem.F.plainAttrs_int PySem.F.slot_int_bit_length PySem.F.type_int_bit_length aa3 (pv 0)) (ar4 (v := .int 6000) rfl c_SHORT ⟨_, rfl⟩) (j1 _))))) (d2 aF7) p9)
      (c6 (as6 PassesOwn.never (am0 (pv 1) (λ_=>rfl)) (d2 (aB4 (i:=0) (j:=1) rfl X6.nd rfl rfl (by decide) rfl rfl (b6 (pv 1) (b6 (g7 J6 (pv 0) (pv 1)) b8)) rfl)))
      (d2 (i5 (j8 ab1 rfl n_abs (by decide +kernel) (b6 (pv 0) b8)))))),?_⟩
  rw [show start ["one","other"] [.int a,.int b]=[some (.int a),some (.int b)] from rfl]
  have hno:¬ ((6000:Int)<Builtin.Int.intBits b/\(6000:Int)<Builtin.Int.intBits a):=by
    rintro ⟨h1,h2⟩;rcases hab with z | z
    · have:=N9 z;omega
    · have:=N9 z;omega
  have main : ∀ {D : ah6} , (∀ x : Int, ∀ y : Int, y = 0 → Int.gcd x y = Int.gcd a b → D.nx [some (.int x), some (.int y)] H) → aA0 (fun σ H_1 Q => B3 1 σ H_1 fun x H' => ∃ k, aI2 K x H' k ∧ Q k H')
      (ag8 0 1 (A3 (B3 1) (A3 (tOp (rI (λx j=>j ≠ 0) λi j=>V.int (i.fmod j)) (B3 0) (B3 1)) N4))) D [some (.int a),some (.int b)] H:=by
    intro D hD;refine aE4 (λσ H1=>H1=H/\∃ x y:Int,σ=[some (.int x),some (.int y)]/\Int.gcd x y=Int.gcd a b) (λσ _=>match σ with | [_,some (.int y)]=>y.natAbs | _=>0) ⟨rfl,a,b,rfl,rfl⟩ ?_ ?_
    · rintro σ H1 ⟨rfl,x,y,rfl,hg⟩
      simp! [aI2]
      split
      · rename_i hy
        have hy':y ≠ 0:=by simpa using hy
        exact ⟨hy',by rw [aH4];exact hg,ae5 x hy'⟩
      · rename_i hy
        have hy':y=0:=by simpa using hy
        exact hD x y hy' hg
    · intro σ H1 Q Q' hQ h
      obtain ⟨v,e1,k,e2,e3⟩:=h;exact ⟨v,e1,k,e2,hQ _ _ e3⟩
  have fin:∀ x y:Int,y=0->Int.gcd x y=Int.gcd a b->Q (.int (if x<0 then -x else x)) H:=λx y hy hg=>by
    subst hy
    have e:(if x<0 then -x else x)=(Int.gcd a b:Int):=by
      rw [<- hg,Int.gcd_zero_right]
      split <;> omega
    rw [e];exact q
  have nxt:∀ x y:Int,y=0->Int.gcd x y=Int.gcd a b->(ag7 (tCB (λxs H Q => ∃ i,xs=[V.int i]/\Q (V.int (if i<0 then -i else i)) H) (A3 (B3 0) N4)) { nx:=λx H'=>Q V.non H',rt:=Q }) [some (.int x),some (.int y)] H:=λx y hy hg=>by
    subst_eqs
    exact fin x y hy hg
  subst_eqs
  split
  · split
    · exact hno ⟨‹_›,‹_›⟩
    · exact main nxt
  · exact main nxt
def bc2 (K:q0a) (op:Rat->Rat->Rat):Sp:=λvs H Q _ => ∃ (x y:V) (p q:Rat),vs=[x,y]/\Num K H x p/\Num K H y q/\Bd6 p/\Bd6 q/\ap0 H Q (op p q)
abbrev ar2:Stmt:=top 10
theorem P7:i7 ["one","other","first","second","top","one_top","one_bottom","other_top","other_bottom"] ["one","other"] (c9 ar2):=by and_intros
theorem aU9 {f fc:Addr} (d:Df K mg "times" ar2 ["one","other"] f) (G_common_divisor:Def P w K mg base CX0 1 "common_divisor" fc ["one","other"] al4):Def P w K mg base CX0 2 "times" f ["one","other"] (bc2 K (· * ·)):=by
  refine d.ok (N:=["one","other","first","second","top","one_top","one_bottom","other_top","other_bottom"]) P7 (λvs H Q E ⟨x,y,p,q,h,_⟩=>by rw [h];rfl) (λcdv A outer s H vs Q E hr h=>?_)
  obtain ⟨x,y,p,q,rfl,⟨ap,rfl,hp⟩,⟨aq,rfl,hq⟩,bp,bq,k⟩:=h
  refine ⟨_, (c6 (F9 (pv 0) (show PG _ _ (G3 K 2 (l9 (j7 5) (l9 (j7 6) G4))) from by (refine C9 (n := 2) ?_ ?_ ?_ ?_; rfl; (refine i6 ?_ ?_ ?_; (exact (d5 (i := 5) P7.nd rfl (Or.inl rfl))); (refine i6 ?_ ?_ ?_; (exact (d5 (i := 6) P7.nd rfl (Or.inl rfl))); (exact y7); rfl); rfl); rfl; rfl)))
      (c6 (F9 (pv 1) (show PG _ _ (G3 K 2 (l9 (j7 7) (l9 (j7 8) G4))) from by (refine C9 (n:=2) ?_ ?_ ?_ ?_;rfl;(refine i6 ?_ ?_ ?_;(exact (d5 (i:=7) P7.nd rfl (Or.inl rfl)));(refine i6 ?_ ?_ ?_;(exact (d5 (i:=8) P7.nd rfl (Or.inl rfl)));(exact y7);rfl);rfl);rfl;rfl)))
      (c6 (g8 (i:=2) P7.nd rfl (Or.inl rfl) (d4 G_common_divisor hr (b6 (pv 5) (b6 (pv 8) b8)) f9))
      (c6 (g8 (i:=3) P7.nd rfl (Or.inl rfl) (d4 G_common_divisor hr (b6 (pv 7) (b6 (pv 6) b8)) f9))
      (c6 (g8 (i:=4) P7.nd rfl (Or.inl rfl) (g7 p7 (g7 E2 (pv 5) (pv 2)) (g7 E2 (pv 7) (pv 3))))
      (d2 (i5 (j3 (b6 (pv 4) (b6 (g7 p7 (g7 E2 (pv 6) (pv 3)) (g7 E2 (pv 8) (pv 2))) b8)))))))))),?_⟩
  rw [show start ["one","other","first","second","top","one_top","one_bottom","other_top","other_bottom"] [.ref ap,.ref aq]=[some (.ref ap),some (.ref aq),none,none,none,none,none,none,none] from rfl]
  simp only [ak9,ipM,aj6,ah1,ae0,B2,W6,D4,y0,V6,ae6,aj4,tSl,ai6,K5,A4,Q6,aj5,F8,T9,x4,List.map_cons,List.map_nil,Option.bind_none,Option.bind_some,Option.join_some,ag6,ai8,aj0,tOr,ai7,V3,tB,tOp,tUn,ag9,tBM,B3,tC,tCB,ag7,ad1,j7,ae7,G3,l9,G4,A3,N4,ag8,ai5,ad0,tIf,V9,V4,V8,V7,V5,L8,ai9,rI,rI0,rU,F6,N8,ae1,Q7,rEq,rNe,aj7,Z1,W8,W7,K0,Z6,Cx.nox,Cx.wish,List.getElem?_cons_zero,List.getElem?_cons_succ,List.set_cons_zero,List.set_cons_succ,Option.some.injEq,V.int.injEq,V.bl.injEq,V.ref.injEq,V.str.injEq,exists_eq_left',exists_eq_left,exists_and_left,true_and,and_true,List.cons.injEq,reduceCtorEq,Bool.false_eq_true,if_false,if_true,exists_const,↓reduceIte,tyV,List.length_cons,List.length_nil,exists_eq,List.append_nil,List.cons_append,List.nil_append,decide_eq_true_eq,not_true_eq_false,not_false_eq_true,Bool.not_eq_true',decide_eq_false_iff_not,Bool.not_true,Bool.not_false,and_assoc,false_and,false_or,or_false,al4];refine ⟨_,hp,rfl,?_⟩;simp only [ak9,ipM,aj6,ah1,ae0,B2,W6,D4,y0,V6,ae6,aj4,tSl,ai6,K5,A4,Q6,aj5,F8,T9,x4,List.map_cons,List.map_nil,Option.bind_none,Option.bind_some,Option.join_some,ag6,ai8,aj0,tOr,ai7,V3,tB,tOp,tUn,ag9,tBM,B3,tC,tCB,ag7,ad1,j7,ae7,G3,l9,G4,A3,N4,ag8,ai5,ad0,tIf,V9,V4,V8,V7,V5,L8,ai9,rI,rI0,rU,F6,N8,ae1,Q7,rEq,rNe,aj7,Z1,W8,W7,K0,Z6,Cx.nox,Cx.wish,List.getElem?_cons_zero,List.getElem?_cons_succ,List.set_cons_zero,List.set_cons_succ,Option.some.injEq,V.int.injEq,V.bl.injEq,V.ref.injEq,V.str.injEq,exists_eq_left',exists_eq_left,exists_and_left,true_and,and_true,List.cons.injEq,reduceCtorEq,Bool.false_eq_true,if_false,if_true,exists_const,↓reduceIte,tyV,List.length_cons,List.length_nil,exists_eq,List.append_nil,List.cons_append,List.nil_append,decide_eq_true_eq,not_true_eq_false,not_false_eq_true,Bool.not_eq_true',decide_eq_false_iff_not,Bool.not_true,Bool.not_false,and_assoc,false_and,false_or,or_false,t7,al4];refine ⟨_,hq,rfl,?_⟩;simp only [ak9,ipM,aj6,ah1,ae0,B2,W6,D4,y0,V6,ae6,aj4,tSl,ai6,K5,A4,Q6,aj5,F8,T9,x4,List.map_cons,List.map_nil,Option.bind_none,Option.bind_some,Option.join_some,ag6,ai8,aj0,tOr,ai7,V3,tB,tOp,tUn,ag9,tBM,B3,tC,tCB,ag7,ad1,j7,ae7,G3,l9,G4,A3,N4,ag8,ai5,ad0,tIf,V9,V4,V8,V7,V5,L8,ai9,rI,rI0,rU,F6,N8,ae1,Q7,rEq,rNe,aj7,Z1,W8,W7,K0,Z6,Cx.nox,Cx.wish,List.getElem?_cons_zero,List.getElem?_cons_succ,List.set_cons_zero,List.set_cons_succ,Option.some.injEq,V.int.injEq,V.bl.injEq,V.ref.injEq,V.str.injEq,exists_eq_left',exists_eq_left,exists_and_left,true_and,and_true,List.cons.injEq,reduceCtorEq,Bool.false_eq_true,if_false,if_true,exists_const,↓reduceIte,tyV,List.length_cons,List.length_nil,exists_eq,List.append_nil,List.cons_append,List.nil_append,decide_eq_true_eq,not_true_eq_false,not_false_eq_true,Bool.not_eq_true',decide_eq_false_iff_not,Bool.not_true,Bool.not_false,and_assoc,false_and,false_or,or_false,t7,al4];have dp:=m9 p;have dq:=m9 q;have bdp:((p.den:Int)).natAbs<2 ^ 6000:=by rw [Int.natAbs_natCast];exact bp.d
  have bdq:((q.den:Int)).natAbs<2 ^ 6000:=by rw [Int.natAbs_natCast];exact bq.d
  have p1:=J8 (t:=p.num) (b:=(q.den:Int)) ⋯;have p2:=J8 (t:=q.num) (b:=(p.den:Int)) ⋯;have l1:((Int.gcd p.num q.den:Nat):Int).natAbs<2 ^ 6000:=au5 ⋯ bdq;have l2:((Int.gcd q.num p.den:Nat):Int).natAbs<2 ^ 6000:=au5 ⋯ bdp;have v1:∀ i,av7 i ((Int.gcd p.num q.den:Nat):Int):=λi=>Y8 ⋯ (Y6 l1);have v2:∀ i,av7 i ((Int.gcd q.num p.den:Nat):Int):=λi=>Y8 ⋯ (Y6 l2);have f1:=ac2 (a:=p.num) (g:=((Int.gcd p.num q.den:Nat):Int)) ⋯ (Int.gcd_dvd_left _ _);have f2:=ac2 (a:=q.num) (g:=((Int.gcd q.num p.den:Nat):Int)) ⋯ (Int.gcd_dvd_left _ _);have f3:=ac2 (a:=p.den) (g:=((Int.gcd q.num p.den:Nat):Int)) ⋯ (Int.gcd_dvd_right _ _);have f4:=ac2 (a:=q.den) (g:=((Int.gcd p.num q.den:Nat):Int)) ⋯ (Int.gcd_dvd_right _ _);have R:=aS7 (a:=p.num) (b:=p.den) (c:=q.num) (d:=q.den) dp dq (al8 p) (al8 q) rfl rfl;refine ⟨.inr (Y6 bdq),.inr (Y6 bdp),v1 _,v2 _,L7 (Nat.lt_of_le_of_lt f1 bp.n) (Nat.lt_of_le_of_lt f2 bq.n),v2 _,v1 _,L7 (Nat.lt_of_le_of_lt f3 bdp) (Nat.lt_of_le_of_lt f4 bdq),v8,λr hr'=>?_⟩;obtain ⟨e1,e2⟩:=J9 R.1 R.2.1 (show (p.den:Int)*q.den ≠ 0 from Int.ne_of_gt (Int.mul_pos dp dq)) R.2.2;rw [<- ak5] at e1 e2;exact k r _ (c7.new hr' _) (by rw [c5];unfold t7;rw [e1,e2])
def aT1 (K:q0a):Sp:=λvs H Q _ => ∃ (x y:V) (p q:Rat),vs=[x,y]/\Num K H x p/\Num K H y q/\Bd6 p/\Bd6 q/\q ≠ 0/\ap0 H Q (p / q)
theorem ay3 (q:Rat) (h:q.num ≠ 0):(q⁻¹).num=(if q.num<0 then -(q.den:Int) else q.den)/\((q⁻¹).den:Int)=(if q.num<0 then -q.num else q.num):=by
 have dq:=m9 q;rw [Rat.inv_def]
 by_cases hs:q.num<0
 ·rw [if_pos hs,if_pos hs]
  have:=J9 (n:=-(q.den:Int)) (d:=-q.num) (t:=(q.den:Int)) (b:=q.num) ⋯ (by rw [Int.gcd_neg,Int.neg_gcd,u0s];exact al8 q) h (by rw [Int.neg_mul,m0b])
  exact ⟨this.1.symm,this.2.symm⟩
 ·rw [if_neg hs,if_neg hs]
  have:=J9 (n:=(q.den:Int)) (d:=q.num) (t:=(q.den:Int)) (b:=q.num) ⋯ (by rw [u0s];exact al8 q) h rfl
  exact ⟨this.1.symm,this.2.symm⟩
theorem aV8 {q:Rat} (h:q.num ≠ 0) (b:Bd6 q):Bd6 q⁻¹:=by
 obtain ⟨e1,e2⟩:=ay3 q h
 constructor
 ·rw [e1]
  split
  ·rw [u0y,z0b];exact b.d
  ·rw [z0b];exact b.d
 ·have:(q⁻¹).den=q.num.natAbs:=by split at e2 <;> omega
  rw [this];exact b.n
abbrev aB2:Stmt:=top 11
theorem aA5:i7 ["one","other","top","bottom"] ["one","other"] (c9 aB2):=by and_intros
theorem aZ6 {f ft:Addr} (d:Df K mg "over" aB2 ["one","other"] f) (G_times:Def P w K mg base CX0 2 "times" ft ["one","other"] (bc2 K (· * ·))):Def P w K mg base CX0 3 "over" f ["one","other"] (aT1 K):=by
  refine d.ok (N:=["one","other","top","bottom"]) aA5 (by rintro vs H Q E ⟨x,y,p,q,h,_⟩;rw [h];rfl) (λcdv A outer s H vs Q E hr h=>?_)
  obtain ⟨x,y,p,q,rfl,⟨ap,rfl,hp⟩,⟨aq,rfl,hq⟩,bp,bq,hq0,k⟩:=h
  refine ⟨_, (c6 (F9 (pv 1) (show PG _ _ (G3 K 2 (l9 (j7 2) (l9 (j7 3) G4))) from by (refine C9 (n := 2) ?_ ?_ ?_ ?_; rfl; (refine i6 ?_ ?_ ?_; (exact (d5 (i := 2) aA5.nd rfl (Or.inl rfl))); (refine i6 ?_ ?_ ?_; (exact (d5 (i := 3) aA5.nd rfl (Or.inl rfl))); (exact y7); rfl); rfl); rfl; rfl)))
      (c6 (B8 (j9 S9 (pv 2) b9 (j1 _)) (d2 aF7) p9)
      (c6 (B8 (j9 ac7 (pv 2) b9 (j1 _)) (d2 (i5 (d4 G_times hr (b6 (pv 0) (b6 (j3 (b6 (ax8 an7 (pv 3)) (b6 (ax8 an7 (pv 2)) b8))) b8)) f9))) p9)
      (d2 (i5 (d4 G_times hr (b6 (pv 0) (b6 (j3 (b6 (pv 3) (b6 (pv 2) b8))) b8)) f9)))))),?_⟩
  rw [show start ["one","other","top","bottom"] [.ref ap,.ref aq]=[some (.ref ap),some (.ref aq),none,none] from rfl]
  simp only [ak9,ipM,aj6,ah1,ae0,B2,W6,D4,y0,V6,ae6,aj4,tSl,ai6,K5,A4,Q6,aj5,F8,T9,x4,List.map_cons,List.map_nil,Option.bind_none,Option.bind_some,Option.join_some,ag6,ai8,aj0,tOr,ai7,V3,tB,tOp,tUn,ag9,tBM,B3,tC,tCB,ag7,ad1,j7,ae7,G3,l9,G4,A3,N4,ag8,ai5,ad0,tIf,V9,V4,V8,V7,V5,L8,ai9,rI,rI0,rU,F6,N8,ae1,Q7,rEq,rNe,aj7,Z1,W8,W7,K0,Z6,Cx.nox,Cx.wish,List.getElem?_cons_zero,List.getElem?_cons_succ,List.set_cons_zero,List.set_cons_succ,Option.some.injEq,V.int.injEq,V.bl.injEq,V.ref.injEq,V.str.injEq,exists_eq_left',exists_eq_left,exists_and_left,true_and,and_true,List.cons.injEq,reduceCtorEq,Bool.false_eq_true,if_false,if_true,exists_const,↓reduceIte,tyV,List.length_cons,List.length_nil,exists_eq,List.append_nil,List.cons_append,List.nil_append,decide_eq_true_eq,not_true_eq_false,not_false_eq_true,Bool.not_eq_true',decide_eq_false_iff_not,Bool.not_true,Bool.not_false,and_assoc,false_and,false_or,or_false,aA3];refine ⟨_,hq,rfl,?_⟩;simp only [ak9,ipM,aj6,ah1,ae0,B2,W6,D4,y0,V6,ae6,aj4,tSl,ai6,K5,A4,Q6,aj5,F8,T9,x4,List.map_cons,List.map_nil,Option.bind_none,Option.bind_some,Option.join_some,ag6,ai8,aj0,tOr,ai7,V3,tB,tOp,tUn,ag9,tBM,B3,tC,tCB,ag7,ad1,j7,ae7,G3,l9,G4,A3,N4,ag8,ai5,ad0,tIf,V9,V4,V8,V7,V5,L8,ai9,rI,rI0,rU,F6,N8,ae1,Q7,rEq,rNe,aj7,Z1,W8,W7,K0,Z6,Cx.nox,Cx.wish,List.getElem?_cons_zero,List.getElem?_cons_succ,List.set_cons_zero,List.set_cons_succ,Option.some.injEq,V.int.injEq,V.bl.injEq,V.ref.injEq,V.str.injEq,exists_eq_left',exists_eq_left,exists_and_left,true_and,and_true,List.cons.injEq,reduceCtorEq,Bool.false_eq_true,if_false,if_true,exists_const,↓reduceIte,tyV,List.length_cons,List.length_nil,exists_eq,List.append_nil,List.cons_append,List.nil_append,decide_eq_true_eq,not_true_eq_false,not_false_eq_true,Bool.not_eq_true',decide_eq_false_iff_not,Bool.not_true,Bool.not_false,and_assoc,false_and,false_or,or_false,t7,aA3];have h0:q.num ≠ 0:=λz=>hq0 (W5.mp z);rw [if_neg h0];obtain ⟨i1,i2⟩:=ay3 q h0;rw [Rat.div_def] at k
  by_cases hs:q.num<0
  · rw [if_pos hs] at i1 i2 ⊢
    refine ⟨v8,λr hr'=>⟨.ref ap,.ref r,p,q⁻¹,rfl,⟨ap,rfl,(c7.new hr' _).tup hp⟩,⟨r,rfl,SqT.of (by rw [c5];unfold t7;rw [i1,i2])⟩,bp,aV8 h0 bq,λr2 H2 s2 h2=>?_⟩⟩
    exact k r2 H2 ((c7.new hr' _).trans s2) h2
  · rw [if_neg hs] at i1 i2 ⊢
    refine ⟨v8,λr hr'=>⟨.ref ap,.ref r,p,q⁻¹,rfl,⟨ap,rfl,(c7.new hr' _).tup hp⟩,⟨r,rfl,SqT.of (by rw [c5];unfold t7;rw [i1,i2])⟩,bp,aV8 h0 bq,λr2 H2 s2 h2=>?_⟩⟩
    exact k r2 H2 ((c7.new hr' _).trans s2) h2
instance {K:q0a} {H:Hp} {vs:List V} {qs:List Rat}:Coe (t5 H vs qs) (M3 K H vs qs):=⟨t5.toC⟩
def af8 (K:q0a):Sp:=λvs H Q _ => ∃ a ws,vs=[.ref a]/\SqL K H a (ws.map V.int)/\(∀ w ∈ ws,j0s w<2 ^ 6000)/\Q (.int (E9 ws)) H
abbrev U0:Stmt:=top 14
theorem O8:i7 ["wholes","content","whole"] ["wholes"] (c9 U0):=by and_intros
theorem aw3 {f fc:Addr} (d:Df K mg "content_of" U0 ["wholes"] f) (G_common_divisor:Def P w K mg base CX0 1 "common_divisor" fc ["one","other"] al4):Def P w K mg base CX0 2 "content_of" f ["wholes"] (af8 K):=by
 refine d.ok (N:=["wholes","content","whole"]) O8 (by rintro vs H Q E ⟨a,b,h,_⟩;rw [h];rfl) (λcdv A outer s H vs Q E hr h=>?_)
 obtain ⟨a,ws,rfl,hS,hb,k⟩:=h
 refine ⟨_,(c6 (g8 (i:=1) O8.nd rfl (q0w rfl) b9)
   (c6 (K2 PassesOwn.never rfl (r6 (pv 0)) (d5 (i:=2) O8.nd rfl (q0w rfl)) (c6 (g8 (i:=1) O8.nd rfl (q0w rfl) (d4 G_common_divisor hr (b6 (pv 2) (b6 (pv 1) b8)) f9))
   (d2 (B8 (j9 S9 (pv 1) b9 (j1 _)) (d2 (i5 b9)) p9))))
   (d2 (i5 (pv 1))))),?_⟩
 rw [show start ["wholes","content","whole"] [.ref a]=[some (.ref a),none,none] from rfl]
 subst_eqs
 refine ⟨_,rfl,a,rfl,⟨_,hS⟩,aa6 (xs:=ws.map V.int) (λi σ H1=>H1=H/\∃ o,σ=[some (.ref a),some (.int (E9 (ws.take i):Nat)),o]) ⟨rfl,_,rfl⟩ (λi σ H1 _ ⟨e,_⟩=>e ▸ hS) ?_ ?_⟩
 ·rintro i x σ H1 hx ⟨rfl,o,rfl⟩
  rw [q0q] at hx
  cases hw:ws[i]? with
  | none=>rw [hw] at hx;cases hx
  | some v =>
   rw [hw] at hx
   cases hx
   have hm:=q0h hw
   simp! [al4]
   have es:ws.take (i+1)=ws.take i ++ [v]:=by rw [u0d,hw];rfl
   have eg:q0s v (E9 (ws.take i):Int)=E9 (ws.take (i+1)):=by rw [es,aQ6]
   refine ⟨.inl (q0b (hb v hm) (d6 (by decide))),?_⟩
   rw [eg];refine ⟨rfl,F2 (λh1=>?_) (λ_=>?_)⟩
   ·have:E9 (ws.take (i+1))=1:=⋯
    have e1:=aW5 _ this;rw [e1] at k;exact k
   ·exact ⟨rfl,_,rfl⟩
 ·rintro σ H1 ⟨rfl,o,rfl⟩
  rw [q0d,y0g];exact ⟨_,rfl,k⟩
def Z8 (K:q0a):Sp:=λvs H Q _ => ∃ a xs qs,vs=[.ref a]/\SqL K H a xs/\M3 K H xs qs/\(∃ W:Nat,ClN W qs/\W<=6000)/\qs.length<=100 /\
 ∀ r l H',c7 H H'->H l=none->H' r=some (.tup [.ref l,.int (k9 qs)])->H' l=some (.lst ((j2 (k9 qs) qs).map V.int))->Q (.ref r) H'
abbrev aa1:Stmt:=top 15
theorem ab3:i7 ["numbers","bottom","number"] ["numbers"] (c9 aa1):=by and_intros
theorem aJ3 {f fc:Addr} (d:Df K mg "cleared" aa1 ["numbers"] f) (G_common_divisor:Def P w K mg base CX0 1 "common_divisor" fc ["one","other"] al4):Def P w K mg base CX0 2 "cleared" f ["numbers"] (Z8 K):=by
 refine d.ok (N:=["numbers","bottom","number"]) ab3 (by rintro vs H Q E ⟨a,b,c,h,_⟩;rw [h];rfl) (λcdv A outer s H vs Q E hr h=>?_)
 obtain ⟨a,xs,qs,rfl,hS,hN,⟨W,hs,hm⟩,hl,k⟩:=h
 refine ⟨_,(c6 (g8 (i:=1) ab3.nd rfl (z0v rfl) b9)
   (c6 (K2 PassesOwn.never rfl (r6 (pv 0)) (d5 (i:=2) ab3.nd rfl (q0w rfl)) (d2 (g8 (i:=1) ab3.nd rfl (z0v rfl) (g7 p7 (g7 E2 (pv 1) (d4 G_common_divisor hr (b6 (pv 1) (b6 (j4 l6 (pv 2) b9 (λ_ _=>rfl)) b8)) f9)) (j4 l6 (pv 2) b9 (λ_ _=>rfl))))))
   (d2 (i5 (j3 (b6 (t8 (Nc:=["bottom","top","under"]) (caps:=[some 1,none,none]) rfl (G2.of (osc:=c9 aa1) (N:=["numbers","bottom","number"]) (ks:=["bottom"]) rfl rfl rfl rfl (i8 rfl j6) (by decide +kernel)) (r6 (pv 0)) (λC s₂ H₂ fp pins=>(show PG _ _ (G3 K 2 (l9 (j7 1) (l9 (j7 2) G4))) from by (refine C9 (n:=2) ?_ ?_ ?_ ?_;rfl;(refine i6 ?_ ?_ ?_;(exact (d5 (i:=1) (show z0j (["bottom","top","under"]:List Str) by decide +kernel) rfl (q0w rfl) (z0v rfl)));(refine i6 ?_ ?_ ?_;(exact (d5 (i:=2) (show z0j (["bottom","top","under"]:List Str) by decide +kernel) rfl (q0w rfl) (z0v rfl)));(exact y7);rfl);rfl);rfl;rfl))) (λC s₂ H₂ fp pins=>(g7 p7 (pv 1) (g7 E2 (pv 0) (pv 2))))) (b6 (pv 1) b8))))))),?_⟩
 rw [show start ["numbers","bottom","number"] [.ref a]=[some (.ref a),none,none] from rfl]
 subst_eqs
 have small:∀ q ∈ qs,q.den<2 ^ 6000:=λq hq=>q0b (hs.den hq) (d6 hm)
 have hB:∀ i,0<k9 (qs.take i)/\k9 (qs.take i)<2 ^ 6000:=λi=>by
  exact ⟨G1 _,q0b (hs.take i) (d6 hm)⟩
 refine ⟨_,rfl,a,rfl,⟨_,hS⟩,aa6 (xs:=xs) (λi σ H1=>H1=H/\∃ o,σ=[some (.ref a),some (.int (k9 (qs.take i):Nat)),o]) ⟨rfl,_,rfl⟩ (λi σ H1 _ ⟨e,_⟩=>e ▸ hS) ?_ ?_⟩
 ·rintro i x σ H1 hx ⟨rfl,o,rfl⟩
  obtain ⟨p,q,rfl,hq,hp⟩:=hN.getV hx;obtain ⟨b1,b2⟩:=hB i;have hd:=small q (q0h hq);have hd0:=m9 q;have es:qs.take (i+1)=qs.take i ++ [q]:=by rw [u0d,hq];rfl
  have gp:(0:Int)<(q0s (k9 (qs.take i):Int) (q.den:Int):Nat):=by
   have:=J8 (t:=(k9 (qs.take i):Int)) (b:=(q.den:Int)) ⋯;omega
  have el:(k9 (qs.take i):Int).fdiv (q0s (k9 (qs.take i):Int) (q.den:Int):Nat)*(q.den:Int)=(k9 (qs.take (i+1)):Nat):=by
   rw [es,aQ1];obtain ⟨e,he⟩:=j0c (k9 (qs.take i):Int) (q.den:Int);have hg:q0s (k9 (qs.take i):Int) (q.den:Int)=Nat.gcd (k9 (qs.take i)) q.den:=by simp [q0s]
   have h1:(k9 (qs.take i):Int).fdiv (q0s (k9 (qs.take i):Int) (q.den:Int):Nat)=e:=by
    conv=>lhs;arg 1;rw [he]
    exact j5 ⋯
   rw [h1];have h2:Nat.gcd (k9 (qs.take i)) q.den*u0n (k9 (qs.take i)) q.den=k9 (qs.take i)*q.den:=Nat.gcd_mul_lcm _ _
   have h3:((Nat.gcd (k9 (qs.take i)) q.den:Nat):Int)*(u0n (k9 (qs.take i)) q.den:Nat)=(k9 (qs.take i):Int)*(q.den:Int):=by
    rw [<- j0e,h2,j0e]
   rw [<- hg] at h3
   have h4:((q0s (k9 (qs.take i):Int) (q.den:Int):Nat):Int)*(e*q.den)=((q0s (k9 (qs.take i):Int) (q.den:Int):Nat):Int)*(u0n (k9 (qs.take i)) q.den:Nat):=by
    rw [h3,<- m0s,<- he]
   exact Int.eq_of_mul_eq_mul_left ⋯ h4
  simp! [al4]
  have hd9:(q.den:Int).natAbs<2 ^ 6000:=by rw [z0b];exact hd
  exact ⟨_,hp.sqt,_,at1 q,_,rfl,.inr (Y6 hd9),Y8 ⋯ (au5 ⋯ (Y6 hd9)),_,hp.sqt,_,at1 q,_,rfl,L7 (m:=6000) (n:=6000) (q0t (ac2 ⋯ (j0c _ _)) (by rw [z0b];exact b2)) hd9,el,_,rfl⟩
 ·rintro σ H1 ⟨rfl,o,rfl⟩
  rw [<- hN.length] at hl;have e1:qs.take xs.length=qs:=by rw [hN.length,y0g]
  rw [e1]
  simp! [al4]
  refine ⟨⟨_,hS⟩,λD hD=>?_⟩;refine y9 xs (λi σ H2 => ∃ o1 o2,σ=[some (.int (k9 qs)),o1,o2]/\c7 H1 H2/\H2 D=some (.lst ((j2 (k9 qs) (qs.take i)).map V.int))) ⟨_,_,rfl,c7.new hD _,c5⟩ (λi σ H2 _ ⟨_,_,_,s2,_⟩=>s2.seq hS) ?_ ?_
  ·rintro i x σ H2 hx ⟨o1,o2,rfl,s2,e2⟩
   have hi:=(q0g.mp hx).1;obtain ⟨p,q,rfl,hq,hp⟩:=hN.getV hx;have hd:=small q (q0h hq);have hd0:=m9 q;have hd9:(q.den:Int).natAbs<2 ^ 6000:=by rw [z0b];exact hd
   have hn9:=hs.num (q0h hq);have es:qs.take (i+1)=qs.take i ++ [q]:=by rw [u0d,hq];rfl
   subst_eqs
   refine ⟨_,s2.tup hp.sqt,rfl,_,_,rfl,_,_,rfl,rfl,?_⟩;refine ⟨_,rfl,Y8 ⋯ (Y6 hd9),_,rfl,L7 (m:=6000) (n:=6000) (q0b hn9 (d6 ⋯)) (q0t (ac2 ⋯ (j0a.mpr (M8 (q0h hq)))) (by rw [z0b];have:=(hB qs.length).2;rwa [y0g] at this)),?_⟩
   refine o0.mk hi e2 ?_ ⟨_,_,rfl,(s2.trans (c7.refl _)).over hD _,?_⟩
   ·simp only [q0d,j2,q0x]
    exact q0t (show _<=100 by omega) (by decide)
   ·rw [c5,es]
    simp [j2]
  ·rintro σ H2 ⟨o1,o2,rfl,s2,e2⟩
   rw [e1] at e2;refine ⟨v8,λp hp=>k p D _ (s2.trans (c7.new hp _)) hD c5 ?_⟩;rw [g9 (i9 e2 hp)];exact e2
def aE7 (K:q0a):Sp:=λvs H Q _ => ∃ (a:Addr) (ts:List Addr) (M:List (List Rat)),vs=[.ref a]/\H a=some (.lst (ts.map V.ref))/\Rws H ts M/\(∀ L ∈ M,L.length=M.length)/\M.length<=8/\O6 H Q (Y7 M M.length)
abbrev ad9:Stmt:=top 22
theorem aO8:i7 ["table"] ["table"] (c9 ad9):=by and_intros
abbrev G8:Stmt:=top 47
theorem aq4:i7 ["_law_table"] ["_law_table"] (c9 G8):=by and_intros
theorem aq8 {f:Addr} (d:Df K mg "_law_flipped" G8 ["_law_table"] f) (n_range:mg "range" = none) (n_len:mg "len" = none):Def P w K mg base CX0 1 "_law_flipped" f ["_law_table"] (aE7 K):=by
 refine d.ok (N:=["_law_table"]) aq4 (by rintro vs H Q E ⟨_,_,_,h,_⟩;rw [h];rfl) (λcdv A outer s H vs Q E hr h=>?_)
 obtain ⟨a,ts,M,rfl,ha,hR,hM,hl,k⟩:=h;refine ⟨_,(d2 (i5 (aa2 (Nc:=["_law_table","_law_j"]) (caps:=[some 0,none]) rfl (ac9.of (osc:=c9 G8) (N:=["_law_table"]) (ks:=["_law_table"]) rfl rfl rfl rfl (i8 rfl j6) (by decide +kernel)) (y3 rfl n_range (b6 (j8 k0 rfl n_len (by decide +kernel) (b6 (pv 0) b8)) b8)) (λC s₂ H₂ fp pins=>(d5 (i:=1) (show z0j (["_law_table","_law_j"]:List Str) by decide +kernel) rfl (z0v rfl) (q0w rfl))) (λC s₂ H₂ fp pins=>(t8 (Nc:=["_law_j","_law_row"]) (caps:=[some 1,none]) rfl (G2.of (osc:=_) (N:=["_law_table","_law_j"]) (ks:=["_law_j"]) rfl rfl rfl rfl (i8 rfl j6) (by kernel_rfl)) (show PI _ _ _ (K0 K _) from by exact (r6 (pv 0))) (λC s₂ H₂ fp pins=>(d5 (i:=1) (show z0j (["_law_j","_law_row"]:List Str) by decide +kernel) rfl (q0w rfl) (z0v rfl))) (λC s₂ H₂ fp pins=>(j4 (by exact t9:IxR _ (N8 K)) (pv 1) (pv 0) (λ_ _=>rfl)))))))),?_⟩
 rw [show start ["_law_table"] [.ref a]=[some (.ref a)] from rfl]
 subst_eqs
 have hRl:=hR.length;refine ⟨_,.inl (SqL.of ha),⋯,by rw [q0d];omega,λD hD=>?_⟩
 refine I0 (λi σ H2 => ∃ o,σ=[some (.ref a),o]/\t6 H D ((Y7 M M.length).take i) H2) ⟨_,rfl,t6.start hD⟩ ?_ ?_
 ·rintro i σ H2 hi ⟨o,rfl,T⟩
  subst_eqs
  have ha2:=T.same _ _ ha;have hi':i<M.length:=by rw [q0d] at hi;omega
  refine ⟨⟨_,SqL.of ha2⟩,λD2 hD2=>?_⟩;refine y9 (ts.map V.ref) (λj σ H3 => ∃ o,σ=[some (.int (0+i)),o]/\E6 H2 D2 ((av5 M i).take j) H3) ⟨_,rfl,E6.start hD2⟩ (λj σ H3 _ ⟨_,_,R⟩=>SqL.of (R.same _ _ ha2)) ?_ ?_
  ·rintro j x σ H3 hx ⟨o,rfl,R⟩
   obtain ⟨t,ht,rfl⟩:=A1 hx;obtain ⟨xs,L,hL,et,nt⟩:=hR.get ht
   subst_eqs
   have hLl:L.length=M.length:=hM L (q0h hL);have hq:L[i]? = some L[i]:=q0c ⋯;obtain ⟨p,hp,ep⟩:=nt.get hq;have S:=T.same.trans R.same;refine ⟨xs,SqL.of (S _ _ et),_,by rw [Int.zero_add,C7];exact hp,?_⟩
   have hj:=(q0g.mp hx).1;obtain ⟨ys,eD,yl,R'⟩:=R.add hD2 (λb o h=>h) (S _ _ ep);refine o0.mk hj eD (p8 (by rw [yl,q0x,ar8];omega)) ⟨_,rfl,?_⟩
   rw [d7 (l:=av5 M i) (x:=L[i]) (by unfold av5;rw [q0q,hL];simp only [Option.map_some,hq,Option.getD_some])]
   exact R'
  ·rintro σ H3 ⟨o,rfl,R⟩
   rw [k7 (by rw [q0d,ar8];omega)] at R
   obtain ⟨ys,eD,yl,T'⟩:=T.add hD hD2 R;refine o0.mk hi eD (p8 (by rw [yl,q0x,aa7];omega)) ⟨_,rfl,?_⟩
   rw [d7 (aW6 hi')];exact T'
 ·rintro σ H2 ⟨o,rfl,T⟩
  rw [k7 (by rw [aa7,q0d];omega)] at T
  exact T.res k hD
def ar1:Sp:=λvs H Q _ => ∃ n:Nat,vs=[.int n]/\n<=8/\O6 H Q (M1 n)
abbrev Q3:Stmt:=top 46
theorem aA6:i7 ["_law_n"] ["_law_n"] (c9 Q3):=by and_intros
theorem aB9 {f:Addr} (d:Df K mg "_law_unit" Q3 ["_law_n"] f) (n_range:mg "range" = none) (n_int:mg "int" = none):Def P w K mg base CX0 1 "_law_unit" f ["_law_n"] ar1:=by
 refine d.ok (N:=["_law_n"]) aA6 (by rintro vs H Q E ⟨_,h,_⟩;rw [h];rfl) (λcdv A outer s H vs Q E hr h=>?_)
 obtain ⟨n,rfl,hn,k⟩:=h;refine ⟨_,(d2 (i5 (aa2 (Nc:=["_law_n","_law_i"]) (caps:=[some 0,none]) rfl (ac9.of (osc:=c9 Q3) (N:=["_law_n"]) (ks:=["_law_n"]) rfl rfl rfl rfl (i8 rfl j6) (by decide +kernel)) (y3 rfl n_range (b6 (pv 0) b8)) (λC s₂ H₂ fp pins=>(d5 (i:=1) (show z0j (["_law_n","_law_i"]:List Str) by decide +kernel) rfl (z0v rfl) (q0w rfl))) (λC s₂ H₂ fp pins=>(t8 (Nc:=["_law_i","_law_j"]) (caps:=[some 1,none]) rfl (G2.of (osc:=_) (N:=["_law_n","_law_i"]) (ks:=["_law_i"]) rfl rfl rfl rfl (i8 rfl j6) (by kernel_rfl)) (y3 rfl n_range (b6 (pv 0) b8)) (λC s₂ H₂ fp pins=>(d5 (i:=1) (show z0j (["_law_i","_law_j"]:List Str) by decide +kernel) rfl (q0w rfl) (z0v rfl))) (λC s₂ H₂ fp pins=>(j3 (b6 (w4 C2 rfl n_int (by decide +kernel) (b6 (B6 S9 (pv 0) (pv 1) (j1 _)) b8)) (b6 b9 b8))))))))),?_⟩
 rw [show start ["_law_n"] [.int n]=[some (.int n)] from rfl]
 subst_eqs
 refine ⟨⋯,⋯,λD hD=>?_⟩;refine I0 (λi σ H2 => ∃ o,σ=[some (.int n),o]/\t6 H D ((M1 n).take i) H2) ⟨_,rfl,t6.start hD⟩ ?_ ?_
 ·rintro i σ H2 hi ⟨o,rfl,T⟩
  subst_eqs
  have hi':i<n:=⋯;refine ⟨⋯,⋯,λD2 hD2=>?_⟩;refine I0 (λj σ H3 => ∃ o,σ=[some (.int (0+i)),o]/\E6 H2 D2 (((z0q n).map λj=>if i=j then (1:Rat) else 0).take j) H3) ⟨_,rfl,E6.start hD2⟩ ?_ ?_
  ·rintro j σ H3 hj ⟨o,rfl,R⟩
   have hj':j<n:=⋯
   subst_eqs
   refine ⟨rfl,v8,λp hp=>?_⟩
   have e:upd H3 p (HO.tup [V.int (if (0:Int) + ↑i=0 + ↑j then 1 else 0),V.int 1]) p=some (.tup (t7 (if i=j then (1:Rat) else 0))):=by
    rw [c5]
    by_cases h:i=j
    ·rw [if_pos ⋯,if_pos h];rfl
    ·rw [if_neg ⋯,if_neg h];rfl
   obtain ⟨ys,eD,yl,R'⟩:=R.add hD2 (c7.new hp _) e;refine o0.mk hj eD (p8 (by rw [yl,q0x];omega)) ⟨_,rfl,?_⟩
   rw [d7 (l:=(z0q n).map λj=>if i=j then (1:Rat) else 0) (x:=if i=j then (1:Rat) else 0) (by rw [q0q,ab9 hj'];rfl)]
   exact R'
  ·rintro σ H3 ⟨o,rfl,R⟩
   rw [k7 (by simp)] at R
   obtain ⟨ys,eD,yl,T'⟩:=T.add hD hD2 R;refine o0.mk hi eD (p8 (by rw [yl,q0x];omega)) ⟨_,rfl,?_⟩
   rw [d7 (aS3 hi')];exact T'
 ·rintro σ H2 ⟨o,rfl,T⟩
  rw [k7 (by simp [M1])] at T
  exact T.res k hD
end
def hc (a:Nat->Rat) (i j:Nat):Rat:=if (i+j) % 2=1 then a i*a j else 0
def hf (a:Nat->Rat):Nat->Nat->Rat
 | 0,j=>hc a 0 (j+1)
 | i+1,j=>hc a (i+1) (j+1)-hf a i (j+1)
def pw (x:Rat):Nat->Rat
 | 0=>1
 | i+1=>pw x i*x
theorem J1 (c:Rat) (f:Nat->Rat):∀ n,c*i4 f n=i4 (λi=>c*f i) n
 | 0=>by simp [i4]
 | n+1=>by rw [i4,i4,<- J1 c f n];grind
theorem af5 (f g:Nat->Rat):∀ n,i4 f n+i4 g n=i4 (λi=>f i+g i) n
 | 0=>by simp [i4];grind
 | n+1=>by rw [i4,i4,i4,<- af5 f g n];grind
def hR (a:Nat->Rat) (n i:Nat) (y:Rat):Rat:=i4 (λj=>hf a i j*pw y j) n
def hC (a:Nat->Rat) (n i:Nat) (y:Rat):Rat:=i4 (λj=>hc a i j*pw y j) (n+1)
def sg (i:Nat):Rat:=if i % 2=0 then 1 else -1
def OvB (B W:Nat) (q:Rat):Prop:=∃ v:Int,q=z0a v B/\v.natAbs<2 ^ W
theorem OvB.mono {B V W:Nat} {q:Rat} (h:OvB B V q) (l:V<=W):OvB B W q:=let ⟨v,e,b⟩:=h;⟨v,e,q0b b (d6 l)⟩
theorem OvB.zero (B W:Nat):OvB B W 0:=⟨0,by rw [Rat.zero_divInt],v0t _⟩
theorem aU5 {W:Nat} {qs:List Rat} (h:ClN W qs) {q:Rat} (hq:q ∈ qs):OvB (k9 qs) W q :=
 ⟨_,ar9 (G1 qs) (M8 hq),h.w _ (z0g.mpr ⟨q,hq,rfl⟩)⟩
theorem OvB.mul {B C V W:Nat} {p q:Rat} (h:OvB B V p) (k:OvB C W q):OvB (B*C) (V+W) (p*q):=by
 obtain ⟨v,rfl,b⟩:=h;obtain ⟨u,rfl,c⟩:=k;refine ⟨v*u,by rw [j0q,j0e],?_⟩
 rw [z0p,z0w];exact z0h b c
theorem OvB.neg {B W:Nat} {q:Rat} (h:OvB B W q):OvB B W (-q):=by
 obtain ⟨v,rfl,b⟩:=h;exact ⟨-v,by rw [Rat.neg_divInt],by rw [u0y];exact b⟩
theorem OvB.add {B W:Nat} (hB:0<B) {p q:Rat} (h:OvB B W p) (k:OvB B W q):OvB B (W+1) (p+q):=by
 obtain ⟨v,rfl,b⟩:=h;obtain ⟨u,rfl,c⟩:=k;refine ⟨v+u,?_,?_⟩
 ·have hz:(B:Int) ≠ 0:=⋯
  rw [m0k _ _ hz hz];refine (y0a (g0u hz hz) hz).mpr ?_
  grind
 ·have:=Int.natAbs_add_le v u
  rw [q1a];omega
theorem OvB.sub {B W:Nat} (hB:0<B) {p q:Rat} (h:OvB B W p) (k:OvB B W q):OvB B (W+1) (p-q):=by
 rw [show p-q=p + -q by grind]
 exact h.add hB k.neg
theorem OvB.bdN {B W:Nat} (hB:0<B) (hW:B<2 ^ W) {q:Rat} (h:OvB B W q):BdN W q:=by
 obtain ⟨v,rfl,b⟩:=h;have:=O0 (t:=v) (b:=(B:Int)) ⋯;rw [z0b] at this;exact ⟨q0t this.1 b,q0t this.2 hW⟩
theorem aR2 (x y:Rat) (p q:List Rat):M7 (x :: p) (y :: q)=x*y+M7 p q:=by
 unfold M7;rw [m0e,j0z,ay6];grind
theorem aM1 {B C V W:Nat} (hB:0<B) (hC:0<C):∀ {p q:List Rat},(∀ x ∈ p,OvB B V x)->(∀ x ∈ q,OvB C W x)->OvB (B*C) (V+W+p.length) (M7 p q)
 | [],q,_,_=>by simp only [M7,List.zipWith_nil_left,List.foldl_nil];exact OvB.zero _ _
 | x :: p,[],_,_=>by simp only [M7,List.zipWith_nil_right,List.foldl_nil];exact OvB.zero _ _
 | x :: p,y :: q,h,k=>by
  rw [aR2];have ih:=aM1 hB hC (p:=p) (q:=q) (λa ha=>h a (q0p _ ha)) (λa ha=>k a (q0p _ ha));have h1:=(h x q0u).mul (k y q0u);exact ((h1.mono ⋯).add (z0z hB hC) ih).mono (by rw [z0n];omega)
def aQ (qs:List Rat) (k:Nat):Rat:=(qs[k]?).getD 0
def aZ (ws:List Int) (k:Nat):Int:=(ws[k]?).getD 0
theorem aX7 (s:Rat) (ws:List Int):aQ (scl s ws)=λk=>s*(aZ ws k:Rat):=by
 funext k
 unfold aQ aZ scl;rw [q0q]
 cases ws[k]? with
 | none=>simp [Rat.intCast_zero]
 | some v=>simp
theorem bj4 {ws:List Int} {W:Nat} (h:∀ v ∈ ws,j0s v<2 ^ W):∀ k,(aZ ws k).natAbs<2 ^ W:=λk=>by
 unfold aZ
 cases q:ws[k]? with
 | none=>exact v0t _
 | some v=>exact h v (q0h q)
def bd5:List D->Bool
 | [.v (.int _),.v (.int _),.v (.int _)]=>true
 | _=>false
mutual
def noW:D->Bool
 | .v _=>true
 | .tup ds=>be9 ds
 | .lst ds => !bd5 ds && be9 ds
def be9:List D->Bool
 | []=>true
 | d :: ds=>noW d && be9 ds
end
mutual
def smD (m:Nat):D->Prop
 | .v (.int i)=>i.natAbs<2 ^ m
 | .v _=>True
 | .tup ds=>bd8 m ds
 | .lst ds=>bd8 m ds
def bd8 (m:Nat):List D->Prop
 | []=>True
 | d :: ds=>smD m d/\bd8 m ds
end
def N0 (p q:Rat):Bool:=decide (p.num*(q.den:Int)<q.num*(p.den:Int))
structure IsBox (B:List (Rat × Rat)):Prop where
 l2:2<=B.length
 l8:B.length<=8
 le:∀ s ∈ B,s.1<=s.2
 last:∀ s,B[B.length-1]? = some s->0<s.1
def zs (t b a:Int):List Int->List Int
 | []=>[b*a]
 | x :: r=>(b*a+t*x) :: zs t b x r
structure MidN (n:Nat) (R:List Rat):Prop where
 ex:∃ (B:Nat) (ws:List Int),0<B/\B<2 ^ (40*n+1)/\R=scl (z0a 1 B) ws/\∀ v ∈ ws,j0s v<2 ^ (41*n+1)
 len:R.length=n+1
 last:R[n]? = some 1
inductive aX9 (H:Hp):List V->List (Rat × Rat)->Prop where
 | nil:aX9 H [] []
 | cons {p a b:Addr} {s:Rat × Rat} {vs:List V} {B:List (Rat × Rat)} (h:H p=some (.tup [.ref a,.ref b])) (ha:H a=some (.tup (t7 s.1))) (hb:H b=some (.tup (t7 s.2))) (t:aX9 H vs B):aX9 H (.ref p :: vs) (s :: B)
theorem ak7 {n k:Nat} (h:k<n):ixN n (k:Int)=some k:=by
 unfold ixN;rw [if_pos ⋯]
 simp;omega
structure TbX (u:Addr) (H:Hp) (a:Addr) (ts:List Addr) (M:List (List Rat)):Prop where
 au:a ≠ u
 tu:∀ t ∈ ts,t ≠ u
 at':H a=some (.lst (ts.map V.ref))
 rws:Rws H ts M
theorem TbX.made {u r:Addr} {H H':Hp} {ts:List Addr} {M:List (List Rat)} (hu:k8 H u) (fr:H r=none) (ft:∀ t ∈ ts,H t=none/\t ≠ r) (e:H' r=some (.lst (ts.map V.ref))) (R:Rws H' ts M):TbX u H' r ts M:=⟨w5 hu fr,λt ht=>w5 hu (ft t ht).1,e,R⟩
structure LsX (u:Addr) (H:Hp) (a:Addr) (xs:List V) (qs:List Rat):Prop where
 au:a ≠ u
 at':H a=some (.lst xs)
 nums:t5 H xs qs
theorem LsX.samex {u a:Addr} {H H':Hp} {xs:List V} {qs:List Rat} (t:LsX u H a xs qs) (s:l4 u H H') (hu:k8 H u):LsX u H' a xs qs:=⟨t.au,s _ _ t.at' t.au,t.nums.mono (s.tups hu)⟩
theorem LsX.same {u a:Addr} {H H':Hp} {xs:List V} {qs:List Rat} (t:LsX u H a xs qs) (s:c7 H H'):LsX u H' a xs qs:=⟨t.au,s _ _ t.at',t.nums.mono s.tups⟩
theorem aX1 {p q:List Rat} (h:p.length=q.length) (x y:Rat):M7 (p ++ [x]) (q ++ [y])=M7 p q+x*y:=by
 unfold M7;rw [m0v h,List.foldl_append];rfl
theorem az0 (f g:Nat->Rat):∀ n,M7 ((z0q n).map f) ((z0q n).map g)=i4 (λi=>f i*g i) n
 | 0=>rfl
 | n+1=>by
  rw [g0v,j0u,j0u];simp only [z0s,v0w];rw [aX1 (by simp),az0 f g n];rfl
theorem az6 {α:Type} [Add α]:∀ (f:List α) (k:Nat) (x v:α),v ∈ Z0 f k x->v ∈ f \/ ∃ y ∈ f,v=y+x
 | [],_,_,_,h=>by cases h
 | y :: r,0,x,v,h=>by
  rcases z0r.mp h with z | z
  ·exact .inr ⟨y,q0u,z⟩
  ·exact .inl (q0p _ z)
 | y :: r,k+1,x,v,h=>by
  rcases z0r.mp h with z | z
  ·exact .inl (by rw [z];exact q0u)
  ·rcases az6 r k x v z with w | ⟨u,hu,e⟩
   ·exact .inl (q0p _ w)
   ·exact .inr ⟨u,q0p _ hu,e⟩
theorem aS0 {B W:Nat} (hB:0<B) {f:List Rat} {k:Nat} {x:Rat} (hf:∀ v ∈ f,OvB B W v) (hx:OvB B W x):∀ v ∈ Z0 f k x,OvB B (W+1) v:=λv hv=>by
 rcases az6 f k x v hv with h | ⟨y,hy,rfl⟩
 ·exact (hf v h).mono ⋯
 ·exact (hf y hy).add hB hx
def cv (f g:Nat->Rat) (k:Nat):Rat:=i4 (λi=>f i*g (k-i)) (k+1)
theorem bb7 (p q:List Rat) (k:Nat):aQ (G9 p q) k=cv (aQ p) (aQ q) k:=by
 by_cases hp:p=[]
 ·subst hp
  have:G9 [] q=[]:=by unfold G9;rw [if_pos (.inl rfl)]
  rw [this]
  symm
  exact N5 _ λi _=>by show (0:Rat)*_=0;grind
 by_cases hq:q=[]
 ·subst hq
  have:G9 p []=[]:=by unfold G9;rw [if_pos (.inr rfl)]
  rw [this]
  symm
  exact N5 _ λi _=>by show _*(0:Rat)=0;grind
 by_cases hk:k<p.length+q.length-1
 ·have:=at9 hp hq hk
  unfold aQ;rw [this];rfl
 ·have h1:aQ (G9 p q) k=0:=by
   unfold aQ;rw [z0k (by rw [am9 hp hq];omega)];rfl
  rw [h1]
  symm
  refine N5 _ λi hi=>?_
  by_cases h2:i<p.length
  ·have:aQ q (k-i)=0:=by unfold aQ;rw [z0k ⋯];rfl
   rw [this];grind
  ·have:aQ p i=0:=by unfold aQ;rw [z0k ⋯];rfl
   rw [this];grind
theorem al1 (g:Nat->Rat) (t:Nat):∀ n,i4 (λi=>if i=t then g i else 0) n=if t<n then g t else 0
 | 0=>by rw [if_neg ⋯];rfl
 | n+1=>by
  rw [i4,al1 g t n]
  by_cases h:t<n
  ·rw [if_pos h,if_neg ⋯,if_pos ⋯];grind
  ·by_cases h2:n=t
   ·rw [if_neg h,if_pos h2,if_pos ⋯,h2];grind
   ·rw [if_neg h,if_neg h2,if_neg ⋯];grind
structure IsTz (ws:List Int) (m:Nat):Prop where
 le:m<=ws.length
 zero:∀ i v,m<=i->ws[i]? = some v->v=0
 last:m ≠ 0->∀ v,ws[m-1]? = some v->v ≠ 0
theorem OvB.up {B W:Nat} {q:Rat} (h:OvB B W q) (hB:0<B) {C c:Nat} (hC:0<C) (hc:C<2 ^ c):OvB (B*C) (W+c) q:=by
 obtain ⟨v,rfl,b⟩:=h;refine ⟨v*C,?_,?_⟩
 ·rw [j0e]
  refine (y0a ⋯ (g0u ⋯ ⋯)).mpr ?_
  grind
 ·rw [z0p,z0b,z0w]
  exact z0h b hc
theorem ab0 {B W:Nat} (hB:0<B) (hW:B<2 ^ W) {qs:List Rat} (h:∀ x ∈ qs,OvB B W x):ClN W qs:=by
 have:∃ vs:List Int,qs=scl (z0a 1 B) vs/\∀ v ∈ vs,j0s v<2 ^ W:=by
  induction qs with
  | nil=>exact ⟨[],rfl,by simp⟩
  | cons q qs ih =>
   obtain ⟨vs,e,hv⟩:=ih λx hx=>h x (q0p _ hx);obtain ⟨v,e2,b⟩:=h q q0u;refine ⟨v :: vs,?_,λu hu=>?_⟩
   ·rw [e]
    show q :: _=(z0a 1 B*(v:Rat)) :: _;rw [am5,<- e2];rfl
   ·rcases z0r.mp hu with z | z
    ·rw [z];exact b
    ·exact hv u z
 obtain ⟨vs,rfl,hv⟩:=this;exact aR4 hB hW hv
theorem bf3 {qs:List Rat} {x:Rat} (h:x ∈ qs):∃ k,k<qs.length/\x=aQ qs k:=by
 obtain ⟨k,hk⟩:=j0g.mp h;refine ⟨k,(q0g.mp hk).1,?_⟩;unfold aQ;rw [hk];rfl
theorem aX8 {qs:List Rat} {P:Rat->Prop} (h0:P 0) (h:∀ x ∈ qs,P x) (k:Nat):P (aQ qs k):=by
 unfold aQ
 cases e:qs[k]? with
 | none=>exact h0
 | some v=>exact h v (q0h e)
theorem bd4:N3 ([]:List Rat) 0:=⟨q0m _,(λi q _ e=>by simp at e),λh=>absurd rfl h⟩
def bk0 (u:Addr) (H:Hp) (v:V) (ps qs:List Rat):Prop:=v=.non \/ ∃ td l1 l2 zs1 zs2 g0 g1,v=.ref td/\td ≠ u/\H td=some (.tup [.ref l1,.ref l2])/\LsX u H l1 zs1 g0/\LsX u H l2 zs2 g1/\N3 g0 g0.length/\N3 g1 g1.length/\g1.length<qs.length/\∀ k,aQ ps k=cv (aQ qs) (aQ g0) k+aQ g1 k
structure PairOk (u:Addr) (H:Hp) (ap aq:Addr) (due:V) (xs ys:List V) (ps qs:List Rat) (S W1 W2:Nat):Prop where
 lp:LsX u H ap xs ps
 lq:LsX u H aq ys qs
 tp:N3 ps ps.length
 tq:N3 qs qs.length
 q0:qs ≠ []
 c1:ClN W1 ps
 c2:ClN W2 qs
 w1:1<=W1
 w2:1<=W2
 w3:W2<=690
 t:W1+S*(W2+1)+W2<=2300
 s:ps.length+1<=qs.length+S
 pl:ps.length<=16
 ql:qs.length<=16
 due:bk0 u H due ps qs
def dl:Nat->Rat:=λk=>if k=0 then 1 else 0
theorem aB6 {B W:Nat} (hB:0<B) {f:Nat->Rat} (h:∀ i,OvB B W (f i)):∀ n,OvB B (W+n) (i4 f n)
 | 0=>OvB.zero _ _
 | n+1=>((aB6 hB h n).add hB ((h n).mono ⋯)).mono ⋯
theorem aZ8 {B C V W:Nat} (hB:0<B) (hC:0<C) {p q:List Rat} (hp:∀ x ∈ p,OvB B V x) (hq:∀ x ∈ q,OvB C W x):∀ x ∈ G9 p q,OvB (B*C) (V+W+q.length) x:=λx hx=>by
 obtain ⟨k,hk,rfl⟩:=bf3 hx;rw [aP8,bb7];unfold cv
 have hf:∀ i,OvB (B*C) (V+W) (aQ q i*aQ p (k-i)):=λi=>by
  have h1:=aX8 (P:=OvB C W) (OvB.zero _ _) hq i;have h2:=aX8 (P:=OvB B V) (OvB.zero _ _) hp (k-i);have:=h1.mul h2;rw [g0j C B,m0x W V] at this;exact this
 by_cases h:q.length<=k+1
 ·rw [ab2 h λi h1 _=>by
   have:aQ q i=0:=by unfold aQ;rw [z0k ⋯];rfl
   rw [this];grind]
  exact aB6 (z0z hB hC) hf _
 ·exact (aB6 (z0z hB hC) hf _).mono ⋯
def Dg (f:Nat->Rat) (n:Nat):Prop:=∀ k,n<=k->f k=0
structure Eu (p q A B:Nat->Rat) (lp lq la lb:Nat):Prop where
 inv:∀ m,m<la->∀ u v,Dg u (lq-m)->Dg v (lp-m)->Dg (λk=>cv u p k+cv v q k) m ->
  ∃ a b,(∀ k,cv u p k+cv v q k=cv a A k+cv b B k)/\Dg a (lb-m)/\Dg b (la-m)/\((∀ k,a k=0)->(∀ k,b k=0)->∀ k,u k=0/\v k=0)
 le:la<=max lp lq
def sgd (i:Nat):Rat:=if i % 2=0 then 1 else -1
abbrev Mt:=Nat->Nat->Rat
def mn (M:Mt) (i:Nat):Mt:=λr c=>M (if r<i then r else r+1) (c+1)
def dt:Nat->Mt->Rat
 | 0,_=>1
 | n+1,M=>i4 (λi=>sgd i*M i 0*dt n (mn M i)) (n+1)
def setR (M:Mt) (r:Nat) (v:Nat->Rat):Mt:=λi c=>if i=r then v c else M i c
def IsI (q:Rat):Prop:=∃ z:Int,q=(z:Rat)
def hz (A B:Nat->Rat):Mt:=λi c=>if c<i / 2 then 0 else if i % 2=0 then B (c-i / 2) else A (c-i / 2)
def behind (A B:Nat->Rat):Nat->Rat:=λj=>B 0*A (j+1)-A 0*B (j+1)
def hm (A B:Nat->Rat) (m:Nat):Mt:=λi c=>if i % 2=1/\i<m then B 0*hz A B i c-A 0*hz A B (i-1) c else hz A B i c
def bnd (B:Mt) (k i j:Nat):Mt:=λr c=>B (if r=k then i else r) (if c=k then j else c)
def mi (B:Mt) (k i j:Nat):Rat:=dt (k+1) (bnd B k i j)
structure Pos (n:Nat) (g:Nat->Nat->Rat):Prop where
 p:∀ i,i<=n->0<g i 0
 s:∀ i,1<=i->i<n->∀ j,g i 0*g (i-1) j=g i 0*g (i+1) (j+1)-g (i+1) 0*g i (j+1)
 l:1<=n->∀ j,g 0 0*g 1 (j+1)-g 1 0*g 0 (j+1)=0
 z:∀ i j,i<=n->i<2*j->g i j=0
inductive RwZ (H:Hp):List Addr->List (List Int)->Prop where
 | nil:RwZ H [] []
 | cons {p:Addr} {ps:List Addr} {L:List Int} {Ls:List (List Int)} (h:H p=some (.lst (L.map V.int))) (t:RwZ H ps Ls):RwZ H (p :: ps) (L :: Ls)
theorem RwZ.length {H:Hp}:∀ {ts:List Addr} {M:List (List Int)},RwZ H ts M->ts.length=M.length
 | _,_,.nil=>rfl
 | _,_,.cons _ t=>congrArg (· + 1) t.length
theorem RwZ.same {H H':Hp} (s:c7 H H'):∀ {ts:List Addr} {M:List (List Int)},RwZ H ts M->RwZ H' ts M
 | _,_,.nil=>.nil
 | _,_,.cons h t=>.cons (s _ _ h) (t.same s)
theorem RwZ.get {H:Hp}:∀ {ts:List Addr} {M:List (List Int)} {i:Nat} {p:Addr},RwZ H ts M->ts[i]? = some p->∃ L,M[i]? = some L/\H p=some (.lst (L.map V.int))
 | _,_,_,_,.nil,e=>by simp at e
 | _,_,0,_,.cons h _,e=>by cases e;exact ⟨_,rfl,h⟩
 | _,_,i+1,_,.cons _ t,e=>t.get (i:=i) (by simpa using e)
theorem RwZ.append {H:Hp}:∀ {ts us:List Addr} {M N:List (List Int)},RwZ H ts M->RwZ H us N->RwZ H (ts ++ us) (M ++ N)
 | _,_,_,_,.nil,h=>h
 | _,_,_,_,.cons h t,k=>.cons h (t.append k)
theorem RwZ.over {H:Hp} {l:Addr} {o:HO}:∀ {ts:List Addr} {M:List (List Int)},l ∉ ts->RwZ H ts M->RwZ (upd H l o) ts M
 | _,_,_,.nil=>.nil
 | _,_,n,.cons h t=>.cons (by rw [g9 (λz=>n (by rw [<- z];exact q0u))];exact h) (t.over λz=>n (q0p _ z))
def zz (M:List (List Int)) (i j:Nat):Int:=aZ ((M[i]?).getD []) j
structure Eb (n:Nat) (A B:Mt) (at':Nat) (M:List (List Int)) (dv:Int):Prop where
 len:M.length=n
 row:∀ L ∈ M,L.length=n
 ent:∀ i j,at'<=i->i<n->at'<=j->j<n->((zz M i j:Int):Rat)=mi B at' i j
 zer:∀ i j,at'<=i->i<n->j<at'->zz M i j=0
 int:∀ r c,IsI (B r c)
 det:dt n B=dt n A
 led:∀ m,1<=m->m<=at'->dt m B ≠ 0
 div:((dv:Int):Rat)=dt at' B
def Sc (W:Nat) (B:Mt):Prop:=∃ b:Nat->Int,∀ r,0<b r/\(b r).natAbs<2 ^ W/\∀ c,∃ z:Int,((b r:Int):Rat)*B r c=(z:Rat)/\z.natAbs<2 ^ W
def qq (M:List (List Rat)) (i j:Nat):Rat:=aQ ((M[i]?).getD []) j
structure Ld (W n:Nat) (A B:Mt) (sg:Rat) (k:Nat) (M:List (List Rat)) (fd:Rat):Prop where
 len:M.length=n
 row:∀ L ∈ M,L.length=n
 ent:∀ i j,k<=i->i<n->k<=j->j<n->qq M i j*dt k B=mi B k i j
 zer:∀ i j,k<=i->i<n->j<k->qq M i j=0
 sc:Sc W B
 sgn:sg=1 \/ sg=-1
 det:dt n A=sg*dt n B
 led:∀ m,1<=m->m<=k->dt m B ≠ 0
 fnd:fd=sg*dt k B
section
variable {P:Program} {w:World} {K:q0a} {mg:Str->Option Value} {base:Heap}
abbrev ab6:Stmt:=top 31
theorem P8:i7 ["_law_top","_law_bottom","_law_one","_law_other_here"] ["_law_top","_law_bottom"] (c9 ab6):=by and_intros
theorem aG5 {f:Addr} (d:Df K mg "_law_low" ab6 ["_law_top","_law_bottom"] f) (n_abs:mg "abs" = none):Def P w K mg base CX0 1 "_law_low" f ["_law_top","_law_bottom"] ap1:=by
  refine d.ok (N:=["_law_top","_law_bottom","_law_one","_law_other_here"]) P8 (λvs H Q E ⟨a,b,h,_⟩=>by rw [h];rfl) (λcdv A outer s H vs Q E hr h=>?_)
  obtain ⟨t,b,rfl,hb0,hb,k⟩:=h
  refine ⟨_, (c6 (g8 (i := 2) P8.nd rfl (Or.inl rfl) (j8 ab1 rfl n_abs (by decide +kernel) (b6 (pv 0) b8)))
      (c6 (g8 (i:=3) P8.nd rfl (Or.inl rfl) (j8 ab1 rfl n_abs (by decide +kernel) (b6 (pv 1) b8)))
      (c6 (as6 PassesOwn.never (j9 ac8 (pv 3) b9 (j1 _)) (d2 (aB4 (i:=2) (j:=3) rfl P8.nd rfl rfl (by decide) rfl rfl (b6 (pv 3) (b6 (g7 J6 (pv 2) (pv 3)) b8)) rfl)))
      (c6 (B8 (j9 ac7 (pv 1) b9 (j1 _)) (d2 (g8 (i:=2) P8.nd rfl (Or.inl rfl) (g7 M0 b9 (pv 2)))) p9)
      (d2 (i5 (j3 (b6 (g7 E2 (pv 0) (pv 2)) (b6 (g7 E2 (pv 1) (pv 2)) b8))))))))),?_⟩
  rw [show start ["_law_top","_law_bottom","_law_one","_law_other_here"] [.int t,.int b]=[some (.int t),some (.int b),none,none] from rfl]
  subst_eqs
  refine aE4 (λσ H1=>H1=H/\∃ x y:Int,σ=[some (.int t),some (.int b),some (.int x),some (.int y)]/\0<=x/\0<=y/\Int.gcd x y=Int.gcd t b) (λσ _=>match σ with | [_,_,_,some (.int y)]=>y.natAbs | _=>0)
    ⟨rfl,_,_,rfl,by split <;> omega,by split <;> omega,?_⟩ ?_ ?_
  · have e1:(if t<0 then -t else t)=(t.natAbs:Int):=by split <;> omega
    have e2:(if b<0 then -b else b)=(b.natAbs:Int):=by split <;> omega
    rw [e1,e2,Int.gcd_eq_natAbs_gcd_natAbs,Int.gcd_eq_natAbs_gcd_natAbs];simp
  · rintro σ H1 ⟨rfl,x,y,rfl,hx,hy,hg⟩
    subst_eqs
    split
    · rename_i hy0
      exact ⟨⋯,hy,Int.fmod_nonneg_of_pos x hy0,by rw [aH4];exact hg,ae5 x ⋯⟩
    · rename_i hy0
      have hy':y=0:=⋯;subst hy'
      have ex:x=(Int.gcd t b:Int):=by
        rw [Int.gcd_zero_right] at hg;omega
      have gp:=J8 (t:=t) hb0;have gl:=au5 (a:=t) hb0 hb
      by_cases hs:b<0
      · rw [if_pos hs]
        obtain ⟨e1,e2⟩:=aC9 (t:=t) (g:=0-x) hb0 (by rw [if_pos hs,ex];omega)
        have dv:∀ i,av7 i (0-x):=λi=>Y8 ⋯ (by rw [show 0-x=-x by omega,Int.natAbs_neg,ex];exact Y6 gl)
        refine ⟨dv _,dv _,v8,λr hr'=>?_⟩;exact k r _ (c7.new hr' _) (by rw [c5];unfold t7;rw [e1,e2])
      · rw [if_neg hs]
        obtain ⟨e1,e2⟩:=aC9 (t:=t) (g:=x) hb0 (by rw [if_neg hs,ex])
        have dv:∀ i,av7 i x:=λi=>Y8 ⋯ (by rw [ex];exact Y6 gl)
        refine ⟨dv _,dv _,v8,λr hr'=>?_⟩;exact k r _ (c7.new hr' _) (by rw [c5];unfold t7;rw [e1,e2])
  · intro σ H1 Q1 Q2 hQ h
    simp only [ak9,ipM,aj6,ah1,ae0,B2,W6,D4,y0,V6,ae6,aj4,tSl,ai6,K5,A4,Q6,aj5,F8,T9,x4,List.map_cons,List.map_nil,Option.bind_none,Option.bind_some,Option.join_some,ag6,ai8,aj0,tOr,ai7,V3,tB,tOp,tUn,ag9,tBM,B3,tC,tCB,ag7,ad1,j7,ae7,G3,l9,G4,A3,N4,ag8,ai5,ad0,tIf,V9,V4,V8,V7,V5,L8,ai9,rI,rI0,rU,F6,N8,ae1,Q7,rEq,rNe,aj7,Z1,W8,W7,K0,Z6,Cx.nox,Cx.wish,List.getElem?_cons_zero,List.getElem?_cons_succ,List.set_cons_zero,List.set_cons_succ,Option.some.injEq,V.int.injEq,V.bl.injEq,V.ref.injEq,V.str.injEq,exists_eq_left',exists_eq_left,exists_and_left,true_and,and_true,List.cons.injEq,reduceCtorEq,Bool.false_eq_true,if_false,if_true,exists_const,↓reduceIte,tyV,List.length_cons,List.length_nil,exists_eq,List.append_nil,List.cons_append,List.nil_append,decide_eq_true_eq,not_true_eq_false,not_false_eq_true,Bool.not_eq_true',decide_eq_false_iff_not,Bool.not_true,Bool.not_false,and_assoc,false_and,false_or,or_false] at h ⊢;obtain ⟨v,e1,i,e2,e3⟩:=h;exact ⟨v,e1,i,e2,hQ _ _ e3⟩
abbrev ab5:Stmt:=top 29
theorem M2:i7 ["_law_script","_law_at","_law_cell","_law_prime","_law_great"] ["_law_script","_law_at"] (c9 ab5):=by and_intros
theorem aG4 {f:Addr} (d:Df K mg "_law_urn" ab5 ["_law_script","_law_at"] f) (n_len:mg "len" = none) (n_abs:mg "abs" = none):Def P w K mg base CX0 1 "_law_urn" f ["_law_script","_law_at"] (bc0 K):=by
 refine d.ok (N:=["_law_script","_law_at","_law_cell","_law_prime","_law_great"]) M2 (λvs H Q E ⟨x,y,p,h,_⟩=>by rw [h];rfl) (λcdv A outer s H vs Q E hr h=>?_)
 obtain ⟨a,ns,i,rfl,hS,h0,h64,k⟩:=h
 refine ⟨_,(c6 (g8 (i:=2) M2.nd rfl (q0w rfl) b9)
   (c6 (B8 (j9 ac7 (pv 1) (j8 k0 rfl n_len (by decide +kernel) (b6 (pv 0) b8)) (j1 _)) (d2 (g8 (i:=2) M2.nd rfl (q0w rfl) (j4 t9 (pv 0) (pv 1) (λ_ _=>rfl)))) p9)
   (c6 (g8 (i:=3) M2.nd rfl (q0w rfl) (j4 l6 (j3 (b6 b9 (b6 b9 (b6 b9 (b6 b9 (b6 b9 (b6 b9 (b6 b9 (b6 b9 b8))))))))) (g7 J6 (pv 1) b9) (λ_ _=>rfl)))
   (c6 (g8 (i:=4) M2.nd rfl (q0w rfl) b9)
   (c6 (B8 (j9 bi1 (j8 ab1 rfl n_abs (by decide +kernel) (b6 (pv 2) b8)) (g7 ae3 b9 b9) (j1 _)) (d2 (g8 (i:=4) M2.nd rfl (q0w rfl) (j8 ab1 rfl n_abs (by decide +kernel) (b6 (pv 2) b8)))) p9)
   (d2 (i5 (B5 (b6 (pv 4) (b6 (g7 J6 (g7 ae3 (g7 A8 (g7 A8 (g7 J6 (pv 2) (pv 3)) (g7 p7 b9 (pv 1))) b9) b9) (pv 3)) (b6 (pv 3) b8))))))))))),?_⟩
 rw [show start ["_law_script","_law_at","_law_cell","_law_prime","_law_great"] [.ref a,.int i]=[some (.ref a),some (.int i),none,none,none] from rfl]
 refine h9 (λσ H1=>H1=H/\σ=[some (.ref a),some (.int i),some (.int 0),none,none]) (λN hN=>?_) ?_
 ·subst_eqs
  exact hN _ _ ⟨rfl,rfl⟩
 rintro σ H1 ⟨rfl,rfl⟩;refine h9 (λσ H2=>H2=H1/\∃ c:Int,σ=[some (.ref a),some (.int i),some (.int c),none,none]) (λN hN=>?_) ?_
 ·subst_eqs
  refine ⟨_,.inl hS,F2 (λhl=>?_) (λ_=>hN _ _ ⟨rfl,_,rfl⟩)⟩;obtain ⟨c,hc⟩:=aR8 (ns:=ns) h0 (by simpa using hl)
  exact ⟨_,hS,_,hc,hN _ _ ⟨rfl,c,rfl⟩⟩
 rintro σ H2 ⟨rfl,c,rfl⟩;obtain ⟨pr,hpr,p1,p2⟩:=aU0 h0;refine h9 (λσ H3=>c7 H2 H3/\σ=[some (.ref a),some (.int i),some (.int c),some (.int pr),none]) (λN hN=>?_) ?_
 ·subst_eqs
  exact ⟨by decide,λp hp=>⟨by decide,_,SqT.of c5,_,hpr,hN _ _ ⟨c7.new hp _,rfl⟩⟩⟩
 rintro σ H3 ⟨s1,rfl⟩;refine h9 (λσ H4=>H4=H3/\σ=[some (.ref a),some (.int i),some (.int c),some (.int pr),some (.int 0)]) (λN hN=>?_) ?_
 ·subst_eqs
  exact hN _ _ ⟨rfl,rfl⟩
 rintro σ H4 ⟨rfl,rfl⟩;refine h9 (λσ H5=>H5=H4/\∃ g:Int,0<=g/\σ=[some (.ref a),some (.int i),some (.int c),some (.int pr),some (.int g)]) (λN hN=>?_) ?_
 ·subst_eqs
  exact ⟨⟨by decide,by decide,by decide⟩,F2 (λ_=>hN _ _ ⟨rfl,_,by split <;> omega,rfl⟩) (λ_=>hN _ _ ⟨rfl,_,Int.le_refl _,rfl⟩)⟩
 rintro σ H5 ⟨rfl,g,hg,rfl⟩
 subst_eqs
 have m0:=y0h c (show 0<pr by omega)
 have m1:=y0w c (show 0<pr by omega)
 refine ⟨⋯,aP6 (by decide),⟨by decide,by decide,⋯⟩,⋯,by decide,λr hr'=>?_⟩
 refine k r _ (s1.trans (c7.new hr' _)) (s1.free hr') ⟨g,_,pr,c5,hg,y0h _ ⋯,?_,⋯,⋯⟩;have:=y0w ((c.fmod pr+65537*i+101) ^ (3:Int).toNat) (show 0<pr by omega)
 omega
abbrev Y3:Stmt:=top 30
theorem al7:i7 ["_law_urn_here","_law_many","_law_drawn"] ["_law_urn_here","_law_many"] (c9 Y3):=by and_intros
theorem aC6 {f:Addr} (d:Df K mg "_law_draw" Y3 ["_law_urn_here","_law_many"] f):Def P w K mg base CX0 1 "_law_draw" f ["_law_urn_here","_law_many"] C8:=by
  refine d.ok (N:=["_law_urn_here","_law_many","_law_drawn"]) al7 (λvs H Q E ⟨x,y,h,_⟩=>by rw [h];rfl) (λcdv A outer s H vs Q E hr h=>?_)
  obtain ⟨u,n,rfl,⟨g,m,p,hu,g0,m0,m1,p0,p1⟩,n0,n1,k⟩:=h
  refine ⟨_, (c6 (B8 (j9 ac8 (j4 t9 (pv 0) b9 (fun _ _ => rfl)) b9 (j1 _)) (c6 (g8 (i := 2) al7.nd rfl (Or.inl rfl) (g7 J6 (j4 t9 (pv 0) b9 (fun _ _ => rfl)) (pv 1)))
      (c6 (F9 (g7 E2 (j4 t9 (pv 0) b9 (λ_ _=>rfl)) (pv 1)) (Z4 (pv 0) b9 K6))
      (d2 (i5 (pv 2))))) p9)
      (c6 (F9 (g7 J6 (g7 A8 (g7 p7 (j4 t9 (pv 0) b9 (λ_ _=>rfl)) b9) b9) (j4 t9 (pv 0) b9 (λ_ _=>rfl))) (Z4 (pv 0) b9 K6))
      (d2 (i5 (g7 J6 (g7 E2 (g7 J6 (g7 ae3 (g7 E2 (j4 t9 (pv 0) b9 (λ_ _=>rfl)) b9) b9) b9) b9) (pv 1)))))),?_⟩
  rw [show start ["_law_urn_here","_law_many","_law_drawn"] [.ref u,.int n]=[some (.ref u),some (.int n),none] from rfl]
  have L1:SqL K H u [.int g,.int m,.int p]:=SqL.of hu;have x0:∀ g m p:Int,atI [V.int g,.int m,.int p] 0=some (.int g):=λ_ _ _=>rfl;have x1:∀ g m p:Int,atI [V.int g,.int m,.int p] 1=some (.int m):=λ_ _ _=>rfl;have x2:∀ g m p:Int,atI [V.int g,.int m,.int p] 2=some (.int p):=λ_ _ _=>rfl
  subst_eqs
  have dn:∀ i,av7 i n:=λi=>Y8 ⋯ (Nat.lt_of_lt_of_le (show n.natAbs<2 ^ 40 by omega) (d6 (by decide)))
  refine ⟨_,L1,_,x0 g m p,_,rfl,F2 (λhg=>?_) (λhg=>?_)⟩
  · refine ⟨_,L1,_,x0 g m p,_,rfl,⋯,_,L1,_,x0 g m p,_,rfl,dn _,_,hu,0,rfl,?_⟩
    exact k _ _ (Int.fmod_nonneg_of_pos _ n0) (Int.fmod_lt_of_pos _ n0) (l4.upd _ _ _) ⟨g.fdiv n,m,p,c5,Int.fdiv_nonneg g0 ⋯,m0,m1,p0,p1⟩
  · have q0:=Int.fmod_nonneg_of_pos (m*60013+12289) p0
    have q1:=Int.fmod_lt_of_pos (m*60013+12289) p0;have z:SqL K (upd H u (.lst [.int g,.int ((m*60013+12289).fmod p),.int p])) u [.int g,.int ((m*60013+12289).fmod p),.int p]:=SqL.of c5
    have d16:0<=((m*60013+12289).fmod p).fdiv 16/\((m*60013+12289).fmod p).fdiv 16<2 ^ 40:=by
      rw [Int.fdiv_eq_ediv_of_nonneg _ (by decide)]
      omega
    refine ⟨_,L1,_,x1 g m p,_,rfl,ay2 (by decide),_,L1,_,x2 g m p,_,rfl,⋯,_,hu,1,rfl,_,z,_,x1 _ _ _,_,rfl,Y8 (by decide) (Nat.lt_of_lt_of_le (show (16:Int).natAbs<2 ^ 40 by decide) (d6 (by decide))),⟨by decide,by decide,⋯⟩,by decide,Y8 (by decide) (Nat.lt_of_lt_of_le (show (8:Int).natAbs<2 ^ 40 by decide) (d6 (by decide))),⋯,?_⟩
    exact k _ _ (Int.fmod_nonneg_of_pos _ n0) (Int.fmod_lt_of_pos _ n0) (l4.upd _ _ _) ⟨g,_,p,c5,g0,q0,⋯,p0,p1⟩
abbrev Y2:Stmt:=top 37
theorem aB1:i7 ["_law_urn_here"] ["_law_urn_here"] (c9 Y2):=by and_intros
theorem aC5 {f fd:Addr} (d:Df K mg "_law_kind" Y2 ["_law_urn_here"] f) (G__law_draw:Def P w K mg base CX0 1 "_law_draw" fd ["_law_urn_here","_law_many"] C8):Def P w K mg base CX0 2 "_law_kind" f ["_law_urn_here"] as3:=by
 refine d.ok (N:=["_law_urn_here"]) aB1 (λvs H Q E ⟨u,h,_⟩=>by rw [h];rfl) (λcdv A outer s H vs Q E hr h=>?_)
 obtain ⟨u,rfl,hu,k⟩:=h;refine ⟨_,(d2 (i5 (j4 t9 (B5 (b6 b9 (b6 b9 (b6 b9 (b6 b9 (b6 b9 (b6 b9 (b6 b9 (b6 b9 b8))))))))) (d4 G__law_draw hr (b6 (pv 0) (b6 b9 b8)) f9) (λ_ _=>rfl)))),?_⟩;rw [show start ["_law_urn_here"] [.ref u]=[some (.ref u)] from rfl]
 simp! [C8]
 refine ⟨by decide,λl hl=>⟨J0 hu hl,by decide,by decide,λr H' r0 r1 sx hu'=>?_⟩⟩
 have e:=sx l _ c5 (w5 hu hl);have sx':l4 u H H':=l4.trans (c7.x (c7.new hl _) u) sx;have h3:r=0 \/ r=1 \/ r=2 \/ r=3 \/ r=4 \/ r=5 \/ r=6 \/ r=7:=⋯;rcases h3 with h | h | h | h | h | h | h | h <;> subst h <;> exact ⟨_,SqL.of e,_,rfl,k _ H' (by decide) sx' hu'⟩
abbrev O9:Stmt:=top 38
theorem ad8:i7 ["_law_urn_here","_law_kind_here","_law_top"] ["_law_urn_here","_law_kind_here"] (c9 O9):=by and_intros
abbrev U1:Stmt:=top 52
theorem av9:i7 ["_law_thing"] ["_law_thing"] (c9 U1):=by and_intros
theorem aw4 {f:Addr} (d:Df K mg "_law_whole" U1 ["_law_thing"] f) (n_isinstance:mg "isinstance" = none) (n_int:mg "int" = none) (n_bool:mg "bool" = none):Def P w K mg base CX0 1 "_law_whole" f ["_law_thing"] al2:=by
 refine d.ok (N:=["_law_thing"]) av9 (λvs H Q E ⟨u,h,_⟩=>by rw [h];rfl) (λcdv A outer s H vs Q E hr h=>?_)
 obtain ⟨i,rfl,k⟩:=h;refine ⟨_,(d2 (i5 (aJ1 (j8 R0 rfl n_isinstance (by decide +kernel) (b6 (pv 0) (b6 (am3 (v:=.ty "int") rfl n_int (by decide +kernel) rfl) b8))) (aJ0 (be5 (j8 R0 rfl n_isinstance (by decide +kernel) (b6 (pv 0) (b6 (am3 (v:=.ty "bool") rfl n_bool (by decide +kernel) rfl) b8)))))))),?_⟩
 rw [show start ["_law_thing"] [.int i]=[some (.int i)] from rfl]
 subst_eqs
 exact ⟨trivial,_,.of (.int i),_,aH2,bk7 ⟨trivial,_,.of (.int i),_,aD0,k⟩⟩
abbrev J5:Stmt:=top 53
theorem al6:i7 ["_law_thing"] ["_law_thing"] (c9 J5):=by and_intros
theorem am7 {f fw fl : Addr} (d : Df K mg "_law_is_number" J5 ["_law_thing"] f) (G__law_whole : Def P w K mg base CX0 1 "_law_whole" fw ["_law_thing"] al2) (G__law_low : Def P w K mg base CX0 1 "_law_low" fl ["_law_top", "_law_bottom"] ap1) (n_isinstance : mg "isinstance" = none) (n_tuple : mg "tuple" = none) (n_len : mg "len" = none) :
    Def P w K mg base CX0 2 "_law_is_number" f ["_law_thing"] (aL9 K):=by
  refine d.ok (N:=["_law_thing"]) al6 (λvs H Q E ⟨u,q,h,_⟩=>by rw [h];rfl) (λcdv A outer s H vs Q E hr h=>?_)
  obtain ⟨x,q,rfl,⟨ap,rfl,hS⟩,hd,k⟩:=h;have hu:=hr.units
  refine ⟨_, (c6 (B8 (PW.pt (ac6 (Z3 (Z2 (j8 R0 rfl n_isinstance (by decide +kernel) (b6 (pv 0) (b6 (am3 (v := .ty "tuple") rfl n_tuple (by decide +kernel) rfl) b8))))) (ac6 (j9 aG1 (j8 k0 rfl n_len (by decide +kernel) (b6 (pv 0) b8)) b9 (j1 _)) (ac6 (Z3 (Z2 (d4 G__law_whole hr (b6 (j4 l6 (pv 0) b9 (fun _ _ => rfl)) b8) f9))) (aj8 (Z3 (Z2 (d4 G__law_whole hr (b6 (j4 l6 (pv 0) b9 (fun _ _ => rfl)) b8) f9)))))))) (d2 (i5 am4)) p9)
      (d2 (i5 (aJ1 (B6 ac8 (j4 l6 (pv 0) b9 (λ_ _=>rfl)) b9 (j1 _)) (aJ0 (B6 (aB7 hu) (d4 G__law_low hr (b6 (j4 l6 (pv 0) b9 (λ_ _=>rfl)) (b6 (j4 l6 (pv 0) b9 (λ_ _=>rfl)) b8)) f9) (pv 0) (j1 _))))))),?_⟩
  rw [show start ["_law_thing"] [.ref ap]=[some (.ref ap)] from rfl]
  have dq:=m9 q;simp only [ak9,ipM,aj6,ah1,ae0,B2,W6,D4,y0,V6,ae6,aj4,tSl,ai6,K5,A4,Q6,aj5,F8,T9,x4,List.map_cons,List.map_nil,Option.bind_none,Option.bind_some,Option.join_some,ag6,ai8,aj0,tOr,ai7,V3,tB,tOp,tUn,ag9,tBM,B3,tC,tCB,ag7,ad1,j7,ae7,G3,l9,G4,A3,N4,ag8,ai5,ad0,tIf,V9,V4,V8,V7,V5,L8,ai9,rI,rI0,rU,F6,N8,ae1,Q7,rEq,rNe,aj7,Z1,W8,W7,K0,Z6,Cx.nox,Cx.wish,List.getElem?_cons_zero,List.getElem?_cons_succ,List.set_cons_zero,List.set_cons_succ,Option.some.injEq,V.int.injEq,V.bl.injEq,V.ref.injEq,V.str.injEq,exists_eq_left',exists_eq_left,exists_and_left,true_and,and_true,List.cons.injEq,reduceCtorEq,Bool.false_eq_true,if_false,if_true,exists_const,↓reduceIte,tyV,List.length_cons,List.length_nil,exists_eq,List.append_nil,List.cons_append,List.nil_append,decide_eq_true_eq,not_true_eq_false,not_false_eq_true,Bool.not_eq_true',decide_eq_false_iff_not,Bool.not_true,Bool.not_false,and_assoc,false_and,false_or,or_false,al2,aA3];refine ⟨trivial,_,.sqt hS,_,aH1,?_⟩;simp only [ak9,ipM,aj6,ah1,ae0,B2,W6,D4,y0,V6,ae6,aj4,tSl,ai6,K5,A4,Q6,aj5,F8,T9,x4,List.map_cons,List.map_nil,Option.bind_none,Option.bind_some,Option.join_some,ag6,ai8,aj0,tOr,ai7,V3,tB,tOp,tUn,ag9,tBM,B3,tC,tCB,ag7,ad1,j7,ae7,G3,l9,G4,A3,N4,ag8,ai5,ad0,tIf,V9,V4,V8,V7,V5,L8,ai9,rI,rI0,rU,F6,N8,ae1,Q7,rEq,rNe,aj7,Z1,W8,W7,K0,Z6,Cx.nox,Cx.wish,List.getElem?_cons_zero,List.getElem?_cons_succ,List.set_cons_zero,List.set_cons_succ,Option.some.injEq,V.int.injEq,V.bl.injEq,V.ref.injEq,V.str.injEq,exists_eq_left',exists_eq_left,exists_and_left,true_and,and_true,List.cons.injEq,reduceCtorEq,Bool.false_eq_true,if_false,if_true,exists_const,↓reduceIte,tyV,List.length_cons,List.length_nil,exists_eq,List.append_nil,List.cons_append,List.nil_append,decide_eq_true_eq,not_true_eq_false,not_false_eq_true,Bool.not_eq_true',decide_eq_false_iff_not,Bool.not_true,Bool.not_false,and_assoc,false_and,false_or,or_false,al2,aA3];refine ⟨_,.inr hS,?_⟩;simp only [ak9,ipM,aj6,ah1,ae0,B2,W6,D4,y0,V6,ae6,aj4,tSl,ai6,K5,A4,Q6,aj5,F8,T9,x4,List.map_cons,List.map_nil,Option.bind_none,Option.bind_some,Option.join_some,ag6,ai8,aj0,tOr,ai7,V3,tB,tOp,tUn,ag9,tBM,B3,tC,tCB,ag7,ad1,j7,ae7,G3,l9,G4,A3,N4,ag8,ai5,ad0,tIf,V9,V4,V8,V7,V5,L8,ai9,rI,rI0,rU,F6,N8,ae1,Q7,rEq,rNe,aj7,Z1,W8,W7,K0,Z6,Cx.nox,Cx.wish,List.getElem?_cons_zero,List.getElem?_cons_succ,List.set_cons_zero,List.set_cons_succ,Option.some.injEq,V.int.injEq,V.bl.injEq,V.ref.injEq,V.str.injEq,exists_eq_left',exists_eq_left,exists_and_left,true_and,and_true,List.cons.injEq,reduceCtorEq,Bool.false_eq_true,if_false,if_true,exists_const,↓reduceIte,tyV,List.length_cons,List.length_nil,exists_eq,List.append_nil,List.cons_append,List.nil_append,decide_eq_true_eq,not_true_eq_false,not_false_eq_true,Bool.not_eq_true',decide_eq_false_iff_not,Bool.not_true,Bool.not_false,and_assoc,false_and,false_or,or_false,al2,aA3,t7];refine F2 (λhh=>absurd rfl hh) (λ_=>?_);refine ⟨_,hS,_,at0 q,_,rfl,_,hS,_,at1 q,_,rfl,_,hS,_,at1 q,_,rfl,?_⟩;rw [if_pos dq];refine ⟨_,hS,_,at0 q,_,hS,_,at1 q,_,_,rfl,⋯,hd,λr H' sm hr'=>?_⟩
  rw [Rat.num_divInt_den] at hr';refine ⟨X0 q,X0 q,rfl,aD1 (SqT.of hr'),aD1 (sm.tup hS),aM2 q q,bg2 q,?_⟩;rw [aM8];exact k H' sm
def spOther:Sp:=λvs H Q _ => ∃ u kd,vs=[.ref u,.int kd]/\k8 H u/\∀ r q H',Sm q->q ≠ 0->l4 u H H'->k8 H' u->H' r=some (.tup (t7 q))->Q (.ref r) H'
abbrev U6:Stmt:=top 39
theorem ah9:i7 ["_law_urn_here","_law_kind_here","_law_found"] ["_law_urn_here","_law_kind_here"] (c9 U6):=by and_intros
def aT0 (K:q0a):Sp:=λvs H Q _ => ∃ a xs qs,vs=[.ref a]/\SqL K H a xs/\t5 H xs qs/\∀ m r H',N3 qs m->c7 H H'->H r=none->H' r=some (.lst (xs.take m))->Q (.ref r) H'
abbrev X7:Stmt:=top 41
theorem al5:i7 ["_law_numbers","_law_found"] ["_law_numbers"] (c9 X7):=by and_intros
theorem ba4 {α:Type} {xs:List α} {x:α} (h:xs[xs.length-1]? = some x):atI xs (-1)=some x:=by
 have hp:xs.length-1<xs.length:=(q0g.mp h).1
 have e:ixN xs.length (-1)=some (xs.length-1):=by
  unfold ixN;rw [if_neg (by decide)]
  rw [if_pos ⋯]
  congr 1
  omega
 unfold atI;rw [e];exact h
theorem aC0 {f:Addr} (d:Df K mg "_law_trim" X7 ["_law_numbers"] f) (n_list:mg "list" = none):Def P w K mg base CX0 1 "_law_trim" f ["_law_numbers"] (aT0 K):=by
  refine d.ok (N:=["_law_numbers","_law_found"]) al5 (λvs H Q E ⟨a,xs,qs,h,_⟩=>by rw [h];rfl) (λcdv A outer s H vs Q E hr h=>?_)
  obtain ⟨a,xs,qs,rfl,hS,hN,k⟩:=h;have hu:=hr.units
  refine ⟨_, (c6 (g8 (i := 1) al5.nd rfl (Or.inl rfl) (w4 M9 rfl n_list (by decide +kernel) (b6 (pv 0) b8)))
      (c6 (as6 PassesOwn.never (PW.pt (aI9 (j9 (aj9 hu) (pv 1) (B5 b8) (j1 _)) (aB3 (j9 S9 (j4 l6 (j4 t9 (pv 1) (ax8 an7 b9) (λ_ _=>rfl)) b9 (λ_ _=>rfl)) b9 (j1 _))))) (d2 (am1 (ao2 PySem.F.plainAttrs_list PySem.F.slot_list_pop PySem.F.type_list_pop bf2 (pv 1)))))
      (d2 (i5 (pv 1))))),?_⟩
  rw [show start ["_law_numbers","_law_found"] [.ref a]=[some (.ref a),none] from rfl]
  subst_eqs
  refine ⟨_,.inl hS,λl hl=>?_⟩
  refine aS2 (λσ H1=>σ=[some (.ref a),some (.ref l)]/\∃ m,m<=qs.length/\(∀ (i:Nat) (q:Rat),m<=i->qs[i]? = some q->q=0)/\c7 H H1/\H1 l=some (.lst (xs.take m))) (λσ H1=>match H1 l with | some (.lst ys)=>ys.length | _=>0)
    ⟨rfl,qs.length,Nat.le_refl _,λi q hi e=>?_,c7.new hl _,?_⟩ ?_
  · rw [List.getElem?_eq_none hi] at e;cases e
  · rw [c5,<- hN.length,List.take_length]
  · rintro σ H1 ⟨rfl,m,hm,hz,sm,e1⟩
    have hml:(xs.take m).length=m:=by rw [List.length_take,hN.length];omega
    subst_eqs
    refine ⟨by decide,λp hp=>?_⟩
    have n1:t5 H1 (xs.take m) (qs.take m):=(hN.mono sm.tups).take m;have pl:p ≠ l:=(i9 e1 hp).symm;have e2:upd H1 p (.lst []) l=some (.lst (xs.take m)):=by rw [g9 pl.symm];exact e1
    have n2:t5 (upd H1 p (.lst [])) (xs.take m) (qs.take m):=n1.mono (X1.new hp);refine ⟨F4 (qs.take m),F4 [],rfl,M6 (SqL.of e2) n2,M6 (SqL.of c5) .nil,ae4 _ _,Nat.le_trans (an3 _) (by decide),?_⟩
    rw [aa8]
    by_cases h0:m=0
    · subst h0
      simp only [List.take_zero,decide_true,Bool.not_true,Bool.false_eq_true,if_false];refine ⟨false,rfl,F2 (λh=>absurd h (by decide)) λ_=>k 0 l _ ⟨Nat.zero_le _,hz,λh=>absurd rfl h⟩ (sm.trans (c7.new hp _)) hl ?_⟩
      rw [e2]
    · have hlt:m-1<qs.length:=⋯
      have hne:qs.take m ≠ []:=λz=>by
        have:=congrArg List.length z;rw [List.length_take,List.length_nil] at this;omega
      simp only [hne,decide_false,Bool.not_false];obtain ⟨pv,hv,hpv⟩:=n2.get (i:=m-1) (q:=qs[m-1]) (by rw [List.getElem?_take_of_lt ⋯];exact List.getElem?_eq_getElem hlt)
      refine ⟨true,rfl,F2 (λ_=>?_) (λh=>absurd rfl h)⟩;refine ⟨_,SqL.of e2,_,ba4 (by rw [hml];exact hv),_,rfl,_,SqT.of hpv,_,at0 _,rfl,?_⟩
      refine F2 (λhn=>?_) (λhn=>?_)
      · have hn':qs[m-1].num=0:=V.int.inj hn
        refine WhB.mk ?_
        subst_eqs
        refine ⟨.inl ⟨_,SqL.of e2⟩,_,e2,_,by rw [hml];exact hv,WhN.mk ⟨rfl,m-1,⋯,λi q hi e=>?_,(sm.trans (c7.new hp _)).over hl _,?_⟩ ?_⟩
        · by_cases hi':i=m-1
          · subst hi'
            rw [List.getElem?_eq_getElem hlt] at e
            cases e
            exact W5.mp hn'
          · exact hz i q ⋯ e
        · rw [c5,List.dropLast_eq_take,hml,List.take_take,Nat.min_eq_left ⋯]
        · rw [c5]
          simp only [e1,List.length_dropLast];omega
      · have hn':qs[m-1] ≠ 0:=λz=>hn (by rw [z];rfl)
        exact k m l _ ⟨hm,hz,λ_ q e=>by rw [List.getElem?_eq_getElem hlt] at e;cases e;exact hn'⟩ (sm.trans (c7.new hp _)) hl e2
abbrev D8:Stmt:=top 43
theorem aj3:i7 ["_law_urn_here","_law_kind_here","_law_most"] ["_law_urn_here","_law_kind_here","_law_most"] (c9 D8):=by and_intros
structure BtN (k:Nat) (q:Rat):Prop where
 n:q.num.natAbs<2 ^ 20000
 d:q.den<2 ^ k
theorem BtN.d' {n:Nat} {q:Rat} (b:BtN n q):(q.den:Int).natAbs<2 ^ n:=by rw [z0b];exact b.d
theorem BdN.t {n:Nat} {q:Rat} (b:BdN n q) (h:n<=20000):BtN n q:=⟨q0b b.n (d6 h),b.d⟩
theorem t5.set {H:Hp}:∀ {vs:List V} {qs:List Rat} (k:Nat) {p:Addr} {q:Rat},t5 H vs qs->H p=some (.tup (t7 q))->t5 H (vs.set k (.ref p)) (qs.set k q)
 | _,_,_,_,_,.nil,_=>.nil
 | _,_,0,_,_,.cons _ t,h=>.cons h t
 | _,_,k+1,_,_,.cons h' t,h=>.cons h' (t.set k h)
theorem t5.rep {H:Hp} {p:Addr} {q:Rat} (h:H p=some (.tup (t7 q))):∀ n,t5 H (q0z n (.ref p)) (q0z n q)
 | 0=>.nil
 | n+1=>.cons h (t5.rep h n)
def E7 (K:q0a) (op:Rat->Rat->Rat):Sp:=λvs H Q _ => ∃ (x y:V) (p q:Rat) (m n:Nat),vs=[x,y]/\Num K H x p/\Num K H y q/\BtN m p/\BtN n q/\m+n<=6000/\ap0 H Q (op p q)
theorem bg3 {p q:Rat} {m n:Nat} (bp:BtN m p) (bq:BtN n q) (h:m+n<=6000):((p.den:Int)*q.den).natAbs<2 ^ 6000:=by
 rw [z0p];have:=z0h bp.d' bq.d';rw [<- z0w] at this;exact q0b this (d6 h)
theorem aD5 (p q:Rat):(p.den:Int)*q.den ≠ 0:=m0y (q1c (m9 p) (m9 q))
abbrev X9:Stmt:=top 32
theorem aA8:i7 ["_law_one","_law_other_here"] ["_law_one","_law_other_here"] (c9 X9):=by and_intros
theorem aC2 {f fl:Addr} (d:Df K mg "_law_plus" X9 ["_law_one","_law_other_here"] f) (G__law_low:Def P w K mg base CX0 1 "_law_low" fl ["_law_top","_law_bottom"] ap1):Def P w K mg base CX0 2 "_law_plus" f ["_law_one","_law_other_here"] (E7 K (· + ·)):=by
 refine d.ok (N:=["_law_one","_law_other_here"]) aA8 (by rintro vs H Q E ⟨x,y,p,q,m,n,h,_⟩;rw [h];rfl) (λcdv A outer s H vs Q E hr h=>?_)
 obtain ⟨x,y,p,q,m,n,rfl,⟨ap,rfl,hp⟩,⟨aq,rfl,hq⟩,bp,bq,hmn,k⟩:=h;refine ⟨_,(d2 (i5 (d4 G__law_low hr (b6 (g7 A8 (g7 p7 (j4 l6 (pv 0) b9 (λ_ _=>rfl)) (j4 l6 (pv 1) b9 (λ_ _=>rfl))) (g7 p7 (j4 l6 (pv 1) b9 (λ_ _=>rfl)) (j4 l6 (pv 0) b9 (λ_ _=>rfl)))) (b6 (g7 p7 (j4 l6 (pv 0) b9 (λ_ _=>rfl)) (j4 l6 (pv 1) b9 (λ_ _=>rfl))) b8)) f9))),?_⟩;rw [show start ["_law_one","_law_other_here"] [.ref ap,.ref aq]=[some (.ref ap),some (.ref aq)] from rfl]
 subst_eqs
 refine ⟨_,hp,_,at0 p,_,hq,_,at1 q,_,rfl,_,rfl,L7 bp.n bq.d' ⋯,_,hq,_,at0 q,_,hp,_,at1 p,_,rfl,_,rfl,L7 bq.n bp.d' ⋯,_,hp,_,at1 p,_,hq,_,at1 q,_,rfl,_,rfl,L7 bp.d' bq.d' ⋯,?_⟩;refine ⟨_,_,rfl,aD5 p q,bg3 bp bq hmn,?_⟩;rw [<- aK8];exact k
abbrev U2:Stmt:=top 34
theorem aw0:i7 ["_law_one","_law_other_here"] ["_law_one","_law_other_here"] (c9 U2):=by and_intros
theorem aw5 {f fl:Addr} (d:Df K mg "_law_times" U2 ["_law_one","_law_other_here"] f) (G__law_low:Def P w K mg base CX0 1 "_law_low" fl ["_law_top","_law_bottom"] ap1):Def P w K mg base CX0 2 "_law_times" f ["_law_one","_law_other_here"] (E7 K (· * ·)):=by
 refine d.ok (N:=["_law_one","_law_other_here"]) aw0 (by rintro vs H Q E ⟨x,y,p,q,m,n,h,_⟩;rw [h];rfl) (λcdv A outer s H vs Q E hr h=>?_)
 obtain ⟨x,y,p,q,m,n,rfl,⟨ap,rfl,hp⟩,⟨aq,rfl,hq⟩,bp,bq,hmn,k⟩:=h;refine ⟨_,(d2 (i5 (d4 G__law_low hr (b6 (g7 p7 (j4 l6 (pv 0) b9 (λ_ _=>rfl)) (j4 l6 (pv 1) b9 (λ_ _=>rfl))) (b6 (g7 p7 (j4 l6 (pv 0) b9 (λ_ _=>rfl)) (j4 l6 (pv 1) b9 (λ_ _=>rfl))) b8)) f9))),?_⟩;rw [show start ["_law_one","_law_other_here"] [.ref ap,.ref aq]=[some (.ref ap),some (.ref aq)] from rfl]
 subst_eqs
 refine ⟨_,hp,_,at0 p,_,hq,_,at0 q,_,rfl,_,rfl,L7 bp.n bq.n ⋯,_,hp,_,at1 p,_,hq,_,at1 q,_,rfl,_,rfl,L7 bp.d' bq.d' ⋯,?_⟩;refine ⟨_,_,rfl,aD5 p q,bg3 bp bq hmn,?_⟩;rw [<- ak5];exact k
structure y4 (B W:Nat) (M:List (List Rat)):Prop where
 n7:M.length<=7
 B0:0<B
 BW:B<2 ^ W
 row:∀ L ∈ M,L.length=M.length/\∀ q ∈ L,OvB B W q
theorem ao3 {B W:Nat} {q:Rat} (B0:0<B) (BW:B<2 ^ W) (h:OvB B W q):BdN W q:=by
 obtain ⟨v,rfl,b⟩:=h;have x:=O0 (t:=v) (b:=(B:Int)) ⋯;exact ⟨q0t x.1 b,q0t x.2 (by rw [z0b];exact BW)⟩
theorem y4.bd {B W:Nat} {M:List (List Rat)} (h:y4 B W M):∀ L ∈ M,L.length=M.length/\∀ x ∈ L,BdN W x:=λL hL=>⟨(h.row L hL).1,λx hx=>ao3 h.B0 h.BW ((h.row L hL).2 x hx)⟩
def as2 (K:q0a):Sp:=λvs H Q E => ∃ (a b:Addr) (ts us:List Addr) (M N:List (List Rat)) (B W C' V':Nat),vs=[.ref a,.ref b]/\H a=some (.lst (ts.map V.ref))/\ao9 K H ts M/\H b=some (.lst (us.map V.ref))/\ao9 K H us N/\y4 B W M/\y4 C' V' N/\W+V'<=5990/\M.length=N.length/\O6 H Q (an8 M N)
abbrev D7:Stmt:=top 50
theorem aj2:i7 ["_law_one","_law_other_here"] ["_law_one","_law_other_here"] (c9 D7):=by and_intros
theorem ak1 {f f2:Addr} (d:Df K mg "_law_table_plus" D7 ["_law_one","_law_other_here"] f) (G__law_plus:Def P w K mg base CX0 2 "_law_plus" f2 ["_law_one","_law_other_here"] (E7 K (· + ·))) (n_zip:mg "zip" = none):Def P w K mg base CX0 4 "_law_table_plus" f ["_law_one","_law_other_here"] (as2 K):=by
 refine d.ok (N:=["_law_one","_law_other_here"]) aj2 (by rintro vs H Q E ⟨_,_,_,_,_,_,_,_,_,_,h,_⟩;rw [h];rfl) (λcdv A outer s H vs Q E hr h=>?_)
 obtain ⟨a,b,ts,us,M,N,B,W,C',V',rfl,ha,hR,hb,hS,hM,hN,hWV,hl,k1⟩:=h;refine ⟨_,(d2 (i5 (t8 (Nc:=["_law_row","_law_far"]) (caps:=[none,none]) rfl (G2.of (osc:=c9 D7) (N:=["_law_one","_law_other_here"]) (ks:=[]) rfl rfl rfl rfl j6 (by decide +kernel)) (as8 rfl n_zip (b6 (pv 0) (b6 (pv 1) b8))) (λC s₂ H₂ fp pins=>(show PG _ _ (G3 K 2 (l9 (j7 0) (l9 (j7 1) G4))) from by (refine C9 (n:=2) ?_ ?_ ?_ ?_;rfl;(refine i6 ?_ ?_ ?_;(exact (d5 (i:=0) (show z0j (["_law_row","_law_far"]:List Str) by decide +kernel) rfl (q0w rfl) (z0v rfl)));(refine i6 ?_ ?_ ?_;(exact (d5 (i:=1) (show z0j (["_law_row","_law_far"]:List Str) by decide +kernel) rfl (q0w rfl) (z0v rfl)));(exact y7);rfl);rfl);rfl;rfl))) (λC s₂ H₂ fp pins=>(t8 (Nc:=["_law_a","_law_b"]) (caps:=[none,none]) rfl (G2.of (osc:=_) (N:=["_law_row","_law_far"]) (ks:=[]) rfl rfl rfl rfl j6 (by kernel_rfl)) (show PI _ _ _ (ae6 K _) from by exact (as8 rfl n_zip (b6 (pv 0) (b6 (pv 1) b8)))) (λC s₂ H₂ fp pins=>(show PG _ _ (G3 K 2 (l9 (j7 0) (l9 (j7 1) G4))) from by (refine C9 (n:=2) ?_ ?_ ?_ ?_;rfl;(refine i6 ?_ ?_ ?_;(exact (d5 (i:=0) (show z0j (["_law_a","_law_b"]:List Str) by decide +kernel) rfl (q0w rfl) (z0v rfl)));(refine i6 ?_ ?_ ?_;(exact (d5 (i:=1) (show z0j (["_law_a","_law_b"]:List Str) by decide +kernel) rfl (q0w rfl) (z0v rfl)));(exact y7);rfl);rfl);rfl;rfl))) (λC s₂ H₂ fp pins=>(d4 G__law_plus hr (b6 (pv 0) (b6 (pv 1) b8)) f9))))))),?_⟩
 rw [show start ["_law_one","_law_other_here"] [.ref a,.ref b]=[some (.ref a),some (.ref b)] from rfl]
 subst_eqs
 have hRl:=hR.length;have hSl:=hS.length;refine ⟨⟨_,SqL.of ha⟩,⟨_,SqL.of hb⟩,λD hD=>?_⟩;have lz:(an8 M N).length=M.length:=by unfold an8;rw [j0v];omega
 refine aD7 (ts.map V.ref) (us.map V.ref) (λi σ H2 => ∃ o1 o2,σ=[o1,o2]/\t6 H D ((an8 M N).take i) H2) ⟨_,_,rfl,t6.start hD⟩ (by rintro i σ H2 ⟨_,_,_,T⟩;exact ⟨SqL.of (T.same _ _ ha),SqL.of (T.same _ _ hb)⟩) ?_ ?_
 ·rintro i x y σ H2 pt hx hy ⟨o1,o2,rfl,T⟩ hpt
  obtain ⟨t,ht,rfl⟩:=A1 hx;obtain ⟨u,hu,rfl⟩:=A1 hy;obtain ⟨xs,L,hL,et,nt⟩:=hR.get ht;obtain ⟨ys,L',hL',eu,nu⟩:=hS.get hu;have hLm:=hM.bd L (q0h hL);have hLn:=hN.bd L' (q0h hL')
  have hi:i<min (ts.map V.ref).length (us.map V.ref).length:=by
   have h1:=(q0g.mp hx).1;have h2:=(q0g.mp hy).1;omega
  have st:=c7.new hpt (.tup [.ref t,.ref u]);have S2:=T.same.trans st;have lx:=nt.length;have ly:=nu.length;have m7:=hM.n7;have l7:=hLm.1
  subst_eqs
  refine ⟨_,SqT.of c5,rfl,_,_,rfl,_,_,rfl,rfl,?_⟩;refine ⟨_,rfl,_,rfl,⟨_,SqL.of (S2 _ _ et)⟩,⟨_,SqL.of (S2 _ _ eu)⟩,λD2 hD2=>?_⟩;refine aD7 xs ys (λj σ H3 => ∃ o1 o2,σ=[o1,o2]/\E6 (upd H2 pt (.tup [.ref t,.ref u])) D2 ((v0x (· + ·) L L').take j) H3) ⟨_,_,rfl,E6.start hD2⟩ (by rintro j σ H3 ⟨_,_,_,R⟩;exact ⟨SqL.of (R.same _ _ (S2 _ _ et)),SqL.of (R.same _ _ (S2 _ _ eu))⟩) ?_ ?_
  ·rintro j x y σ H3 p2 hx2 hy2 ⟨o1,o2,rfl,R⟩ hp2
   obtain ⟨px,q1,rfl,hq1,hpx⟩:=nt.getV hx2;obtain ⟨py,q2,rfl,hq2,hpy⟩:=nu.getV hy2;have b1:=hLm.2 q1 (q0h hq1);have b2:=hLn.2 q2 (q0h hq2);have st2:=c7.new hp2 (.tup [.ref px,.ref py]);have S3:=(S2.trans R.same).trans st2
   have hj:j<min xs.length ys.length:=by
    have h1:=(q0g.mp hx2).1;have h2:=(q0g.mp hy2).1;omega
   subst_eqs
   refine ⟨_,SqT.of c5,rfl,_,_,rfl,_,_,rfl,rfl,?_⟩;refine ⟨_,_,q1,q2,W,V',rfl,⟨px,rfl,(hpx.mono S3.tups).sqt⟩,⟨py,rfl,(hpy.mono S3.tups).sqt⟩,b1.t ⋯,b2.t ⋯,⋯,λp5 H5 s5 e5=>?_⟩;obtain ⟨zs,eD,yl,R'⟩:=R.add hD2 (st2.trans s5) e5;refine o0.mk hj eD (p8 (by rw [yl,q0x,j0v];omega)) ⟨_,_,rfl,?_⟩
   rw [d7 (aL0 hq1 hq2)];exact R'
  ·rintro σ H3 ⟨o1,o2,rfl,R⟩
   rw [k7 (by rw [j0v,lx,ly];exact q0m _)] at R
   obtain ⟨zs,eD,yl,T'⟩:=(T.to st).add hD hD2 R;refine o0.mk hi eD (p8 (by rw [yl,q0x,lz];omega)) ⟨_,_,rfl,?_⟩
   rw [d7 (l:=an8 M N) (aL0 hL hL')];exact T'
 ·rintro σ H2 ⟨o1,o2,rfl,T⟩
  rw [k7 (by rw [lz,q0d,q0d];omega)] at T
  exact T.res k1 hD
theorem ba1 {qs:List Rat} (hc:E9 (j2 (k9 qs) qs) ≠ 0) :
  let c:Int:=E9 (j2 (k9 qs) qs)
  (z0a c (k9 qs)).num=c/\((z0a c (k9 qs)).den:Int)=k9 qs/\qs=scl (z0a c (k9 qs)) ((j2 (k9 qs) qs).map λv=>v.fdiv c):=by
 intro c;have hB:=G1 qs;obtain ⟨h1,h2⟩:=ak4 (n:=c) (d:=(k9 qs:Int)) ⋯ (aD9 qs);refine ⟨h1,h2,?_⟩;unfold scl j2;rw [g0m,g0m]
 conv=>lhs;rw [<- List.map_id qs]
 refine y0u λq hq=>?_
 show q=z0a c (k9 qs)*(((q.num*(k9 qs:Int).fdiv (q.den:Int)).fdiv c:Int):Rat);obtain ⟨e,he⟩:=W9 (ws:=j2 (k9 qs) qs) (z0g.mpr ⟨q,hq,rfl⟩);have hc':c ≠ 0:=by show ((E9 (j2 (k9 qs) qs):Nat):Int) ≠ 0;omega
 have e1:(q.num*(k9 qs:Int).fdiv (q.den:Int)).fdiv c=e:=by
  conv=>lhs;arg 1;rw [he]
  exact j5 hc'
 rw [e1]
 conv=>lhs;rw [ar9 hB (M8 hq)]
 rw [he]
 have e2:(e:Rat)=z0a e 1:=by
  have:=z0e (e:Rat);rw [u0t,u0u] at this;exact this.symm
 rw [e2,j0q,Int.mul_one]
theorem ba7 {ws:List Int} {v:Int} (h:v ∈ ws) (hv:v ≠ 0):E9 ws ≠ 0:=λz=>by
 obtain ⟨e,he⟩:=W9 h;rw [z] at he
 simp at he
 exact hv he
theorem au7 {a g:Int} {n:Nat} (hg:0<g) (hd:g ∣ a) (h:a.natAbs<n):(a.fdiv g).natAbs<n:=q0t (ac2 hg hd) h
theorem ay8 {d:Nat}:∀ (ws:List Int) (c:Nat),d ∣ c->(∀ w ∈ ws,(d:Int) ∣ w)->d ∣ ws.foldl (λc w=>q0s w c) c
 | [],c,h,_=>h
 | w :: r,c,h,hw=>ay8 r _ (m0c (hw w q0u) (j0a.mpr h)) λx hx=>hw x (q0p _ hx)
theorem aT8 {q:Rat} (h:0<q.num):0<q:=(Rat.lt_iff 0 q).mpr (by
 show (0:Int)*(q.den:Int)<q.num*((1:Nat):Int);rw [Int.zero_mul];simpa using h)
theorem aQ7 {ws:List Int} (hc:E9 ws ≠ 0):E9 (ws.map λv=>v.fdiv ((E9 ws:Nat):Int))=1:=by
 obtain ⟨g,hg⟩:∃ g,g=E9 ws:=⟨_,rfl⟩;obtain ⟨e,he⟩:∃ e,e=E9 (ws.map λv=>v.fdiv ((E9 ws:Nat):Int)):=⟨_,rfl⟩
 have hd:(g*e) ∣ E9 ws:=ay8 ws 0 (Nat.dvd_zero _) λw hw=>by
  obtain ⟨y,hy⟩:=W9 hw
  have h1:w.fdiv ((E9 ws:Nat):Int)=y:=by
   conv=>lhs;arg 1;rw [hy]
   exact j5 ⋯
  obtain ⟨z,hz⟩:=W9 (z0g.mpr ⟨w,hw,rfl⟩:w.fdiv ((E9 ws:Nat):Int) ∈ ws.map λv=>v.fdiv ((E9 ws:Nat):Int));rw [h1,<- he] at hz;exact ⟨z,by rw [hy,<- hg,hz,j0e,m0s]⟩
 rw [<- hg] at hd;obtain ⟨z,hz⟩:=hd;have h2:g*1=g*(e*z):=by rw [q1b,<- m0r];exact hz
 have h3:=g0h (show 0<g by omega) h2
 rw [<- he];exact Nat.dvd_one.mp ⟨z,h3⟩
def aF0 (K:q0a):Sp:=λvs H Q _ => ∃ a xs qs,vs=[.ref a]/\SqL K H a xs/\M3 K H xs qs/\∃ W:Nat,ClN W qs/\W<=6000/\1<=W/\qs.length<=100/\N3 qs qs.length /\
 ∀ r rs l s ws H',c7 H H'->H l=none->H' r=some (.tup [.ref rs,.ref l])->SqT K H' rs (t7 s)->H' l=some (.lst (ws.map V.int))->BdN W s->s ≠ 0->(∀ v ∈ ws,j0s v<2 ^ W)->ws.length=qs.length->qs=scl s ws->Q (.ref r) H'
def aO6 (K:q0a):Sp:=λvs H Q _ => ∃ a xs qs,vs=[.ref a]/\SqL K H a xs/\M3 K H xs qs/\∃ W:Nat,ClN W qs/\W<=6000/\1<=W/\qs.length<=100/\N3 qs qs.length /\
 ∀ r rs l s ws H',c7 H H'->H l=none->H' r=some (.tup [.ref rs,.ref l])->SqT K H' rs (t7 s)->H' l=some (.lst (ws.map V.int))->BdN W s->s ≠ 0->(∀ v ∈ ws,j0s v<2 ^ W)->ws.length=qs.length->qs=scl s ws->(ws ≠ []->E9 ws=1)->Q (.ref r) H'
def aO5 (K:q0a):Sp:=λvs H Q _ => ∃ a xs qs,vs=[.ref a]/\SqL K H a xs/\M3 K H xs qs/\∃ W:Nat,ClN W qs/\W<=6000/\1<=W/\qs.length<=100/\N3 qs qs.length /\
 ∀ r rs l s ws H',c7 H H'->H l=none->H' r=some (.tup [.ref rs,.ref l])->SqT K H' rs (t7 s)->H' l=some (.lst (ws.map V.int))->BdN W s->s ≠ 0->(∀ v ∈ ws,j0s v<2 ^ W)->ws.length=qs.length->qs=scl s ws->(ws ≠ []->E9 ws=1)->0<s->Q (.ref r) H'
abbrev W4:Stmt:=top 16
theorem af9:i7 ["p","content","wholes","bottom"] ["p"] (c9 W4):=by and_intros
theorem aJ4 {f fc fk aN:Addr} (d:Df K mg "lifted" W4 ["p"] f) (G_cleared:Def P w K mg base CX0 2 "cleared" fc ["numbers"] (Z8 K)) (G_content_of:Def P w K mg base CX0 2 "content_of" fk ["wholes"] (af8 K)) (c_ONE:mg "ONE" = some (.ref aN)) (tN:∀ H,SqT K H aN (t7 1)):Def P w K mg base CX0 3 "lifted" f ["p"] (aO5 K):=by
  refine d.ok (N:=["p","content","wholes","bottom"]) af9 (by rintro vs H Q E ⟨a,b,c,h,_⟩;rw [h];rfl) (λcdv A outer s H vs Q E hr h=>?_)
  obtain ⟨a,xs,qs,rfl,hS,hN,m,hs,hm,hm1,hl,ht,k⟩:=h
  refine ⟨_, (c6 (F9 (d4 G_cleared hr (b6 (pv 0) b8) f9) (show PG _ _ (G3 K 2 (l9 (j7 2) (l9 (j7 3) G4))) from by (refine C9 (n := 2) ?_ ?_ ?_ ?_; rfl; (refine i6 ?_ ?_ ?_; (exact (d5 (i := 2) af9.nd rfl (Or.inl rfl))); (refine i6 ?_ ?_ ?_; (exact (d5 (i := 3) af9.nd rfl (Or.inl rfl))); (exact y7); rfl); rfl); rfl; rfl)))
      (c6 (B8 (Z3 (am0 (pv 2) (λ_=>rfl))) (d2 (i5 (j3 (b6 (ar4 (v:=.ref _) rfl c_ONE rfl) (b6 (B5 b8) b8))))) p9)
      (c6 (g8 (i:=1) af9.nd rfl (Or.inr rfl) (d4 G_content_of hr (b6 (pv 2) b8) f9))
      (d2 (i5 (j3 (b6 (j3 (b6 (pv 1) (b6 (pv 3) b8))) (b6 (t8 (Nc:=["content","whole"]) (caps:=[some 1,none]) rfl (G2.of (osc:=c9 W4) (N:=["p","content","wholes","bottom"]) (ks:=["content"]) rfl rfl rfl rfl (i8 rfl j6) (by decide +kernel)) (r6 (pv 2)) (λC s₂ H₂ fp pins=>(d5 (i:=1) (show List.Nodup (["content","whole"]:List Str) by decide +kernel) rfl (Or.inl rfl) (Or.inr rfl))) (λC s₂ H₂ fp pins=>(g7 E2 (pv 1) (pv 0)))) b8)))))))),?_⟩
  rw [show start ["p","content","wholes","bottom"] [.ref a]=[some (.ref a),none,none,none] from rfl]
  simp! [aI2]
  refine ⟨a,xs,qs,rfl,hS,hN,⟨m,hs,hm⟩,hl,λr l H1 s1 hl1 er el=>?_⟩;have hB:=G1 qs;have hB1:=hs.l;have wl:=hs.w;refine ⟨r,rfl,_,SqT.of er,rfl,_,_,rfl,_,_,rfl,rfl,_,.inl ⟨_,SqL.of el,rfl⟩,F2 (λh0=>?_) (λh0=>?_)⟩
  · have hq : qs = [] := by
      cases qs with
      | nil=>rfl
      | cons q r=>simp [j2] at h0
    subst hq;refine ⟨by decide,λp hp=>⟨v8,λp1 hp1=>?_⟩⟩
    refine k p1 aN p 1 [] _ (s1.trans ((c7.new hp _).trans (c7.new hp1 _))) (s1.free hp) c5 (tN _) (by rw [g9 (bf1 hp1).symm];exact c5) ⟨Nat.lt_of_lt_of_le (show _<2 ^ 1 by decide) (d6 ⋯),Nat.lt_of_lt_of_le (show _<2 ^ 1 by decide) (d6 ⋯)⟩ (by decide) (by simp) (by simp) rfl (λz=>absurd rfl z) (by decide)
  · have hq:qs ≠ []:=λz=>h0 (by rw [z];rfl)
    have lp:0<qs.length:=List.length_pos_iff.mpr hq;have hlast:qs.length-1<qs.length:=⋯;have hne:qs[qs.length-1] ≠ 0:=ht.last ⋯ _ (List.getElem?_eq_getElem hlast);have hmem:qs[qs.length-1] ∈ qs:=List.getElem_mem hlast
    have hc:E9 (j2 (k9 qs) qs) ≠ 0:=by
      refine ba7 (List.mem_map.mpr ⟨_,hmem,rfl⟩) ?_;obtain ⟨e,he⟩:=M8 hmem;have h0:(qs[qs.length-1].den:Int) ≠ 0:=by have:=qs[qs.length-1].den_nz;omega
      have e1:(k9 qs:Int).fdiv (qs[qs.length-1].den:Int)=(e:Int):=by
        rw [he,Int.natCast_mul];exact j5 h0
      rw [e1];refine Int.mul_ne_zero (λz=>hne (W5.mp z)) ?_;intro z;have:e=0:=⋯;rw [this] at he;omega
    obtain ⟨f1,f2,f3⟩:=ba1 hc;have cpos:(0:Int)<(E9 (j2 (k9 qs) qs):Nat):=⋯
    have cle:E9 (j2 (k9 qs) qs)<2 ^ m:=by
      have hm:qs[qs.length-1].num*(k9 qs:Int).fdiv (qs[qs.length-1].den:Int) ∈ j2 (k9 qs) qs:=List.mem_map.mpr ⟨_,hmem,rfl⟩;obtain ⟨e,he⟩:=W9 hm;have w1:=wl _ hm;rw [he,Int.natAbs_mul,Int.natAbs_natCast] at w1
      have e0:e.natAbs ≠ 0:=λz=>by
        have hz:e=0:=⋯;rw [hz,Int.mul_zero] at he;rcases Int.mul_eq_zero.mp he with q1 | q1
        · exact hne (W5.mp q1)
        · obtain ⟨e',he'⟩:=M8 hmem
          have h0:(qs[qs.length-1].den:Int) ≠ 0:=by have:=qs[qs.length-1].den_nz;omega
          have e1:(k9 qs:Int).fdiv (qs[qs.length-1].den:Int)=(e':Int):=by
            rw [he',Int.natCast_mul];exact j5 h0
          rw [e1] at q1;have:e'=0:=⋯;rw [this] at he';omega
      exact Nat.lt_of_le_of_lt (Nat.le_mul_of_pos_right _ ⋯) w1
    refine ⟨l,_,rfl,SqL.of el,λv hv=>Nat.lt_of_lt_of_le (wl v hv) (d6 hm),v8,λp hp=>⟨l,rfl,⟨_,SqL.of (c7.new hp _ _ _ el)⟩,λD hD=>?_⟩⟩;have sp:=c7.new hp (.tup [.int (E9 (j2 (k9 qs) qs):Nat),.int (k9 qs)])
    refine y9 ((j2 (k9 qs) qs).map V.int) (λi σ H2 => ∃ o,σ=[some (.int (E9 (j2 (k9 qs) qs):Nat)),o]/\c7 (upd H1 p (.tup [.int (E9 (j2 (k9 qs) qs):Nat),.int (k9 qs)])) H2/\H2 D=some (.lst ((((j2 (k9 qs) qs).take i).map λv=>v.fdiv (E9 (j2 (k9 qs) qs):Nat)).map V.int)))
      ⟨_,rfl,c7.new hD _,c5⟩ (λi σ H2 _ ⟨_,_,s2,_⟩=>SqL.of (s2 _ _ (sp _ _ el))) ?_ ?_
    · rintro i x σ H2 hx ⟨o,rfl,s2,e2⟩
      have hi:=(List.getElem?_eq_some_iff.mp hx).1;rw [List.getElem?_map] at hx
      cases hw:(j2 (k9 qs) qs)[i]? with
      | none=>rw [hw] at hx;cases hx
      | some v =>
        rw [hw] at hx
        cases hx
        subst_eqs
        refine ⟨Y8 ⋯ (by rw [Int.natAbs_natCast];exact Y6 cle ⋯),o0.mk hi e2 ?_ ⟨_,rfl,s2.over hD _,?_⟩⟩
        · simp only [List.length_map,List.length_take,j2]
          exact Nat.lt_of_le_of_lt (show _<=100 by omega) (by decide)
        · rw [c5,List.take_succ,hw]
          simp
    · rintro σ H2 ⟨o,rfl,s2,e2⟩
      rw [List.length_map,List.take_length] at e2;refine ⟨v8,λp1 hp1=>?_⟩;have S:=(s1.trans sp).trans (s2.trans (c7.new hp1 (.tup [.ref p,.ref D])))
      have ep:SqT K (upd H2 p1 (.tup [.ref p,.ref D])) p (t7 (Rat.divInt (E9 (j2 (k9 qs) qs):Nat) (k9 qs))):=by
        refine SqT.of ?_;rw [g9 (i9 (s2 _ _ c5) hp1),s2 _ _ c5];unfold t7;rw [f1,f2]
      refine k p1 p D _ ((j2 (k9 qs) qs).map λv=>v.fdiv (E9 (j2 (k9 qs) qs):Nat)) _ S (s1.free (aG9 hD)) c5 ep (by rw [g9 (i9 e2 hp1)];exact e2) ⟨?_,?_⟩ ?_ ?_ ?_ f3 (λ_=>aQ7 hc) ?_
      · rw [f1,Int.natAbs_natCast];exact cle
      · have:(Rat.divInt (E9 (j2 (k9 qs) qs):Nat) (k9 qs)).den=k9 qs:=⋯
        rw [this];exact hB1
      · intro z
        rw [z] at f1;have:(0:Rat).num=0:=rfl;omega
      · intro v hv
        obtain ⟨v',hv',rfl⟩:=List.mem_map.mp hv;exact au7 cpos (W9 hv') (wl v' hv')
      · simp only [List.length_map,j2]
      · exact aT8 (by rw [f1];exact cpos)
theorem aJ6 {f fc fk aN:Addr} (d:Df K mg "lifted" W4 ["p"] f) (G_cleared:Def P w K mg base CX0 2 "cleared" fc ["numbers"] (Z8 K)) (G_content_of:Def P w K mg base CX0 2 "content_of" fk ["wholes"] (af8 K)) (c_ONE:mg "ONE" = some (.ref aN)) (tN:∀ H,SqT K H aN (t7 1)):Def P w K mg base CX0 3 "lifted" f ["p"] (aO6 K) :=
 (aJ4 d G_cleared G_content_of c_ONE tN).imp (by
  rintro vs H Q E ⟨a,xs,qs,h1,h2,h3,W,h4,h5,h6,h7,h8,k⟩;exact ⟨a,xs,qs,h1,h2,h3,W,h4,h5,h6,h7,h8,λr rs l s ws H' a1 a2 a3 a4 a5 a6 a7 a8 a9 b1 b2 _=>k r rs l s ws H' a1 a2 a3 a4 a5 a6 a7 a8 a9 b1 b2⟩)
theorem aP4 {f fc fk aN:Addr} (d:Df K mg "lifted" W4 ["p"] f) (G_cleared:Def P w K mg base CX0 2 "cleared" fc ["numbers"] (Z8 K)) (G_content_of:Def P w K mg base CX0 2 "content_of" fk ["wholes"] (af8 K)) (c_ONE:mg "ONE" = some (.ref aN)) (tN:∀ H,SqT K H aN (t7 1)):Def P w K mg base CX0 3 "lifted" f ["p"] (aF0 K) :=
 (aJ6 d G_cleared G_content_of c_ONE tN).imp (by
  rintro vs H Q E ⟨a,xs,qs,h1,h2,h3,W,h4,h5,h6,h7,h8,k⟩;exact ⟨a,xs,qs,h1,h2,h3,W,h4,h5,h6,h7,h8,λr rs l s ws H' a1 a2 a3 a4 a5 a6 a7 a8 a9 b1 _=>k r rs l s ws H' a1 a2 a3 a4 a5 a6 a7 a8 a9 b1⟩)
theorem ba0 (s:Rat) {v:Int} (hv:v ≠ 0):v.fdiv (q0s (s.den:Int) v:Nat)*s.num=(s*(v:Rat)).num/\(s.den:Int).fdiv (q0s (s.den:Int) v:Nat)=((s*(v:Rat)).den:Int):=by
 have dp:=m9 s;have hg:=J8 (t:=(s.den:Int)) hv;obtain ⟨d',hd⟩:=j0c (s.den:Int) v;obtain ⟨v',hv'⟩:=j0b (s.den:Int) v;have hc:q0s d' v'=1:=P4 hv hd hv'
 have e1:v.fdiv (q0s (s.den:Int) v:Nat)=v':=by
  conv=>lhs;arg 1;rw [hv']
  exact j5 ⋯
 have e2:(s.den:Int).fdiv (q0s (s.den:Int) v:Nat)=d':=by
  conv=>lhs;arg 1;rw [hd]
  exact j5 ⋯
 rw [e1,e2]
 have ev:s*(v:Rat)=z0a (s.num*v) s.den:=by
  have h1:=z0e (v:Rat);rw [u0t,u0u] at h1
  conv=>lhs;rw [<- z0e s,<- h1]
  rw [j0q]
  simp
 rw [ev]
 have hd0:0<d':=by
  rcases g0k 0 d' with z | z
  ·exact z
  ·have:=m0j (show (0:Int)<=(q0s (s.den:Int) v:Nat) by omega) (show 0<=-d' by omega)
   rw [m0b] at this;omega
 have c1:q0s d' s.num=1:=by
  have:=aD8 (k:=s.num) (m:=(s.den:Int)) (n:=d') (al8 s) ⟨_,by rw [u0r];exact hd⟩
  exact af0 this
 refine J9 hd0 (af0 (P5 hc c1)) ⋯ ?_;generalize (q0s (s.den:Int) v:Int)=g at *;rw [hd,hv']
 grind
def bd0 (b:Int) (ws:List Int) (d:Int):Prop:=0<d/\d ∣ b/\∀ v ∈ ws,v ≠ 0->q0s d v=q0s b v
def bc1 (K:q0a):Sp:=λvs H Q _ => ∃ (a:Addr) (ws:List Int) (b:Int),vs=[.ref a,.int b]/\SqL K H a (ws.map V.int)/\ws.length<=100/\0<b/\b.natAbs<2 ^ 6000/\(∀ v ∈ ws,j0s v<2 ^ 20000)/\∀ H' d,c7 H H'->bd0 b ws d->Q (.int d) H'
abbrev D6:Stmt:=top 17
theorem C4:i7 ["wholes","bottom","longest","product","whole"] ["wholes","bottom"] (c9 D6):=by and_intros
theorem ak0 {f fc:Addr} {tL:Tok} (d:Df K mg "divisor_for_all" D6 ["wholes","bottom"] f) (G_common_divisor:Def P w K mg base CX0 1 "common_divisor" fc ["one","other"] al4) (c_LONG:mg "LONG" = some (.int 1000 tL)) (n_max:mg "max" = none):Def P w K mg base CX0 2 "divisor_for_all" f ["wholes","bottom"] (bc1 K):=by
  refine d.ok (N:=["wholes","bottom","longest","product","whole"]) C4 (by rintro vs H Q E ⟨a,b,c,h,_⟩;rw [h];rfl) (λcdv A outer s H vs Q E hr h=>?_)
  obtain ⟨a,ws,b,rfl,hS,hl,hb0,hb,hws,k⟩:=h
  refine ⟨_, (c6 (g8 (i := 2) C4.nd rfl (Or.inl rfl) (aZ2 rfl rfl n_max (b6 (t8 (Nc := ["whole"]) (caps := [none]) rfl (G2.of (osc := c9 D6) (N := ["wholes", "bottom", "longest", "product", "whole"]) (ks := []) rfl rfl rfl rfl j6 (by decide +kernel)) (r6 (pv 0)) (fun C s₂ H₂ fp pins => (d5 (i := 0) (show List.Nodup (["whole"] : List Str) by decide +kernel) rfl (Or.inl rfl) (Or.inr rfl))) (fun C s₂ H₂ fp pins => (show PE _ _ (ag9 K "int" _ _) from by exact (ao2 PySem.F.plainAttrs_int PySem.F.slot_int_bit_length PySem.F.type_int_bit_length aa3 (pv 0))))) b8)))
      (c6 (B8 (PW.pt (ac6 (j9 ac7 (ao2 PySem.F.plainAttrs_int PySem.F.slot_int_bit_length PySem.F.type_int_bit_length aa3 (pv 1)) (ar4 (v:=.int 1000) rfl c_LONG ⟨_,rfl⟩) (j1 _)) (aj8 (j9 ac8 (ao2 PySem.F.plainAttrs_int PySem.F.slot_int_bit_length PySem.F.type_int_bit_length aa3 (pv 1)) (g7 p7 b9 (pv 2)) (j1 _))))) (d2 (i5 (pv 1))) p9)
      (c6 (g8 (i:=3) C4.nd rfl (Or.inl rfl) b9)
      (c6 (K2 PassesOwn.never rfl (r6 (pv 0)) (d5 (i:=4) C4.nd rfl (Or.inl rfl)) (d2 (B8 (am0 (pv 4) (λ_=>rfl)) (d2 (g8 (i:=3) C4.nd rfl (Or.inl rfl) (g7 J6 (g7 p7 (pv 3) (pv 4)) (pv 1)))) p9)))
      (d2 (i5 (d4 G_common_divisor hr (b6 (pv 1) (b6 (pv 3) b8)) f9))))))),?_⟩
  rw [show start ["wholes","bottom","longest","product","whole"] [.ref a,.int b]=[some (.ref a),some (.int b),none,none,none] from rfl]
  subst_eqs
  have triv:bd0 b ws b:=⟨hb0,Int.dvd_refl _,λ_ _ _=>rfl⟩;refine ⟨⟨_,hS⟩,λD hD=>?_⟩;refine y9 (ws.map V.int) (λi σ H2 => ∃ o,σ=[o]/\c7 H H2/\∃ ns:List Int,ns.length=i/\H2 D=some (.lst (ns.map V.int))) ⟨_,rfl,c7.new hD _,[],rfl,c5⟩ (by rintro i σ H2 _ ⟨_,_,s2,_⟩;exact s2.seq hS) ?_ ?_
  · rintro i x σ H2 hx ⟨o,rfl,s2,ns,hn,e2⟩
    have hi:=(List.getElem?_eq_some_iff.mp hx).1;obtain ⟨v,hw,rfl⟩:=aa5 hx
    subst_eqs
    refine o0.mk hi e2 ?_ ⟨_,rfl,s2.over hD _,?_⟩
    · rw [List.length_map] at hi ⊢
      exact Nat.lt_of_lt_of_le (show ns.length<101 by omega) (by decide)
    · refine ⟨ns ++ [(Builtin.Int.intBits v:Int)],by simp [hn],?_⟩
      rw [c5,List.map_append];rfl
  · rintro σ H2 ⟨o,rfl,s2,ns,hn,e2⟩
    refine ⟨D,rfl,ns,SqL.of e2,λi=>?_⟩;refine F2 (λ_=>k H2 b s2 triv) (λ_=>?_);refine ⟨aP6 (by decide),F2 (λ_=>k H2 b s2 triv) (λ_=>?_)⟩
    refine ⟨_,rfl,a,rfl,⟨_,s2.seq hS⟩,aa6 (xs:=ws.map V.int) (λi' σ H3=>H3=H2/\∃ p o,σ=[some (.ref a),some (.int b),some (.int i),some (.int p),o]/\p.natAbs<2 ^ 6000/\∃ e,ap3 (ws.take i')=p+b*e) ⟨rfl,1,_,rfl,Nat.lt_of_lt_of_le (show _<2 ^ 1 by decide) (d6 (by decide)),0,by simp [ap3]⟩ (by rintro i' σ H3 _ ⟨rfl,_⟩;exact s2.seq hS) ?_ ?_⟩
    · rintro i' x σ H3 hx ⟨rfl,p,o,rfl,hp,e,he⟩
      obtain ⟨v,hv,rfl⟩:=aa5 hx;have hvm:=hws v (List.mem_of_getElem? hv);have es:ws.take (i'+1)=ws.take i' ++ [v]:=by rw [List.take_succ,hv];rfl
      simp! [aI2]
      refine F2 (λh=>?_) (λh=>?_)
      · have hv0:v ≠ 0:=by simpa using h
        refine ⟨L7 hp hvm,⋯,?_,(p*v).fdiv b+e*v,?_⟩
        · have h1:=Int.fmod_nonneg_of_pos (p*v) hb0
          have h2:=Int.fmod_lt_of_pos (p*v) hb0;omega
        · rw [es,as7,if_neg hv0,he]
          have:=Int.fmod_add_mul_fdiv (p*v) b
          grind
      · have hv0:v=0:=by simpa using h
        refine ⟨hp,e,?_⟩;rw [es,as7,if_pos hv0,he]
    · rintro σ H3 ⟨rfl,p,o,rfl,hp,e,he⟩
      rw [List.length_map,List.take_length] at he
      simp! [al4]
      refine ⟨.inl hb,k _ _ s2 ⟨?_,Int.gcd_dvd_left _ _,λv hv hv0=>?_⟩⟩
      · have:=J8 (t:=p) (b:=b) ⋯
        rw [Int.gcd_comm] at this;omega
      · have e1 : Int.gcd b p = Int.gcd b (ap3 ws) := by
          rw [he];refine Nat.dvd_antisymm ?_ ?_
          · exact Int.dvd_gcd (Int.gcd_dvd_left _ _) (Int.dvd_add (Int.gcd_dvd_right _ _) (Int.dvd_trans (Int.gcd_dvd_left _ _) ⟨e,rfl⟩))
          · refine Int.dvd_gcd (Int.gcd_dvd_left _ _) ?_
            have h1:=Int.gcd_dvd_right b (p+b*e);have h2:((Int.gcd b (p+b*e):Nat):Int) ∣ b*e:=Int.dvd_trans (Int.gcd_dvd_left _ _) ⟨e,rfl⟩;have:=Int.dvd_sub h1 h2
            rwa [Int.add_sub_cancel] at this
        rw [e1];exact aW4 (aO9 hv hv0)
def ax3 (K:q0a):Sp:=λvs H Q _ => ∃ (x:V) (s:Rat) (a:Addr) (ws:List Int),vs=[x,.ref a]/\Num K H x s/\SqL K H a (ws.map V.int)/\s.den<2 ^ 6000/\s.num.natAbs<2 ^ 6000/\(∀ v ∈ ws,j0s v<2 ^ 20000)/\ws.length<=100 /\
 ∀ r xs H',c7 H H'->H r=none->H' r=some (.lst xs)->t5 H' xs (scl s ws)->Q (.ref r) H'
abbrev ag0:Stmt:=top 18
theorem L9:i7 ["scale","wholes","divisor","numbers","whole","top","bottom","shared"] ["scale","wholes"] (c9 ag0):=by and_intros
theorem aJ2 {f fd fc:Addr} (d:Df K mg "lowered" ag0 ["scale","wholes"] f) (G_divisor_for_all:Def P w K mg base CX0 2 "divisor_for_all" fd ["wholes","bottom"] (bc1 K)) (G_common_divisor:Def P w K mg base CX0 1 "common_divisor" fc ["one","other"] al4):Def P w K mg base CX0 3 "lowered" f ["scale","wholes"] (ax3 K):=by
  refine d.ok (N:=["scale","wholes","divisor","numbers","whole","top","bottom","shared"]) L9 (by rintro vs H Q E ⟨a,b,c,e,h,_⟩;rw [h];rfl) (λcdv A outer s H vs Q E hr h=>?_)
  obtain ⟨x,sc,a,ws,rfl,⟨px,rfl,hx⟩,hS,hd,hn,hw,hl,k⟩:=h
  refine ⟨_, (c6 (F9 (pv 0) (show PG _ _ (G3 K 2 (l9 (j7 5) (l9 (j7 6) G4))) from by (refine C9 (n := 2) ?_ ?_ ?_ ?_; rfl; (refine i6 ?_ ?_ ?_; (exact (d5 (i := 5) L9.nd rfl (Or.inl rfl))); (refine i6 ?_ ?_ ?_; (exact (d5 (i := 6) L9.nd rfl (Or.inl rfl))); (exact y7); rfl); rfl); rfl; rfl)))
      (c6 (g8 (i:=2) L9.nd rfl (Or.inl rfl) (d4 G_divisor_for_all hr (b6 (pv 1) (b6 (pv 6) b8)) f9))
      (c6 (g8 (i:=3) L9.nd rfl (Or.inl rfl) (B5 b8))
      (c6 (K2 PassesOwn.never rfl (r6 (pv 1)) (d5 (i:=4) L9.nd rfl (Or.inl rfl)) (c6 (g8 (i:=7) L9.nd rfl (Or.inl rfl) (as9 (am0 (pv 4) (λ_=>rfl)) (d4 G_common_divisor hr (b6 (pv 2) (b6 (pv 4) b8)) f9) (pv 6)))
      (d2 (am1 (aM0 PySem.F.plainAttrs_list PySem.F.slot_list_append PySem.F.type_list_append J7 (pv 3) (b6 (j3 (b6 (g7 p7 (g7 E2 (pv 4) (pv 7)) (pv 5)) (b6 (g7 E2 (pv 6) (pv 7)) b8))) b8))))))
      (d2 (i5 (pv 3))))))),?_⟩
  rw [show start ["scale","wholes","divisor","numbers","whole","top","bottom","shared"] [.ref px,.ref a]=[some (.ref px),some (.ref a),none,none,none,none,none,none] from rfl]
  simp! [aI2]
  refine ⟨_,hx,rfl,_,_,rfl,_,_,rfl,rfl,a,ws,_,rfl,hS,hl,by have:=m9 sc;omega,by rw [Int.natAbs_natCast];exact hd,hw,λH1 dv s1 ⟨dv0,dv1,dv2⟩=>⟨by decide,λp hp=>?_⟩⟩
  refine ⟨_,rfl,a,rfl,⟨_,(s1.trans (c7.new hp _)).seq hS⟩,aa6 (xs:=ws.map V.int) (λi σ H2 => ∃ o1 o2,σ=[some (.ref px),some (.ref a),some (.int dv),some (.ref p),o1,some (.int sc.num),some (.int sc.den),o2]/\c7 H1 H2/\∃ xs,H2 p=some (.lst xs)/\t5 H2 xs (scl sc (ws.take i))) ⟨_,_,rfl,c7.new hp _,[],c5,.nil⟩ (λi σ H2 _ ⟨_,_,_,s2,_⟩=>s2.seq (s1.seq hS)) ?_ ?_⟩
  · rintro i x σ H2 hx' ⟨o1,o2,rfl,s2,xs,e2,n2⟩
    have hi:=(List.getElem?_eq_some_iff.mp hx').1;obtain ⟨v,hv,rfl⟩:=aa5 hx';have dp:=m9 sc;have es:ws.take (i+1)=ws.take i ++ [v]:=by rw [List.take_succ,hv];rfl
    have hvb:=hw v (List.mem_of_getElem? hv);have hdb:(sc.den:Int).natAbs<2 ^ 6000:=by rw [Int.natAbs_natCast];exact hd
    simp only [ak9,ipM,aj6,ah1,ae0,B2,W6,D4,y0,V6,ae6,aj4,tSl,ai6,K5,A4,Q6,aj5,F8,T9,x4,List.map_cons,List.map_nil,Option.bind_none,Option.bind_some,Option.join_some,ag6,ai8,aj0,tOr,ai7,V3,tB,tOp,tUn,ag9,tBM,B3,tC,tCB,ag7,ad1,j7,ae7,G3,l9,G4,A3,N4,ag8,ai5,ad0,tIf,V9,V4,V8,V7,V5,L8,ai9,rI,rI0,rU,F6,N8,ae1,Q7,rEq,rNe,aj7,Z1,W8,W7,K0,Z6,Cx.nox,Cx.wish,List.getElem?_cons_zero,List.getElem?_cons_succ,List.set_cons_zero,List.set_cons_succ,Option.some.injEq,V.int.injEq,V.bl.injEq,V.ref.injEq,V.str.injEq,exists_eq_left',exists_eq_left,exists_and_left,true_and,and_true,List.cons.injEq,reduceCtorEq,Bool.false_eq_true,if_false,if_true,exists_const,↓reduceIte,tyV,List.length_cons,List.length_nil,exists_eq,List.append_nil,List.cons_append,List.nil_append,decide_eq_true_eq,not_true_eq_false,not_false_eq_true,Bool.not_eq_true',decide_eq_false_iff_not,Bool.not_true,Bool.not_false,and_assoc,false_and,false_or,or_false,aI2,al4]
    have fin : ∀ (A B : Int), A = (sc * (v : Rat)).num → B = ((sc * (v : Rat)).den : Int) → ∀ p1, H2 p1 = none → ∃ x, upd H2 p1 (.tup [.int A, .int B]) p = some (.lst x) ∧ x.length < sizeLine ∧ c7 H1 (upd (upd H2 p1 (.tup [.int A, .int B])) p (.lst (x ++ [.ref p1]))) ∧
        ∃ xs,upd (upd H2 p1 (.tup [.int A,.int B])) p (.lst (x ++ [.ref p1])) p=some (.lst xs)/\t5 (upd (upd H2 p1 (.tup [.int A,.int B])) p (.lst (x ++ [.ref p1]))) xs (scl sc (ws.take (i+1))):=by
      intro A B hA hB p1 hp1;have e:=c7.new hp1 (.tup [.int A,.int B]) _ _ e2;refine ⟨xs,e,?_,(s2.trans (c7.new hp1 _)).over hp _,_,c5,?_⟩
      · rw [n2.length,aY7,List.length_take]
        exact Nat.lt_of_le_of_lt (show _<=100 by omega) (by decide)
      · have e3:scl sc (ws.take (i+1))=scl sc (ws.take i) ++ [sc*(v:Rat)]:=by rw [es];simp [scl]
        rw [e3];exact ((n2.mono (X1.new hp1)).append (.cons (by rw [c5];unfold t7;rw [hA,hB]) .nil)).mono (X1.lst e)
    refine F2 (λh=>?_) (λh=>?_)
    · have hv0:v ≠ 0:=by simpa using h
      obtain ⟨q1,q2⟩:=ba0 sc hv0;have gp:=J8 (t:=(sc.den:Int)) hv0;have gl:=aH3 (b:=v) (show (sc.den:Int) ≠ 0 by omega) hdb
      have hdvb:dv.natAbs<2 ^ 6000:=by
        have:=Int.le_of_dvd ⋯ dv1;omega
      rw [dv2 v (List.mem_of_getElem? hv) hv0];refine ⟨.inl hdvb,.inl ⟨_,SqL.of e2⟩,Y8 ⋯ (Y6 gl),L7 (au7 ⋯ (Int.gcd_dvd_right _ _) hvb) hn,Y8 ⋯ (Y6 gl),v8,fin _ _ q1 q2⟩
    · have hv0:v=0:=by simpa using h
      subst hv0;have z1:sc*((0:Int):Rat)=0:=by rw [Rat.intCast_zero];grind
      refine ⟨.inl ⟨_,SqL.of e2⟩,Y8 ⋯ (Y6 hdb),L7 (m:=1) (by rw [Int.zero_fdiv];decide) hn,Y8 ⋯ (Y6 hdb),v8,fin _ _ ?_ ?_⟩
      · rw [z1,Int.zero_fdiv,Int.zero_mul];rfl
      · rw [z1,Int.fdiv_self ⋯];rfl
  · rintro σ H2 ⟨o1,o2,rfl,s2,xs,e2,n2⟩
    rw [List.length_map,List.take_length] at n2;exact ⟨_,rfl,k p xs H2 (s1.trans s2) (s1.free hp) e2 n2⟩
end
end R
set_option maxRecDepth 100000
namespace L2
open PySem PySem.Spec PyProof.Rows
end L2
namespace R
open PySem L2 PyProof.Rows
structure Ew (n m:Nat) (A B:Mt) (k:Nat) (M:List (List Int)) (dv:Int):Prop where
 len:M.length=n
 row:∀ L ∈ M,L.length=m
 nm:n<=m
 ent:∀ i j,k<=i->i<n->k<=j->j<m->((zz M i j:Int):Rat)=mi B k i j
 zer:∀ i j,k<=i->i<n->j<k->zz M i j=0
 abv:∀ i j,i<k->k<=j->j<m->((zz M i j:Int):Rat)=mi B k (n+i) j
 dia:∀ i j,i<k->j<k->zz M i j=if i=j then dv else 0
 ext:∀ i c,B (n+i) c=if c=i then -1 else 0
 int:∀ r c,IsI (B r c)
 det:dt n B=dt n A
 led:∀ q,1<=q->q<=k->dt q B ≠ 0
 div:((dv:Int):Rat)=dt k B
theorem aj1 (f:Nat->Nat->Rat) (m:Nat):∀ n,i4 (λi=>i4 (λj=>f i j) m) n=i4 (λj=>i4 (λi=>f i j) n) m
 | 0=>(N5 m λ_ _=>rfl).symm
 | n+1=>by
  show i4 (λi=>i4 (λj=>f i j) m) n+i4 (λj=>f n j) m=i4 (λj=>i4 (λi=>f i j) n+f n j) m;rw [aj1 f m n,af5]
def dij (i j:Nat):Rat:=if i=j then 1 else 0
theorem aI5 (f:Nat->Rat) {n c:Nat} (hc:c<n):i4 (λt=>f t*dij t c) n=f c:=by
 rw [m8 (g:=λt=>if t=c then f t else 0) λt _=>by unfold dij;split <;> grind,al1 f c n,if_pos hc]
def Rl (n:Nat) (Q:Mt) (M:List (List Int)):Prop:=∀ i j,i<n->j<n->((zz M i j:Int):Rat)=i4 (λt=>((zz M i (n+t):Int):Rat)*Q t j) n
theorem aS9 (f:Nat->Rat) {n c:Nat} (hc:c<n):i4 (λt=>dij c t*f t) n=f c:=by
 rw [m8 (g:=λt=>f t*dij t c) λt _=>by unfold dij;split <;> split <;> grind]
 exact aI5 f hc
def mm (n:Nat) (A B:Mt):Mt:=λi j=>i4 (λt=>A i t*B t j) n
theorem aV3 (n:Nat) (A B C:Mt) (i j:Nat):mm n (mm n A B) C i j=mm n A (mm n B C) i j:=by
 unfold mm
 rw [m8 (g:=λt=>i4 (λu=>A i u*(B u t*C t j)) n) λt _=>by
  rw [Rat.mul_comm,J1];exact m8 λu _=>by grind]
 rw [aj1 (λt u=>A i u*(B u t*C t j)) n n];exact m8 λu _=>by rw [J1]
theorem au0 {n:Nat} {A B C D:Mt} {i j:Nat} (h:∀ t,t<n->A i t=C i t) (k:∀ t,t<n->B t j=D t j):mm n A B i j=mm n C D i j:=m8 λt ht=>by rw [h t ht,k t ht]
theorem an0 {L:List Rat} {n:Nat} (h:L.length=n):L=(z0q n).map (aQ L):=by
 refine g0c λi=>?_
 by_cases hi:i<n
 ·rw [q0q,v0q hi,q0c ⋯]
  show _=some ((L[i]?).getD 0);rw [q0c ⋯];rfl
 ·rw [z0k ⋯,z0k (by rw [q0d,y0n];omega)]
structure C3 (n:Nat) (M:List (List Rat)) (f:Mt):Prop where
 len:M.length=n
 row:∀ L ∈ M,L.length=n
 at':∀ i j,i<n->j<n->qq M i j=f i j
theorem C3.of {n:Nat} {M:List (List Rat)} (l:M.length=n) (r:∀ L ∈ M,L.length=n):C3 n M (qq M):=⟨l,r,λ_ _ _ _=>rfl⟩
theorem C3.to {n:Nat} {M:List (List Rat)} {f g:Mt} (h:C3 n M f) (e:∀ i j,i<n->j<n->f i j=g i j):C3 n M g:=⟨h.len,h.row,λi j hi hj=>by rw [h.at' i j hi hj,e i j hi hj]⟩
theorem C3.eq {n:Nat} {M N:List (List Rat)} {f:Mt} (h:C3 n M f) (k:C3 n N f):M=N:=by
 have lM:=h.len;have lN:=k.len;refine g0c λi=>?_
 by_cases hi:i<n
 ·have e1:=q0c (l:=M) (i:=i) ⋯
  have e2:=q0c (l:=N) (i:=i) ⋯;rw [e1,e2]
  congr 1
  rw [an0 (h.row _ (q0h e1)),an0 (k.row _ (q0h e2))];refine y0u λj hj=>?_;have:=(h.at' i j hi (y0q.mp hj)).trans (k.at' i j hi (y0q.mp hj)).symm;unfold qq at this;rw [e1,e2] at this;exact this
 ·rw [z0k ⋯,z0k ⋯]
theorem C3.prod {n:Nat} {A B:List (List Rat)} {f g:Mt} (h:C3 n A f) (k:C3 n B g):C3 n (am2 A B) (mm n f g):=by
 have lA:=h.len;have lB:=k.len;refine ⟨by rw [ae2,lA],λL hL=>?_,λi j hi hj=>?_⟩
 ·obtain ⟨L0,_,rfl⟩:=z0g.mp hL
  rw [q0d];unfold Y7;rw [q0d,y0n,lB]
 ·have e1:=q0c (l:=A) (i:=i) ⋯
  have rl:=h.row _ (q0h e1);have cl:(av5 B j).length=n:=by rw [ar8,lB]
  unfold qq;rw [aF8 e1]
  show ((((Y7 B B.length).map (M7 A[i]))[j]?).getD 0)=_;unfold Y7;rw [lB,g0m,q0q,v0q hj]
  show M7 _ (av5 B j)=_;rw [an0 rl,an0 cl,az0];refine m8 λt ht=>?_;have a1:=h.at' i t hi ht;have a2:=k.at' t j ht hj;unfold qq at a1 a2;rw [e1] at a1;have e2:=q0c (l:=B) (i:=t) ⋯;rw [e2] at a2;rw [<- a1,<- a2]
  congr 1
  unfold aQ av5;rw [q0q,e2];rfl
theorem C3.sum {n:Nat} {A B:List (List Rat)} {f g:Mt} (h:C3 n A f) (k:C3 n B g):C3 n (an8 A B) (λi j=>f i j+g i j):=by
 have lA:=h.len;have lB:=k.len;refine ⟨by unfold an8;rw [j0v];omega,λL hL=>?_,λi j hi hj=>?_⟩
 ·obtain ⟨i,hi⟩:=j0g.mp hL
  unfold an8 at hi;rw [j0x] at hi
  cases ea:A[i]? with
  | none=>rw [ea] at hi;cases hi
  | some a =>
   cases eb:B[i]? with
   | none=>rw [ea,eb] at hi;cases hi
   | some b =>
    rw [ea,eb] at hi;obtain rfl:=Option.some.inj hi;rw [j0v,h.row _ (q0h ea),k.row _ (q0h eb)];omega
 ·have e1:=q0c (l:=A) (i:=i) ⋯
  have e2:=q0c (l:=B) (i:=i) ⋯;have r1:=h.row _ (q0h e1);have r2:=k.row _ (q0h e2);rw [<- h.at' i j hi hj,<- k.at' i j hi hj];unfold qq an8;rw [j0x,e1,e2]
  show ((v0x (· + ·) A[i] B[i])[j]?).getD 0=(A[i][j]?).getD 0+(B[i][j]?).getD 0
  rw [j0x,q0c (l:=A[i]) ⋯,q0c (l:=B[i]) ⋯];rfl
theorem C3.map {n:Nat} {A:List (List Rat)} {f:Mt} (F:Rat->Rat) (h:C3 n A f):C3 n (A.map λL=>L.map F) (λi j=>F (f i j)):=by
 have lA:=h.len;refine ⟨by rw [q0d,lA],λL hL=>?_,λi j hi hj=>?_⟩
 ·obtain ⟨L0,h0,rfl⟩:=z0g.mp hL
  rw [q0d,h.row _ h0]
 ·have e1:=q0c (l:=A) (i:=i) ⋯
  have r1:=h.row _ (q0h e1);rw [<- h.at' i j hi hj];unfold qq;rw [q0q,e1]
  show ((A[i].map F)[j]?).getD 0=F ((A[i][j]?).getD 0);rw [q0q,q0c (l:=A[i]) ⋯];rfl
theorem C3.unit (n:Nat):C3 n (M1 n) dij:=by
 refine ⟨by unfold M1;rw [q0d,y0n],λL hL=>?_,λi j hi hj=>?_⟩
 ·obtain ⟨i,_,rfl⟩:=z0g.mp hL
  rw [q0d,y0n]
 ·unfold qq M1
  rw [q0q,v0q hi]
  show ((((z0q n).map λj=>if i=j then (1:Rat) else 0)[j]?).getD 0)=_;rw [q0q,v0q hj];rfl
def F5 (n:Nat) (g:Nat->Int):List Int:=(z0q n).map g
def ai4 (n:Nat) (f:Nat->Nat->Int):List (List Int):=(z0q n).map λi=>F5 n (f i)
theorem Q4 {n j:Nat} {g:Nat->Int} (h:j<n):(F5 n g)[j]? = some (g j):=by unfold F5;rw [q0q,ab9 h];rfl
theorem A0 (n:Nat) (g:Nat->Int):(F5 n g).length=n:=by simp [F5]
theorem P6 {n i:Nat} {f:Nat->Nat->Int} (h:i<n):(ai4 n f)[i]? = some (F5 n (f i)):=by unfold ai4;rw [q0q,ab9 h];rfl
theorem z9 (n:Nat) (f:Nat->Nat->Int):(ai4 n f).length=n:=by simp [ai4]
structure ZT (H:Hp) (a:Addr) (n:Nat) (f:Nat->Nat->Int):Prop where
 ex:∃ ts:List Addr,H a=some (.lst (ts.map V.ref))/\RwZ H ts (ai4 n f)
theorem ZT.same {H H':Hp} {a:Addr} {n:Nat} {f:Nat->Nat->Int} (h:ZT H a n f) (s:c7 H H'):ZT H' a n f:=let ⟨ts,e,r⟩:=h.ex;⟨ts,s _ _ e,r.same s⟩
theorem aI4 {n:Nat} {f g:Nat->Nat->Int} (h:∀ i j,i<n->j<n->f i j=g i j):ai4 n f=ai4 n g:=y0u λi hi=>y0u λj hj=>h i j (y0q.mp hi) (y0q.mp hj)
theorem ZT.to {H:Hp} {a:Addr} {n:Nat} {f g:Nat->Nat->Int} (h:ZT H a n f) (e:∀ i j,i<n->j<n->f i j=g i j):ZT H a n g:=let ⟨ts,e1,r⟩:=h.ex;⟨ts,e1,(aI4 e) ▸ r⟩
def bg9 (H:Hp) (Q:VK) (n:Nat) (f:Nat->Nat->Int):Prop:=∀ (r:Addr) (H':Hp),c7 H H'->H r=none->ZT H' r n f->Q (.ref r) H'
structure ZAt (H:Hp) (D:Addr) (Z:List (List Int)) (H2:Hp):Prop where
 same:c7 H H2
 ex:∃ ts:List Addr,H2 D=some (.lst (ts.map V.ref))/\D ∉ ts/\RwZ H2 ts Z
theorem ZAt.start {H:Hp} {D:Addr} (h:H D=none):ZAt H D [] (upd H D (.lst [])):=⟨c7.new h _,[],c5,by simp,.nil⟩
theorem ZAt.add {H H2 H3:Hp} {D D2:Addr} {Z:List (List Int)} {L:List Int} (t:ZAt H D Z H2) (h:H D=none) (s:c7 H2 H3) (h2:H2 D2=none) (e:H3 D2=some (.lst (L.map V.int))) :
  ∃ ys,H3 D=some (.lst ys)/\ys.length=Z.length/\ZAt H D (Z ++ [L]) (upd H3 D (.lst (ys ++ [.ref D2]))):=by
 obtain ⟨s2,ts,e2,nd,r⟩:=t;have eD:=s _ _ e2;have D2D:D2 ≠ D:=(i9 e2 h2).symm
 have nl:D ∉ ts ++ [D2]:=λz=>by
  rcases z0y.mp z with z | z
  ·exact nd z
  ·exact D2D (z0f.mp z).symm
 exact ⟨_,eD,by rw [q0d,r.length],(s2.trans s).over h _,ts ++ [D2],by rw [c5,j0u];rfl,nl,((r.same s).append (.cons e .nil)).over nl⟩
theorem ZAt.done {H H2:Hp} {D:Addr} {n:Nat} {f:Nat->Nat->Int} (t:ZAt H D (ai4 n f) H2):ZT H2 D n f:=let ⟨ts,e,_,r⟩:=t.ex;⟨ts,e,r⟩
structure an5 (H:Hp) (D:Addr) (L:List Int) (H2:Hp):Prop where
 same:c7 H H2
 at':H2 D=some (.lst (L.map V.int))
theorem an5.start {H:Hp} {D:Addr} (h:H D=none):an5 H D [] (upd H D (.lst [])):=⟨c7.new h _,c5⟩
theorem an5.add {H H2 H3:Hp} {D:Addr} {L:List Int} (v:Int) (t:an5 H D L H2) (h:H D=none) (s:c7 H2 H3):an5 H D (L ++ [v]) (upd H3 D (.lst (L.map V.int ++ [.int v]))):=⟨(t.same.trans s).over h _,by rw [c5,j0u];rfl⟩
theorem ZT.row {H:Hp} {ts:List Addr} {n i:Nat} {f:Nat->Nat->Int} {t:Addr} (r:RwZ H ts (ai4 n f)) (h:ts[i]? = some t):i<n/\H t=some (.lst ((F5 n (f i)).map V.int)):=by
 obtain ⟨L,hL,e⟩:=r.get h;have hi:i<n:=by have:=(q0g.mp hL).1;rw [z9] at this;exact this
 rw [P6 hi] at hL
 cases hL
 exact ⟨hi,e⟩
theorem au4 {n j:Nat} {g:Nat->Int} {x:V} (h:((F5 n g).map V.int)[j]? = some x):j<n/\x=.int (g j):=by
 have hj:j<n:=by have:=(q0g.mp h).1;rw [q0d,A0] at this;exact this
 rw [q0q,Q4 hj] at h
 cases h
 exact ⟨hj,rfl⟩
theorem aH7 {n:Nat}:∀ {M:List (List Rat)} {i j:Nat},(∀ L ∈ M,L.length=n)->i<M.length->j<n->M.flatten[n*i+j]? = some (qq M i j)
 | L :: M,0,j,h,_,hj=>by
  have l:=h L q0u;rw [y0b,Nat.mul_zero,Nat.zero_add,g0f ⋯,q0c ⋯];unfold qq;rw [y0d]
  show _=some (aQ L j);unfold aQ;rw [q0c ⋯];rfl
 | L :: M,i+1,j,h,hi,hj=>by
  have l:=h L q0u;rw [y0b,v0k (by rw [l,v0z];omega),l,show n*(i+1)+j-n=n*i+j by rw [v0z];omega,aH7 (λx hx=>h x (q0p _ hx)) (by simpa using hi) hj]
  unfold qq;rw [j0k]
theorem bg4 (xs:List V) {a b:Nat} (h:a<=b) (h':b<=xs.length):ah5 xs (some (a:Int)) (some (b:Int))=(xs.drop a).take (b-a):=by
 unfold ah5
 have e1:HT.sIx xs.length 0 (some (a:Int))=a:=by
  simp only [HT.sIx];rw [if_neg ⋯];omega
 have e2:HT.sIx xs.length xs.length (some (b:Int))=b:=by
  simp only [HT.sIx];rw [if_neg ⋯];omega
 rw [e1,e2]
theorem au6 {n:Nat}:∀ {M:List (List Rat)},(∀ L ∈ M,L.length=n)->M.flatten.length=n*M.length
 | [],_=>rfl
 | L :: M,h=>by
  rw [y0b,j0d,au6 λx hx=>h x (q0p _ hx),h L q0u,z0n,v0z,m0x]
section
variable {P:Program} {w:World} {K:q0a} {mg:Str->Option Value} {base:Heap}
def ax2:Sp:=λvs H Q _ => ∃ (a:Addr) (n:Nat) (f:Nat->Nat->Int),vs=[.ref a]/\ZT H a n f/\n<=8/\bg9 H Q n λi j=>f j i
theorem aJ5 {f:Addr} (d:Df K mg "turned" ad9 ["table"] f) (n_range:mg "range" = none) (n_len:mg "len" = none):Def P w K mg base CX0 1 "turned" f ["table"] ax2:=by
 refine d.ok (N:=["table"]) aO8 (by rintro vs H Q E ⟨_,_,_,h,_⟩;rw [h];rfl) (λcdv A outer s H vs Q E hr h=>?_)
 obtain ⟨a,n,f,rfl,hZ,hl,k⟩:=h;obtain ⟨ts,ha,hR⟩:=hZ.ex;refine ⟨_,(d2 (i5 (aa2 (Nc:=["table","place"]) (caps:=[some 0,none]) rfl (ac9.of (osc:=c9 ad9) (N:=["table"]) (ks:=["table"]) rfl rfl rfl rfl (i8 rfl j6) (by decide +kernel)) (y3 rfl n_range (b6 (j8 k0 rfl n_len (by decide +kernel) (b6 (pv 0) b8)) b8)) (λC s₂ H₂ fp pins=>(d5 (i:=1) (show z0j (["table","place"]:List Str) by decide +kernel) rfl (z0v rfl) (q0w rfl))) (λC s₂ H₂ fp pins=>(t8 (Nc:=["place","row"]) (caps:=[some 1,none]) rfl (G2.of (osc:=_) (N:=["table","place"]) (ks:=["place"]) rfl rfl rfl rfl (i8 rfl j6) (by kernel_rfl)) (show PI _ _ _ (K0 K _) from by exact (r6 (pv 0))) (λC s₂ H₂ fp pins=>(d5 (i:=1) (show z0j (["place","row"]:List Str) by decide +kernel) rfl (q0w rfl) (z0v rfl))) (λC s₂ H₂ fp pins=>(j4 (by exact t9:IxR _ (N8 K)) (pv 1) (pv 0) (λ_ _=>rfl)))))))),?_⟩
 rw [show start ["table"] [.ref a]=[some (.ref a)] from rfl]
 subst_eqs
 have hRl:=hR.length;rw [z9] at hRl;refine ⟨_,.inl (SqL.of ha),⋯,by rw [q0d];omega,λD hD=>?_⟩
 refine I0 (λi σ H2 => ∃ o,σ=[some (.ref a),o]/\ZAt H D ((ai4 n λi j=>f j i).take i) H2) ⟨_,rfl,ZAt.start hD⟩ ?_ ?_
 ·rintro i σ H2 hi ⟨o,rfl,T⟩
  subst_eqs
  have ha2:=T.same _ _ ha;have hi':i<n:=by rw [q0d] at hi;omega
  refine ⟨⟨_,SqL.of ha2⟩,λD2 hD2=>?_⟩;refine y9 (ts.map V.ref) (λj σ H3 => ∃ o,σ=[some (.int (0+i)),o]/\an5 H2 D2 ((F5 n λj=>f j i).take j) H3) ⟨_,rfl,an5.start hD2⟩ (λj σ H3 _ ⟨_,_,R⟩=>SqL.of (R.same _ _ ha2)) ?_ ?_
  ·rintro j x σ H3 hx ⟨o,rfl,R⟩
   have hj:=(q0g.mp hx).1;obtain ⟨t,ht,rfl⟩:=A1 hx;obtain ⟨jn,et⟩:=ZT.row hR ht
   subst_eqs
   have S:=T.same.trans R.same;refine ⟨_,SqL.of (S _ _ et),.int (f j i),by rw [Int.zero_add,C7];rw [q0q,Q4 hi'];rfl,?_⟩
   refine o0.mk hj R.at' (p8 (by rw [q0d,q0x,A0];omega)) ⟨_,rfl,?_⟩
   rw [d7 (Q4 (g:=λj=>f j i) jn)];exact R.add _ hD2 (c7.refl _)
  ·rintro σ H3 ⟨o,rfl,R⟩
   rw [k7 (by rw [A0,q0d];omega)] at R
   obtain ⟨ys,eD,yl,T'⟩:=T.add hD R.same hD2 R.at';refine o0.mk hi eD (p8 (by rw [yl,q0x,z9];omega)) ⟨_,rfl,?_⟩
   rw [d7 (P6 (f:=λi j=>f j i) hi')];exact T'
 ·rintro σ H2 ⟨o,rfl,T⟩
  rw [k7 (by rw [z9,q0d];omega)] at T
  exact k D H2 T.same hD T.done
def aE9:Sp:=λvs H Q _ => ∃ (a b:Addr) (n V' W:Nat) (f g:Nat->Nat->Int),vs=[.ref a,.ref b]/\ZT H a n f/\ZT H b n g/\n<=8/\(∀ i j,i<n->j<n->(f i j).natAbs<2 ^ V'/\(g i j).natAbs<2 ^ W)/\V'+W<=9000/\bg9 H Q n λi j=>smZ (F5 n λt=>f i t*g t j)
abbrev M5:Stmt:=top 25
theorem ah8:i7 ["one","other","columns"] ["one","other"] (c9 M5):=by and_intros
theorem aw2 {f f1:Addr} (d:Df K mg "rows_times" M5 ["one","other"] f) (GD_turned:Def P w K mg base CX0 1 "turned" f1 ["table"] ax2) (n_zip:mg "zip" = none) (n_sum:mg "sum" = none):Def P w K mg base CX0 2 "rows_times" f ["one","other"] aE9:=by
 refine d.ok (N:=["one","other","columns"]) ah8 (by rintro vs H Q E ⟨_,_,_,_,_,_,_,h,_⟩;rw [h];rfl) (λcdv A outer s H vs Q E hr h=>?_)
 obtain ⟨a,b,n,V',W,f,g,rfl,hZ,hY,hl,hB,hVW,k⟩:=h;have G_turned:=GD_turned;obtain ⟨ts,ha,hR⟩:=hZ.ex;have hRl:=hR.length;rw [z9] at hRl
 refine ⟨_,(c6 (g8 (i:=2) ah8.nd rfl (z0v rfl) (d4 G_turned hr (b6 (pv 1) b8) f9))
   (d2 (i5 (aa2 (Nc:=["columns","row"]) (caps:=[some 2,none]) rfl (ac9.of (osc:=c9 M5) (N:=["one","other","columns"]) (ks:=["columns"]) rfl rfl rfl rfl (i8 rfl j6) (by decide +kernel)) (r6 (pv 0)) (λC s₂ H₂ fp pins=>(d5 (i:=1) (show z0j (["columns","row"]:List Str) by decide +kernel) rfl (z0v rfl) (q0w rfl))) (λC s₂ H₂ fp pins=>(t8 (Nc:=["row","column"]) (caps:=[some 1,none]) rfl (G2.of (osc:=_) (N:=["columns","row"]) (ks:=["row"]) rfl rfl rfl rfl (i8 rfl j6) (by kernel_rfl)) (show PI _ _ _ (K0 K _) from by exact (r6 (pv 0))) (λC s₂ H₂ fp pins=>(d5 (i:=1) (show z0j (["row","column"]:List Str) by decide +kernel) rfl (q0w rfl) (z0v rfl))) (λC s₂ H₂ fp pins=>(j8 (by exact aX5 rfl:X3 _ (.builtin "sum") (ah1 K)) rfl n_sum (by decide +kernel) (b6 (t8 (Nc:=["a","b"]) (caps:=[none,none]) rfl (G2.of (osc:=_) (N:=["row","column"]) (ks:=[]) rfl rfl rfl rfl j6 (by kernel_rfl)) (show PI _ _ _ (ae6 K _) from by exact (as8 rfl n_zip (b6 (pv 0) (b6 (pv 1) b8)))) (λC s₂ H₂ fp pins=>(show PG _ _ (G3 K 2 (l9 (j7 0) (l9 (j7 1) G4))) from by (refine C9 (n:=2) ?_ ?_ ?_ ?_;rfl;(refine i6 ?_ ?_ ?_;(exact (d5 (i:=0) (show z0j (["a","b"]:List Str) by decide +kernel) rfl (q0w rfl) (z0v rfl)));(refine i6 ?_ ?_ ?_;(exact (d5 (i:=1) (show z0j (["a","b"]:List Str) by decide +kernel) rfl (q0w rfl) (z0v rfl)));(exact y7);rfl);rfl);rfl;rfl))) (λC s₂ H₂ fp pins=>(g7 p7 (pv 0) (pv 1)))) b8))))))))),?_⟩
 rw [show start ["one","other","columns"] [.ref a,.ref b]=[some (.ref a),some (.ref b),none] from rfl]
 subst_eqs
 refine ⟨b,n,g,rfl,hY,hl,λc H1 s1 fc hC=>?_⟩;obtain ⟨us,hc,hS⟩:=hC.ex;have hSl:=hS.length;rw [z9] at hSl;have ha1:=s1 _ _ ha;refine ⟨⟨_,SqL.of ha1⟩,λD hD=>?_⟩;refine y9 (ts.map V.ref) (λi σ H2 => ∃ o,σ=[some (.ref c),o]/\ZAt H1 D ((ai4 n λi j=>smZ (F5 n λt=>f i t*g t j)).take i) H2) ⟨_,rfl,ZAt.start hD⟩ (λj σ H3 _ ⟨_,_,R⟩=>SqL.of (R.same _ _ ha1)) ?_ ?_
 ·rintro i x σ H2 hx ⟨o,rfl,T⟩
  have hi:=(q0g.mp hx).1;obtain ⟨t,ht,rfl⟩:=A1 hx;obtain ⟨iN,et⟩:=ZT.row hR ht;have et2:=T.same _ _ (s1 _ _ et);have hc2:=T.same _ _ hc
  subst_eqs
  refine ⟨⟨_,SqL.of hc2⟩,λD2 hD2=>?_⟩;refine y9 (us.map V.ref) (λj σ H3 => ∃ o,σ=[some (.ref t),o]/\an5 H2 D2 ((F5 n λj=>smZ (F5 n λt=>f i t*g t j)).take j) H3) ⟨_,rfl,an5.start hD2⟩ (λj σ H3 _ ⟨_,_,R⟩=>SqL.of (R.same _ _ hc2)) ?_ ?_
  ·rintro j x σ H3 hx2 ⟨o,rfl,R⟩
   have hj:=(q0g.mp hx2).1;obtain ⟨u,hu,rfl⟩:=A1 hx2;obtain ⟨jN,eu⟩:=ZT.row hS hu;have et3:=R.same _ _ et2;have eu3:=R.same _ _ (T.same _ _ eu)
   subst_eqs
   refine ⟨⟨_,SqL.of et3⟩,⟨_,SqL.of eu3⟩,λD3 hD3=>?_⟩;refine aD7 ((F5 n (f i)).map V.int) ((F5 n λt=>g t j).map V.int) (λz σ H4 => ∃ o1 o2,σ=[o1,o2]/\an5 H3 D3 ((F5 n λt=>f i t*g t j).take z) H4) ⟨_,_,rfl,an5.start hD3⟩ (by rintro z σ H4 ⟨_,_,_,R4⟩;exact ⟨SqL.of (R4.same _ _ et3),SqL.of (R4.same _ _ eu3)⟩) ?_ ?_
   ·rintro z x y σ H4 pt hx3 hy3 ⟨o1,o2,rfl,R4⟩ hpt
    obtain ⟨zn,rfl⟩:=au4 hx3;obtain ⟨_,rfl⟩:=au4 hy3
    subst_eqs
    have st:=c7.new hpt (.tup [.int (f i z),.int (g z j)]);refine ⟨_,SqT.of c5,rfl,_,_,rfl,_,_,rfl,rfl,_,rfl,_,rfl,L7 (hB i z iN zn).1 (hB z j zn jN).2 ⋯,?_⟩;refine o0.mk (by rw [q0d,q0d,A0,A0];omega) (st _ _ R4.at') (p8 (by rw [q0d,q0x,A0];omega)) ⟨_,_,rfl,?_⟩
    rw [d7 (Q4 (g:=λt=>f i t*g t j) zn)];exact R4.add _ hD3 st
   ·rintro σ H4 ⟨o1,o2,rfl,R4⟩
    rw [k7 (by rw [A0,q0d,q0d,A0,A0];omega)] at R4
    refine ⟨D3,rfl,_,SqL.of R4.at',?_⟩;refine o0.mk hj (R4.same _ _ R.at') (p8 (by rw [q0d,q0x,A0];omega)) ⟨_,rfl,?_⟩
    rw [d7 (Q4 (g:=λj=>smZ (F5 n λt=>f i t*g t j)) jN)];exact R.add _ hD2 R4.same
  ·rintro σ H3 ⟨o,rfl,R⟩
   rw [k7 (by rw [A0,q0d];omega)] at R
   obtain ⟨ys,eD,yl,T'⟩:=T.add hD R.same hD2 R.at';refine o0.mk hi eD (p8 (by rw [yl,q0x,z9];omega)) ⟨_,rfl,?_⟩
   rw [d7 (P6 (f:=λi j=>smZ (F5 n λt=>f i t*g t j)) iN)];exact T'
 ·rintro σ H2 ⟨o,rfl,T⟩
  rw [k7 (by rw [z9,q0d];omega)] at T
  exact k D H2 (s1.trans T.same) (s1.free hD) T.done
def aL2:Sp:=λvs H Q _ => ∃ (a:Addr) (n:Nat) (f:Nat->Nat->Int) (c:Int),vs=[.ref a,.int c]/\ZT H a n f/\n<=8/\bg9 H Q n λi j=>if i=j then f i j+c else f i j
abbrev Q0:Stmt:=top 26
theorem aA4:i7 ["rows","whole"] ["rows","whole"] (c9 Q0):=by and_intros
theorem aB8 {f:Addr} (d:Df K mg "with_unit" Q0 ["rows","whole"] f) (n_enumerate:mg "enumerate" = none):Def P w K mg base CX0 1 "with_unit" f ["rows","whole"] aL2:=by
 refine d.ok (N:=["rows","whole"]) aA4 (by rintro vs H Q E ⟨_,_,_,_,h,_⟩;rw [h];rfl) (λcdv A outer s H vs Q E hr h=>?_)
 obtain ⟨a,n,f,c,rfl,hZ,hl,k⟩:=h;obtain ⟨ts,ha,hR⟩:=hZ.ex;have hRl:=hR.length;rw [z9] at hRl;refine ⟨_,(d2 (i5 (aa2 (Nc:=["whole","at","row"]) (caps:=[some 1,none,none]) rfl (ac9.of (osc:=c9 Q0) (N:=["rows","whole"]) (ks:=["whole"]) rfl rfl rfl rfl (i8 rfl j6) (by decide +kernel)) (ar3 rfl n_enumerate (b6 (pv 0) b8)) (λC s₂ H₂ fp pins=>(show PG _ _ (G3 K 2 (l9 (j7 1) (l9 (j7 2) G4))) from by (refine C9 (n:=2) ?_ ?_ ?_ ?_;rfl;(refine i6 ?_ ?_ ?_;(exact (d5 (i:=1) (show z0j (["whole","at","row"]:List Str) by decide +kernel) rfl (z0v rfl) (q0w rfl)));(refine i6 ?_ ?_ ?_;(exact (d5 (i:=2) (show z0j (["whole","at","row"]:List Str) by decide +kernel) rfl (q0w rfl) (z0v rfl)));(exact y7);rfl);rfl);rfl;rfl))) (λC s₂ H₂ fp pins=>(t8 (Nc:=["whole","at","place","entry"]) (caps:=[some 0,some 1,none,none]) rfl (G2.of (osc:=_) (N:=["whole","at","row"]) (ks:=["whole","at"]) rfl rfl rfl rfl (i8 rfl (i8 rfl j6)) (by kernel_rfl)) (show PI _ _ _ (T9 K _) from by exact (ar3 rfl n_enumerate (b6 (pv 2) b8))) (λC s₂ H₂ fp pins=>(show PG _ _ (G3 K 2 (l9 (j7 2) (l9 (j7 3) G4))) from by (refine C9 (n:=2) ?_ ?_ ?_ ?_;rfl;(refine i6 ?_ ?_ ?_;(exact (d5 (i:=2) (show z0j (["whole","at","place","entry"]:List Str) by decide +kernel) rfl (q0w rfl) (z0v rfl)));(refine i6 ?_ ?_ ?_;(exact (d5 (i:=3) (show z0j (["whole","at","place","entry"]:List Str) by decide +kernel) rfl (q0w rfl) (z0v rfl)));(exact y7);rfl);rfl);rfl;rfl))) (λC s₂ H₂ fp pins=>(as9 (j9 S9 (pv 1) (pv 2) (j1 _)) (g7 A8 (pv 3) (pv 0)) (pv 3)))))))),?_⟩
 rw [show start ["rows","whole"] [.ref a,.int c]=[some (.ref a),some (.int c)] from rfl]
 subst_eqs
 refine ⟨⟨_,SqL.of ha⟩,λD hD=>?_⟩;refine aN2 (ts.map V.ref) (λi σ H2 => ∃ o1 o2,σ=[some (.int c),o1,o2]/\ZAt H D ((ai4 n λi j=>if i=j then f i j+c else f i j).take i) H2) ⟨_,_,rfl,ZAt.start hD⟩ (λj σ H3 ⟨_,_,_,R⟩=>SqL.of (R.same _ _ ha)) ?_ ?_
 ·rintro i x σ H2 p hx ⟨o1,o2,rfl,T⟩ hp
  have hi:=(q0g.mp hx).1;obtain ⟨t,ht,rfl⟩:=A1 hx;obtain ⟨iN,et⟩:=ZT.row hR ht;have Sp:=c7.new hp (.tup [.int (i:Int),.ref t]);have et2:=Sp _ _ (T.same _ _ et)
  subst_eqs
  refine ⟨_,SqT.of c5,rfl,_,_,rfl,_,_,rfl,rfl,?_⟩;refine ⟨_,rfl,⟨_,SqL.of et2⟩,λD2 hD2=>?_⟩;refine aN2 ((F5 n (f i)).map V.int) (λj σ H3 => ∃ o1 o2,σ=[some (.int c),some (.int (i:Int)),o1,o2]/\an5 (upd H2 p (.tup [.int (i:Int),.ref t])) D2 ((F5 n λj=>if i=j then f i j+c else f i j).take j) H3) ⟨_,_,rfl,an5.start hD2⟩ (λj σ H3 ⟨_,_,_,R⟩=>SqL.of (R.same _ _ et2)) ?_ ?_
  ·rintro j x σ H3 p2 hx2 ⟨o1,o2,rfl,R⟩ hp2
   have hj:=(q0g.mp hx2).1;obtain ⟨jN,rfl⟩:=au4 hx2;have S3:=c7.new hp2 (.tup [.int (j:Int),.int (f i j)])
   subst_eqs
   refine ⟨_,SqT.of c5,rfl,_,_,rfl,_,_,rfl,rfl,rfl,?_⟩
   have go:∀ v:Int,v=(if i=j then f i j+c else f i j)->o0 D2 ((F5 n (f i)).map V.int).length (λj σ H3 => ∃ o1 o2,σ=[some (.int c),some (.int (i:Int)),o1,o2]/\an5 (upd H2 p (.tup [.int (i:Int),.ref t])) D2 ((F5 n λj=>if i=j then f i j+c else f i j).take j) H3) j [some (.int c),some (.int (i:Int)),some (.int (j:Int)),some (.int (f i j))] (.int v) (upd H3 p2 (.tup [.int (j:Int),.int (f i j)])):=λv hv=>by
    refine o0.mk hj (S3 _ _ R.at') (p8 (by rw [q0d,q0x,A0];omega)) ⟨_,_,rfl,?_⟩
    rw [d7 (Q4 (g:=λj=>if i=j then f i j+c else f i j) jN),<- hv];exact R.add _ hD2 S3
   refine F2 (λh=>?_) (λh=>?_)
   ·have:i=j:=by cases h;rfl
    exact ⟨_,rfl,go _ (by rw [if_pos this])⟩
   ·exact go _ (by rw [if_neg λz=>h (by rw [z])])
  ·rintro σ H3 ⟨o1,o2,rfl,R⟩
   rw [k7 (by rw [A0,q0d,A0];exact q0m _)] at R
   have D2n:H2 D2=none:=Sp.free hD2;obtain ⟨ys,eD,yl,T'⟩:=T.add hD (Sp.trans R.same) D2n R.at';refine o0.mk hi eD (p8 (by rw [yl,q0x,z9];omega)) ⟨_,_,rfl,?_⟩
   rw [d7 (P6 (f:=λi j=>if i=j then f i j+c else f i j) iN)];exact T'
 ·rintro σ H2 ⟨o1,o2,rfl,T⟩
  rw [k7 (by rw [z9,q0d];omega)] at T
  exact k D H2 T.same hD T.done
def aL3 (K:q0a):Sp:=λvs H Q _ => ∃ (a:Addr) (ts:List Addr) (M:List (List Rat)) (n W:Nat),vs=[.ref a]/\H a=some (.lst (ts.map V.ref))/\Rws H ts M/\M.length=n/\(∀ L ∈ M,L.length=n)/\n<=7/\ClN W M.flatten/\W<=6000 /\
 ∀ r l f (b:Nat) H',c7 H H'->H' r=some (.tup [.ref l,.int (b:Int)])->ZT H' l n f->0<b->b<2 ^ W->(∀ i j,i<n->j<n->(f i j).natAbs<2 ^ W/\(f i j:Rat)=(b:Rat)*qq M i j)->Q (.ref r) H'
abbrev J3:Stmt:=top 24
theorem O7:i7 ["table","n","wholes","bottom"] ["table"] (c9 J3):=by and_intros
theorem aw1 {f f1:Addr} (d:Df K mg "whole_rows" J3 ["table"] f) (G_cleared:Def P w K mg base CX0 2 "cleared" f1 ["numbers"] (Z8 K)) (n_range:mg "range" = none) (n_len:mg "len" = none):Def P w K mg base CX0 3 "whole_rows" f ["table"] (aL3 K):=by
  refine d.ok (N:=["table","n","wholes","bottom"]) O7 (by rintro vs H Q E ⟨_,_,_,_,_,h,_⟩;rw [h];rfl) (λcdv A outer s H vs Q E hr h=>?_)
  obtain ⟨a,ts,M,n,W,rfl,ha,hR,hn,hM,n7,cl,hW,k⟩:=h;have hRl:=hR.length
  refine ⟨_, (c6 (g8 (i := 1) O7.nd rfl (Or.inr rfl) (j8 k0 rfl n_len (by decide +kernel) (b6 (pv 0) b8)))
      (c6 (F9 (d4 G_cleared hr (b6 (aU2 (Nc:=["row","number"]) (caps:=[none,none]) rfl (G2.of (osc:=c9 J3) (N:=["table","n","wholes","bottom"]) (ks:=[]) rfl rfl rfl rfl j6 (by decide +kernel)) (r6 (pv 0)) (λC s₂ H₂ fp pins=>(d5 (i:=0) (show List.Nodup (["row","number"]:List Str) by decide +kernel) rfl (Or.inl rfl) (Or.inr rfl))) (λC s₂ H₂ fp pins=>(show PI _ _ _ (K0 K _) from by exact (r6 (pv 0)))) (λC s₂ H₂ fp pins=>(d5 (i:=1) (show List.Nodup (["row","number"]:List Str) by decide +kernel) rfl (Or.inl rfl) (Or.inr rfl))) (λC s₂ H₂ fp pins=>(pv 1))) b8) f9) (show PG _ _ (G3 K 2 (l9 (j7 2) (l9 (j7 3) G4))) from by (refine C9 (n:=2) ?_ ?_ ?_ ?_;rfl;(refine i6 ?_ ?_ ?_;(exact (d5 (i:=2) O7.nd rfl (Or.inr rfl)));(refine i6 ?_ ?_ ?_;(exact (d5 (i:=3) O7.nd rfl (Or.inl rfl)));(exact y7);rfl);rfl);rfl;rfl)))
      (d2 (i5 (j3 (b6 (t8 (Nc:=["wholes","n","place"]) (caps:=[some 2,some 1,none]) rfl (G2.of (osc:=c9 J3) (N:=["table","n","wholes","bottom"]) (ks:=["wholes","n"]) rfl rfl rfl rfl (i8 rfl (i8 rfl j6)) (by decide +kernel)) (y3 rfl n_range (b6 (pv 1) b8)) (λC s₂ H₂ fp pins=>(d5 (i:=2) (show List.Nodup (["wholes","n","place"]:List Str) by decide +kernel) rfl (Or.inl rfl) (Or.inr rfl))) (λC s₂ H₂ fp pins=>(Q8 (by exact X4:SlR _ (Q6 K)) (pv 0) (P1 (g7 p7 (pv 1) (pv 2))) (P1 (g7 A8 (g7 p7 (pv 1) (pv 2)) (pv 1)))))) (b6 (pv 3) b8))))))),?_⟩
  rw [show start ["table","n","wholes","bottom"] [.ref a]=[some (.ref a),none,none,none] from rfl]
  subst_eqs
  refine ⟨_,.inl (SqL.of ha),⟨_,SqL.of ha⟩,λD hD=>?_⟩;refine aX3 (ts.map V.ref) (λi σ H2 => ∃ o1 o2,σ=[o1,o2]/\E6 H D (M.take i).flatten H2) ⟨_,_,rfl,E6.start hD⟩ (λi σ H2 _ ⟨_,_,_,T⟩=>SqL.of (T.same _ _ ha)) ?_ ?_
  · rintro i x σ H2 hx ⟨o1,o2,rfl,T⟩
    have hi:=(List.getElem?_eq_some_iff.mp hx).1;obtain ⟨t,ht,rfl⟩:=A1 hx;obtain ⟨xs,L,hL,et,nt⟩:=hR.get ht;have hLm:=hM L (List.mem_of_getElem? hL);have lx:=nt.length;have et2:=T.same _ _ et
    have fl:∀ j,((M.take i).flatten ++ L.take j).length<=100:=λj=>by
      rw [List.length_append,List.length_take]
      have:(M.take i).flatten.length=n*i:=by
        have hh:∀ L ∈ M.take i,L.length=n:=λL h=>hM L (List.mem_of_mem_take h);have:=au6 (M:=M.take i) hh;rw [this,List.length_take,Nat.min_eq_left (by rw [List.length_map] at hi;omega)]
      have b1:n*i<=7*7:=Nat.mul_le_mul n7 (by rw [List.length_map] at hi;omega)
      omega
    subst_eqs
    refine ⟨⟨_,SqL.of et2⟩,?_⟩;refine bb5 xs (λj σ H3 => ∃ o2,σ=[some (.ref t),o2]/\E6 H D ((M.take i).flatten ++ L.take j) H3) hi ⟨_,rfl,by rw [List.take_zero,List.append_nil];exact T⟩ (λj σ H3 _ ⟨_,_,R⟩=>SqL.of (R.same _ _ et)) ?_ ?_
    · rintro j x σ H3 hx2 ⟨o2,rfl,R⟩
      have hj:=(List.getElem?_eq_some_iff.mp hx2).1;obtain ⟨px,q1,rfl,hq1,hpx⟩:=nt.getV hx2
      subst_eqs
      obtain ⟨zs,eD,yl,R'⟩:=R.add hD (c7.refl _) (R.same.tups _ _ hpx);refine o0.mk hj eD (p8 (by rw [yl];exact fl j)) ⟨_,rfl,?_⟩
      rw [List.append_assoc,<- d7 hq1] at R';exact R'
    · rintro σ H3 ⟨o2,rfl,R⟩
      rw [List.take_of_length_le (l:=L) ⋯] at R;refine ⟨_,_,rfl,?_⟩;rw [d7 hL,List.flatten_append,List.flatten_singleton];exact R
  rintro σ H1 ⟨o1,o2,rfl,T⟩;rw [k7 (by rw [List.length_map];omega)] at T
  obtain ⟨s1,xs,e1,n1⟩:=T;have lfl:=au6 hM;have l49:n*n<=7*7:=Nat.mul_le_mul n7 n7;rw [hn] at lfl;refine ⟨D,xs,M.flatten,rfl,SqL.of e1,n1.toC,⟨W,cl,hW⟩,⋯,λr l H2 s2 f2 e2 el2=>?_⟩;refine ⟨r,rfl,_,SqT.of e2,rfl,_,_,rfl,_,_,rfl,rfl,by rw [List.length_map];omega,by rw [List.length_map];omega,λD2 hD2=>?_⟩
  obtain ⟨b,hb⟩:∃ b,b=k9 M.flatten:=⟨_,rfl⟩;obtain ⟨ws,hws⟩:∃ ws,ws=j2 (k9 M.flatten) M.flatten:=⟨_,rfl⟩;rw [<- hws] at el2;have wl:ws.length=n*n:=by rw [hws];unfold j2;rw [List.length_map,lfl]
  obtain ⟨f,hf⟩:∃ f:Nat->Nat->Int,f=λi j=>aZ ws (n*i+j):=⟨_,rfl⟩;rw [<- hb] at e2 ⊢;have lt:(ts.map V.ref).length=n:=by rw [List.length_map];omega
  rw [lt];refine I0 (λi σ H3 => ∃ o,σ=[some (.ref l),some (.int (n:Int)),o]/\ZAt H2 D2 ((ai4 n f).take i) H3) ⟨_,rfl,ZAt.start hD2⟩ ?_ ?_
  · rintro i σ H3 hi ⟨o,rfl,T⟩
    have hi':i<n:=⋯;have nb:n*(i+1)<=n*n:=Nat.mul_le_mul_left _ ⋯
    subst_eqs
    refine ⟨aP6 ⋯,aP6 ⋯,_,SqL.of (T.same _ _ el2),λp fp=>?_⟩
    have cz:ah5 (ws.map V.int) (some ((n:Int)*(0+(i:Int)))) (some ((n:Int)*(0+(i:Int))+(n:Int)))=(F5 n (f i)).map V.int:=by
      rw [Int.zero_add,<- Int.natCast_mul,<- Int.natCast_add,bg4 _ ⋯ (by rw [List.length_map,wl];rw [Nat.mul_succ] at nb;exact nb),Nat.add_sub_cancel_left]
      refine List.ext_getElem? λj=>?_
      by_cases hj:j<n
      · rw [List.getElem?_take_of_lt hj,List.getElem?_drop,List.getElem?_map,List.getElem?_map,Q4 hj,hf,List.getElem?_eq_getElem (by rw [wl];rw [Nat.mul_succ] at nb;omega)]
        show some (V.int _)=some (V.int (aZ ws (n*i+j)));unfold aZ;rw [List.getElem?_eq_getElem (by rw [wl];rw [Nat.mul_succ] at nb;omega)];rfl
      · rw [List.getElem?_eq_none (by rw [List.length_take];omega),List.getElem?_eq_none (by rw [List.length_map,A0];omega)]
    rw [cz];obtain ⟨ys,eD,yl,T'⟩:=T.add hD2 (c7.new fp (.lst ((F5 n (f i)).map V.int))) fp c5;refine o0.mk hi eD (p8 (by rw [yl,List.length_take,z9];omega)) ⟨_,rfl,?_⟩
    rw [d7 (P6 hi')];exact T'
  · rintro σ H3 ⟨o,rfl,T⟩
    rw [k7 (by rw [z9];omega)] at T
    refine ⟨by decide,λp fp=>?_⟩
    have Sp:=c7.new fp (.tup [.ref D2,.int (b:Int)]);refine k p D2 f b _ (s1.trans (s2.trans (T.same.trans Sp))) c5 (T.done.same Sp) (by rw [hb];exact G1 _) (by rw [hb];exact cl.l) λi j hi hj=>?_
    have nb:n*i+j<n*n:=by
      have:n*(i+1)<=n*n:=Nat.mul_le_mul_left _ ⋯;rw [Nat.mul_succ] at this;omega
    have e1:M.flatten[n*i+j]? = some (qq M i j):=aH7 hM ⋯ hj;have lt:=bj4 (ws:=ws) (W:=W) (by rw [hws];exact cl.w) (n*i+j)
    refine ⟨by rw [hf];exact lt,?_⟩
    have e2:qq M i j=aQ M.flatten (n*i+j):=by unfold aQ;rw [e1];rfl
    have e3:M.flatten=scl (Rat.divInt 1 (b:Int)) ws:=by rw [hb,hws];exact (aY8 _).symm
    have b0:((b:Nat):Rat) ≠ 0:=λz=>by
      have z2:=Rat.natCast_inj (a:=b) (b:=0) |>.mp z;have:=G1 M.flatten;omega
    rw [e2,e3,aX7,hf,Rat.divInt_eq_div]
    show _=(b:Rat)*((1 / (b:Rat))*_);rw [<- Rat.mul_assoc,Rat.div_def,Rat.one_mul,Rat.mul_inv_cancel _ b0,Rat.one_mul]
theorem ao0 {b:Int} {m k:Nat} (h:b.natAbs<2 ^ m):(b ^ k).natAbs<2 ^ (m*k+1):=by
 rw [Int.natAbs_pow];have:b.natAbs ^ k<=(2 ^ m) ^ k:=m0w (v0d h) k;rw [<- Nat.pow_mul] at this;exact q0t this (Nat.pow_lt_pow_right (by decide) ⋯)
def aL5:Sp:=λvs H Q _ => ∃ (b:Int) (n:Int) (m:Nat),vs=[.int b,.int n]/\n<1000/\-1000<n/\b.natAbs<2 ^ m/\m<=6000/\Q (.int (b ^ n.toNat)) H
abbrev ab4:Stmt:=top 20
theorem X5:i7 ["whole","many","power","at"] ["whole","many"] (c9 ab4):=by and_intros
theorem aG3 {f:Addr} (d:Df K mg "power_of" ab4 ["whole","many"] f) (n_range:mg "range" = none):Def P w K mg base CX0 1 "power_of" f ["whole","many"] aL5:=by
 refine d.ok (N:=["whole","many","power","at"]) X5 (by rintro vs H Q E ⟨a,b,m,h,_⟩;rw [h];rfl) (λcdv A outer s H vs Q E hr h=>?_)
 obtain ⟨b,n,m,rfl,hn,hn',hb,hm,k⟩:=h
 refine ⟨_,(c6 (g8 (i:=2) X5.nd rfl (q0w rfl) b9)
   (c6 (K2 PassesOwn.never rfl (y3 rfl n_range (b6 (pv 1) b8)) (d5 (i:=3) X5.nd rfl (q0w rfl)) (d2 (aT9 (i:=2) X5.nd rfl (q0w rfl) (pv 0) aV7)))
   (d2 (i5 (pv 2))))),?_⟩
 rw [show start ["whole","many","power","at"] [.int b,.int n]=[some (.int b),some (.int n),none,none] from rfl]
 subst_eqs
 refine ⟨_,rfl,n,rfl,⋯,⋯,V1 (λi σ H1=>H1=H/\∃ o,σ=[some (.int b),some (.int n),some (.int (b ^ i)),o]) ⟨rfl,_,by rw [Int.pow_zero]⟩ ?_ ?_⟩
 ·rintro i σ H1 hi ⟨rfl,o,rfl⟩
  subst_eqs
  have hm6:m*i+1<=6000*1000+1:=Nat.add_le_add_right (Nat.mul_le_mul hm ⋯) 1;refine ⟨L7 (m:=m*i+1) (n:=m) (ao0 hb) hb ⋯,(Int.pow_succ _ _).symm,_,rfl⟩
 ·rintro σ H1 ⟨rfl,o,rfl⟩
  subst_eqs
  exact k
def hw (t b:Int):List Int->Int
 | []=>0
 | v :: S=>hw t b S*t+v*b ^ S.length
def pwM (n:Nat) (A:Mt):Nat->Mt
 | 0=>dij
 | k+1=>mm n (pwM n A k) A
def hsM (n:Nat) (A:Mt):List Rat->Mt
 | []=>λ_ _=>0
 | c :: q=>λi j=>mm n (hsM n A q) A i j+c*dij i j
theorem aW0 {n:Nat} {A:Mt}:∀ (q:List Rat) (i j:Nat),j<n->hsM n A q i j=i4 (λk=>aQ q k*pwM n A k i j) q.length
 | [],_,_,_=>rfl
 | c :: q,i,j,hj=>by
  show mm n (hsM n A q) A i j+c*dij i j=_;rw [z0n,ad5,au0 (C:=λi j=>i4 (λk=>aQ q k*pwM n A k i j) q.length) (D:=A) (λt ht=>aW0 q i t ht) λ_ _=>rfl]
  have e:mm n (λi j=>i4 (λk=>aQ q k*pwM n A k i j) q.length) A i j=i4 (λk=>aQ (c :: q) (k+1)*pwM n A (k+1) i j) q.length:=by
   unfold mm
   rw [m8 (g:=λt=>i4 (λk=>aQ q k*(pwM n A k i t*A t j)) q.length) λt _=>by
    rw [Rat.mul_comm,J1];exact m8 λk _=>by grind]
   rw [aj1];refine m8 λk _=>?_;rw [<- J1];rfl
  rw [e]
  show _+c*dij i j=c*dij i j+_;exact Rat.add_comm _ _
def flT (n:Nat) (A:Mt):Nat->Mt
 | 0=>dij
 | k+1=>λi j=>mm n A (flT n A k) i j + -(i4 (λt=>mm n A (flT n A k) t t) n) / ((k:Rat)+1)*dij i j
def flK (n:Nat) (A:Mt) (k:Nat):Rat:=-(i4 (λt=>mm n A (flT n A k) t t) n) / ((k:Rat)+1)
theorem E5 (n:Nat) (A:Mt) (i j:Nat):flT n A 0 i j=dij i j:=rfl
theorem B4 (n:Nat) (A:Mt) (k i j:Nat):flT n A (k+1) i j=mm n A (flT n A k) i j+flK n A k*dij i j:=rfl
theorem aM6 {n:Nat} {A:Mt}:∀ k i j,i<n->j<n->mm n (flT n A k) A i j=mm n A (flT n A k) i j
 | 0,i,j,hi,hj=>by
  have e1:mm n (flT n A 0) A i j=A i j:=aS9 (λt=>A t j) hi;have e2:mm n A (flT n A 0) i j=A i j:=aI5 (λt=>A i t) hj;rw [e1,e2]
 | k+1,i,j,hi,hj=>by
  have e1:mm n (flT n A (k+1)) A i j=mm n (mm n A (flT n A k)) A i j+flK n A k*A i j:=by
   unfold mm;rw [m8 (g:=λt=>mm n A (flT n A k) i t*A t j+flK n A k*(dij i t*A t j)) λt _=>by rw [B4];grind,<- af5,<- J1,aS9 (λt=>A t j) hi]
   rfl
  have e2:mm n A (flT n A (k+1)) i j=mm n A (mm n A (flT n A k)) i j+flK n A k*A i j:=by
   unfold mm;rw [m8 (g:=λt=>A i t*mm n A (flT n A k) t j+flK n A k*(A i t*dij t j)) λt _=>by rw [B4];grind,<- af5,<- J1,aI5 (λt=>A i t) hj]
   rfl
  rw [e1,e2,aV3,au0 (C:=A) (D:=mm n A (flT n A k)) (λ_ _=>rfl) λt ht=>aM6 k t j ht hj]
def chQ (n:Nat) (A:Mt):Nat->List Rat
 | 0=>[1]
 | k+1=>flK n A k :: chQ n A k
theorem bc5 {n:Nat} {A:Mt}:∀ k i j,i<n->j<n->hsM n A (chQ n A k) i j=flT n A k i j
 | 0,i,j,hi,hj=>by
  show mm n (λ_ _=>0) A i j+1*dij i j=dij i j;have:mm n (λ_ _=>(0:Rat)) A i j=0:=N5 _ λt _=>by grind
  rw [this];grind
 | k+1,i,j,hi,hj=>by
  show mm n (hsM n A (chQ n A k)) A i j+flK n A k*dij i j=_;rw [au0 (C:=flT n A k) (D:=A) (λt ht=>bc5 k i t hi ht) λ_ _=>rfl,aM6 k i j hi hj];rfl
theorem bj0 (A:Mt):flK 1 A 0=-A 0 0:=by
 simp [flK,B4,E5,mm,i4,dij]
 grind
theorem bl1 (A:Mt):∀ i j,i<1->j<1->flT 1 A 1 i j=0:=λi j hi hj=>by
 have hi':i=0:=⋯;have hj':j=0:=⋯;rcases hi' with rfl <;> rcases hj' with rfl <;> simp [B4,E5,mm,i4,dij,bj0] <;> grind
theorem bc8 (A:Mt):flK 2 A 0=-A 0 0-A 1 1:=by
 simp [flK,B4,E5,mm,i4,dij]
 grind
theorem bi9 (A:Mt):flK 2 A 1=A 0 0*A 1 1-A 0 1*A 1 0:=by
 simp [flK,B4,E5,mm,i4,dij,bc8]
 grind
theorem bl0 (A:Mt):∀ i j,i<2->j<2->flT 2 A 2 i j=0:=λi j hi hj=>by
 have hi':i=0 \/ i=1:=⋯;have hj':j=0 \/ j=1:=⋯;rcases hi' with rfl | rfl <;> rcases hj' with rfl | rfl <;> simp [B4,E5,mm,i4,dij,bc8,bi9] <;> grind
theorem aW8 (A:Mt):flK 3 A 0=-A 0 0-A 1 1-A 2 2:=by
 simp [flK,B4,E5,mm,i4,dij]
 grind
theorem bc7 (A:Mt):flK 3 A 1=A 0 0*A 1 1-A 0 1*A 1 0+A 0 0*A 2 2-A 0 2*A 2 0+A 1 1*A 2 2-A 1 2*A 2 1:=by
 simp [flK,B4,E5,mm,i4,dij,aW8]
 grind
theorem bi8 (A:Mt):flK 3 A 2=-A 0 0*A 1 1*A 2 2+A 0 0*A 1 2*A 2 1+A 0 1*A 1 0*A 2 2-A 0 1*A 1 2*A 2 0-A 0 2*A 1 0*A 2 1+A 0 2*A 1 1*A 2 0:=by
 simp [flK,B4,E5,mm,i4,dij,aW8,bc7]
 grind
theorem bk9 (A:Mt):∀ i j,i<3->j<3->flT 3 A 3 i j=0:=λi j hi hj=>by
 have hi':i=0 \/ i=1 \/ i=2:=⋯;have hj':j=0 \/ j=1 \/ j=2:=⋯;rcases hi' with rfl | rfl | rfl <;> rcases hj' with rfl | rfl | rfl <;> simp [B4,E5,mm,i4,dij,aW8,bc7,bi8] <;> grind
theorem aM7 (A:Mt):flK 4 A 0=-A 0 0-A 1 1-A 2 2-A 3 3:=by
 simp [flK,B4,E5,mm,i4,dij]
 grind
theorem aW7 (A:Mt):flK 4 A 1=A 0 0*A 1 1-A 0 1*A 1 0+A 0 0*A 2 2-A 0 2*A 2 0+A 0 0*A 3 3-A 0 3*A 3 0+A 1 1*A 2 2-A 1 2*A 2 1+A 1 1*A 3 3-A 1 3*A 3 1+A 2 2*A 3 3-A 2 3*A 3 2:=by
 simp [flK,B4,E5,mm,i4,dij,aM7]
 grind
theorem bc6 (A:Mt):flK 4 A 2=-A 0 0*A 1 1*A 2 2+A 0 0*A 1 2*A 2 1+A 0 1*A 1 0*A 2 2-A 0 1*A 1 2*A 2 0-A 0 2*A 1 0*A 2 1+A 0 2*A 1 1*A 2 0-A 0 0*A 1 1*A 3 3+A 0 0*A 1 3*A 3 1+A 0 1*A 1 0*A 3 3-A 0 1*A 1 3*A 3 0-A 0 3*A 1 0*A 3 1+A 0 3*A 1 1*A 3 0-A 0 0*A 2 2*A 3 3+A 0 0*A 2 3*A 3 2+A 0 2*A 2 0*A 3 3-A 0 2*A 2 3*A 3 0-A 0 3*A 2 0*A 3 2+A 0 3*A 2 2*A 3 0-A 1 1*A 2 2*A 3 3+A 1 1*A 2 3*A 3 2+A 1 2*A 2 1*A 3 3-A 1 2*A 2 3*A 3 1-A 1 3*A 2 1*A 3 2+A 1 3*A 2 2*A 3 1:=by
 simp [flK,B4,E5,mm,i4,dij,aM7,aW7]
 grind
theorem bi7 (A:Mt):flK 4 A 3=A 0 0*A 1 1*A 2 2*A 3 3-A 0 0*A 1 1*A 2 3*A 3 2-A 0 0*A 1 2*A 2 1*A 3 3+A 0 0*A 1 2*A 2 3*A 3 1+A 0 0*A 1 3*A 2 1*A 3 2-A 0 0*A 1 3*A 2 2*A 3 1-A 0 1*A 1 0*A 2 2*A 3 3+A 0 1*A 1 0*A 2 3*A 3 2+A 0 1*A 1 2*A 2 0*A 3 3-A 0 1*A 1 2*A 2 3*A 3 0-A 0 1*A 1 3*A 2 0*A 3 2+A 0 1*A 1 3*A 2 2*A 3 0+A 0 2*A 1 0*A 2 1*A 3 3-A 0 2*A 1 0*A 2 3*A 3 1-A 0 2*A 1 1*A 2 0*A 3 3+A 0 2*A 1 1*A 2 3*A 3 0+A 0 2*A 1 3*A 2 0*A 3 1-A 0 2*A 1 3*A 2 1*A 3 0-A 0 3*A 1 0*A 2 1*A 3 2+A 0 3*A 1 0*A 2 2*A 3 1+A 0 3*A 1 1*A 2 0*A 3 2-A 0 3*A 1 1*A 2 2*A 3 0-A 0 3*A 1 2*A 2 0*A 3 1+A 0 3*A 1 2*A 2 1*A 3 0:=by
 simp [flK,B4,E5,mm,i4,dij,aM7,aW7,bc6]
 grind
theorem bk8 (A:Mt):∀ i j,i<4->j<4->flT 4 A 4 i j=0:=λi j hi hj=>by
 have hi':i=0 \/ i=1 \/ i=2 \/ i=3:=⋯;have hj':j=0 \/ j=1 \/ j=2 \/ j=3:=⋯;rcases hi' with rfl | rfl | rfl | rfl <;> rcases hj' with rfl | rfl | rfl | rfl <;> simp [B4,E5,mm,i4,dij,aM7,aW7,bc6,bi7] <;> grind
theorem bg5 {n:Nat} {A:Mt} (n1:1<=n) (n4:n<=4) {i j:Nat} (hi:i<n) (hj:j<n):hsM n A (chQ n A n) i j=0:=by
 rw [bc5 n i j hi hj];have h:n=1 \/ n=2 \/ n=3 \/ n=4:=⋯;rcases h with rfl | rfl | rfl | rfl
 ·exact bl1 A i j hi hj
 ·exact bl0 A i j hi hj
 ·exact bk9 A i j hi hj
 ·exact bk8 A i j hi hj
theorem aF3:∀ n:Nat,(q0z n [V.int 0]).flatten=(z0q n).map (V.int ∘ λ_=>(0:Int))
 | 0=>rfl
 | n+1=>by rw [List.replicate_succ',List.flatten_append,aF3 n,g0v,j0u];rfl
theorem aY6 (n:Nat) (h:Nat->Int):((smZ (F5 n h):Int):Rat)=i4 (λt=>(h t:Rat)) n:=by
 have key:∀ (l:List Int),((smZ l:Int):Rat)=(l.map λv:Int=>(v:Rat)).foldr (· + ·) 0:=λl=>by
  induction l with
  | nil=>rfl
  | cons a l ih=>rw [z0s,List.foldr_cons,<- ih,<- g0w];rfl
 have k2:∀ (l:List Int) (v:Int),smZ (l ++ [v])=smZ l+v:=λl v=>by
  induction l with
  | nil=>show v+0=0+v;omega
  | cons a l ih=>show a+smZ (l ++ [v])=a+smZ l+v;rw [ih];omega
 induction n with
 | zero=>rfl
 | succ n ih =>
  unfold F5 at ih ⊢;rw [g0v,j0u]
  show ((smZ (_ ++ [h n]):Int):Rat)=i4 (λt=>(h t:Rat)) n+_;rw [k2,g0w,ih]
def hwM (n:Nat) (Z:Nat->Nat->Int) (b:Int):List Int->Nat->Nat->Int
 | []=>λ_ _=>0
 | v :: S=>λi j=>if i=j then smZ (F5 n λt=>hwM n Z b S i t*Z t j)+v*b ^ S.length else smZ (F5 n λt=>hwM n Z b S i t*Z t j)
theorem aK1 {n W c:Nat} {Z:Nat->Nat->Int} {b:Int} (n4:n<=4) (hZ:∀ i j,i<n->j<n->(Z i j).natAbs<2 ^ c) (hb:b.natAbs<2 ^ c):∀ S:List Int,(∀ v ∈ S,j0s v<2 ^ W)->∀ i j,i<n->j<n->(hwM n Z b S i j).natAbs<2 ^ (W+(c+5)*S.length)
 | [],_,_,_,_,_=>by show (0:Int).natAbs<_;exact v0t _
 | v :: S,h,i,j,hi,hj=>by
  have ih:=aK1 n4 hZ hb S λv hv=>h v (q0p _ hv);have hv:=h v q0u
  have h1:(smZ (F5 n λt=>hwM n Z b S i t*Z t j)).natAbs<2 ^ (W+(c+5)*S.length+c+4):=by
   have:=aT7 (m:=W+(c+5)*S.length+c) (F5 n λt=>hwM n Z b S i t*Z t j) λv hv=>by
    obtain ⟨t,ht,rfl⟩:=z0g.mp hv;have tn:=y0q.mp ht;rw [z0p,z0w];exact z0h (ih i t hi tn) (hZ t j tn hj)
   rw [A0] at this;exact q0b this (d6 ⋯)
  have h2:(v*b ^ S.length).natAbs<2 ^ (W+c*S.length):=by
   rw [z0p,Int.natAbs_pow,z0w,Nat.pow_mul];exact Nat.mul_lt_mul_of_lt_of_le hv (m0w (v0d hb) _) (Nat.pow_pos (v0t _))
  have cS:c*S.length<=(c+5)*S.length:=u0v _ ⋯;have h3:2 ^ (W+c*S.length)<=2 ^ (W+(c+5)*S.length+c+4):=d6 ⋯;have e:W+(c+5)*(v :: S).length=W+(c+5)*S.length+c+4+1:=by rw [z0n,v0z];omega
  rw [e,q1a,hwM]
  dsimp only
  split <;> omega
theorem aV9 {n:Nat} {Z:Nat->Nat->Int} {A:Mt} {b:Int} (hZ:∀ i j,i<n->j<n->(Z i j:Rat)=(b:Rat)*A i j):∀ (S:List Int) (i j:Nat),i<n->j<n->(hwM n Z b S i j:Rat)*b=(b:Rat) ^ S.length*hsM n A (S.map λv:Int=>(v:Rat)) i j
 | [],_,_,_,_=>by show ((0:Int):Rat)*b=_*(0:Rat);rw [Rat.intCast_zero];grind
 | v :: S,i,j,hi,hj=>by
  have ih:=aV9 hZ S
  have e1:((smZ (F5 n λt=>hwM n Z b S i t*Z t j):Int):Rat)=(b:Rat) ^ S.length*mm n (hsM n A (S.map λv:Int=>(v:Rat))) A i j:=by
   rw [aY6];unfold mm;rw [J1];refine m8 λt ht=>?_;rw [Rat.intCast_mul,hZ t j ht hj];have:=ih i t hi ht
   grind
  have e2:(hwM n Z b (v :: S) i j:Rat)=((smZ (F5 n λt=>hwM n Z b S i t*Z t j):Int):Rat)+(v:Rat)*(b:Rat) ^ S.length*dij i j:=by
   rw [hwM];unfold dij
   dsimp only
   split
   ·rw [g0w,Rat.intCast_mul,Rat.intCast_pow];grind
   ·grind
  rw [e2,e1,z0n,Rat.pow_succ]
  show _=_*(mm n (hsM n A (S.map λv:Int=>(v:Rat))) A i j+(v:Rat)*dij i j)
  grind
theorem aW1 {n:Nat} {A:Mt} (s:Rat):∀ (q:List Rat) (i j:Nat),hsM n A (q.map λx=>s*x) i j=s*hsM n A q i j
 | [],_,_=>by show (0:Rat)=s*0;grind
 | c :: q,i,j=>by
  show mm n (hsM n A (q.map λx=>s*x)) A i j+s*c*dij i j=s*(mm n (hsM n A q) A i j+c*dij i j)
  have:mm n (hsM n A (q.map λx=>s*x)) A i j=s*mm n (hsM n A q) A i j:=by
   unfold mm;rw [J1];exact m8 λt _=>by rw [aW1 s q i t];grind
  rw [this];grind
def ax1 (K:q0a):Sp:=λvs H Q _ => ∃ (p a:Addr) (xs:List V) (qs:List Rat) (ts:List Addr) (M:List (List Rat)) (n W0 W1:Nat),vs=[.ref p,.ref a]/\SqL K H p xs/\M3 K H xs qs/\ClN W1 qs/\W1<=2000/\1<=W1/\qs.length<=8/\N3 qs qs.length/\H a=some (.lst (ts.map V.ref))/\Rws H ts M/\M.length=n/\(∀ L ∈ M,L.length=n)/\n<=4/\ClN W0 M.flatten/\W0<=200/\∀ R,C3 n R (hsM n (qq M) qs)->O6 H Q R
abbrev N7:Stmt:=top 27
theorem A5:i7 ["p","table","total","power","whole","factor","rows","bottom","scale","wholes"] ["p","table"] (c9 N7):=by and_intros
theorem aG2 {f f1 f2 f3 f4 f5 f6 f7:Addr} (d:Df K mg "worth_by" N7 ["p","table"] f) (G_whole_rows:Def P w K mg base CX0 3 "whole_rows" f1 ["table"] (aL3 K)) (G_lifted:Def P w K mg base CX0 3 "lifted" f2 ["p"] (aF0 K)) (G_with_unit:Def P w K mg base CX0 1 "with_unit" f3 ["rows","whole"] aL2) (G_rows_times:Def P w K mg base CX0 2 "rows_times" f4 ["one","other"] aE9) (G_power_of:Def P w K mg base CX0 1 "power_of" f5 ["whole","many"] aL5) (G_over:Def P w K mg base CX0 3 "over" f6 ["one","other"] (aT1 K)) (G_lowered:Def P w K mg base CX0 3 "lowered" f7 ["scale","wholes"] (ax3 K)) (n_len:mg "len" = none) (n_reversed:mg "reversed" = none):Def P w K mg base CX0 4 "worth_by" f ["p","table"] (ax1 K):=by
  refine d.ok (N:=["p","table","total","power","whole","factor","rows","bottom","scale","wholes"]) A5 (by rintro vs H Q E ⟨_,_,_,_,_,_,_,_,_,h,_⟩;rw [h];rfl) (λcdv A outer s H vs Q E hr h=>?_)
  obtain ⟨p,a,xs,qs,ts,M,n,W0,W1,rfl,hS,hN,cq,hW1,w1,q8,tl,ha,hR,hn,hM,n4,cM,hW0,k⟩:=h
  refine ⟨_, (c6 (F9 (d4 G_whole_rows hr (b6 (pv 1) b8) f9) (show PG _ _ (G3 K 2 (l9 (j7 6) (l9 (j7 7) G4))) from by (refine C9 (n := 2) ?_ ?_ ?_ ?_; rfl; (refine i6 ?_ ?_ ?_; (exact (d5 (i := 6) A5.nd rfl (Or.inr rfl))); (refine i6 ?_ ?_ ?_; (exact (d5 (i := 7) A5.nd rfl (Or.inl rfl))); (exact y7); rfl); rfl); rfl; rfl)))
      (c6 (F9 (d4 G_lifted hr (b6 (pv 0) b8) f9) (show PG _ _ (G3 K 2 (l9 (j7 8) (l9 (j7 9) G4))) from by (refine C9 (n:=2) ?_ ?_ ?_ ?_;rfl;(refine i6 ?_ ?_ ?_;(exact (d5 (i:=8) A5.nd rfl (Or.inl rfl)));(refine i6 ?_ ?_ ?_;(exact (d5 (i:=9) A5.nd rfl (Or.inl rfl)));(exact y7);rfl);rfl);rfl;rfl)))
      (c6 (ac0 (i₀:=2) A5.nd rfl (Or.inl rfl) (Nc:=["rows","row"]) (caps:=[some 6,none]) rfl (G2.of (osc:=c9 N7) (N:=["p","table","total","power","whole","factor","rows","bottom","scale","wholes"]) (ks:=["rows"]) rfl rfl rfl rfl (i8 rfl j6) (by decide +kernel)) (r6 (pv 6)) (λC s₂ H₂ fp pins=>(d5 (i:=1) (show List.Nodup (["rows","row"]:List Str) by decide +kernel) rfl (Or.inl rfl) (Or.inr rfl))) (λC s₂ H₂ fp pins=>(g7 aU8 (B5 (b6 b9 b8)) (j8 (by exact k0:X3 _ (.builtin "len") (aj6 K)) rfl n_len (by decide +kernel) (b6 (pv 0) b8)))))
      (c6 (g8 (i:=3) A5.nd rfl (Or.inl rfl) b9)
      (c6 (K2 PassesOwn.never rfl (be3 rfl n_reversed (b6 (pv 9) b8)) (d5 (i:=4) A5.nd rfl (Or.inl rfl)) (c6 (g8 (i:=2) A5.nd rfl (Or.inl rfl) (d4 G_with_unit hr (b6 (d4 G_rows_times hr (b6 (pv 2) (b6 (pv 6) b8)) f9) (b6 (g7 p7 (pv 4) (pv 3)) b8)) f9))
      (d2 (aT9 (i:=3) A5.nd rfl (Or.inl rfl) (pv 7) aV7))))
      (c6 (g8 (i:=5) A5.nd rfl (Or.inr rfl) (d4 G_over hr (b6 (pv 8) (b6 (j3 (b6 (d4 G_power_of hr (b6 (pv 7) (b6 (g7 M0 (j8 k0 rfl n_len (by decide +kernel) (b6 (pv 0) b8)) b9) b8)) f9) (b6 b9 b8))) b8)) f9))
      (d2 (i5 (t8 (Nc:=["factor","row"]) (caps:=[some 5,none]) rfl (G2.of (osc:=c9 N7) (N:=["p","table","total","power","whole","factor","rows","bottom","scale","wholes"]) (ks:=["factor"]) rfl rfl rfl rfl (i8 rfl j6) (by decide +kernel)) (r6 (pv 2)) (λC s₂ H₂ fp pins=>(d5 (i:=1) (show List.Nodup (["factor","row"]:List Str) by decide +kernel) rfl (Or.inl rfl) (Or.inr rfl))) (λC s₂ H₂ fp pins=>(d4 G_lowered hr (b6 (pv 0) (b6 (pv 1) b8)) f9))))))))))),?_⟩
  rw [show start ["p","table","total","power","whole","factor","rows","bottom","scale","wholes"] [.ref p,.ref a]=[some (.ref p),some (.ref a),none,none,none,none,none,none,none,none] from rfl]
  refine h9 (λσ H1 => ∃ (l:Addr) (Z:Nat->Nat->Int) (b:Nat),σ=[some (.ref p),some (.ref a),none,none,none,none,some (.ref l),some (.int (b:Int)),none,none]/\c7 H H1/\ZT H1 l n Z/\0<b/\b<2 ^ W0/\∀ i j,i<n->j<n->(Z i j).natAbs<2 ^ W0/\(Z i j:Rat)=(b:Rat)*qq M i j) (λN hN'=>?_) ?_
  · subst_eqs
    refine ⟨a,ts,M,n,W0,rfl,ha,hR,hn,hM,⋯,cM,⋯,λr l f b H1 s1 e1 z1 b0 bW hf=>?_⟩;exact ⟨r,rfl,_,SqT.of e1,rfl,_,_,rfl,_,_,rfl,rfl,hN' _ _ ⟨l,f,b,rfl,s1,z1,b0,bW,hf⟩⟩
  rintro σ H1 ⟨l,Z,b,rfl,s1,z1,b0,bW,hf⟩;refine h9 (λσ H2 => ∃ (rs lw:Addr) (s:Rat) (ws:List Int),σ=[some (.ref p),some (.ref a),none,none,none,none,some (.ref l),some (.int (b:Int)),some (.ref rs),some (.ref lw)]/\c7 H1 H2/\SqT K H2 rs (t7 s)/\H2 lw=some (.lst (ws.map V.int))/\BdN W1 s/\s ≠ 0/\(∀ v ∈ ws,Int.natAbs v<2 ^ W1)/\ws.length=qs.length/\qs=scl s ws) (λN hN'=>?_) ?_
  · subst_eqs
    refine ⟨p,xs,qs,rfl,s1.seq hS,hN.mono s1.tups,W1,cq,⋯,w1,⋯,tl,λr rs lw s ws H2 s2 f2 e2 er el bs s0 bw lw' eq=>?_⟩;exact ⟨r,rfl,_,SqT.of e2,rfl,_,_,rfl,_,_,rfl,rfl,hN' _ _ ⟨rs,lw,s,ws,rfl,s2,er,el,bs,s0,bw,lw',eq⟩⟩
  rintro σ H2 ⟨rs,lw,s,ws,rfl,s2,er,el,bs,s0,bw,lw',eq⟩;have z2:=z1.same s2;refine h9 (λσ H3 => ∃ (t:Addr),σ=[some (.ref p),some (.ref a),some (.ref t),none,none,none,some (.ref l),some (.int (b:Int)),some (.ref rs),some (.ref lw)]/\c7 H2 H3/\ZT H3 t n λ_ _=>0) (λN hN'=>?_) ?_
  · subst_eqs
    obtain ⟨us,eu,Ru⟩:=z2.ex;have lu:=Ru.length;rw [z9] at lu;refine ⟨⟨_,SqL.of eu⟩,λD hD=>?_⟩;refine y9 (us.map V.ref) (λi σ H3 => ∃ o,σ=[some (.ref l),o]/\ZAt H2 D ((ai4 n λ_ _=>0).take i) H3) ⟨_,rfl,ZAt.start hD⟩ (λi σ H3 _ ⟨_,_,T⟩=>SqL.of (T.same _ _ eu)) ?_ ?_
    · rintro i x σ H3 hx ⟨o,rfl,T⟩
      have hi:=(List.getElem?_eq_some_iff.mp hx).1;have hi':i<n:=by rw [List.length_map] at hi;omega
      subst_eqs
      refine ⟨by decide,λp1 f1=>?_⟩
      have Sp:=c7.new f1 (.lst [.int 0]);refine ⟨_,.inl (SqL.of (Sp _ _ (T.same _ _ eu))),_,c5,⋯,by rw [List.length_map];omega,?_,λp2 f2=>?_⟩
      · rw [List.length_map,Int.toNat_natCast]
        exact Nat.le_trans (show 1*us.length<=100 by omega) (by decide)
      have ez:(List.replicate ((us.map V.ref).length:Int).toNat [V.int 0]).flatten=(F5 n λ_=>0).map V.int:=by
        rw [List.length_map,Int.toNat_natCast,lu];unfold F5;rw [List.map_map];exact aF3 n
      rw [ez];obtain ⟨ys,eD,yl,T'⟩:=T.add hD (Sp.trans (c7.new f2 (.lst ((F5 n λ_=>0).map V.int)))) (Sp.free f2) c5;refine o0.mk hi eD (p8 (by rw [yl,List.length_take,z9];omega)) ⟨_,rfl,?_⟩
      rw [d7 (P6 hi')];exact T'
    · rintro σ H3 ⟨o,rfl,T⟩
      rw [k7 (by rw [z9,List.length_map];omega)] at T
      exact hN' _ _ ⟨D,rfl,T.same,T.done⟩
  rintro σ H3 ⟨t,rfl,s3,z3⟩;refine h9 (λσ H4=>H4=H3/\σ=[some (.ref p),some (.ref a),some (.ref t),some (.int 1),none,none,some (.ref l),some (.int (b:Int)),some (.ref rs),some (.ref lw)]) (λN hN'=>?_) ?_
  · subst_eqs
    exact hN' _ _ ⟨rfl,rfl⟩
  rintro σ H4 ⟨rfl,rfl⟩;refine h9 (λσ H5 => ∃ (t:Addr) (pw:Int) (o:Option V),σ=[some (.ref p),some (.ref a),some (.ref t),some (.int pw),o,none,some (.ref l),some (.int (b:Int)),some (.ref rs),some (.ref lw)]/\c7 H4 H5/\ZT H5 t n (hwM n Z b ws)) (λN hN'=>?_) ?_
  · have bl:ws.length<=8:=⋯
    refine ⟨_,rfl,lw,_,rfl,SqL.of (s3 _ _ el),ba9 (xs:=ws.map V.int) (λi σ H5 => ∃ (t:Addr) (o:Option V),σ=[some (.ref p),some (.ref a),some (.ref t),some (.int ((b:Int) ^ i)),o,none,some (.ref l),some (.int (b:Int)),some (.ref rs),some (.ref lw)]/\c7 H4 H5/\ZT H5 t n (hwM n Z b (ws.drop (ws.length-i)))) ⟨t,_,by rw [Int.pow_zero],c7.refl _,by rw [Nat.sub_zero,List.drop_length];exact z3⟩ (by rintro i σ H5 _ ⟨_,_,_,s5,_⟩;exact SqL.of (s5 _ _ (s3 _ _ el))) ?_ ?_⟩
    · rintro i x σ H5 hi hx ⟨t,o,rfl,s5,z5⟩
      rw [List.length_map] at hi hx;obtain ⟨v,hv,rfl⟩:=aa5 hx
      have hd:ws.drop (ws.length-(i+1))=v :: ws.drop (ws.length-i):=by
        have h1:ws.length-(i+1)<ws.length:=⋯;rw [List.drop_eq_getElem_cons h1,show ws.length-(i+1)+1=ws.length-i by omega]
        congr 1
        have h2:ws[ws.length-(i+1)]? = some v:=by rw [show ws.length-(i+1)=ws.length-1-i by omega];exact hv
        rw [List.getElem?_eq_getElem h1] at h2;exact Option.some.inj h2
      subst_eqs
      have di:(W0+5)*(ws.drop (ws.length-i)).length<=205*8:=Nat.mul_le_mul ⋯ (by rw [List.length_drop];omega)
      have ld:(ws.drop (ws.length-i)).length=i:=by rw [List.length_drop];omega
      have bb:((b:Nat):Int).natAbs<2 ^ W0:=by rw [Int.natAbs_natCast];exact bW
      have bt:=aK1 (W:=W1) (c:=W0) n4 (λi j hi hj=>(hf i j hi hj).1) bb (ws.drop (ws.length-i)) λv hv=>bw v (List.mem_of_mem_drop hv);have bp:((b:Int) ^ i).natAbs<2 ^ (W0*i+1):=ao0 bb;have b16:W0*i<=200*8:=Nat.mul_le_mul hW0 ⋯;refine ⟨t,l,n,W1+(W0+5)*(ws.drop (ws.length-i)).length,W0,_,Z,rfl,z5,z1.same (s2.trans (s3.trans s5)),⋯,λi j hi hj=>⟨bt i j hi hj,(hf i j hi hj).1⟩,⋯,λr H6 s6 f6 z6=>?_⟩;refine ⟨L7 (bw v (List.mem_of_getElem? hv)) bp ⋯,r,n,_,_,rfl,z6,⋯,λr2 H7 s7 f7 z7=>?_⟩;refine ⟨L7 bp bb ⋯,r2,rfl,(Int.pow_succ _ _).symm,s5.trans (s6.trans s7),?_⟩;rw [hd];exact z7.to λi' j _ _=>by rw [hwM,ld]
    · rintro σ H5 ⟨t,o,rfl,s5,z5⟩
      rw [List.length_map,Nat.sub_self,List.drop_zero] at z5;exact hN' _ _ ⟨t,_,o,rfl,s5,z5⟩
  rintro σ H5 ⟨t,pw,o,rfl,s5,z5⟩
  subst_eqs
  have S5:=s1.trans (s2.trans (s3.trans s5));have lx:=hN.length;have bb:((b:Nat):Int).natAbs<2 ^ W0:=by rw [Int.natAbs_natCast];exact bW
  obtain ⟨e,he⟩:∃ e:Nat,((xs.length:Int)-1).toNat=e:=⟨_,rfl⟩;have e7:e<=7:=⋯;refine ⟨xs,.inl (S5.seq hS),(b:Int),_,W0,rfl,⋯,⋯,bb,⋯,by decide,λpp fp=>?_⟩
  rw [he];have Sp:=c7.new fp (.tup [.int ((b:Int) ^ e),.int 1]);have b0':((b:Nat):Int) ≠ 0:=⋯;have en:(HO.tup [V.int ((b:Int) ^ e),V.int 1])=.tup (t7 ((((b:Int) ^ e:Int)):Rat)):=by unfold t7;rw [Rat.num_intCast,Rat.den_intCast];rfl
  have p0:(((b:Int) ^ e:Int):Rat) ≠ 0:=λz=>by
    have:=(Rat.intCast_inj (a:=(b:Int) ^ e) (b:=0)).mp z;exact Int.pow_ne_zero b0' this
  have bp:((b:Int) ^ e).natAbs<2 ^ (W0*e+1):=ao0 bb;have b14:W0*e<=200*7:=Nat.mul_le_mul hW0 e7;have bdp:BdN 1401 ((((b:Int) ^ e:Int)):Rat):=⟨by rw [Rat.num_intCast];exact Nat.lt_of_lt_of_le bp (d6 ⋯),by rw [Rat.den_intCast];exact Nat.one_lt_two_pow (by decide)⟩
  refine ⟨_,_,s,_,rfl,⟨rs,rfl,(s3.trans (s5.trans Sp)).tup er⟩,⟨pp,rfl,SqT.of (by rw [c5,en])⟩,bs.bd6 ⋯,bdp.bd6 ⋯,p0,λpf H6 s6 e6=>?_⟩
  have z6:=z5.same (Sp.trans s6);obtain ⟨us,eu,Ru⟩:=z6.ex;have lu:=Ru.length;rw [z9] at lu;refine ⟨⟨_,SqL.of eu⟩,λD hD=>?_⟩;obtain ⟨s',hs'⟩:∃ s',s'=s / (((b:Int) ^ e:Int):Rat):=⟨_,rfl⟩;rw [<- hs'] at e6
  have bs':s'.den<2 ^ 6000/\s'.num.natAbs<2 ^ 6000:=by
    have es:s'=Rat.divInt s.num ((s.den:Int)*(b:Int) ^ e):=by
      rw [hs',Rat.div_def]
      conv=>lhs;rw [<- Rat.num_divInt_den s]
      rw [show ((((b:Int) ^ e:Int):Rat))⁻¹=Rat.divInt 1 ((b:Int) ^ e) by rw [Rat.divInt_eq_div,Rat.div_def,Rat.intCast_one,Rat.one_mul],Rat.divInt_mul_divInt,Int.mul_one]
    have x:=O0 (t:=s.num) (b:=(s.den:Int)*(b:Int) ^ e) (Int.mul_ne_zero (by have:=s.den_nz;omega) (Int.pow_ne_zero b0'))
    rw [<- es] at x;refine ⟨Nat.lt_of_le_of_lt x.2 ?_,Nat.lt_of_le_of_lt x.1 (Nat.lt_of_lt_of_le bs.n (d6 ⋯))⟩;rw [Int.natAbs_mul,Int.natAbs_natCast];have:=Nat.mul_lt_mul'' bs.d bp;rw [<- Nat.pow_add] at this;exact Nat.lt_of_lt_of_le this (d6 ⋯)
  obtain ⟨R,hR'⟩:∃ R,R=(ai4 n (hwM n Z b ws)).map (scl s'):=⟨_,rfl⟩;have lR:R.length=n:=by rw [hR',List.length_map,z9]
  have tR:C3 n R (hsM n (qq M) qs):=by
    refine ⟨lR,λL hL=>?_,λi j hi hj=>?_⟩
    · rw [hR'] at hL
      obtain ⟨L0,h0,rfl⟩:=List.mem_map.mp hL;obtain ⟨i,_,rfl⟩:=List.mem_map.mp h0;unfold scl;rw [List.length_map,A0]
    · have e1 : qq R i j = s' * (hwM n Z b ws i j : Rat) := by
        unfold qq;rw [hR',List.getElem?_map,P6 hi]
        show aQ (scl s' (F5 n (hwM n Z b ws i))) j=_;rw [aX7]
        show s'*((aZ (F5 n (hwM n Z b ws i)) j:Int):Rat)=_;unfold aZ;rw [Q4 hj];rfl
      have e2:=aV9 (A:=qq M) (b:=(b:Int)) (λi j hi hj=>(hf i j hi hj).2) ws i j hi hj;have e3:qs=(ws.map λv:Int=>(v:Rat)).map λx=>s*x:=by rw [eq,List.map_map];rfl
      have b0q:((b:Int):Rat) ≠ 0:=λz=>b0' ((Rat.intCast_inj (a:=(b:Int)) (b:=0)).mp z);rw [e1,e3,aW1,hs'];have p0':=Rat.mul_inv_cancel _ p0;rw [Rat.div_def]
      by_cases w0:ws.length=0
      · have:ws=[]:=List.eq_nil_of_length_eq_zero w0
        subst this
        show s*_*(((0:Int)):Rat)=s*(0:Rat);rw [Rat.intCast_zero];grind
      · have le:ws.length=e+1:=⋯
        rw [le,Rat.pow_succ,<- Rat.intCast_pow] at e2
        have e4:(hwM n Z b ws i j:Rat)=(((b:Int) ^ e:Int):Rat)*hsM n (qq M) (ws.map λv:Int=>(v:Rat)) i j:=by
          have bi:=Rat.mul_inv_cancel _ b0q
          grind
        rw [e4]
        grind
  refine y9 (us.map V.ref) (λi σ H7 => ∃ o,σ=[some (.ref pf),o]/\t6 H6 D (R.take i) H7) ⟨_,rfl,t6.start hD⟩ (λi σ H7 _ ⟨_,_,T⟩=>SqL.of (T.same _ _ eu)) ?_ ?_
  · rintro i x σ H7 hx ⟨o,rfl,T⟩
    have hi:=(List.getElem?_eq_some_iff.mp hx).1;obtain ⟨u,hu,rfl⟩:=A1 hx;obtain ⟨iN,et⟩:=ZT.row Ru hu;have bt:=aK1 (W:=W1) (c:=W0) n4 (λi j hi hj=>(hf i j hi hj).1) bb ws bw;have b17:(W0+5)*ws.length<=205*8:=Nat.mul_le_mul ⋯ ⋯
    subst_eqs
    refine ⟨_,s',u,F5 n (hwM n Z b ws i),rfl,⟨pf,rfl,SqT.of (T.same _ _ e6)⟩,SqL.of (T.same _ _ et),bs'.1,bs'.2,λv hv=>?_,by rw [A0];omega,λr zs H8 s8 f8 e8 n8=>?_⟩
    · obtain ⟨j,hj,rfl⟩:=List.mem_map.mp hv
      exact Nat.lt_of_lt_of_le (bt i j iN (List.mem_range.mp hj)) (d6 ⋯)
    · obtain ⟨ys,eD,yl,T'⟩:=T.add hD f8 ⟨s8,zs,e8,n8⟩
      refine o0.mk hi eD (p8 (by rw [yl,List.length_take];omega)) ⟨_,rfl,?_⟩
      rw [d7 (l:=R) (x:=scl s' (F5 n (hwM n Z b ws i))) (by rw [hR',List.getElem?_map,P6 iN];rfl)]
      exact T'
  · rintro σ H7 ⟨o,rfl,T⟩
    rw [k7 (by rw [List.length_map];omega)] at T
    exact T.res ((k R tR).from (S5.trans (Sp.trans s6))) hD
def aF2:Sp:=λvs H Q _ => ∃ (a:Addr) (ts:List Addr) (M:List (List Rat)),vs=[.ref a]/\H a=some (.lst (ts.map V.ref))/\Rws H ts M/\M.length<=7/\O6 H Q M
abbrev K9:Stmt:=top 55
theorem as5:i7 ["_law_table"] ["_law_table"] (c9 K9):=by and_intros
theorem at6 {f:Addr} (d:Df K mg "_law_copied" K9 ["_law_table"] f) (n_list:mg "list" = none):Def P w K mg base CX0 1 "_law_copied" f ["_law_table"] aF2:=by
 refine d.ok (N:=["_law_table"]) as5 (by rintro vs H Q E ⟨_,_,_,h,_⟩;rw [h];rfl) (λcdv A outer s H vs Q E hr h=>?_)
 obtain ⟨a,ts,M,rfl,ha,hR,m7,k1⟩:=h;refine ⟨_,(d2 (i5 (t8 (Nc:=["_law_row"]) (caps:=[none]) rfl (G2.of (osc:=c9 K9) (N:=["_law_table"]) (ks:=[]) rfl rfl rfl rfl j6 (by decide +kernel)) (r6 (pv 0)) (λC s₂ H₂ fp pins=>(d5 (i:=0) (show z0j (["_law_row"]:List Str) by decide +kernel) rfl (q0w rfl) (z0v rfl))) (λC s₂ H₂ fp pins=>(w4 (by exact M9:X3 _ (.type "list") (ae0 K)) rfl n_list (by decide +kernel) (b6 (pv 0) b8)))))),?_⟩
 rw [show start ["_law_table"] [.ref a]=[some (.ref a)] from rfl]
 subst_eqs
 have hRl:=hR.length;refine ⟨⟨_,SqL.of ha⟩,λD hD=>?_⟩;refine y9 (ts.map V.ref) (λi σ H2 => ∃ o1,σ=[o1]/\t6 H D (M.take i) H2) ⟨_,rfl,t6.start hD⟩ (λi σ H2 _ ⟨_,_,T⟩=>SqL.of (T.same _ _ ha)) ?_ ?_
 ·rintro i x σ H2 hx ⟨o1,rfl,T⟩
  have hi:=(q0g.mp hx).1;obtain ⟨t,ht,rfl⟩:=A1 hx;obtain ⟨xs,L,hL,et,nt⟩:=hR.get ht
  subst_eqs
  refine ⟨xs,.inl (SqL.of (T.same _ _ et)),λl fl=>?_⟩;obtain ⟨zs,eD,yl,T'⟩:=T.add hD fl ⟨c7.new fl _,xs,c5,nt.mono (T.same.trans (c7.new fl _)).tups⟩;refine o0.mk hi eD (p8 (by rw [yl,q0x];omega)) ⟨_,rfl,?_⟩
  rw [d7 hL];exact T'
 ·rintro σ H2 ⟨o1,rfl,T⟩
  rw [k7 (by rw [q0d];omega)] at T
  exact T.res k1 hD
def aT5 (K:q0a):Sp:=λvs H Q _ => ∃ (a b:Addr) (xs ys:List V) (p q:List Rat) (m n W:Nat),vs=[.ref a,.ref b]/\SqL K H a xs/\SqL K H b ys/\t5 H xs p/\t5 H ys q/\(∀ x ∈ p,BdN m x)/\(∀ x ∈ q,BdN n x)/\(∀ i,BdN W (M7 (p.take i) (q.take i)))/\m+n+W<=6000/\p.length=q.length/\ap0 H Q (M7 p q)
abbrev ab8:Stmt:=top 48
theorem P9:i7 ["_law_row","_law_column","_law_found","_law_one","_law_other_here"] ["_law_row","_law_column"] (c9 ab8):=by and_intros
theorem aG7 {f f1 f2:Addr} (d:Df K mg "_law_dot" ab8 ["_law_row","_law_column"] f) (G__law_plus:Def P w K mg base CX0 2 "_law_plus" f1 ["_law_one","_law_other_here"] (E7 K (· + ·))) (G__law_times:Def P w K mg base CX0 2 "_law_times" f2 ["_law_one","_law_other_here"] (E7 K (· * ·))) (n_zip:mg "zip" = none):Def P w K mg base CX0 3 "_law_dot" f ["_law_row","_law_column"] (aT5 K):=by
 refine d.ok (N:=["_law_row","_law_column","_law_found","_law_one","_law_other_here"]) P9 (by rintro vs H Q E ⟨_,_,_,_,_,_,_,_,_,h,_⟩;rw [h];rfl) (λcdv A outer s H vs Q E hr h=>?_)
 obtain ⟨a,b,xs,ys,p,q,m,n,W,rfl,hS,hS',hN,hN',hp,hq,hB,hm,hlq,k⟩:=h
 refine ⟨_,(c6 (g8 (i:=2) P9.nd rfl (q0w rfl) (j3 (b6 b9 (b6 b9 b8))))
   (c6 (K2 PassesOwn.never rfl (as8 rfl n_zip (b6 (pv 0) (b6 (pv 1) b8))) (show PG _ _ (G3 K 2 (l9 (j7 3) (l9 (j7 4) G4))) from by (refine C9 (n:=2) ?_ ?_ ?_ ?_;rfl;(refine i6 ?_ ?_ ?_;(exact (d5 (i:=3) P9.nd rfl (q0w rfl)));(refine i6 ?_ ?_ ?_;(exact (d5 (i:=4) P9.nd rfl (q0w rfl)));(exact y7);rfl);rfl);rfl;rfl)) (d2 (g8 (i:=2) P9.nd rfl (q0w rfl) (d4 G__law_plus hr (b6 (pv 2) (b6 (d4 G__law_times hr (b6 (pv 3) (b6 (pv 4) b8)) f9) b8)) f9))))
   (d2 (i5 (pv 2))))),?_⟩
 rw [show start ["_law_row","_law_column","_law_found","_law_one","_law_other_here"] [.ref a,.ref b]=[some (.ref a),some (.ref b),none,none,none] from rfl]
 subst_eqs
 have lx:=hN.length;have ly:=hN'.length;refine ⟨v8,λz hz=>?_⟩;have Sz:=c7.new hz (.tup [.int 0,.int 1]);refine ⟨_,rfl,_,rfl,a,b,rfl,⟨_,Sz.seq hS⟩,⟨_,Sz.seq hS'⟩,ba8 xs ys (λi σ H2 => ∃ pf o1 o2,σ=[some (.ref a),some (.ref b),some (.ref pf),o1,o2]/\c7 H H2/\H2 pf=some (.tup (t7 (M7 (p.take i) (q.take i))))) ⟨z,_,_,rfl,Sz,c5⟩ (by rintro i σ H2 ⟨_,_,_,_,s2,_⟩;exact ⟨s2.seq hS,s2.seq hS'⟩) ?_ ?_⟩
 ·rintro i x y σ H2 pt hx hy ⟨pf,o1,o2,rfl,s2,ef⟩ hpt
  obtain ⟨px,q1,rfl,hq1,hpx⟩:=hN.getV hx;obtain ⟨py,q2,rfl,hq2,hpy⟩:=hN'.getV hy;have st:=c7.new hpt (.tup [.ref px,.ref py]);have S2:=s2.trans st;have b1:=hp q1 (q0h hq1);have b2:=hq q2 (q0h hq2);have bi:=hB i;have hd:=aR1 i hq1 hq2
  subst_eqs
  refine ⟨_,SqT.of c5,rfl,_,_,rfl,_,_,rfl,rfl,?_⟩;refine ⟨_,_,q1,q2,m,n,rfl,⟨px,rfl,SqT.of (S2 _ _ hpx)⟩,⟨py,rfl,SqT.of (S2 _ _ hpy)⟩,b1.t ⋯,b2.t ⋯,⋯,λp5 H5 s5 e5=>?_⟩;refine ⟨_,_,_,_,W,m+n,rfl,⟨pf,rfl,SqT.of (s5 _ _ (st _ _ ef))⟩,⟨p5,rfl,SqT.of e5⟩,bi.t ⋯,(b1.mul b2).t ⋯,?_,λp6 H6 s6 e6=>?_⟩
  ·omega
  ·exact ⟨p6,rfl,S2.trans (s5.trans s6),by rw [hd];exact e6⟩
 ·rintro σ H2 ⟨pf,o1,o2,rfl,s2,ef⟩
  have ml:min xs.length ys.length=p.length:=⋯;rw [ml,y0g,hlq,y0g] at ef;exact ⟨_,rfl,k pf H2 s2 ef⟩
theorem aU7 {B C V U:Nat} (hB:0<B) (hC:0<C):∀ (p q:List Rat),(∀ x ∈ p,OvB B V x)->(∀ x ∈ q,OvB C U x)->OvB (B*C) (V+U+p.length) (M7 p q)
 | [],q,_,_=>by unfold M7;exact OvB.zero _ _
 | a :: p,[],_,_=>by unfold M7;exact OvB.zero _ _
 | a :: p,b :: q,hp,hq=>by
  have ih:=aU7 hB hC p q (λx hx=>hp x (q0p _ hx)) (λx hx=>hq x (q0p _ hx))
  have e:M7 (a :: p) (b :: q)=a*b+M7 p q:=by
   unfold M7;rw [m0e,j0z,ay6];grind
  rw [e];have m:=(hp a q0u).mul (hq b q0u);exact ((m.mono (show V+U<=V+U+p.length by omega)).add (z0z hB hC) ih).mono (by rw [z0n];omega)
theorem bb0 {N:List (List Rat)} {n C U:Nat} (h:∀ L ∈ N,L.length=n/\∀ q ∈ L,OvB C U q) {L:List Rat} (hL:L ∈ Y7 N N.length):L.length=N.length/\∀ q ∈ L,OvB C U q:=by
 obtain ⟨i,_,rfl⟩:=z0g.mp hL;refine ⟨ar8 ..,λq hq=>?_⟩;obtain ⟨L',hL',rfl⟩:=z0g.mp hq
 cases e:L'[i]? with
 | none=>exact OvB.zero _ _
 | some x=>exact (h L' hL').2 x (q0h e)
def aT3 (K:q0a):Sp:=λvs H Q E => ∃ (a b:Addr) (ts us:List Addr) (M N:List (List Rat)) (n B V' C U:Nat),vs=[.ref a,.ref b]/\H a=some (.lst (ts.map V.ref))/\Rws H ts M/\H b=some (.lst (us.map V.ref))/\Rws H us N/\M.length=n/\N.length=n/\n<=8/\(∀ L ∈ M,L.length=n/\∀ q ∈ L,OvB B V' q)/\(∀ L ∈ N,L.length=n/\∀ q ∈ L,OvB C U q)/\0<B/\0<C/\B<2 ^ V'/\C<2 ^ U/\V'+U+(V'+U+8)<=6000/\O6 H Q (am2 M N)
abbrev C5:Stmt:=top 49
theorem S0:i7 ["_law_one","_law_other_here","_law_columns"] ["_law_one","_law_other_here"] (c9 C5):=by and_intros
theorem ah2 {f f1 f2:Addr} (d:Df K mg "_law_table_times" C5 ["_law_one","_law_other_here"] f) (G__law_flipped:Def P w K mg base CX0 1 "_law_flipped" f1 ["_law_table"] (aE7 K)) (G__law_dot:Def P w K mg base CX0 3 "_law_dot" f2 ["_law_row","_law_column"] (aT5 K)):Def P w K mg base CX0 4 "_law_table_times" f ["_law_one","_law_other_here"] (aT3 K):=by
 refine d.ok (N:=["_law_one","_law_other_here","_law_columns"]) S0 (by rintro vs H Q E ⟨_,_,_,_,_,_,_,_,_,_,_,h,_⟩;rw [h];rfl) (λcdv A outer s H vs Q E hr h=>?_)
 obtain ⟨a,b,ts,us,M,N,n,B,V',C,U,rfl,ha,hR,hb,hS,lM,lN,n8,hM,hN,B0,C0,hBV,hCU,hz,k1⟩:=h;have hl:M.length=N.length:=⋯
 refine ⟨_,(c6 (g8 (i:=2) S0.nd rfl (z0v rfl) (d4 G__law_flipped hr (b6 (pv 1) b8) f9))
   (d2 (i5 (aa2 (Nc:=["_law_columns","_law_row"]) (caps:=[some 2,none]) rfl (ac9.of (osc:=c9 C5) (N:=["_law_one","_law_other_here","_law_columns"]) (ks:=["_law_columns"]) rfl rfl rfl rfl (i8 rfl j6) (by decide +kernel)) (r6 (pv 0)) (λC s₂ H₂ fp pins=>(d5 (i:=1) (show z0j (["_law_columns","_law_row"]:List Str) by decide +kernel) rfl (z0v rfl) (q0w rfl))) (λC s₂ H₂ fp pins=>(t8 (Nc:=["_law_row","_law_column"]) (caps:=[some 1,none]) rfl (G2.of (osc:=_) (N:=["_law_columns","_law_row"]) (ks:=["_law_row"]) rfl rfl rfl rfl (i8 rfl j6) (by kernel_rfl)) (show PI _ _ _ (K0 K _) from by exact (r6 (pv 0))) (λC s₂ H₂ fp pins=>(d5 (i:=1) (show z0j (["_law_row","_law_column"]:List Str) by decide +kernel) rfl (q0w rfl) (z0v rfl))) (λC s₂ H₂ fp pins=>(d4 G__law_dot hr (b6 (pv 0) (b6 (pv 1) b8)) f9)))))))),?_⟩
 rw [show start ["_law_one","_law_other_here","_law_columns"] [.ref a,.ref b]=[some (.ref a),some (.ref b),none] from rfl]
 subst_eqs
 refine ⟨b,us,N,rfl,hb,hS,λL hL=>by rw [lN];exact (hN L hL).1,⋯,λc cs H1 s1 fc fcs ndc ec hC=>?_⟩
 have lC:=hC.length;rw [aa7] at lC;have hRl:=hR.length;refine ⟨⟨_,SqL.of (s1 _ _ ha)⟩,λD hD=>?_⟩;refine y9 (ts.map V.ref) (λi σ H2 => ∃ o,σ=[some (.ref c),o]/\t6 H1 D ((am2 M N).take i) H2) ⟨_,rfl,t6.start hD⟩ (λi σ H2 _ ⟨_,_,T⟩=>SqL.of (T.same _ _ (s1 _ _ ha))) ?_ ?_
 ·rintro i x σ H2 hx ⟨o,rfl,T⟩
  have hi:=(q0g.mp hx).1;obtain ⟨t,ht,rfl⟩:=A1 hx;obtain ⟨xs,L,hL,et,nt⟩:=hR.get ht;have hLm:=hM L (q0h hL);have S2:=s1.trans T.same
  subst_eqs
  refine ⟨⟨_,SqL.of (T.same _ _ ec)⟩,λD2 hD2=>?_⟩;refine y9 (cs.map V.ref) (λj σ H3 => ∃ o,σ=[some (.ref t),o]/\E6 H2 D2 (((Y7 N N.length).map (M7 L)).take j) H3) ⟨_,rfl,E6.start hD2⟩ (λj σ H3 _ ⟨_,_,R⟩=>SqL.of (R.same _ _ (T.same _ _ ec))) ?_ ?_
  ·rintro j y σ H3 hy ⟨o,rfl,R⟩
   have hj:=(q0g.mp hy).1;obtain ⟨u,hu,rfl⟩:=A1 hy;obtain ⟨ys,C',hC',eu,nu⟩:=hC.get hu;have hCm:=bb0 hN (q0h hC')
   subst_eqs
   have S3:=S2.trans R.same;have S3':=T.same.trans R.same;have l7:=hLm.1;have l8:=hCm.1;refine ⟨t,u,xs,ys,L,C',V',U,V'+U+8,rfl,SqL.of (S3 _ _ et),SqL.of (S3' _ _ eu),nt.mono S3.tups,nu.mono S3'.tups,λx hx=>(hLm.2 x hx).bdN B0 hBV,λx hx=>(hCm.2 x hx).bdN C0 hCU,λi=>?_,⋯,by rw [hLm.1,hCm.1,lN],λp5 H5 s5 e5=>?_⟩
   ·have o:=aU7 B0 C0 (L.take i) (C'.take i) (λx hx=>hLm.2 x (y0p hx)) (λx hx=>hCm.2 x (y0p hx))
    refine OvB.bdN (z0z B0 C0) (q0b (z0h hBV hCU) ?_) (o.mono ?_)
    ·rw [<- z0w];exact d6 ⋯
    ·rw [q0x];omega
   obtain ⟨zs,eD,yl,R'⟩:=R.add hD2 s5 e5;refine o0.mk hj eD (p8 (by rw [yl,q0x,q0d,aa7];omega)) ⟨_,rfl,?_⟩
   rw [d7 (l:=(Y7 N N.length).map (M7 L)) (x:=M7 L C') (by rw [q0q,hC'];rfl)]
   exact R'
  ·rintro σ H3 ⟨o,rfl,R⟩
   rw [k7 (by rw [q0d,q0d,aa7];omega)] at R
   obtain ⟨zs,eD,yl,T'⟩:=T.add hD hD2 R;refine o0.mk hi eD (p8 (by rw [yl,q0x,ae2];omega)) ⟨_,rfl,?_⟩
   rw [d7 (aF8 hL)];exact T'
 ·rintro σ H2 ⟨o,rfl,T⟩
  rw [k7 (by rw [ae2,q0d];omega)] at T
  exact T.res (k1.from s1) hD
abbrev Y1:Stmt:=top 33
theorem aB0:i7 ["_law_one","_law_other_here"] ["_law_one","_law_other_here"] (c9 Y1):=by and_intros
theorem aC4 {f fl:Addr} (d:Df K mg "_law_less" Y1 ["_law_one","_law_other_here"] f) (G__law_low:Def P w K mg base CX0 1 "_law_low" fl ["_law_top","_law_bottom"] ap1):Def P w K mg base CX0 2 "_law_less" f ["_law_one","_law_other_here"] (E7 K (· - ·)):=by
 refine d.ok (N:=["_law_one","_law_other_here"]) aB0 (by rintro vs H Q E ⟨x,y,p,q,m,n,h,_⟩;rw [h];rfl) (λcdv A outer s H vs Q E hr h=>?_)
 obtain ⟨x,y,p,q,m,n,rfl,⟨ap,rfl,hp⟩,⟨aq,rfl,hq⟩,bp,bq,hmn,k⟩:=h;refine ⟨_,(d2 (i5 (d4 G__law_low hr (b6 (g7 M0 (g7 p7 (j4 l6 (pv 0) b9 (λ_ _=>rfl)) (j4 l6 (pv 1) b9 (λ_ _=>rfl))) (g7 p7 (j4 l6 (pv 1) b9 (λ_ _=>rfl)) (j4 l6 (pv 0) b9 (λ_ _=>rfl)))) (b6 (g7 p7 (j4 l6 (pv 0) b9 (λ_ _=>rfl)) (j4 l6 (pv 1) b9 (λ_ _=>rfl))) b8)) f9))),?_⟩;rw [show start ["_law_one","_law_other_here"] [.ref ap,.ref aq]=[some (.ref ap),some (.ref aq)] from rfl]
 subst_eqs
 refine ⟨_,hp,_,at0 p,_,hq,_,at1 q,_,rfl,_,rfl,L7 bp.n bq.d' ⋯,_,hq,_,at0 q,_,hp,_,at1 p,_,rfl,_,rfl,L7 bq.n bp.d' ⋯,_,hp,_,at1 p,_,hq,_,at1 q,_,rfl,_,rfl,L7 bp.d' bq.d' ⋯,?_⟩;refine ⟨_,_,rfl,aD5 p q,bg3 bp bq hmn,?_⟩;rw [<- aI6];exact k
def af7 (K:q0a):Sp:=λvs H Q _ => ∃ (x y:V) (p q:Rat) (m n:Nat),vs=[x,y]/\Num K H x p/\Num K H y q/\BtN m p/\q ≠ 0/\q.num.natAbs<2 ^ n/\q.den<2 ^ 20000/\m+n<=6000/\ap0 H Q (p / q)
abbrev Y0:Stmt:=top 35
theorem aA9:i7 ["_law_one","_law_other_here"] ["_law_one","_law_other_here"] (c9 Y0):=by and_intros
theorem aC3 {f fl:Addr} (d:Df K mg "_law_over" Y0 ["_law_one","_law_other_here"] f) (G__law_low:Def P w K mg base CX0 1 "_law_low" fl ["_law_top","_law_bottom"] ap1):Def P w K mg base CX0 2 "_law_over" f ["_law_one","_law_other_here"] (af7 K):=by
 refine d.ok (N:=["_law_one","_law_other_here"]) aA9 (by rintro vs H Q E ⟨x,y,p,q,m,n,h,_⟩;rw [h];rfl) (λcdv A outer s H vs Q E hr h=>?_)
 obtain ⟨x,y,p,q,m,n,rfl,⟨ap,rfl,hp⟩,⟨aq,rfl,hq⟩,bp,q0,bq,bd,hmn,k⟩:=h;refine ⟨_,(d2 (i5 (d4 G__law_low hr (b6 (g7 p7 (j4 l6 (pv 0) b9 (λ_ _=>rfl)) (j4 l6 (pv 1) b9 (λ_ _=>rfl))) (b6 (g7 p7 (j4 l6 (pv 0) b9 (λ_ _=>rfl)) (j4 l6 (pv 1) b9 (λ_ _=>rfl))) b8)) f9))),?_⟩;rw [show start ["_law_one","_law_other_here"] [.ref ap,.ref aq]=[some (.ref ap),some (.ref aq)] from rfl]
 have bd':(q.den:Int).natAbs<2 ^ 20000:=by rw [z0b];exact bd
 subst_eqs
 refine ⟨_,hp,_,at0 p,_,hq,_,at1 q,_,rfl,_,rfl,L7 bp.n bd' ⋯,_,hp,_,at1 p,_,hq,_,at0 q,_,rfl,_,rfl,L7 bp.d' bq ⋯,?_⟩;refine ⟨_,_,rfl,g0u (m0y (m9 p)) (λz=>q0 (W5.mp z)),?_,?_⟩
 ·rw [z0p]
  have:=z0h bp.d' bq;rw [<- z0w] at this;exact q0b this (d6 hmn)
 ·rw [<- aK4]
  exact k
def ak3 (c:Rat) (M:List (List Rat)):List (List Rat):=M.map λL=>L.map λq=>c*q
theorem P2 (c:Rat) (M:List (List Rat)):(ak3 c M).length=M.length:=by unfold ak3;rw [q0d]
theorem C3.often {n:Nat} {A:List (List Rat)} {f:Mt} (c:Rat) (h:C3 n A f):C3 n (ak3 c A) (λi j=>c*f i j):=h.map λq=>c*q
theorem y4.oftG {B W C V':Nat} {M:List (List Rat)} {c:Rat} (h:y4 B W M) (hc:OvB C V' c) (C0:0<C) (CV:C<2 ^ V'):y4 (C*B) (V'+W) (ak3 c M):=⟨by rw [P2];exact h.n7,z0z C0 h.B0,by rw [z0w];exact z0h CV h.BW,λL hL=>by
 obtain ⟨L0,h0,rfl⟩:=z0g.mp hL;obtain ⟨l,k⟩:=h.row L0 h0;refine ⟨by rw [q0d,P2,l],λq hq=>?_⟩
 obtain ⟨x,hx,rfl⟩:=z0g.mp hq;exact hc.mul (k x hx)⟩
theorem y4.upW {B W C c V':Nat} {M:List (List Rat)} (h:y4 B W M) (hC:0<C) (hc:C<2 ^ c) (l:W+c<=V'):y4 (B*C) V' M:=⟨h.n7,z0z h.B0 hC,q0b (by rw [z0w];exact z0h h.BW hc:B*C<2 ^ (W+c)) (d6 l),λL hL=>⟨(h.row L hL).1,λq hq=>(((h.row L hL).2 q hq).up h.B0 hC hc).mono l⟩⟩
theorem y4.sumO {B W V':Nat} {M N:List (List Rat)} (h:y4 B W M) (k:y4 B W N) (l:M.length=N.length) (v:W+1<=V'):y4 B V' (an8 M N):=by
 have ls:(an8 M N).length=M.length:=by unfold an8;rw [j0v];omega
 refine ⟨by rw [ls];exact h.n7,h.B0,q0b h.BW (d6 ⋯),λL hL=>?_⟩
 obtain ⟨i,hi⟩:=j0g.mp hL;unfold an8 at hi;rw [j0x] at hi
 cases ea:M[i]? with
 | none=>rw [ea] at hi;cases hi
 | some a =>
  cases eb:N[i]? with
  | none=>rw [ea,eb] at hi;cases hi
  | some b =>
   rw [ea,eb] at hi;obtain rfl:=Option.some.inj hi;have ra:=h.row a (q0h ea);have rb:=k.row b (q0h eb);refine ⟨by rw [j0v,ls];omega,λq hq=>?_⟩
   obtain ⟨j,hj⟩:=j0g.mp hq;rw [j0x] at hj
   cases ec:a[j]? with
   | none=>rw [ec] at hj;cases hj
   | some x =>
    cases ed:b[j]? with
    | none=>rw [ec,ed] at hj;cases hj
    | some y =>
     rw [ec,ed] at hj;obtain rfl:=Option.some.inj hj;exact (OvB.add h.B0 (ra.2 x (q0h ec)) (rb.2 y (q0h ed))).mono v
theorem y4.prodO {B W C U V':Nat} {M N:List (List Rat)} (h:y4 B W M) (k:y4 C U N) (l:M.length=N.length) (v:W+U+M.length<=V'):y4 (B*C) V' (am2 M N):=by
 refine ⟨by rw [ae2];exact h.n7,z0z h.B0 k.B0,q0b (by rw [z0w];exact z0h h.BW k.BW:B*C<2 ^ (W+U)) (d6 ⋯),λL hL=>?_⟩
 obtain ⟨L0,h0,rfl⟩:=z0g.mp hL;have r:=h.row L0 h0;refine ⟨by rw [q0d,aa7,ae2];exact l.symm,λq hq=>?_⟩
 obtain ⟨c,hc,rfl⟩:=z0g.mp hq;obtain ⟨j,_,rfl⟩:=z0g.mp hc
 have rc:∀ x ∈ av5 N j,OvB C U x:=λx hx=>by
  obtain ⟨L1,h1,rfl⟩:=z0g.mp hx
  cases e:L1[j]? with
  | none=>exact OvB.zero _ _
  | some y=>exact (k.row L1 h1).2 y (q0h e)
 exact (aM1 h.B0 k.B0 r.2 rc).mono (by rw [r.1];exact v)
theorem as0 {n:Nat} (h:n<=7):y4 1 1 (M1 n):=by
 have f:=C3.unit n;refine ⟨by rw [f.len];exact h,by decide,by decide,λL hL=>⟨by rw [f.row L hL,f.len],λq hq=>?_⟩⟩
 obtain ⟨i,_,rfl⟩:=z0g.mp hL;obtain ⟨j,_,rfl⟩:=z0g.mp hq
 split
 ·exact ⟨1,by decide,by decide⟩
 ·exact OvB.zero _ _
def aA1 (K:q0a):Sp:=λvs H Q _ => ∃ (x:V) (c:Rat) (a:Addr) (ts:List Addr) (M:List (List Rat)) (B W V':Nat),vs=[x,.ref a]/\Num K H x c/\BdN V' c/\H a=some (.lst (ts.map V.ref))/\ao9 K H ts M/\y4 B W M/\W+V'<=5990/\O6 H Q (ak3 c M)
abbrev C6:Stmt:=top 51
theorem ah0:i7 ["_law_number_here","_law_table"] ["_law_number_here","_law_table"] (c9 C6):=by and_intros
theorem ah3 {f f1:Addr} (d:Df K mg "_law_table_often" C6 ["_law_number_here","_law_table"] f) (G__law_times:Def P w K mg base CX0 2 "_law_times" f1 ["_law_one","_law_other_here"] (E7 K (· * ·))):Def P w K mg base CX0 3 "_law_table_often" f ["_law_number_here","_law_table"] (aA1 K):=by
 refine d.ok (N:=["_law_number_here","_law_table"]) ah0 (by rintro vs H Q E ⟨_,_,_,_,_,_,_,_,h,_⟩;rw [h];rfl) (λcdv A outer s H vs Q E hr h=>?_)
 obtain ⟨_,c,a,ts,M,B,W,V',rfl,⟨ax,rfl,hx0⟩,bc,ha,hR,hM,hW,k1⟩:=h;refine ⟨_,(d2 (i5 (t8 (Nc:=["_law_number_here","_law_row"]) (caps:=[some 0,none]) rfl (G2.of (osc:=c9 C6) (N:=["_law_number_here","_law_table"]) (ks:=["_law_number_here"]) rfl rfl rfl rfl (i8 rfl j6) (by decide +kernel)) (r6 (pv 1)) (λC s₂ H₂ fp pins=>(d5 (i:=1) (show z0j (["_law_number_here","_law_row"]:List Str) by decide +kernel) rfl (q0w rfl) (z0v rfl))) (λC s₂ H₂ fp pins=>(t8 (Nc:=["_law_number_here","_law_one"]) (caps:=[some 0,none]) rfl (G2.of (osc:=_) (N:=["_law_number_here","_law_row"]) (ks:=["_law_number_here"]) rfl rfl rfl rfl (i8 rfl j6) (by kernel_rfl)) (show PI _ _ _ (K0 K _) from by exact (r6 (pv 1))) (λC s₂ H₂ fp pins=>(d5 (i:=1) (show z0j (["_law_number_here","_law_one"]:List Str) by decide +kernel) rfl (q0w rfl) (z0v rfl))) (λC s₂ H₂ fp pins=>(d4 G__law_times hr (b6 (pv 0) (b6 (pv 1) b8)) f9))))))),?_⟩
 rw [show start ["_law_number_here","_law_table"] [.ref ax,.ref a]=[some (.ref ax),some (.ref a)] from rfl]
 subst_eqs
 have hRl:=hR.length;refine ⟨⟨_,SqL.of ha⟩,λD hD=>?_⟩;refine y9 (ts.map V.ref) (λi σ H2 => ∃ o1,σ=[some (.ref ax),o1]/\t6 H D ((ak3 c M).take i) H2) ⟨_,rfl,t6.start hD⟩ (λi σ H2 _ ⟨_,_,T⟩=>SqL.of (T.same _ _ ha)) ?_ ?_
 ·rintro i x σ H2 hx ⟨o1,rfl,T⟩
  have hi:=(q0g.mp hx).1;obtain ⟨t,ht,rfl⟩:=A1 hx;obtain ⟨xs,L,hL,et,nt⟩:=hR.get ht;have hLm:=hM.bd L (q0h hL);have S2:=T.same;have lx:=nt.length;have m7:=hM.n7;have l7:=hLm.1
  subst_eqs
  refine ⟨⟨_,SqL.of (S2 _ _ et)⟩,λD2 hD2=>?_⟩;refine y9 xs (λj σ H3 => ∃ o1,σ=[some (.ref ax),o1]/\E6 H2 D2 ((L.map λq=>c*q).take j) H3) ⟨_,rfl,E6.start hD2⟩ (λj σ H3 _ ⟨_,_,R⟩=>SqL.of (R.same _ _ (S2 _ _ et))) ?_ ?_
  ·rintro j x σ H3 hx2 ⟨o1,rfl,R⟩
   have hj:=(q0g.mp hx2).1;obtain ⟨px,q1,rfl,hq1,hpx⟩:=nt.getV hx2;have b1:=hLm.2 q1 (q0h hq1);have S3:=S2.trans R.same
   subst_eqs
   refine ⟨_,_,c,q1,V',W,rfl,⟨ax,rfl,S3.tup hx0⟩,⟨px,rfl,(hpx.mono S3.tups).sqt⟩,bc.t ⋯,b1.t ⋯,⋯,λp5 H5 s5 e5=>?_⟩;obtain ⟨zs,eD,yl,R'⟩:=R.add hD2 s5 e5;refine o0.mk hj eD (p8 (by rw [yl,q0x,q0d];omega)) ⟨_,rfl,?_⟩
   rw [d7 (l:=L.map λq=>c*q) (x:=c*q1) (by rw [q0q,hq1];rfl)]
   exact R'
  ·rintro σ H3 ⟨o1,rfl,R⟩
   rw [k7 (by rw [q0d];omega)] at R
   obtain ⟨zs,eD,yl,T'⟩:=T.add hD hD2 R;refine o0.mk hi eD (p8 (by rw [yl,q0x,P2];omega)) ⟨_,rfl,?_⟩
   rw [d7 (l:=ak3 c M) (x:=L.map λq=>c*q) (by unfold ak3;rw [q0q,hL];rfl)]
   exact T'
 ·rintro σ H2 ⟨o1,rfl,T⟩
  rw [k7 (by rw [P2,q0d];omega)] at T
  exact T.res k1 hD
theorem aE5 {H0 H1 H2:Hp} {r:Addr} {ts:List Addr} {M:List (List Rat)} (s0:c7 H0 H1) (s:c7 H1 H2) (fr:H1 r=none) (ft:∀ t ∈ ts,H1 t=none/\t ≠ r) (nd:ts.Nodup) (e:H2 r=some (.lst (ts.map V.ref))) (R:Rws H2 ts M):t6 H0 r M H2/\H0 r=none:=⟨⟨s0.trans s,ts,e,λt ht=>⟨s0.free (ft t ht).1,(ft t ht).2⟩,nd,R⟩,s0.free fr⟩
theorem t6.ws {H H2:Hp} {r:Addr} {M:List (List Rat)} (t:t6 H r M H2):∃ ts,H2 r=some (.lst (ts.map V.ref))/\Rws H2 ts M:=let ⟨_,ts,e,_,_,R⟩:=t;⟨ts,e,R⟩
theorem bd2 {n:Nat} {R:List (List Rat)} (h:C3 n R (λ_ _=>0)) (n7:n<=7) {B W:Nat} (B0:0<B) (BW:B<2 ^ W):y4 B W R:=by
 refine ⟨by rw [h.len];exact n7,B0,BW,λL hL=>⟨by rw [h.row L hL,h.len],λq hq=>?_⟩⟩
 obtain ⟨i,hi⟩:=j0g.mp hL;obtain ⟨j,hj⟩:=j0g.mp hq;have li:=(q0g.mp hi).1;have lj:=(q0g.mp hj).1;have e:=h.at' i j (by rw [<- h.len];exact li) (by rw [<- h.row L hL];exact lj)
 unfold qq at e;rw [hi] at e;have e2:aQ L j=q:=by unfold aQ;rw [hj];rfl
 rw [<- e2,show aQ L j=0 from e];exact OvB.zero _ _
structure TbA (H:Hp) (a:Addr) (M:List (List Rat)):Prop where
 ex:∃ ts:List Addr,H a=some (.lst (ts.map V.ref))/\Rws H ts M
theorem TbA.same {H H':Hp} {a:Addr} {M:List (List Rat)} (h:TbA H a M) (s:c7 H H'):TbA H' a M:=let ⟨ts,e,r⟩:=h.ex;⟨ts,s _ _ e,r.same s⟩
def aT4 (K:q0a):Sp:=λvs H Q _ => ∃ (p a:Addr) (xs:List V) (qs:List Rat) (M:List (List Rat)) (n B W D W1:Nat),vs=[.ref p,.ref a]/\H p=some (.lst xs)/\t5 H xs qs/\TbA H a M/\y4 B W M/\M.length=n/\n<=4/\1<=W/\W<=170/\(∀ q ∈ qs,OvB D W1 q)/\0<D/\D<2 ^ W1/\W1<=800/\qs.length<=8/\∀ R,C3 n R (hsM n (qq M) qs)->y4 (D*B ^ qs.length) (W1+qs.length*(W+5)+2) R->O6 H Q R
abbrev ab7:Stmt:=top 60
theorem G6:i7 ["_law_p","_law_table","_law_n","_law_found","_law_raised","_law_number_here"] ["_law_p","_law_table"] (c9 ab7):=by and_intros
theorem aG6 {f f1 f2 f3 f4:Addr} (d:Df K mg "_law_due" ab7 ["_law_p","_law_table"] f) (G__law_unit:Def P w K mg base CX0 1 "_law_unit" f1 ["_law_n"] ar1) (G__law_table_often:Def P w K mg base CX0 3 "_law_table_often" f2 ["_law_number_here","_law_table"] (aA1 K)) (G__law_table_plus:Def P w K mg base CX0 4 "_law_table_plus" f3 ["_law_one","_law_other_here"] (as2 K)) (G__law_table_times:Def P w K mg base CX0 4 "_law_table_times" f4 ["_law_one","_law_other_here"] (aT3 K)) (n_len:mg "len" = none):Def P w K mg base CX0 5 "_law_due" f ["_law_p","_law_table"] (aT4 K):=by
  refine d.ok (N:=["_law_p","_law_table","_law_n","_law_found","_law_raised","_law_number_here"]) G6 (by rintro vs H Q E ⟨_,_,_,_,_,_,_,_,_,_,h,_⟩;rw [h];rfl) (λcdv A outer s H vs Q E hr h=>?_)
  obtain ⟨p,a,xs,qs,M,n,B,W,D,W1,rfl,hp,hN,hA,oM,hn,n4,w1,hW,oq,D0,DW,hW1,q8,k⟩:=h;have lx:=hN.length;obtain ⟨ts,ha,hR⟩:=hA.ex;have hRl:=hR.length;have fM:C3 n M (qq M):=C3.of hn λL hL=>by rw [(oM.row L hL).1,hn]
  refine ⟨_, (c6 (g8 (i := 2) G6.nd rfl (Or.inl rfl) (j8 k0 rfl n_len (by decide +kernel) (b6 (pv 1) b8)))
      (c6 (g8 (i:=3) G6.nd rfl (Or.inl rfl) (d4 G__law_table_often hr (b6 (j3 (b6 b9 (b6 b9 b8))) (b6 (d4 G__law_unit hr (b6 (pv 2) b8) f9) b8)) f9))
      (c6 (g8 (i:=4) G6.nd rfl (Or.inl rfl) (d4 G__law_unit hr (b6 (pv 2) b8) f9))
      (c6 (K2 PassesOwn.never rfl (r6 (pv 0)) (d5 (i:=5) G6.nd rfl (Or.inl rfl)) (c6 (g8 (i:=3) G6.nd rfl (Or.inl rfl) (d4 G__law_table_plus hr (b6 (pv 3) (b6 (d4 G__law_table_often hr (b6 (pv 5) (b6 (pv 4) b8)) f9) b8)) f9))
      (d2 (g8 (i:=4) G6.nd rfl (Or.inl rfl) (d4 G__law_table_times hr (b6 (pv 4) (b6 (pv 1) b8)) f9)))))
      (d2 (i5 (pv 3))))))),?_⟩
  rw [show start ["_law_p","_law_table","_law_n","_law_found","_law_raised","_law_number_here"] [.ref p,.ref a]=[some (.ref p),some (.ref a),none,none,none,none] from rfl]
  refine h9 (λσ H1=>H1=H/\σ=[some (.ref p),some (.ref a),some (.int (n:Int)),none,none,none]) (λN hN'=>?_) ?_
  · subst_eqs
    exact ⟨_,.inl (SqL.of ha),hN' _ _ ⟨rfl,by rw [List.length_map,hRl,hn]⟩⟩
  rintro σ H1 ⟨rfl,rfl⟩;have f0:C3 n (ak3 0 (M1 n)) (λ_ _=>0):=((C3.unit n).often 0).to λi j _ _=>by grind
  refine h9 (λσ H2 => ∃ l,σ=[some (.ref p),some (.ref a),some (.int (n:Int)),some (.ref l),none,none]/\t6 H1 l (ak3 0 (M1 n)) H2/\H1 l=none) (λN hN'=>?_) ?_
  · subst_eqs
    refine ⟨by decide,λpz fz=>?_⟩
    have Sz:=c7.new fz (.tup [.int 0,.int 1]);refine ⟨n,rfl,⋯,λr ts1 H2 s2 fr ft nd e2 R2=>?_⟩;refine ⟨_,0,r,ts1,M1 n,1,1,1,rfl,⟨pz,rfl,SqT.of (s2 _ _ c5)⟩,⟨by decide,by decide⟩,e2,R2.toC,as0 ⋯,by decide,λr2 ts2 H3 s3 fr2 ft2 nd2 e3 R3=>?_⟩
    obtain ⟨T,g⟩:=aE5 (Sz.trans s2) s3 fr2 ft2 nd2 e3 R3;exact hN' _ _ ⟨r2,rfl,T,g⟩
  rintro σ H2 ⟨l0,rfl,T2,g2⟩;have s2:=T2.same;refine h9 (λσ H3 => ∃ l r,σ=[some (.ref p),some (.ref a),some (.int (n:Int)),some (.ref l),some (.ref r),none]/\t6 H1 l (ak3 0 (M1 n)) H3/\H1 l=none/\TbA H3 r (M1 n)) (λN hN'=>?_) ?_
  · subst_eqs
    exact ⟨n,rfl,⋯,λr ts1 H3 s3 fr ft nd e3 R3=>hN' _ _ ⟨l0,r,rfl,T2.to s3,g2,⟨ts1,e3,R3⟩⟩⟩
  clear T2 g2 s2;rintro σ H3 ⟨l0,r0,rfl,T3,g3,U3⟩;obtain ⟨I,hI⟩:∃ I:Nat->L2.St->Hp->Prop,∀ c σ H4,I c σ H4 ↔ ∃ (l r:Addr) (F N:List (List Rat)) (o:Option V),σ=[some (.ref p),some (.ref a),some (.int (n:Int)),some (.ref l),some (.ref r),o]/\t6 H1 l F H4/\H1 l=none/\TbA H4 r N/\C3 n F (λi j=>i4 (λk=>aQ qs k*pwM n (qq M) k i j) c)/\y4 (D*B ^ c) (W1+c*(W+5)+2) F/\C3 n N (pwM n (qq M) c)/\y4 (B ^ c) (c*(W+5)+1) N:=⟨_,λ_ _ _=>Iff.rfl⟩;refine h9 (λσ H4=>I qs.length σ H4) (λN hN'=>?_) ?_
  · refine ⟨_,rfl,p,rfl,⟨_,SqL.of (T3.same _ _ hp)⟩,aa6 (xs:=xs) I ((hI _ _ _).mpr ⟨l0,r0,_,_,_,rfl,T3,g3,U3,f0,bd2 f0 ⋯ (by rw [Nat.pow_zero,Nat.mul_one];exact D0) (by rw [Nat.pow_zero,Nat.mul_one];exact Nat.lt_of_lt_of_le DW (d6 ⋯)),C3.unit n,by rw [Nat.pow_zero,Nat.zero_mul];exact as0 ⋯⟩) (λi σ H4 _ h=>?_) ?_ (λσ H4 h=>hN' _ _ (by rw [lx] at h;exact h))⟩
    · obtain ⟨_,_,_,_,_,_,T,_⟩:=(hI _ _ _).mp h
      exact SqL.of (T.same _ _ hp)
    · rintro c x σ H4 hx h
      obtain ⟨l,r,F,N,o,rfl,T4,g4,U4,fF,oF,fN,oN⟩:=(hI _ _ _).mp h;have hc:=(List.getElem?_eq_some_iff.mp hx).1;obtain ⟨px,c1,rfl,hq1,hpx⟩:=hN.getV hx;have c8:c<8:=⋯;have bq:=oq c1 (List.mem_of_getElem? hq1);have bW:c*(W+5)<=7*175:=Nat.mul_le_mul ⋯ ⋯;have sW:(c+1)*(W+5)=c*(W+5)+(W+5):=Nat.succ_mul _ _;have ac:aQ qs c=c1:=by unfold aQ;rw [hq1];rfl
      have oC:=oN.oftG bq D0 DW;have oB:=oM.BW;have oF':=oF.upW oM.B0 oM.BW (V':=W1+c*(W+5)+2+W) ⋯;have oC':=oC.upW oM.B0 oM.BW (V':=W1+c*(W+5)+2+W) ⋯;have lF:=fF.len;have lN:=fN.len;have oS:=oF'.sumO oC' (by rw [P2];omega) (show _+1<=W1+(c+1)*(W+5)+2 by omega)
      have oP:=oN.prodO oM ⋯ (show c*(W+5)+1+W+N.length<=(c+1)*(W+5)+1 by omega)
      obtain ⟨tr,er,Rr⟩:=U4.ex
      subst_eqs
      refine ⟨_,c1,r,tr,N,B ^ c,c*(W+5)+1,W1,rfl,⟨px,rfl,SqT.of (T4.same.tups _ _ hpx)⟩,ao3 D0 DW bq,er,Rr.toC,oN,⋯,λr2 ts2 H5 s5 fr2 ft2 nd2 e5 R5=>?_⟩;obtain ⟨tl,el,Rl⟩:=T4.ws;refine ⟨l,r2,tl,ts2,F,ak3 c1 N,D*B ^ c,W1+c*(W+5)+2,D*B ^ c,W1+(c*(W+5)+1),rfl,s5 _ _ el,(Rl.same s5).toC,e5,R5.toC,oF,oC,⋯,by rw [P2];omega,λr3 ts3 H6 s6 fr3 ft3 nd3 e6 R6=>?_⟩
      have S6:=T4.same.trans (s5.trans s6);refine ⟨r,a,tr,ts,N,M,n,B ^ c,c*(W+5)+1,B,W,rfl,s6 _ _ (s5 _ _ er),(Rr.same s5).same s6,S6 _ _ ha,hR.same S6,lN,hn,⋯,λL hL=>by rw [<- lN];exact oN.row L hL,λL hL=>by rw [<- hn];exact oM.row L hL,oN.B0,oM.B0,oN.BW,oM.BW,⋯,λr4 ts4 H7 s7 fr4 ft4 nd4 e7 R7=>?_⟩
      obtain ⟨T6,g6⟩:=aE5 (T4.same.trans s5) s6 fr3 ft3 nd3 e6 R6;refine (hI _ _ _).mpr ⟨r3,r4,_,_,_,rfl,T6.to s7,g6,⟨ts4,e7,R7⟩,?_,?_,?_,?_⟩
      · refine (fF.sum (fN.often c1)).to λi j _ _=>?_
        show _=i4 (λk=>aQ qs k*pwM n (qq M) k i j) c+aQ qs c*pwM n (qq M) c i j;rw [ac]
      · rw [Nat.pow_succ,<- Nat.mul_assoc];exact oS
      · exact fN.prod fM
      · rw [Nat.pow_succ];exact oP
  rintro σ H4 h;obtain ⟨l,r,F,N,o,rfl,T4,g4,U4,fF,oF,fN,oN⟩:=(hI _ _ _).mp h
  subst_eqs
  exact T4.res (k F (fF.to λi j _ hj=>(aW0 qs i j hj).symm) oF) g4
theorem aU3 {L W:Nat} (hL:0<L) {p q:Rat} {w:Int} (h:OvB L W p) (hv:q=z0a w (L:Int)) (w0:w ≠ 0):OvB w.natAbs W (-p / q):=by
 obtain ⟨v,rfl,b⟩:=h
 have l0:((L:Int):Rat) ≠ 0:=λz=>by
  have:=g0x.mp (show ((L:Int):Rat)=((0:Int):Rat) from z);omega
 have b0:(w:Rat) ≠ 0:=λz=>w0 (g0x.mp (show (w:Rat)=((0:Int):Rat) from z));have i1:=u0a _ l0;have i2:=u0a _ b0
 have e:-z0a v (L:Int) / q=-((v:Rat)*(w:Rat)⁻¹):=by
  rw [hv,v0c,v0c,y0z,y0z,y0z,Rat.inv_mul_rev,Rat.inv_inv]
  grind
 rw [e];have h2:w=w.natAbs \/ w=-(w.natAbs:Int):=⋯;rcases h2 with z | z
 ·refine ⟨-v,?_,by rw [u0y];exact b⟩
  rw [<- z,v0c,y0z,Rat.intCast_neg];grind
 ·refine ⟨v,?_,b⟩
  have z2:((w.natAbs:Int))=-w:=⋯;rw [z2,v0c,y0z,Rat.intCast_neg];have n0:-(w:Rat) ≠ 0:=λz=>b0 (by grind)
  have i3:=u0a _ n0
  have:(-(w:Rat))⁻¹=-(w:Rat)⁻¹:=by
   have h:(-(w:Rat))⁻¹*((w:Rat)*(w:Rat)⁻¹)=(-(w:Rat))⁻¹:=by rw [i2,Rat.mul_one]
   rw [<- h];generalize (w:Rat)⁻¹=a at *;generalize (-(w:Rat))⁻¹=c at *
   grind
  rw [this];grind
theorem aU4 {B W:Nat} (h0:0<B) (hW:B<2 ^ W):OvB B W 1:=by
 have nb:((B:Int):Rat) ≠ 0:=λz=>by
  have:=g0x.mp (show ((B:Int):Rat)=((0:Int):Rat) from z);omega
 exact ⟨(B:Int),by rw [v0c,y0z,u0a _ nb],by rw [z0b];exact hW⟩
def shQ (n:Nat):List (List Rat):=(z0q n).map λi=>(z0q n).map λj=>if j=i+1 then (1:Rat) else 0
theorem bd9 {n i:Nat} (h:i<n):(shQ n)[i]? = some ((z0q n).map λj=>if j=i+1 then (1:Rat) else 0):=by unfold shQ;rw [q0q,ab9 h];rfl
def aN4 (qs:List Rat) (n:Nat):List (List Rat):=(shQ n).set (n-1) ((qs.take n).map λq=>-q / (qs[n]?.getD 0))
theorem bb2 {qs:List Rat} {n W:Nat} (cl:ClN W qs) (ln:qs.length=n+1) (l0:qs[n]?.getD 0 ≠ 0):∃ B,0<B/\B<2 ^ W/\∀ L ∈ aN4 qs n,L.length=n/\∀ x ∈ L,OvB B W x:=by
 have en:qs[n]? = some (qs[n]?.getD 0):=by rw [q0c ⋯];rfl
 obtain ⟨w,hw,bw⟩:=aU5 cl (q0h en);have Lp:=G1 qs;have w0:w ≠ 0:=λz=>l0 (by rw [hw,z,Rat.zero_divInt])
 have B0:0<w.natAbs:=⋯;refine ⟨w.natAbs,B0,bw,λL hL=>?_⟩;rcases j0f hL with h | rfl
 ·obtain ⟨i,_,rfl⟩:=z0g.mp h
  refine ⟨by rw [q0d,y0n],λx hx=>?_⟩
  obtain ⟨j,_,rfl⟩:=z0g.mp hx
  by_cases z:j=i+1
  ·rw [if_pos z];exact aU4 B0 bw
  ·rw [if_neg z];exact OvB.zero _ _
 ·refine ⟨by rw [q0d,q0x];omega,λx hx=>?_⟩
  obtain ⟨q,hq,rfl⟩:=z0g.mp hx;exact aU3 Lp (aU5 cl (y0p hq)) hw w0
theorem av4 (qs:List Rat) (n:Nat):(aN4 qs n).length=n:=by unfold aN4 shQ;rw [y0v,q0d,y0n]
theorem Rws.setN {H:Hp}:∀ {ts:List Addr} {M:List (List Rat)} (k:Nat) {p:Addr} {xs:List V} {L:List Rat},Rws H ts M->H p=some (.lst xs)->t5 H xs L->Rws H (ts.set k p) (M.set k L)
 | _,_,_,_,_,_,.nil,_,_=>.nil
 | _,_,0,_,_,_,.cons _ _ t,e,f=>.cons e f t
 | _,_,k+1,_,_,_,.cons h n t,e,f=>.cons h n (t.setN k e f)
theorem aV2 {α:Type} {y:α}:∀ {ts:List α} (k:Nat),ts.Nodup->y ∉ ts->(ts.set k y).Nodup
 | [],_,h,_=>h
 | a :: ts,0,h,n=>j0t.mpr ⟨λz=>n (q0p _ z),(j0t.mp h).2⟩
 | a :: ts,k+1,h,n=>j0t.mpr ⟨λz=>by
   rcases j0f z with z | z
   ·exact (j0t.mp h).1 z
   ·exact n (z ▸ q0u),aV2 k (j0t.mp h).2 λz=>n (q0p _ z)⟩
def aI8 (K:q0a):Sp:=λvs H Q _ => ∃ (a:Addr) (xs:List V) (qs:List Rat) (n:Nat),vs=[.ref a]/\SqL K H a xs/\t5 H xs qs/\ClN 80 qs/\N3 qs qs.length/\qs.length=n+1/\1<=n/\n<=4/\∀ M B,M.length=n->y4 B 80 M->O6 H Q M
abbrev B9:Stmt:=top 57
theorem M4:i7 ["_law_p","_law_n","_law_found"] ["_law_p"] (c9 B9):=by and_intros
theorem am8 {f f1:Addr} (d:Df K mg "_law_companion" B9 ["_law_p"] f) (G__law_over:Def P w K mg base CX0 2 "_law_over" f1 ["_law_one","_law_other_here"] (af7 K)) (n_len:mg "len" = none) (n_range:mg "range" = none) (n_int:mg "int" = none):Def P w K mg base CX0 3 "_law_companion" f ["_law_p"] (aI8 K):=by
  refine d.ok (N:=["_law_p","_law_n","_law_found"]) M4 (by rintro vs H Q E ⟨_,_,_,_,h,_⟩;rw [h];rfl) (λcdv A outer s H vs Q E hr h=>?_)
  obtain ⟨a,xs,qs,n,rfl,hS,hN,cl,tl,ln,n1,n4,k⟩:=h
  refine ⟨_, (c6 (g8 (i := 1) M4.nd rfl (Or.inr rfl) (g7 M0 (j8 k0 rfl n_len (by decide +kernel) (b6 (pv 0) b8)) b9))
      (c6 (ap2 (i₀:=2) M4.nd rfl (Or.inl rfl) (Nc:=["_law_n","_law_i"]) (caps:=[some 1,none]) rfl (ac9.of (osc:=c9 B9) (N:=["_law_p","_law_n","_law_found"]) (ks:=["_law_n"]) rfl rfl rfl rfl (i8 rfl j6) (by decide +kernel)) (y3 rfl n_range (b6 (pv 1) b8)) (λC s₂ H₂ fp pins=>(d5 (i:=1) (show List.Nodup (["_law_n","_law_i"]:List Str) by decide +kernel) rfl (Or.inr rfl) (Or.inl rfl))) (λC s₂ H₂ fp pins=>(t8 (Nc:=["_law_i","_law_j"]) (caps:=[some 1,none]) rfl (G2.of (osc:=_) (N:=["_law_n","_law_i"]) (ks:=["_law_i"]) rfl rfl rfl rfl (i8 rfl j6) (by kernel_rfl)) (y3 rfl n_range (b6 (pv 0) b8)) (λC s₂ H₂ fp pins=>(d5 (i:=1) (show List.Nodup (["_law_i","_law_j"]:List Str) by decide +kernel) rfl (Or.inl rfl) (Or.inr rfl))) (λC s₂ H₂ fp pins=>(j3 (b6 (w4 C2 rfl n_int (by decide +kernel) (b6 (B6 S9 (pv 1) (g7 A8 (pv 0) b9) (j1 _)) b8)) (b6 b9 b8)))))))
      (c6 (F9 (t8 (Nc:=["_law_p","_law_n","_law_a"]) (caps:=[some 0,some 1,none]) rfl (G2.of (osc:=c9 B9) (N:=["_law_p","_law_n","_law_found"]) (ks:=["_law_p","_law_n"]) rfl rfl rfl rfl (i8 rfl (i8 rfl j6)) (by decide +kernel)) (r6 (Q8 X4 (pv 0) U8 (P1 (pv 1)))) (λC s₂ H₂ fp pins=>(d5 (i:=2) (show List.Nodup (["_law_p","_law_n","_law_a"]:List Str) by decide +kernel) rfl (Or.inl rfl) (Or.inr rfl))) (λC s₂ H₂ fp pins=>(d4 G__law_over hr (b6 (j3 (b6 (g7 M0 b9 (j4 (by exact l6:IxR _ (ae1 K)) (pv 2) b9 (λ_ _=>rfl))) (b6 (j4 (by exact l6:IxR _ (ae1 K)) (pv 2) b9 (λ_ _=>rfl)) b8))) (b6 (j4 (by exact t9:IxR _ (N8 K)) (pv 0) (pv 1) (λ_ _=>rfl)) b8)) f9))) (Z4 (pv 2) (g7 M0 (pv 1) b9) K6))
      (d2 (i5 (pv 2)))))),?_⟩
  rw [show start ["_law_p","_law_n","_law_found"] [.ref a]=[some (.ref a),none,none] from rfl]
  subst_eqs
  have hxl:xs.length=n+1:=by rw [hN.length,ln]
  obtain ⟨qn,en⟩:∃ qn,qs[n]? = some qn:=⟨_,List.getElem?_eq_getElem ⋯⟩;have qn0:qn ≠ 0:=tl.last ⋯ _ (by rw [ln];exact en)
  have gd:qs[n]?.getD 0=qn:=by rw [en];rfl
  obtain ⟨B,B0,BW,ov⟩:=bb2 cl ln (by rw [gd];exact qn0)
  have oC:y4 B 80 (aN4 qs n):=⟨by rw [av4];omega,B0,BW,λL hL=>⟨by rw [av4];exact (ov L hL).1,(ov L hL).2⟩⟩
  refine ⟨xs,.inl hS,⋯,⋯,λD hD=>?_⟩;rw [show ((xs.length:Int)-1)=(n:Int) by omega]
  refine I0 (λi σ H2 => ∃ o,σ=[some (.int (n:Int)),o]/\t6 H D ((shQ n).take i) H2) ⟨_,rfl,t6.start hD⟩ ?_ ?_
  · rintro i σ H2 hi ⟨o,rfl,T⟩
    subst_eqs
    have hi':i<n:=⋯;refine ⟨⋯,⋯,λD2 hD2=>?_⟩;refine I0 (λj σ H3 => ∃ o,σ=[some (.int (0+i)),o]/\E6 H2 D2 (((List.range n).map λj=>if j=i+1 then (1:Rat) else 0).take j) H3) ⟨_,rfl,E6.start hD2⟩ ?_ ?_
    · rintro j σ H3 hj ⟨o,rfl,R⟩
      have hj':j<n:=⋯
      subst_eqs
      refine ⟨rfl,v8,λp hp=>?_⟩
      have e:upd H3 p (HO.tup [V.int (if (0:Int) + ↑j=0 + ↑i+1 then 1 else 0),V.int 1]) p=some (.tup (t7 (if j=i+1 then (1:Rat) else 0))):=by
        rw [c5]
        by_cases h:j=i+1
        · rw [if_pos ⋯,if_pos h];rfl
        · rw [if_neg ⋯,if_neg h];rfl
      obtain ⟨ys,eD,yl,R'⟩:=R.add hD2 (c7.new hp _) e;refine o0.mk hj eD (p8 (by rw [yl,List.length_take];omega)) ⟨_,rfl,?_⟩
      rw [d7 (l:=(List.range n).map λj=>if j=i+1 then (1:Rat) else 0) (x:=if j=i+1 then (1:Rat) else 0) (by rw [List.getElem?_map,ab9 hj'];rfl)]
      exact R'
    · rintro σ H3 ⟨o,rfl,R⟩
      rw [k7 (by simp)] at R
      obtain ⟨ys,eD,yl,T'⟩:=T.add hD hD2 R;refine o0.mk hi eD (p8 (by rw [yl,List.length_take];omega)) ⟨_,rfl,?_⟩
      rw [d7 (bd9 hi')];exact T'
  rintro σ H2 ⟨o,rfl,T⟩;rw [k7 (by simp [shQ])] at T
  have S2:=T.same;refine ⟨xs,S2.seq hS,λp fp=>?_⟩;rw [av3 xs ⋯];have Sp:=c7.new fp (.lst (xs.take n));have nT:=(hN.take n).mono (S2.trans Sp).tups;refine ⟨⟨_,SqL.of c5⟩,λD2 fD2=>?_⟩;refine y9 (xs.take n) (λj σ H3 => ∃ o,σ=[some (.ref a),some (.int (n:Int)),o]/\E6 (upd H2 p (.lst (xs.take n))) D2 (((qs.take n).map λq=>-q / (qs[n]?.getD 0)).take j) H3) ⟨_,rfl,E6.start fD2⟩ (λj σ H3 _ ⟨_,_,R⟩=>SqL.of (R.same _ _ c5)) ?_ ?_
  · rintro j x σ H3 hx ⟨o,rfl,R⟩
    have hj:=(List.getElem?_eq_some_iff.mp hx).1;obtain ⟨px,q1,rfl,hq1,hpx⟩:=nT.getV hx;have m1:=List.mem_of_mem_take (List.mem_of_getElem? hq1);have b1:=cl.bdN m1;have bn:=cl.bdN (List.mem_of_getElem? en);have S3:=(S2.trans Sp).trans R.same;obtain ⟨pn,hpn,epn⟩:=hN.get en
    subst_eqs
    have hp1:SqT K H3 px (t7 q1):=SqT.of (R.same _ _ hpx);have S4:=Sp.trans R.same;have S5:=S2.trans S4;have bm:BdN 80 (-q1):=⟨by rw [Rat.neg_num,Int.natAbs_neg];exact b1.n,by rw [Rat.neg_den];exact b1.d⟩
    refine ⟨_,hp1,_,at0 q1,_,rfl,_,hp1,_,at1 q1,by decide,λp1 fp1=>?_⟩
    have S6:=c7.new fp1 (.tup [.int (0-q1.num),.int (q1.den:Int)]);have S7:=S5.trans S6;refine ⟨xs,S7.seq hS,_,C7 hpn,?_⟩;refine ⟨.ref p1,.ref pn,-q1,qn,80,80,rfl,⟨p1,rfl,by rw [aV1];exact SqT.of c5⟩,⟨pn,rfl,SqT.of (S7 _ _ epn)⟩,bm.t (by decide),qn0,bn.n,Nat.lt_of_lt_of_le bn.d (d6 (by decide)),by decide,λr H6 s6 e6=>?_⟩
    obtain ⟨zs,eD,yl,R'⟩:=R.add fD2 (S6.trans s6) e6;refine o0.mk hj eD (p8 (by rw [yl,List.length_take,List.length_map,List.length_take];omega)) ⟨_,rfl,?_⟩
    rw [d7 (l:=(qs.take n).map λq=>-q / (qs[n]?.getD 0)) (x:=-q1 / qn) (by rw [List.getElem?_map,hq1,gd];rfl)]
    exact R'
  rintro σ H3 ⟨o,rfl,R⟩;rw [List.take_of_length_le (l:=(qs.take n).map λq=>-q / (qs[n]?.getD 0)) (by rw [List.length_map,List.length_take,List.length_take];omega)] at R
  obtain ⟨_,ts,eD,hn,nd,rT⟩:=T;obtain ⟨s3,ys,eD2,nY⟩:=R;have S4:=Sp.trans s3;have eD3:=S4 _ _ eD;have lT:ts.length=n:=by rw [rT.length];simp [shQ]
  have fD2':H2 D2=none:=Sp.free fD2;have DD:D ≠ D2:=i9 eD fD2'
  have nts:∀ t ∈ ts,D2 ≠ t:=λt ht z=>by
    obtain ⟨i,hi⟩:=List.mem_iff_getElem?.mp ht;obtain ⟨_,_,_,e,_⟩:=rT.get hi;rw [<- z,fD2'] at e;cases e
  refine ⟨D,rfl,_,eD3,n-1,by rw [List.length_map,lT,show ((n:Int)-1)=((n-1:Nat):Int) by omega];exact ak7 ⋯,?_⟩
  have ms:∀ t ∈ ts.set (n-1) D2,t ∈ ts \/ t=D2:=λt ht=>List.mem_or_eq_of_mem_set ht;refine k _ B (av4 qs n) oC D (ts.set (n-1) D2) _ ((S2.trans S4).over hD _) hD (λt ht=>?_) ?_ (by rw [c5,List.map_set]) ?_
  · rcases ms t ht with h | rfl
    · exact hn t h
    · exact ⟨S2.free fD2',DD.symm⟩
  · exact aV2 _ nd λz=>nts D2 z rfl
  · exact ((rT.same S4).setN _ eD2 nY).over eD3 fun z => by
      rcases ms D z with h | h
      · exact (hn D h).2 rfl
      · exact DD h
def bK (kd:Int):Nat:=if kd=2 then 40 else 4
theorem bc9 {t b:Int} (hb:b ≠ 0) (h1:t.natAbs<=9) (h2:b.natAbs<=7):BdN 4 (z0a t b):=by
 have:=O0 (t:=t) hb;exact ⟨q0t this.1 ⋯,q0t this.2 ⋯⟩
def N6:Sp:=λvs H Q _ => ∃ u kd,vs=[.ref u,.int kd]/\k8 H u/\∀ r q H',BdN (bK kd) q->l4 u H H'->k8 H' u->H' r=some (.tup (t7 q))->Q (.ref r) H'
theorem aq9 {f fd fl:Addr} (d:Df K mg "_law_number" O9 ["_law_urn_here","_law_kind_here"] f) (G__law_draw:Def P w K mg base CX0 1 "_law_draw" fd ["_law_urn_here","_law_many"] C8) (G__law_low:Def P w K mg base CX0 1 "_law_low" fl ["_law_top","_law_bottom"] ap1) (n_int:mg "int" = none):Def P w K mg base CX0 2 "_law_number" f ["_law_urn_here","_law_kind_here"] N6:=by
 refine d.ok (N:=["_law_urn_here","_law_kind_here","_law_top"]) ad8 (λvs H Q E ⟨u,kd,h,_⟩=>by rw [h];rfl) (λcdv A outer s H vs Q E hr h=>?_)
 obtain ⟨u,kd,rfl,hu,k⟩:=h
 refine ⟨_,(c6 (B8 (j9 S9 (pv 1) b9 (j1 _)) (c6 (g8 (i:=2) ad8.nd rfl (q0w rfl) (g7 A8 (g7 p7 (d4 G__law_draw hr (b6 (pv 0) (b6 (g7 ae3 b9 b9) b8)) f9) (g7 ae3 b9 b9)) (d4 G__law_draw hr (b6 (pv 0) (b6 (g7 ae3 b9 b9) b8)) f9)))
   (d2 (i5 (d4 G__law_low hr (b6 (g7 p7 (pv 2) (j4 t9 (B5 (b6 b9 (b6 (ax8 an7 b9) b8))) (d4 G__law_draw hr (b6 (pv 0) (b6 b9 b8)) f9) (λ_ _=>rfl))) (b6 (g7 A8 b9 (g7 p7 (d4 G__law_draw hr (b6 (pv 0) (b6 (g7 ae3 b9 b9) b8)) f9) (g7 ae3 b9 b9))) b8)) f9)))) p9)
   (d2 (i5 (d4 G__law_low hr (b6 (g7 M0 (d4 G__law_draw hr (b6 (pv 0) (b6 b9 b8)) f9) b9) (b6 (g7 A8 b9 (g7 p7 (d4 G__law_draw hr (b6 (pv 0) (b6 b9 b8)) f9) (w4 C2 rfl n_int (by decide +kernel) (b6 (B6 S9 (pv 1) b9 (j1 _)) b8)))) b8)) f9)))),?_⟩
 rw [show start ["_law_urn_here","_law_kind_here","_law_top"] [.ref u,.int kd]=[some (.ref u),some (.int kd),none] from rfl]
 have e10:(10:Int) ^ u0p 6=1000000:=by decide
 simp only [ak9,ipM,aj6,ah1,ae0,B2,W6,D4,y0,V6,ae6,aj4,tSl,ai6,K5,A4,Q6,aj5,F8,T9,x4,z0s,v0w,u0h,u0j,u0k,ag6,ai8,aj0,tOr,ai7,V3,tB,tOp,tUn,ag9,tBM,B3,tC,tCB,ag7,ad1,j7,ae7,G3,l9,G4,A3,N4,ag8,ai5,ad0,tIf,V9,V4,V8,V7,V5,L8,ai9,rI,rI0,rU,F6,N8,ae1,Q7,rEq,rNe,aj7,Z1,W8,W7,K0,Z6,Cx.nox,Cx.wish,y0d,j0k,v0y,y0y,Option.some.injEq,V.int.injEq,V.bl.injEq,V.ref.injEq,V.str.injEq,exists_eq_left',exists_eq_left,exists_and_left,true_and,and_true,List.cons.injEq,reduceCtorEq,y0x,if_false,if_true,exists_const,↓reduceIte,tyV,z0n,v0u,exists_eq,v0r,v0j,v0s,decide_eq_true_eq,not_true_eq_false,not_false_eq_true,y0c,decide_eq_false_iff_not,g0a,u0x,and_assoc,false_and,false_or,or_false,C8,aA3];refine F2 (λhk2=>?_) (λhk2=>?_)
 ·refine ⟨⟨by decide,by decide,by decide⟩,hu,by decide,by decide,λr2 H2 a2 b2 s2 u2=>?_⟩
  refine ⟨⟨by decide,by decide,by decide⟩,ay2 (by decide),⟨by decide,by decide,by decide⟩,u2,by decide,by decide,λr3 H3 a3 b3 s3 u3=>?_⟩
  refine ⟨by decide,λl hl=>⟨J0 u3 hl,by decide,by decide,λr4 H4 a4 b4 s4 u4=>?_⟩⟩
  have e:=s4 l _ c5 (w5 u3 hl);have b2':r2<1000000:=b2;have b3':r3<1000000:=b3;have sx:l4 u H H4:=s2.trans (s3.trans (l4.trans (c7.x (c7.new hl _) u) s4))
  have fin:∀ sg:Int,sg=1 \/ sg=-1->(bh7 10 6/\k8 H4 u/\0<(10:Int) ^ u0p 6/\(10:Int) ^ u0p 6<2 ^ 40/\∀ (r:Int) (H':Hp),0<=r->r<10 ^ u0p 6->l4 u H4 H'->k8 H' u ->
    bh7 10 6/\IntMulOk r (10 ^ u0p 6)/\ap1 [V.int ((r2*10 ^ u0p 6+r3)*sg),V.int (1+r*10 ^ u0p 6)] H' Q E0):=by
   intro sg hsg;refine ⟨⟨by decide,by decide,by decide⟩,u4,by decide,by decide,λr5 H5 a5 b5 s5 u5=>⟨⟨by decide,by decide,by decide⟩,ay2 (by decide),?_⟩⟩
   rw [e10] at b5 ⊢;refine ⟨_,_,rfl,⋯,q0b (show (1+r5*1000000).natAbs<2 ^ 64 by omega) (d6 (by decide)),λr H' sm hr'=>?_⟩
   refine k r _ H' (by unfold bK;rw [if_pos hk2];refine (bh9 ⋯ ?_ ⋯).bdN;rcases hsg with h | h <;> subst h <;> omega) (sx.trans (s5.trans (c7.x sm u))) (c7.urn sm u5) hr'
  have h3:r4=0 \/ r4=1:=⋯;rcases h3 with h | h <;> subst h
  ·exact ⟨_,SqL.of e,_,rfl,_,rfl,ay2 (by decide),fin 1 (.inl rfl)⟩
  ·exact ⟨_,SqL.of e,_,rfl,_,rfl,ay2 (by decide),fin (-1) (.inr rfl)⟩
 ·refine ⟨hu,by decide,by decide,λr2 H2 a2 b2 s2 u2=>⟨u2,by decide,by decide,λr3 H3 a3 b3 s3 u3=>⟨aP6 ⋯,?_⟩⟩⟩
  have hz:∃ z:Int,z=r3*(if kd=0 then 1 else 0)/\0<=z/\z<=6:=by
   refine ⟨_,rfl,?_,?_⟩ <;> split <;> omega
  obtain ⟨z,ez,z0,z6⟩:=hz;rw [<- ez];refine ⟨_,_,rfl,⋯,q0b (show (1+z).natAbs<2 ^ 64 by omega) (d6 (by decide)),λr H' sm hr'=>?_⟩
  exact k r _ H' (by unfold bK;rw [if_neg hk2];exact bc9 ⋯ ⋯ ⋯) (s2.trans (s3.trans (c7.x sm u))) (c7.urn sm u3) hr'
def W3:Sp:=λvs H Q _ => ∃ u kd,vs=[.ref u,.int kd]/\k8 H u/\∀ r q H',BdN (bK kd) q->q ≠ 0->l4 u H H'->k8 H' u->H' r=some (.tup (t7 q))->Q (.ref r) H'
theorem at7 {f fd fl:Addr} (d:Df K mg "_law_other" U6 ["_law_urn_here","_law_kind_here"] f) (G__law_draw:Def P w K mg base CX0 1 "_law_draw" fd ["_law_urn_here","_law_many"] C8) (GD__law_number:Def P w K mg base CX0 2 "_law_number" fl ["_law_urn_here","_law_kind_here"] N6):Def P w K mg base CX0 3 "_law_other" f ["_law_urn_here","_law_kind_here"] W3:=by
 refine d.ok (N:=["_law_urn_here","_law_kind_here","_law_found"]) ah9 (λvs H Q E ⟨u,kd,h,_⟩=>by rw [h];rfl) (λcdv A outer s H vs Q E hr h=>?_)
 obtain ⟨u,kd,rfl,hu,k⟩:=h;have G__law_number:=GD__law_number
 refine ⟨_,(c6 (g8 (i:=2) ah9.nd rfl (q0w rfl) (d4 G__law_number hr (b6 (pv 0) (b6 (pv 1) b8)) f9))
   (c6 (B8 (j9 S9 (j4 l6 (pv 2) b9 (λ_ _=>rfl)) b9 (j1 _)) (d2 (i5 (j3 (b6 (g7 A8 b9 (d4 G__law_draw hr (b6 (pv 0) (b6 b9 b8)) f9)) (b6 b9 b8))))) p9)
   (d2 (i5 (pv 2))))),?_⟩
 rw [show start ["_law_urn_here","_law_kind_here","_law_found"] [.ref u,.int kd]=[some (.ref u),some (.int kd),none] from rfl]
 simp! [C8]
 refine ⟨u,kd,rfl,hu,λr q H1 sm s1 u1 e1=>?_⟩;refine ⟨r,rfl,_,SqT.of e1,_,at0 q,rfl,F2 (λ_=>?_) (λhn=>?_)⟩
 ·refine ⟨u1,by decide,by decide,λr2 H2 a2 b2 s2 u2=>⟨v8,λl hl=>?_⟩⟩
  have hd:=ak4 (n:=1+r2) (d:=1) (by decide) (by simp)
  refine k l (z0a (1+r2) 1) _ ((bc9 (by decide) ⋯ (by decide)).mono (by unfold bK;split <;> decide)) ?_ (s1.trans (s2.trans (c7.x (c7.new hl _) u))) (J0 u2 hl) ?_
  ·intro z
   rw [z] at hd;have:(0:Rat).num=0:=rfl;omega
  ·rw [c5]
   unfold t7;rw [hd.1,hd.2]
 ·refine k r q H1 sm (λz=>hn ?_) s1 u1 e1
  rw [z];rfl
def al3:Sp:=λvs H Q _ => ∃ u kd most,vs=[.ref u,.int kd,.int most]/\k8 H u/\0<=most/\most<1000/\∀ r xs qs q H',l4 u H H'->k8 H' u->H r=none->H' r=some (.lst xs)->t5 H' xs (qs ++ [q])->(∀ p ∈ qs,BdN (bK kd) p)->BdN (bK kd) q->q ≠ 0->(qs.length:Int)<=most->Q (.ref r) H'
theorem ah4 {f fd fn fo:Addr} (d:Df K mg "_law_drawn_poly" D8 ["_law_urn_here","_law_kind_here","_law_most"] f) (G__law_draw:Def P w K mg base CX0 1 "_law_draw" fd ["_law_urn_here","_law_many"] C8) (GD__law_number:Def P w K mg base CX0 2 "_law_number" fn ["_law_urn_here","_law_kind_here"] N6) (GD__law_other:Def P w K mg base CX0 3 "_law_other" fo ["_law_urn_here","_law_kind_here"] W3)
  (n_range:mg "range" = none):Def P w K mg base CX0 4 "_law_drawn_poly" f ["_law_urn_here","_law_kind_here","_law_most"] al3:=by
 refine d.ok (N:=["_law_urn_here","_law_kind_here","_law_most"]) aj3 (λvs H Q E ⟨u,kd,mo,h,_⟩=>by rw [h];rfl) (λcdv A outer s H vs Q E hr h=>?_)
 obtain ⟨u,kd,most,rfl,hu,m0,m1,k⟩:=h;have G__law_number:=GD__law_number;have G__law_other:=GD__law_other;refine ⟨_,(d2 (i5 (g7 at3 (t8 (Nc:=["_law_urn_here","_law_kind_here","_law_i"]) (caps:=[some 0,some 1,none]) rfl (G2.of (osc:=c9 D8) (N:=["_law_urn_here","_law_kind_here","_law_most"]) (ks:=["_law_urn_here","_law_kind_here"]) rfl rfl rfl rfl (i8 rfl (i8 rfl j6)) (by decide +kernel)) (y3 rfl n_range (b6 (d4 G__law_draw hr (b6 (pv 0) (b6 (g7 A8 (pv 2) b9) b8)) f9) b8)) (λC s₂ H₂ fp pins=>(d5 (i:=2) (show z0j (["_law_urn_here","_law_kind_here","_law_i"]:List Str) by decide +kernel) rfl (q0w rfl) (z0v rfl))) (λC s₂ H₂ fp pins=>(d4 G__law_number hr (b6 (pv 0) (b6 (pv 1) b8)) f9))) (B5 (b6 (d4 G__law_other hr (b6 (pv 0) (b6 (pv 1) b8)) f9) b8))))),?_⟩
 rw [show start ["_law_urn_here","_law_kind_here","_law_most"] [.ref u,.int kd,.int most]=[some (.ref u),some (.int kd),some (.int most)] from rfl]
 simp! [C8]
 refine ⟨hu,⋯,⋯,λr1 H1 a1 b1 s1 u1=>⟨⋯,⋯,λD hD=>?_⟩⟩;have hDu:D ≠ u:=w5 u1 hD
 refine I0 (λi σ H2 => ∃ o,σ=[some (.ref u),some (.int kd),o]/\l4 u H1 H2/\k8 H2 u/\∃ xs qs,H2 D=some (.lst xs)/\t5 H2 xs qs/\qs.length=i/\∀ p ∈ qs,BdN (bK kd) p)
  ⟨_,rfl,c7.x (c7.new hD _) u,J0 u1 hD,[],[],c5,.nil,rfl,by simp⟩ ?_ ?_
 ·rintro i σ H2 hi ⟨o,rfl,s2,u2,xs,qs,e,n,hl,hs⟩
  subst_eqs
  refine ⟨u,kd,rfl,u2,λrn q H3 sq s3 u3 e3=>?_⟩;have e4:=s3 D _ e hDu;refine o0.mk hi e4 (by rw [n.length,hl];exact q0b (show i<1000 by omega) (by decide)) ?_
  refine ⟨_,rfl,(s2.trans s3).over hD _,u3.other hDu,_,c5,qs ++ [q],((n.mono (s3.tups u2)).append (.cons e3 .nil)).mono (X1.lst e4),by simp [hl],λp hp=>?_⟩
  rcases z0y.mp hp with z | z
  ·exact hs p z
  ·rw [z0f.mp z];exact sq
 ·rintro σ H2 ⟨o,rfl,s2,u2,xs,qs,e,n,hl,hs⟩
  subst_eqs
  refine ⟨u,kd,rfl,u2,λro q H3 sq q0 s3 u3 e3=>⟨by decide,λp hp=>?_⟩⟩
  have e4:=s3 D _ e hDu;have pD:D ≠ p:=i9 e4 hp;refine ⟨_,(by rw [g9 pD];exact e4),_,c5,?_,λp2 hp2=>?_⟩
  ·rw [n.length,hl]
   exact z0d (show r1.toNat+1<=1001 by omega) (by decide)
  ·have hp3:=aG9 hp2
   have sx:l4 u H H3:=s1.trans (s2.trans s3);refine k p2 _ qs q _ ((sx.trans (c7.x (c7.new hp _) u)).trans (c7.x (c7.new hp2 _) u)) (J0 (J0 u3 hp) hp2) (sx.free u3 hp3) c5 ?_ hs sq q0 ⋯;exact (((n.mono (s3.tups u2)).append (.cons e3 .nil)).mono (X1.new hp)).mono (X1.new hp2)
theorem aG0 {B W w:Nat} {x q:Rat} (h:OvB B W x) (hq:BdN w q) (q0:q ≠ 0):OvB (B*q.num.natAbs) (W+w) (x / q):=by
 obtain ⟨v,rfl,b⟩:=h;have qn:q.num ≠ 0:=λz=>q0 (W5.mp z);refine ⟨v*(q.den:Int)*q.num.sign,?_,?_⟩
 ·have e:q=z0a q.num q.den:=(z0e q).symm
  have n1:(q.num.natAbs:Int)=q.num*q.num.sign:=by
   have:=Int.mul_sign_self q.num;rw [this]
  have s0:q.num.sign ≠ 0:=λz=>qn (Int.sign_eq_zero_iff_zero.mp z);rw [j0e,n1]
  conv=>lhs;rw [e,y0z,Rat.inv_divInt,j0q]
  rw [show (B:Int)*(q.num*q.num.sign)=(B:Int)*q.num*q.num.sign by rw [m0s],m0p s0]
 ·rw [z0p,z0p,z0b,Int.natAbs_sign_of_ne_zero qn,q1b,z0w]
  exact z0h b hq.d
theorem y4.up {B W C c:Nat} {M:List (List Rat)} (h:y4 B W M) (hC:0<C) (hc:C<2 ^ c):y4 (B*C) (W+c) M:=⟨h.n7,z0z h.B0 hC,by rw [z0w];exact z0h h.BW hc,λL hL=>⟨(h.row L hL).1,λq hq=>((h.row L hL).2 q hq).up h.B0 hC hc⟩⟩
theorem y4.mono {B V' W:Nat} {M:List (List Rat)} (h:y4 B V' M) (l:V'<=W):y4 B W M:=⟨h.n7,h.B0,q0b h.BW (d6 l),λL hL=>⟨(h.row L hL).1,λq hq=>((h.row L hL).2 q hq).mono l⟩⟩
theorem y4.setRM {B V' W:Nat} {M:List (List Rat)} (h:y4 B V' M) {i:Nat} {L':List Rat} (l:L'.length=M.length) (r:∀ q ∈ L',OvB B W q) (hw:V'<=W):y4 B W (M.set i L'):=⟨by rw [y0v];exact h.n7,h.B0,q0b h.BW (d6 hw),λL hL=>by
 rw [y0v];rcases j0f hL with z | rfl
 ·exact ⟨(h.row L z).1,λq hq=>((h.row L z).2 q hq).mono hw⟩
 ·exact ⟨l,r⟩⟩
theorem aH0 {H:Hp} {p:Addr} (o:HO) (h:H p=none):∃ H',H'=upd H p o/\c7 H H'/\H' p=some o:=⟨_,rfl,c7.new h o,c5⟩
theorem y4.setR {B W:Nat} {M:List (List Rat)} (h:y4 B W M) {i:Nat} {L':List Rat} (l:L'.length=M.length) (r:∀ q ∈ L',OvB B W q):y4 B W (M.set i L'):=⟨by rw [y0v];exact h.n7,h.B0,h.BW,λL hL=>by
 rw [y0v];rcases j0f hL with z | rfl
 ·exact h.row L z
 ·exact ⟨l,r⟩⟩
def al9 (k:Nat) (x:Rat) (L:List Rat):List Rat:=L.take k ++ [x] ++ L.drop (k+1)
theorem aZ0 {k:Nat} {x:Rat} {L:List Rat} (h:k<L.length):(al9 k x L).length=L.length:=by
 unfold al9;rw [j0d,j0d,q0x,u0f,y0k];omega
theorem be1 {B W k:Nat} {x:Rat} {L:List Rat} (h:∀ q ∈ L,OvB B W q) (hx:OvB B W x):∀ q ∈ al9 k x L,OvB B W q:=λq hq=>by
 unfold al9 at hq;rcases z0y.mp hq with z | z
 ·rcases z0y.mp z with z | z
  ·exact h q (y0p z)
  ·rw [z0f.mp z];exact hx
 ·exact h q (List.mem_of_mem_drop z)
theorem y4.put {B W C V':Nat} {M:List (List Rat)} (h:y4 B W M) {k:Nat} (hk:k<M.length) (f:List Rat->Rat) (B0:0<C) (BV:C<2 ^ V') (hl:∀ L ∈ M,∀ q ∈ L,OvB C V' q) (hf:∀ L ∈ M,OvB C V' (f L)):y4 C V' (M.map λL=>al9 k (f L) L):=⟨by rw [q0d];exact h.n7,B0,BV,λL hL=>by
 obtain ⟨L0,h0,rfl⟩:=z0g.mp hL;have l:=(h.row L0 h0).1;exact ⟨by rw [aZ0 ⋯,q0d,l],be1 (hl L0 h0) (hf L0 h0)⟩⟩
theorem O1 {L:List Rat} {k:Nat} (h:k<L.length):aQ L k ∈ L:=by
 have e:=q0c (l:=L) (i:=k) h;unfold aQ;rw [e];exact q0h e
theorem av6 {L:List Rat} {k:Nat} (h:k<L.length):L[k]? = some (aQ L k):=by
 have e:=q0c (l:=L) (i:=k) h;unfold aQ;rw [e];rfl
structure R1 (u:Addr) (H:Hp) (l:Addr) (us:List Addr) (M:List (List Rat)) (H3:Hp):Prop where
 same:l4 u H H3
 urn:k8 H3 u
 fr:H l=none
 lu:l ≠ u
 at':H3 l=some (.lst (us.map V.ref))
 nl:l ∉ us
 nu:∀ t ∈ us,t ≠ u
 nf:∀ t ∈ us,H t=none
 rws:Rws H3 us M
theorem R1.x {u l:Addr} {H H3 H4:Hp} {us:List Addr} {M:List (List Rat)} (d:R1 u H l us M H3) (s:l4 u H3 H4) (hu:k8 H4 u):R1 u H l us M H4:=⟨d.same.trans s,hu,d.fr,d.lu,s _ _ d.at' d.lu,d.nl,d.nu,d.nf,d.rws.samex s d.urn d.nu⟩
theorem R1.s {u l:Addr} {H H3 H4:Hp} {us:List Addr} {M:List (List Rat)} (d:R1 u H l us M H3) (s:c7 H3 H4):R1 u H l us M H4:=d.x (c7.x s u) (c7.urn s d.urn)
theorem R1.put {u l:Addr} {H H3:Hp} {us:List Addr} {M:List (List Rat)} (d:R1 u H l us M H3) (i:Nat) {D:Addr} {zs:List V} {L':List Rat} (eD:H3 D=some (.lst zs)) (nD:t5 H3 zs L') (dl:D ≠ l) (du:D ≠ u) (df:H D=none):R1 u H l (us.set i D) (M.set i L') (upd H3 l (.lst ((us.map V.ref).set i (V.ref D)))):=by
 have nl:l ∉ us.set i D:=λz=>by
  rcases j0f z with z | z
  ·exact d.nl z
  ·exact dl z.symm
 refine ⟨λb o h n=>?_,d.urn.other d.lu,d.fr,d.lu,by rw [c5,List.map_set],nl,λt ht=>?_,λt ht=>?_,(d.rws.setN i eD nD).over d.at' nl⟩
 ·rw [g9 (i9 h d.fr)]
  exact d.same _ _ h n
 ·rcases j0f ht with z | z
  ·exact d.nu t z
  ·rw [z];exact du
 ·rcases j0f ht with z | z
  ·exact d.nf t z
  ·rw [z];exact df
theorem R1.made {u l D:Addr} {H H3 H4:Hp} {us:List Addr} {M N:List (List Rat)} (d:R1 u H l us M H3) (hD:H3 D=none) (t:t6 H3 D N H4):∃ vs,R1 u H D vs N H4:=by
 obtain ⟨s,ts,e,fr,nd,R⟩:=t;exact ⟨ts,d.same.trans (c7.x s u),c7.urn s d.urn,d.same.free d.urn hD,w5 d.urn hD,e,λz=>(fr D z).2 rfl,λt ht=>w5 d.urn (fr t ht).1,λt ht=>d.same.free d.urn (fr t ht).1,R⟩
theorem R1.row {u l:Addr} {H H3:Hp} {us:List Addr} {M:List (List Rat)} (d:R1 u H l us M H3) {i:Nat} (hi:i<M.length):∃ p xs L,us[i]? = some p/\(us.map V.ref)[i]? = some (.ref p)/\M[i]? = some L/\H3 p=some (.lst xs)/\t5 H3 xs L:=by
 obtain ⟨p,hp⟩:∃ p,us[i]? = some p:=⟨_,q0c (by rw [d.rws.length];exact hi)⟩
 obtain ⟨xs,L,a,b,c⟩:=d.rws.get hp;exact ⟨p,xs,L,hp,by rw [q0q,hp];rfl,a,b,c⟩
theorem bj2 {qa D:Addr} {ts:List Addr} {M:List (List Rat)} {H1:Hp} {Q:VK} (hA:H1 qa=some (.lst (ts.map V.ref))) (R:Rws H1 ts M) (hD:H1 D=none) (hl:M.length<=50) (k:∀ H2,t6 H1 D M H2->Q (.ref D) H2):X2 (Itl K qa) D [none] (upd H1 D (.lst [])) (j7 0) (tCB (ae0 K) (A3 (B3 0) N4)) Q:=by
 refine y9 (ts.map V.ref) (λj σ H3 => ∃ o,σ=[o]/\t6 H1 D (M.take j) H3) ⟨_,rfl,t6.start hD⟩ (λj σ H3 _ ⟨o,_,T⟩=>SqL.of (T.same _ _ hA)) ?_ ?_
 ·rintro j x σ H3 hx ⟨o,rfl,T⟩
  have hj:=(q0g.mp hx).1;obtain ⟨pr,hpr,rfl⟩:=A1 hx;obtain ⟨ys,Lr,hLr,er,nr⟩:=R.get hpr
  subst_eqs
  refine ⟨ys,.inl (SqL.of (T.same _ _ er)),λl hl'=>?_⟩;obtain ⟨ys',eD,yl,T'⟩:=T.add hD hl' ⟨c7.new hl' (.lst ys),ys,c5,(nr.mono T.same.tups).mono (c7.new hl' _).tups⟩;refine o0.mk hj eD (p8 (by rw [yl,q0x];omega)) ⟨_,rfl,?_⟩
  rw [d7 hLr];exact T'
 ·rintro σ H3 ⟨o,rfl,T⟩
  rw [k7 (by rw [q0d,R.length];exact q0m _)] at T
  exact k H3 T
theorem aF6 {t p r:Addr} {xs:List V} {L:List Rat} {j:Nat} {y:Rat} {H1:Hp} {G:V->Hp->Prop} (e1:H1 p=some (.lst (xs.take j))) (et:H1 t=some (.lst xs)) (nt:t5 H1 xs L) (er:H1 r=some (.tup (t7 y))) (hj:j<L.length) (l7:L.length<=7)
  (k:∀ r' zs H5,c7 H1 H5->H1 r'=none->H5 r'=some (.lst zs)->t5 H5 zs (al9 j y L)->G (.ref r') H5):0+1<=sizeLine/\∀ p1,H1 p1=none->∃ x5,upd H1 p1 (.lst [.ref r]) p=some (.lst x5)/\∃ x6,upd H1 p1 (.lst [.ref r]) p1=some (.lst x6)/\x5.length+x6.length<=sizeLine/\∀ p2,upd H1 p1 (.lst [.ref r]) p2=none->∃ x7,SqL K (upd (upd H1 p1 (.lst [.ref r])) p2 (.lst (x5 ++ x6))) t x7/\∀ p3,upd (upd H1 p1 (.lst [.ref r])) p2 (.lst (x5 ++ x6)) p3=none->∃ x8,upd (upd (upd H1 p1 (.lst [.ref r])) p2 (.lst (x5 ++ x6))) p3 (.lst (ah5 x7 (some ((j:Int)+1)) none)) p2=some (.lst x8)/\∃ x9,upd (upd (upd H1 p1 (.lst [.ref r])) p2 (.lst (x5 ++ x6))) p3 (.lst (ah5 x7 (some ((j:Int)+1)) none)) p3=some (.lst x9)/\x8.length+x9.length<=sizeLine/\∀ p4,upd (upd (upd H1 p1 (.lst [.ref r])) p2 (.lst (x5 ++ x6))) p3 (.lst (ah5 x7 (some ((j:Int)+1)) none)) p4=none->G (.ref p4) (upd (upd (upd (upd H1 p1 (.lst [.ref r])) p2 (.lst (x5 ++ x6))) p3 (.lst (ah5 x7 (some ((j:Int)+1)) none))) p4 (.lst (x8 ++ x9))):=by
 have lx:=nt.length;refine ⟨by decide,λp1 f1=>?_⟩
 have S1:=c7.new f1 (.lst [.ref r]);refine ⟨_,S1 _ _ e1,_,c5,z0d (m:=100) (by rw [q0x,y0k];omega) (by decide),λp2 f2=>?_⟩
 have S2:=c7.new f2 (.lst (xs.take j ++ [.ref r]));have S12:=S1.trans S2;refine ⟨xs,SqL.of (S12 _ _ et),λp3 f3=>?_⟩;rw [show ((j:Int)+1)=((j+1:Nat):Int) from rfl,aH9 xs ⋯];have S3:=c7.new f3 (.lst (xs.drop (j+1)));refine ⟨_,S3 _ _ c5,_,c5,z0d (m:=100) (by rw [j0d,q0x,y0k,u0f];omega) (by decide),λp4 f4=>?_⟩
 have S4:=c7.new f4 (.lst (xs.take j ++ [.ref r] ++ xs.drop (j+1)));have S:=S12.trans (S3.trans S4);exact k p4 _ _ S ((S12.trans S3).free f4) c5 ((((nt.take j).append (.cons er .nil)).append (nt.drop (j+1))).mono S.tups)
theorem bb4 {u l po D : Addr} {H H9 : Hp} {us : List Addr} {N : List (List Rat)} {n i j C W : Nat} {q : Rat} {Q : VK} (d : R1 u H l us N H9) (epo : H9 po = some (.tup (t7 q))) (bq : BdN 4 q) (hD : H9 D = none) (lN : N.length = n) (oN : y4 C W N) (hW : W ≤ 1000) (hi : i < n) (hj : j < n) (k : ∀ H', t6 H9 D (N.map fun L => al9 j (aQ L j - q * aQ L i) L) H' → Q (.ref D) H') : X2 (Itl K l) D [some (.ref po), some (.int (j : Int)), some (.int (i : Int)), none] (upd H9 D (.lst [])) (j7 3)
    (tOp Z1 (tOp Z1 (tSl (Q6 K) (B3 3) A4 (K5 (B3 1))) (ad0 (A3 (V8 (E7 K λx1 x2=>x1-x2) E0 (A3 (tOp (N8 K) (B3 3) (B3 1)) (A3 (V8 (E7 K λx1 x2=>x1*x2) E0 (A3 (B3 0) (A3 (tOp (N8 K) (B3 3) (B3 2)) N4))) N4))) N4))) (tSl (Q6 K) (B3 3) (K5 (tOp (rI0 λi j=>V.int (i+j)) (B3 1) (tC (V.int 1)))) A4)) Q:=by
  have n7:=oN.n7;refine y9 (us.map V.ref) (λy σ H3 => ∃ o,σ=[some (.ref po),some (.int (j:Int)),some (.int (i:Int)),o]/\t6 H9 D ((N.map λL=>al9 j (aQ L j-q*aQ L i) L).take y) H3) ⟨_,rfl,t6.start hD⟩ (λj σ H3 _ ⟨o,_,T⟩=>SqL.of (T.same _ _ d.at')) ?_ ?_
  · rintro y x σ H3 hx ⟨o,rfl,T⟩
    have hy:=(List.getElem?_eq_some_iff.mp hx).1;obtain ⟨t,ht,rfl⟩:=A1 hx;obtain ⟨xs,L,hL,et,nt⟩:=d.rws.get ht;have hLm:=oN.bd L (List.mem_of_getElem? hL);have lx:=nt.length;have lL:=hLm.1
    subst_eqs
    have S3:=T.same;have bi:=hLm.2 _ (O1 (L:=L) (k:=i) ⋯);have bj:=hLm.2 _ (O1 (L:=L) (k:=j) ⋯);obtain ⟨pi,gi,ei⟩:=nt.get (av6 (L:=L) (k:=i) ⋯);obtain ⟨pj,gj,ej⟩:=nt.get (av6 (L:=L) (k:=j) ⋯);refine ⟨xs,SqL.of (S3 _ _ et),λp fp=>?_⟩;rw [av3 xs ⋯];have Sp:=c7.new fp (.lst (xs.take j));have S4:=S3.trans Sp;refine ⟨_,SqL.of (S4 _ _ et),_,C7 gj,_,SqL.of (S4 _ _ et),_,C7 gi,_,_,q,aQ L i,4,W,rfl,⟨_,rfl,SqT.of (S4 _ _ epo)⟩,⟨_,rfl,SqT.of (S4 _ _ ei)⟩,bq.t (by decide),bi.t ⋯,⋯,λr1 H5 s5 e5=>?_⟩
    have S5:=S4.trans s5;refine ⟨_,_,aQ L j,q*aQ L i,W,4+W,rfl,⟨_,rfl,SqT.of (S5 _ _ ej)⟩,⟨_,rfl,SqT.of e5⟩,bj.t ⋯,(bq.mul bi).t ⋯,⋯,λr2 H6 s6 e6=>?_⟩;have S6:=S5.trans s6;refine aF6 (s6 _ _ (s5 _ _ c5)) (S6 _ _ et) (nt.mono S6.tups) e6 ⋯ ⋯ λr' zs H7 s7 f7 e7 n7'=>?_;obtain ⟨ys',eD,yl,T'⟩:=T.add hD ((Sp.trans (s5.trans s6)).free f7) ⟨Sp.trans (s5.trans (s6.trans s7)),zs,e7,n7'⟩;refine o0.mk hy eD (p8 (by rw [yl,List.length_take,List.length_map];omega)) ⟨_,rfl,?_⟩
    rw [d7 (l:=N.map λL=>al9 j (aQ L j-q*aQ L i) L) (x:=al9 j (aQ L j-q*aQ L i) L) (by rw [List.getElem?_map,hL];rfl)]
    exact T'
  · rintro σ H3 ⟨o,rfl,T⟩
    rw [k7 (by rw [List.length_map,List.length_map,d.rws.length];exact Nat.le_refl _)] at T
    exact k H3 T
theorem bb3 {u l po D : Addr} {H H9 : Hp} {us : List Addr} {N : List (List Rat)} {n i C W : Nat} {q : Rat} {Q : VK} (d : R1 u H l us N H9) (epo : H9 po = some (.tup (t7 q))) (bq : BdN 4 q) (q0 : q ≠ 0) (hD : H9 D = none) (lN : N.length = n) (oN : y4 C W N) (hW : W ≤ 1000) (hi : i < n) (k : ∀ H', t6 H9 D (N.map fun L => al9 i (aQ L i / q) L) H' → Q (.ref D) H') : X2 (Itl K l) D [some (.ref po), some (.int (i : Int)), none] (upd H9 D (.lst [])) (j7 2)
    (tOp Z1 (tOp Z1 (tSl (Q6 K) (B3 2) A4 (K5 (B3 1))) (ad0 (A3 (V8 (af7 K) E0 (A3 (tOp (N8 K) (B3 2) (B3 1)) (A3 (B3 0) N4))) N4))) (tSl (Q6 K) (B3 2) (K5 (tOp (rI0 λi j=>V.int (i+j)) (B3 1) (tC (V.int 1)))) A4)) Q:=by
  have n7:=oN.n7;refine y9 (us.map V.ref) (λy σ H3 => ∃ o,σ=[some (.ref po),some (.int (i:Int)),o]/\t6 H9 D ((N.map λL=>al9 i (aQ L i / q) L).take y) H3) ⟨_,rfl,t6.start hD⟩ (λj σ H3 _ ⟨o,_,T⟩=>SqL.of (T.same _ _ d.at')) ?_ ?_
  · rintro y x σ H3 hx ⟨o,rfl,T⟩
    have hy:=(List.getElem?_eq_some_iff.mp hx).1;obtain ⟨t,ht,rfl⟩:=A1 hx;obtain ⟨xs,L,hL,et,nt⟩:=d.rws.get ht;have hLm:=oN.bd L (List.mem_of_getElem? hL);have lx:=nt.length;have lL:=hLm.1
    subst_eqs
    have S3:=T.same;have bi:=hLm.2 _ (O1 (L:=L) (k:=i) ⋯);obtain ⟨pi,gi,ei⟩:=nt.get (av6 (L:=L) (k:=i) ⋯);refine ⟨xs,SqL.of (S3 _ _ et),λp fp=>?_⟩;rw [av3 xs ⋯];have Sp:=c7.new fp (.lst (xs.take i));have S4:=S3.trans Sp;refine ⟨_,SqL.of (S4 _ _ et),_,C7 gi,_,_,aQ L i,q,W,4,rfl,⟨_,rfl,SqT.of (S4 _ _ ei)⟩,⟨_,rfl,SqT.of (S4 _ _ epo)⟩,bi.t ⋯,q0,bq.n,Nat.lt_of_lt_of_le bq.d (d6 (by decide)),⋯,λr2 H6 s6 e6=>?_⟩
    have S6:=S4.trans s6;refine aF6 (s6 _ _ c5) (S6 _ _ et) (nt.mono S6.tups) e6 ⋯ ⋯ λr' zs H7 s7 f7 e7 n7'=>?_;obtain ⟨ys',eD,yl,T'⟩:=T.add hD ((Sp.trans s6).free f7) ⟨Sp.trans (s6.trans s7),zs,e7,n7'⟩;refine o0.mk hy eD (p8 (by rw [yl,List.length_take,List.length_map];omega)) ⟨_,rfl,?_⟩
    rw [d7 (l:=N.map λL=>al9 i (aQ L i / q) L) (x:=al9 i (aQ L i / q) L) (by rw [List.getElem?_map,hL];rfl)]
    exact T'
  · rintro σ H3 ⟨o,rfl,T⟩
    rw [k7 (by rw [List.length_map,List.length_map,d.rws.length];exact Nat.le_refl _)] at T
    exact k H3 T
def an9 (K:q0a):Sp:=λvs H Q _ => ∃ (u a:Addr) (ts:List Addr) (M:List (List Rat)) (B n:Nat),vs=[.ref u,.int 0,.ref a,.int 4]/\k8 H u/\TbX u H a ts M/\M.length=n/\1<=n/\n<=4/\y4 B 80 M/\∀ r us N C H',R1 u H r us N H'->N.length=n->y4 C 120 N->Q (.ref r) H'
abbrev v9:Stmt:=top 56
theorem n9:i7 ["_law_urn_here","_law_kind_here","_law_table","_law_most","_law_rows","_law_n","_law_step","_law_i","_law_j","_law_way","_law_often","_law_order"] ["_law_urn_here","_law_kind_here","_law_table","_law_most"] (c9 v9):=by and_intros
theorem aq7 {f f1 f2 f3 f4 f5 f6:Addr} (d:Df K mg "_law_likened" v9 ["_law_urn_here","_law_kind_here","_law_table","_law_most"] f) (G__law_draw:Def P w K mg base CX0 1 "_law_draw" f1 ["_law_urn_here","_law_many"] C8) (GD__law_other:Def P w K mg base CX0 3 "_law_other" f2 ["_law_urn_here","_law_kind_here"] W3) (G__law_plus:Def P w K mg base CX0 2 "_law_plus" f3 ["_law_one","_law_other_here"] (E7 K (· + ·))) (G__law_times:Def P w K mg base CX0 2 "_law_times" f4 ["_law_one","_law_other_here"] (E7 K (· * ·))) (G__law_less:Def P w K mg base CX0 2 "_law_less" f5 ["_law_one","_law_other_here"] (E7 K (· - ·))) (G__law_over:Def P w K mg base CX0 2 "_law_over" f6 ["_law_one","_law_other_here"] (af7 K)) (n_len:mg "len" = none) (n_range:mg "range" = none) (n_list:mg "list" = none) (n_max:mg "max" = none) (n_zip:mg "zip" = none) (n_int:mg "int" = none):Def P w K mg base CX0 7 "_law_likened" f ["_law_urn_here","_law_kind_here","_law_table","_law_most"] (an9 K):=by
  refine d.ok (N:=["_law_urn_here","_law_kind_here","_law_table","_law_most","_law_rows","_law_n","_law_step","_law_i","_law_j","_law_way","_law_often","_law_order"]) n9 (by rintro vs H Q E ⟨_,_,_,_,_,_,h,_⟩;rw [h];rfl) (λcdv A outer s H vs Q E hr h=>?_)
  obtain ⟨u,a,ts,M,B,n,rfl,hU,T0,lM,n1,n4,oM,k⟩:=h;have G__law_other:=GD__law_other
  refine ⟨_, (c6 (ac0 (i₀ := 4) n9.nd rfl (Or.inl rfl) (Nc := ["_law_row"]) (caps := [none]) rfl (G2.of (osc := c9 v9) (N := ["_law_urn_here", "_law_kind_here", "_law_table", "_law_most", "_law_rows", "_law_n", "_law_step", "_law_i", "_law_j", "_law_way", "_law_often", "_law_order"]) (ks := []) rfl rfl rfl rfl j6 (by decide +kernel)) (r6 (pv 2)) (fun C s₂ H₂ fp pins => (d5 (i := 0) (show List.Nodup (["_law_row"] : List Str) by decide +kernel) rfl (Or.inl rfl) (Or.inr rfl))) (fun C s₂ H₂ fp pins => (w4 (by exact M9 : X3 _ (.type "list") (ae0 K)) rfl n_list (by decide +kernel) (b6 (pv 0) b8))))
      (c6 (g8 (i:=5) n9.nd rfl (Or.inl rfl) (j8 k0 rfl n_len (by decide +kernel) (b6 (pv 4) b8)))
      (c6 (K2 PassesOwn.never rfl (y3 rfl n_range (b6 (d4 G__law_draw hr (b6 (pv 0) (b6 (g7 A8 (pv 3) b9) b8)) f9) b8)) (d5 (i:=6) n9.nd rfl (Or.inl rfl)) (c6 (g8 (i:=7) n9.nd rfl (Or.inr rfl) (d4 G__law_draw hr (b6 (pv 0) (b6 (pv 5) b8)) f9))
      (c6 (g8 (i:=8) n9.nd rfl (Or.inr rfl) (g7 J6 (g7 A8 (g7 A8 (pv 7) b9) (d4 G__law_draw hr (b6 (pv 0) (b6 (j8 (aR7 rfl) rfl n_max (by decide +kernel) (b6 b9 (b6 (g7 M0 (pv 5) b9) b8))) b8)) f9)) (pv 5)))
      (c6 (g8 (i:=9) n9.nd rfl (Or.inl rfl) (d4 G__law_draw hr (b6 (pv 0) (b6 b9 b8)) f9))
      (c6 (g8 (i:=10) n9.nd rfl (Or.inr rfl) (d4 G__law_other hr (b6 (pv 0) (b6 (pv 1) b8)) f9))
      (d2 (B8 (PW.pt (aI9 (j9 ac7 (pv 9) b9 (j1 _)) (aB3 (j9 aG1 (pv 7) (pv 8) (j1 _))))) (c6 (F9 (t8 (Nc:=["_law_often","_law_a","_law_b"]) (caps:=[some 10,none,none]) rfl (G2.of (osc:=c9 v9) (N:=["_law_urn_here","_law_kind_here","_law_table","_law_most","_law_rows","_law_n","_law_step","_law_i","_law_j","_law_way","_law_often","_law_order"]) (ks:=["_law_often"]) rfl rfl rfl rfl (i8 rfl j6) (by decide +kernel)) (as8 rfl n_zip (b6 (j4 t9 (pv 4) (pv 7) (λ_ _=>rfl)) (b6 (j4 t9 (pv 4) (pv 8) (λ_ _=>rfl)) b8))) (λC s₂ H₂ fp pins=>(show PG _ _ (G3 K 2 (l9 (j7 1) (l9 (j7 2) G4))) from by (refine C9 (n:=2) ?_ ?_ ?_ ?_;rfl;(refine i6 ?_ ?_ ?_;(exact (d5 (i:=1) (show List.Nodup (["_law_often","_law_a","_law_b"]:List Str) by decide +kernel) rfl (Or.inl rfl) (Or.inr rfl)));(refine i6 ?_ ?_ ?_;(exact (d5 (i:=2) (show List.Nodup (["_law_often","_law_a","_law_b"]:List Str) by decide +kernel) rfl (Or.inl rfl) (Or.inr rfl)));(exact y7);rfl);rfl);rfl;rfl))) (λC s₂ H₂ fp pins=>(d4 G__law_plus hr (b6 (pv 1) (b6 (d4 G__law_times hr (b6 (pv 0) (b6 (pv 2) b8)) f9) b8)) f9))) (Z4 (pv 4) (pv 7) K6))
      (d2 (ac0 (i₀:=4) n9.nd rfl (Or.inl rfl) (Nc:=["_law_often","_law_j","_law_i","_law_row"]) (caps:=[some 10,some 8,some 7,none]) rfl (G2.of (osc:=c9 v9) (N:=["_law_urn_here","_law_kind_here","_law_table","_law_most","_law_rows","_law_n","_law_step","_law_i","_law_j","_law_way","_law_often","_law_order"]) (ks:=["_law_often","_law_j","_law_i"]) rfl rfl rfl rfl (i8 rfl (i8 rfl (i8 rfl j6))) (by decide +kernel)) (r6 (pv 4)) (λC s₂ H₂ fp pins=>(d5 (i:=3) (show List.Nodup (["_law_often","_law_j","_law_i","_law_row"]:List Str) by decide +kernel) rfl (Or.inl rfl) (Or.inr rfl))) (λC s₂ H₂ fp pins=>(g7 at3 (g7 at3 (Q8 (by exact X4:SlR _ (Q6 K)) (pv 3) U8 (P1 (pv 1))) (B5 (b6 (d4 G__law_less hr (b6 (j4 (by exact t9:IxR _ (N8 K)) (pv 3) (pv 1) (λ_ _=>rfl)) (b6 (d4 G__law_times hr (b6 (pv 0) (b6 (j4 (by exact t9:IxR _ (N8 K)) (pv 3) (pv 2) (λ_ _=>rfl)) b8)) f9) b8)) f9) b8))) (Q8 (by exact X4:SlR _ (Q6 K)) (pv 3) (P1 (g7 A8 (pv 1) b9)) U8)))))) (d2 (B8 (j9 S9 (pv 9) b9 (j1 _)) (c6 (F9 (j3 (b6 (j4 t9 (pv 4) (pv 8) (λ_ _=>rfl)) (b6 (j4 t9 (pv 4) (pv 7) (λ_ _=>rfl)) b8))) (show PG _ _ (G3 K 2 (l9 (ae7 _ _ Q7) (l9 (ae7 _ _ Q7) G4))) from by (refine C9 (n:=2) ?_ ?_ ?_ ?_;rfl;(refine i6 ?_ ?_ ?_;(exact (Z4 (pv 4) (pv 7) K6));(refine i6 ?_ ?_ ?_;(exact (Z4 (pv 4) (pv 8) K6));(exact y7);rfl);rfl);rfl;rfl)))
      (c6 (g8 (i:=11) n9.nd rfl (Or.inr rfl) (t8 (Nc:=["_law_j","_law_i","_law_k"]) (caps:=[some 8,some 7,none]) rfl (G2.of (osc:=c9 v9) (N:=["_law_urn_here","_law_kind_here","_law_table","_law_most","_law_rows","_law_n","_law_step","_law_i","_law_j","_law_way","_law_often","_law_order"]) (ks:=["_law_j","_law_i"]) rfl rfl rfl rfl (i8 rfl (i8 rfl j6)) (by decide +kernel)) (y3 rfl n_range (b6 (pv 5) b8)) (λC s₂ H₂ fp pins=>(d5 (i:=2) (show List.Nodup (["_law_j","_law_i","_law_k"]:List Str) by decide +kernel) rfl (Or.inl rfl) (Or.inr rfl))) (λC s₂ H₂ fp pins=>(j4 (by exact t9:IxR _ (N8 K)) (B5 (b6 (pv 2) (b6 (pv 0) (b6 (pv 1) b8)))) (g7 A8 (w4 C2 rfl n_int (by decide +kernel) (b6 (B6 S9 (pv 2) (pv 1) (j1 _)) b8)) (g7 p7 b9 (w4 C2 rfl n_int (by decide +kernel) (b6 (aJ1 (B6 S9 (pv 2) (pv 0) (j1 _)) (aJ0 (B6 aG1 (pv 1) (pv 0) (j1 _)))) b8)))) (λ_ _=>rfl)))))
      (d2 (ap2 (i₀:=4) n9.nd rfl (Or.inl rfl) (Nc:=["_law_order","_law_row"]) (caps:=[some 11,none]) rfl (ac9.of (osc:=c9 v9) (N:=["_law_urn_here","_law_kind_here","_law_table","_law_most","_law_rows","_law_n","_law_step","_law_i","_law_j","_law_way","_law_often","_law_order"]) (ks:=["_law_order"]) rfl rfl rfl rfl (i8 rfl j6) (by decide +kernel)) (r6 (pv 4)) (λC s₂ H₂ fp pins=>(d5 (i:=1) (show List.Nodup (["_law_order","_law_row"]:List Str) by decide +kernel) rfl (Or.inr rfl) (Or.inl rfl))) (λC s₂ H₂ fp pins=>(t8 (Nc:=["_law_row","_law_k"]) (caps:=[some 1,none]) rfl (G2.of (osc:=_) (N:=["_law_order","_law_row"]) (ks:=["_law_row"]) rfl rfl rfl rfl (i8 rfl j6) (by kernel_rfl)) (show PI _ _ _ (K0 K _) from by exact (r6 (pv 0))) (λC s₂ H₂ fp pins=>(d5 (i:=1) (show List.Nodup (["_law_row","_law_k"]:List Str) by decide +kernel) rfl (Or.inl rfl) (Or.inr rfl))) (λC s₂ H₂ fp pins=>(j4 (by exact t9:IxR _ (N8 K)) (pv 0) (pv 1) (λ_ _=>rfl))))))))) (c6 (F9 (t8 (Nc:=["_law_often","_law_a"]) (caps:=[some 10,none]) rfl (G2.of (osc:=c9 v9) (N:=["_law_urn_here","_law_kind_here","_law_table","_law_most","_law_rows","_law_n","_law_step","_law_i","_law_j","_law_way","_law_often","_law_order"]) (ks:=["_law_often"]) rfl rfl rfl rfl (i8 rfl j6) (by decide +kernel)) (r6 (j4 t9 (pv 4) (pv 7) (λ_ _=>rfl))) (λC s₂ H₂ fp pins=>(d5 (i:=1) (show List.Nodup (["_law_often","_law_a"]:List Str) by decide +kernel) rfl (Or.inl rfl) (Or.inr rfl))) (λC s₂ H₂ fp pins=>(d4 G__law_times hr (b6 (pv 0) (b6 (pv 1) b8)) f9))) (Z4 (pv 4) (pv 7) K6))
      (d2 (ac0 (i₀:=4) n9.nd rfl (Or.inl rfl) (Nc:=["_law_often","_law_i","_law_row"]) (caps:=[some 10,some 7,none]) rfl (G2.of (osc:=c9 v9) (N:=["_law_urn_here","_law_kind_here","_law_table","_law_most","_law_rows","_law_n","_law_step","_law_i","_law_j","_law_way","_law_often","_law_order"]) (ks:=["_law_often","_law_i"]) rfl rfl rfl rfl (i8 rfl (i8 rfl j6)) (by decide +kernel)) (r6 (pv 4)) (λC s₂ H₂ fp pins=>(d5 (i:=2) (show List.Nodup (["_law_often","_law_i","_law_row"]:List Str) by decide +kernel) rfl (Or.inl rfl) (Or.inr rfl))) (λC s₂ H₂ fp pins=>(g7 at3 (g7 at3 (Q8 (by exact X4:SlR _ (Q6 K)) (pv 2) U8 (P1 (pv 1))) (B5 (b6 (d4 G__law_over hr (b6 (j4 (by exact t9:IxR _ (N8 K)) (pv 2) (pv 1) (λ_ _=>rfl)) (b6 (pv 0) b8)) f9) b8))) (Q8 (by exact X4:SlR _ (Q6 K)) (pv 2) (P1 (g7 A8 (pv 1) b9)) U8)))))))))))))))
      (d2 (i5 (pv 4)))))),?_⟩
  rw [show start ["_law_urn_here","_law_kind_here","_law_table","_law_most","_law_rows","_law_n","_law_step","_law_i","_law_j","_law_way","_law_often","_law_order"] [.ref u,.int 0,.ref a,.int 4]=[some (.ref u),some (.int 0),some (.ref a),some (.int 4),none,none,none,none,none,none,none,none] from rfl]
  refine h9 (λσ H1 => ∃ (l:Addr) (us:List Addr),σ=[some (.ref u),some (.int 0),some (.ref a),some (.int 4),some (.ref l),none,none,none,none,none,none,none]/\R1 u H l us M H1) (λN hN=>?_) ?_
  · subst_eqs
    refine ⟨⟨_,SqL.of T0.at'⟩,λD hD=>bj2 T0.at' T0.rws hD ⋯ λH2 T=>?_⟩;obtain ⟨s2,us,e2,n2,_,R2⟩:=T;exact hN _ _ ⟨D,us,rfl,⟨c7.x s2 u,c7.urn s2 hU,hD,w5 hU hD,e2,λz=>(n2 D z).2 rfl,λt ht=>w5 hU (n2 t ht).1,λt ht=>(n2 t ht).1,R2⟩⟩
  rintro σ H1 ⟨l,us,rfl,D1⟩;refine h9 (λσ H2=>H2=H1/\σ=[some (.ref u),some (.int 0),some (.ref a),some (.int 4),some (.ref l),some (.int (n:Int)),none,none,none,none,none,none]) (λN hN=>?_) ?_
  · subst_eqs
    exact ⟨_,.inl (SqL.of D1.at'),hN _ _ ⟨rfl,by rw [List.length_map,D1.rws.length,lM]⟩⟩
  rintro σ H2 ⟨rfl,rfl⟩;obtain ⟨I,hI⟩:∃ I:Nat->L2.St->Hp->Prop,∀ c σ H4,I c σ H4 ↔ ∃ (l:Addr) (us:List Addr) (N:List (List Rat)) (C:Nat) (o6 o7 o8 o9 o10 o11:Option V),σ=[some (.ref u),some (.int 0),some (.ref a),some (.int 4),some (.ref l),some (.int (n:Int)),o6,o7,o8,o9,o10,o11]/\R1 u H l us N H4/\N.length=n/\y4 C (80+10*c) N:=⟨_,λ_ _ _=>Iff.rfl⟩;refine h9 (λσ H4 => ∃ c,c<=4/\I c σ H4) (λN hN=>?_) ?_
  · refine ⟨_,rfl,_,rfl,_,_,rfl,rfl,u,_,rfl,D1.urn,by decide,by decide,λr H4 r0 r9 s4 u4=>⟨r,rfl,⋯,⋯,V1 I ((hI _ _ _).mpr ⟨l,us,M,B,_,_,_,_,_,_,rfl,D1.x s4 u4,lM,oM⟩) ?_ (λσ H5 h=>hN _ _ ⟨r.toNat,⋯,h⟩)⟩⟩
    rintro c σ H5 hc h;obtain ⟨l,us,N,C,o6,o7,o8,o9,o10,o11,rfl,D5,lN,oN⟩:=(hI _ _ _).mp h;refine h9 (λσ H6 => ∃ (i:Nat),σ=[some (.ref u),some (.int 0),some (.ref a),some (.int 4),some (.ref l),some (.int (n:Int)),some (.int (0+(c:Int))),some (.int (i:Int)),o8,o9,o10,o11]/\l4 u H5 H6/\k8 H6 u/\i<n) (λN hN=>?_) ?_
    · simp! [C8]
      refine ⟨D5.urn,⋯,⋯,λr H6 r0 r1 s6 u6=>?_⟩;obtain ⟨i,rfl⟩:∃ i:Nat,r=(i:Int):=⟨r.toNat,⋯⟩;exact hN _ _ ⟨i,rfl,s6,u6,⋯⟩
    rintro σ H6 ⟨i,rfl,s6,u6,hi⟩;refine h9 (λσ H7 => ∃ (j:Nat),σ=[some (.ref u),some (.int 0),some (.ref a),some (.int 4),some (.ref l),some (.int (n:Int)),some (.int (0+(c:Int))),some (.int (i:Int)),some (.int (j:Int)),o9,o10,o11]/\l4 u H6 H7/\k8 H7 u/\j<n) (λN hN=>?_) ?_
    · simp! [C8]
      refine ⟨u6,?_,?_,λr H7 r0 r1 s7 u7=>⟨⋯,?_⟩⟩
      · split <;> omega
      · split <;> omega
      · have h1:=Int.fmod_nonneg_of_pos ((i:Int)+1+r) (show (0:Int)<(n:Int) by omega)
        have h2:=Int.fmod_lt_of_pos ((i:Int)+1+r) (show (0:Int)<(n:Int) by omega)
        generalize ((i:Int)+1+r).fmod (n:Int)=z at h1 h2 ⊢;obtain ⟨j,rfl⟩:∃ j:Nat,z=(j:Int):=⟨z.toNat,⋯⟩;exact hN _ _ ⟨j,rfl,s7,u7,⋯⟩
    rintro σ H7 ⟨j,rfl,s7,u7,hj⟩;refine h9 (λσ H8 => ∃ (wy:Int),σ=[some (.ref u),some (.int 0),some (.ref a),some (.int 4),some (.ref l),some (.int (n:Int)),some (.int (0+(c:Int))),some (.int (i:Int)),some (.int (j:Int)),some (.int wy),o10,o11]/\l4 u H7 H8/\k8 H8 u) (λN hN=>?_) ?_
    · simp! [C8]
      exact ⟨u7,by decide,by decide,λr H8 r0 r1 s8 u8=>hN _ _ ⟨r,rfl,s8,u8⟩⟩
    rintro σ H8 ⟨wy,rfl,s8,u8⟩;refine h9 (λσ H9 => ∃ (po:Addr) (q:Rat),σ=[some (.ref u),some (.int 0),some (.ref a),some (.int 4),some (.ref l),some (.int (n:Int)),some (.int (0+(c:Int))),some (.int (i:Int)),some (.int (j:Int)),some (.int wy),some (.ref po),o11]/\l4 u H8 H9/\k8 H9 u/\H9 po=some (.tup (t7 q))/\q ≠ 0/\BdN 4 q) (λN hN=>?_) ?_
    · subst_eqs
      exact ⟨u,0,rfl,u8,λr q H9 nk q0 s9 u9 e9=>hN _ _ ⟨r,q,rfl,s9,u9,e9,q0,nk⟩⟩
    rintro σ H9 ⟨po,q,rfl,s9,u9,epo,q0,bq⟩;have D9:=D5.x (((s6.trans s7).trans s8).trans s9) u9;have lus:=D9.rws.length;have W1:80+10*c<=120:=⋯;obtain ⟨pI,xI,LI,uI,gI,mI,eI,nI⟩:=D9.row (i:=i) ⋯;obtain ⟨pJ,xJ,LJ,uJ,gJ,mJ,eJ,nJ⟩:=D9.row (i:=j) ⋯;have rowI:=oN.row LI (List.mem_of_getElem? mI);have rowJ:=oN.row LJ (List.mem_of_getElem? mJ);have bI:=oN.bd LI (List.mem_of_getElem? mI);have bJ:=oN.bd LJ (List.mem_of_getElem? mJ);have lxI:=nI.length;have lxJ:=nJ.length;have d0:0<q.den:=by have:=q.den_nz;omega
    have n0:0<q.num.natAbs:=by
      have:q.num ≠ 0:=λz=>q0 (W5.mp z);omega
    have oq:OvB q.den 4 q:=⟨q.num,(Rat.num_divInt_den q).symm,bq.n⟩;have lmap:(us.map V.ref).length=n:=by rw [List.length_map];omega
    have pol:po ≠ l:=λz=>by rw [z,D9.at'] at epo;cases epo
    subst_eqs
    have scale:∃ x,SqL K H9 l x/\∃ x_1,atI x (i:Int)=some x_1/\∃ a_1,x_1=V.ref a_1/\(∃ xs,SqL K H9 a_1 xs)/\∀ (D:Addr),H9 D=none->X2 (Itl K a_1) D [some (V.ref po),none] (upd H9 D (HO.lst [])) (j7 1) (V8 (E7 K λx1 x2=>x1*x2) E0 (A3 (B3 0) (A3 (B3 1) N4))) λx H1 => ∃ x_2,H1 l=some (HO.lst x_2)/\∃ x_3,ixN x_2.length (i:Int)=some x_3/\(∃ xs,SqL K (upd H1 l (HO.lst (x_2.set x_3 x))) l xs)/\∀ (D:Addr),upd H1 l (HO.lst (x_2.set x_3 x)) D=none->X2 (Itl K l) D [some (V.ref po),some (V.int (i:Int)),none] (upd (upd H1 l (HO.lst (x_2.set x_3 x))) D (HO.lst [])) (j7 2) (tOp Z1 (tOp Z1 (tSl (Q6 K) (B3 2) A4 (K5 (B3 1))) (ad0 (A3 (V8 (af7 K) E0 (A3 (tOp (N8 K) (B3 2) (B3 1)) (A3 (B3 0) N4))) N4))) (tSl (Q6 K) (B3 2) (K5 (tOp (rI0 λi j=>V.int (i+j)) (B3 1) (tC (V.int 1)))) A4)) λx H1=>I (c+1) [some (V.ref u),some (V.int 0),some (V.ref a),some (V.int 4),some x,some (V.int (n:Int)),some (V.int (0+(c:Int))),some (V.int (i:Int)),some (V.int (j:Int)),some (V.int wy),some (V.ref po),o11] H1:=by
      obtain ⟨NR,hNR⟩:∃ NR,NR=(List.range n).map λy=>q*aQ LI y:=⟨_,rfl⟩;have nl:NR.length=n:=by rw [hNR,List.length_map,List.length_range]
      have nv:∀ y,y<n->NR[y]? = some (q*aQ LI y):=λy hy=>by rw [hNR,List.getElem?_map,List.getElem?_range hy];rfl
      refine ⟨_,SqL.of D9.at',_,C7 gI,_,rfl,⟨_,SqL.of eI⟩,λD hD=>?_⟩;obtain ⟨Pv,hPv⟩:∃ Pv:Nat->L2.St->Hp->Prop,∀ y σ H10,Pv y σ H10 ↔ ∃ (o1:Option V),σ=[some (.ref po),o1]/\E6 H9 D (NR.take y) H10:=⟨_,λ_ _ _=>Iff.rfl⟩;refine y9 xI Pv ((hPv _ _ _).mpr ⟨_,rfl,E6.start hD⟩) (λy σ H10 _ h=>?_) ?_ ?_
      · obtain ⟨_,_,R⟩:=(hPv _ _ _).mp h
        exact SqL.of (R.same _ _ eI)
      · rintro y vx σ H10 hx h
        obtain ⟨o1,rfl,R⟩:=(hPv _ _ _).mp h;have yn:y<n:=by have:=(List.getElem?_eq_some_iff.mp hx).1;omega
        obtain ⟨pa,ga,ha⟩:=nI.get (av6 (L:=LI) (k:=y) ⋯);rw [ga] at hx
        cases hx
        have ba:=bI.2 _ (O1 (L:=LI) (k:=y) ⋯)
        subst_eqs
        refine ⟨_,_,q,_,4,_,rfl,⟨_,rfl,SqT.of (R.same _ _ epo)⟩,⟨_,rfl,SqT.of (R.same _ _ ha)⟩,bq.t ⋯,ba.t ⋯,⋯,λr1 H12 s12 e12=>?_⟩;obtain ⟨ys,eD,yl,R'⟩:=R.add hD s12 e12;refine o0.mk ⋯ eD (p8 (by rw [yl,List.length_take];omega)) ((hPv _ _ _).mpr ⟨_,rfl,?_⟩)
        rw [d7 (nv y yn)];exact R'
      · intro σ H10 h
        obtain ⟨o1,rfl,R⟩:=(hPv _ _ _).mp h;rw [k7 ⋯] at R;obtain ⟨s10,ys,eD,nD⟩:=R;have D10:=D9.s s10;have Dl:D ≠ l:=(i9 D9.at' hD).symm;have DP:=D10.put i eD nD Dl (w5 D9.urn hD) (D9.same.free D9.urn hD);have o1:=oN.up d0 bq.d
        have oP:y4 (C*q.den) (80+10*c+5) (N.set i NR):=o1.setRM (i:=i) (L':=NR) ⋯ (λx hx=>by
          rw [hNR] at hx;obtain ⟨y,hy,rfl⟩:=List.mem_map.mp hx;have hy:=List.mem_range.mp hy;have a2:=oq.mul (rowI.2 _ (O1 (L:=LI) (k:=y) ⋯));rw [Nat.mul_comm q.den C,Nat.add_comm 4] at a2;exact a2.mono ⋯) ⋯
        have oU:=oP.up n0 bq.n;refine ⟨_,D10.at',i,ak7 (by rw [lmap];exact hi),⟨_,SqL.of DP.at'⟩,λD2 hD2=>bb3 (n:=n) DP (by rw [g9 pol];exact s10 _ _ epo) bq q0 hD2 (by rw [List.length_set,lN]) oP ⋯ hi λH' T=>?_⟩
        obtain ⟨vs,DM⟩:=DP.made hD2 T;refine (hI _ _ _).mpr ⟨D2,vs,_,C*q.den*q.num.natAbs,_,_,_,_,_,_,rfl,DM,by rw [List.length_map,List.length_set,lN],?_⟩
        refine (oP.put (C:=C*q.den*q.num.natAbs) (V':=80+10*(c+1)) (by rw [List.length_set,lN];exact hi) (λL=>aQ L i / q) oU.B0 (Nat.lt_of_lt_of_le oU.BW (d6 ⋯)) (λL hL x hx=>((oU.row L hL).2 x hx).mono ⋯) λL hL=>?_)
        have lL:L.length=n:=by rw [(oP.row L hL).1,List.length_set,lN]
        exact (aG0 ((oP.row L hL).2 _ (O1 (L:=L) (k:=i) ⋯)) bq q0).mono ⋯
    refine F2 (λh1=>⟨rfl,F2 (λh2=>?_) (λh2=>⟨rfl,F2 (λh3=>absurd h3 ⋯) (λ_=>scale)⟩)⟩) (λh1=>⟨rfl,F2 (λh3=>?_) (λ_=>scale)⟩)
    · have ij:i ≠ j:=λz=>h2 (by rw [z])
      obtain ⟨NR,hNR⟩:∃ NR,NR=(List.range n).map λy=>aQ LI y+q*aQ LJ y:=⟨_,rfl⟩;have nl:NR.length=n:=by rw [hNR,List.length_map,List.length_range]
      have nv:∀ y,y<n->NR[y]? = some (aQ LI y+q*aQ LJ y):=λy hy=>by rw [hNR,List.getElem?_map,List.getElem?_range hy];rfl
      refine ⟨_,SqL.of D9.at',_,C7 gI,_,SqL.of D9.at',_,C7 gJ,_,rfl,_,rfl,⟨_,SqL.of eI⟩,⟨_,SqL.of eJ⟩,λD hD=>?_⟩;have mn:min xI.length xJ.length=n:=⋯;obtain ⟨Pv,hPv⟩:∃ Pv:Nat->L2.St->Hp->Prop,∀ y σ H10,Pv y σ H10 ↔ ∃ (o1 o2:Option V),σ=[some (.ref po),o1,o2]/\E6 H9 D (NR.take y) H10:=⟨_,λ_ _ _=>Iff.rfl⟩;refine aD7 xI xJ Pv ((hPv _ _ _).mpr ⟨_,_,rfl,E6.start hD⟩) (λy σ H10 h=>?_) ?_ ?_
      · obtain ⟨_,_,_,R⟩:=(hPv _ _ _).mp h
        exact ⟨SqL.of (R.same _ _ eI),SqL.of (R.same _ _ eJ)⟩
      · rintro y vx vy σ H10 pp hx hy h hpp
        obtain ⟨o1,o2,rfl,R⟩:=(hPv _ _ _).mp h;have yn:y<n:=by have:=(List.getElem?_eq_some_iff.mp hx).1;omega
        obtain ⟨pa,ga,ha⟩:=nI.get (av6 (L:=LI) (k:=y) ⋯);obtain ⟨pb,gb,hb⟩:=nJ.get (av6 (L:=LJ) (k:=y) ⋯);rw [ga] at hx;rw [gb] at hy
        cases hx
        cases hy
        obtain ⟨H11,y11,X11,g11⟩:=aH0 (.tup [V.ref pa,V.ref pb]) hpp;rw [<- y11];have S:=R.same.trans X11;have ba:=bI.2 _ (O1 (L:=LI) (k:=y) ⋯);have bj:=bJ.2 _ (O1 (L:=LJ) (k:=y) ⋯)
        subst_eqs
        refine ⟨_,SqT.of g11,rfl,_,_,rfl,_,_,rfl,rfl,?_⟩;refine ⟨_,_,q,_,4,_,rfl,⟨_,rfl,SqT.of (S _ _ epo)⟩,⟨_,rfl,SqT.of (S _ _ hb)⟩,bq.t ⋯,bj.t ⋯,⋯,λr1 H12 s12 e12=>?_⟩;refine ⟨_,_,_,_,_,_,rfl,⟨_,rfl,SqT.of (s12 _ _ (S _ _ ha))⟩,⟨_,rfl,SqT.of e12⟩,ba.t ⋯,(bq.mul bj).t ⋯,⋯,λr2 H13 s13 e13=>?_⟩;obtain ⟨ys,eD,yl,R'⟩:=R.add hD ((X11.trans s12).trans s13) e13;refine o0.mk (by rw [mn];exact yn) eD (p8 (by rw [yl,List.length_take];omega)) ((hPv _ _ _).mpr ⟨_,_,rfl,?_⟩)
        rw [d7 (nv y yn)];exact R'
      · intro σ H10 h
        obtain ⟨o1,o2,rfl,R⟩:=(hPv _ _ _).mp h;rw [k7 (by rw [mn,nl];exact Nat.le_refl _)] at R
        obtain ⟨s10,ys,eD,nD⟩:=R;have D10:=D9.s s10;have Dl:D ≠ l:=(i9 D9.at' hD).symm;have DP:=D10.put i eD nD Dl (w5 D9.urn hD) (D9.same.free D9.urn hD);have o1:=oN.up d0 bq.d
        have oP:y4 (C*q.den) (80+10*c+5) (N.set i NR):=(o1.mono (Nat.le_refl _)).setRM (i:=i) (L':=NR) ⋯ (λx hx=>by
          rw [hNR] at hx;obtain ⟨y,hy,rfl⟩:=List.mem_map.mp hx;have hy:=List.mem_range.mp hy;have a1:=(rowI.2 _ (O1 (L:=LI) (k:=y) ⋯)).up oN.B0 d0 bq.d;have a2:=oq.mul (rowJ.2 _ (O1 (L:=LJ) (k:=y) ⋯));rw [Nat.mul_comm q.den C,Nat.add_comm 4] at a2;exact (OvB.add (Nat.mul_pos oN.B0 d0) a1 a2).mono ⋯) ⋯
        have Cd:=Nat.mul_pos oN.B0 d0;have oU:=oP.up d0 bq.d;refine ⟨_,D10.at',i,ak7 (by rw [lmap];exact hi),⟨_,SqL.of DP.at'⟩,λD2 hD2=>bb4 (n:=n) DP (by rw [g9 pol];exact s10 _ _ epo) bq hD2 (by rw [List.length_set,lN]) oP ⋯ hi hj λH' T=>?_⟩
        obtain ⟨vs,DM⟩:=DP.made hD2 T;refine (hI _ _ _).mpr ⟨D2,vs,_,C*q.den*q.den,_,_,_,_,_,_,rfl,DM,by rw [List.length_map,List.length_set,lN],?_⟩
        refine (oP.put (C:=C*q.den*q.den) (V':=80+10*(c+1)) (by rw [List.length_set,lN];exact hj) (λL=>aQ L j-q*aQ L i) oU.B0 (Nat.lt_of_lt_of_le oU.BW (d6 ⋯)) (λL hL x hx=>((oU.row L hL).2 x hx).mono ⋯) λL hL=>?_)
        have lL:L.length=n:=by rw [(oP.row L hL).1,List.length_set,lN]
        have b1:=(oU.row L hL).2 _ (O1 (L:=L) (k:=j) ⋯);have b2:=oq.mul ((oP.row L hL).2 _ (O1 (L:=L) (k:=i) ⋯));rw [Nat.mul_comm q.den,Nat.add_comm 4] at b2;exact (OvB.sub oU.B0 b1 b2).mono ⋯
    · refine ⟨_,SqL.of D9.at',_,C7 gJ,_,SqL.of D9.at',_,C7 gI,by decide,λp hp=>?_⟩
      obtain ⟨H10,y10,X10,g10⟩:=aH0 (.tup [V.ref pJ,V.ref pI]) hp;rw [<- y10];have D10:=D9.s X10;have mI':=List.mem_of_getElem? uI;have mJ':=List.mem_of_getElem? uJ;have DP1:=D10.put i (X10 _ _ eJ) (nJ.mono X10.tups) (λz=>D9.nl (z ▸ mJ')) (D9.nu _ mJ') (D9.nf _ mJ');have lI:pI ≠ l:=λz=>D9.nl (z ▸ mI');have S11:X1 H10 (upd H10 l (.lst ((us.map V.ref).set i (V.ref pJ)))):=X1.lst D10.at';have DP:=DP1.put j (D:=pI) (zs:=xI) (L':=LI) (by rw [g9 lI];exact X10 _ _ eI) ((nI.mono X10.tups).mono S11) lI (D9.nu _ mI') (D9.nf _ mI')
      have oP:=(oN.setR (i:=i) (L':=LJ) rowJ.1 rowJ.2).setR (i:=j) (L':=LI) (by rw [List.length_set];exact rowI.1) rowI.2
      have lP:((N.set i LJ).set j LI).length=n:=by rw [List.length_set,List.length_set,lN]
      refine ⟨_,SqT.of g10,rfl,_,_,rfl,_,D10.at',i,ak7 (by rw [lmap];exact hi),_,_,rfl,_,c5,j,ak7 (by rw [List.length_set,lmap];exact hj),rfl,⋯,⋯,λD hD=>?_⟩
      rw [<- List.map_set] at hD ⊢;obtain ⟨H12,y12⟩:∃ H12,H12=upd (upd H10 l (HO.lst (List.map V.ref (us.set i pJ)))) l (HO.lst ((List.map V.ref (us.set i pJ)).set j (V.ref pI))):=⟨_,rfl⟩;rw [<- List.map_set] at DP;rw [<- y12] at hD DP ⊢;obtain ⟨Pv,hPv⟩:∃ Pv:Nat->L2.St->Hp->Prop,∀ y σ H13,Pv y σ H13 ↔ ∃ (o:Option V) (os:List Nat),σ=[some (.int (j:Int)),some (.int (i:Int)),o]/\c7 H12 H13/\H13 D=some (.lst (os.map λo:Nat=>V.int (o:Int)))/\os.length=y/\∀ o ∈ os,o<n:=⟨_,λ_ _ _=>Iff.rfl⟩;refine I0 Pv ((hPv _ _ _).mpr ⟨_,[],rfl,c7.new hD _,c5,rfl,by simp⟩) ?_ ?_
      · rintro y σ H13 hy h
        obtain ⟨o,os,rfl,s13,e13,l13,h13⟩:=(hPv _ _ _).mp h;have hy':y<n:=⋯
        subst_eqs
        have put:∀ (o:Nat),o<n->∀ H14,c7 H13 H14->o0 D (n:Int).toNat Pv y [some (V.int (j:Int)),some (V.int (i:Int)),some (V.int (0+(y:Int)))] (.int (o:Int)) H14:=λo ho H14 s14=>by
          refine o0.mk hy (s14 _ _ e13) (p8 (by rw [List.length_map];omega)) ((hPv _ _ _).mpr ⟨_,os ++ [o],rfl,(s13.trans s14).over hD _,by rw [c5,List.map_append];rfl,by rw [List.length_append,l13];rfl,λx hx=>?_⟩)
          rcases List.mem_append.mp hx with z | z
          · exact h13 x z
          · rw [List.mem_singleton.mp z];exact ho
        have fin:∀ (b:Int) (p:Addr),H13 p=none->(b=0 \/ (b=1/\y ≠ i))->IntMulOk 2 b/\∃ x,SqL K (upd H13 p (HO.lst [V.int (0+(y:Int)),V.int (j:Int),V.int (i:Int)])) p x/\∃ x_1,atI x ((if 0+(y:Int)=(i:Int) then 1 else 0)+2*b)=some x_1/\o0 D (n:Int).toNat Pv y [some (V.int (j:Int)),some (V.int (i:Int)),some (V.int (0+(y:Int)))] x_1 (upd H13 p (HO.lst [V.int (0+(y:Int)),V.int (j:Int),V.int (i:Int)])):=λb p fp hb=>by
          have Sp:=c7.new fp (.lst [V.int (0+(y:Int)),V.int (j:Int),V.int (i:Int)]);refine ⟨ay2 ⋯,_,SqL.of c5,?_⟩
          by_cases hyi:y=i
          · rw [if_pos ⋯]
            have hb0:b=0:=by rcases hb with h | ⟨_,h⟩;exact h;exact absurd hyi h
            subst hb0;exact ⟨_,rfl,put j hj _ Sp⟩
          · rw [if_neg ⋯]
            rcases hb with rfl | ⟨rfl,_⟩
            · refine ⟨_,rfl,?_⟩
              rw [Int.zero_add];have:=put y hy' _ Sp;rw [Int.zero_add] at this;exact this
            · exact ⟨_,rfl,put i hi _ Sp⟩
        refine ⟨by decide,λp fp=>⟨rfl,rfl,F2 (λhyj=>⟨rfl,fin _ p fp ?_⟩) (λhyj=>fin _ p fp (.inl rfl))⟩⟩
        split
        · exact .inr ⟨rfl,⋯⟩
        · exact .inl rfl
      · intro σ H13 h
        obtain ⟨o,os,rfl,s13,e13,l13,h13⟩:=(hPv _ _ _).mp h;have D13:=DP.s s13;have lo:os.length=n:=⋯;obtain ⟨NN,hNN⟩:∃ NN,NN=(N.set i LJ).set j LI:=⟨_,rfl⟩;rw [<- hNN] at D13 oP lP;obtain ⟨NP,hNP⟩:∃ NP,NP=NN.map λL=>os.map (aQ L):=⟨_,rfl⟩;have lNP:NP.length=n:=by rw [hNP,List.length_map,lP]
        refine ⟨⟨_,SqL.of D13.at'⟩,λD2 hD2=>?_⟩;refine y9 ((us.set i pJ).set j pI |>.map V.ref) (λy σ H3 => ∃ o,σ=[some (.ref D),o]/\t6 H13 D2 (NP.take y) H3) ⟨_,rfl,t6.start hD2⟩ (λj σ H3 _ ⟨o,_,T⟩=>SqL.of (T.same _ _ D13.at')) ?_ ?_
        · rintro y x σ H3 hx ⟨o,rfl,T⟩
          have hy:=(List.getElem?_eq_some_iff.mp hx).1;obtain ⟨t,ht,rfl⟩:=A1 hx;obtain ⟨xs,L,hL,et,nt⟩:=D13.rws.get ht;have lL:=(oP.row L (List.mem_of_getElem? hL)).1
          subst_eqs
          refine ⟨⟨_,SqL.of (T.same _ _ e13)⟩,λD3 hD3=>?_⟩;refine y9 (os.map λo:Nat=>V.int (o:Int)) (λz σ H4 => ∃ o1,σ=[some (.ref t),o1]/\E6 H3 D3 ((os.map (aQ L)).take z) H4) ⟨_,rfl,E6.start hD3⟩ (λz σ H4 _ ⟨_,_,R⟩=>SqL.of (R.same _ _ (T.same _ _ e13))) ?_ ?_
          · rintro z x σ H4 hz ⟨o1,rfl,R⟩
            have hz':=(List.getElem?_eq_some_iff.mp hz).1;rw [List.getElem?_map] at hz
            cases eo:os[z]? with
            | none=>rw [eo] at hz;cases hz
            | some o2 =>
            rw [eo] at hz
            cases hz
            have ho:=h13 o2 (List.mem_of_getElem? eo);obtain ⟨pz,gz,ez⟩:=nt.get (av6 (L:=L) (k:=o2) ⋯);have S4:=T.same.trans R.same
            subst_eqs
            refine ⟨_,SqL.of (S4 _ _ et),_,C7 gz,?_⟩;obtain ⟨ys,eD,yl,R'⟩:=R.add hD3 (c7.refl _) (S4 _ _ ez);refine o0.mk hz' eD (p8 (by rw [yl,List.length_take,List.length_map];omega)) ⟨_,rfl,?_⟩
            rw [d7 (l:=os.map (aQ L)) (x:=aQ L o2) (by rw [List.getElem?_map,eo];rfl)]
            exact R'
          · rintro σ H4 ⟨o1,rfl,R⟩
            rw [k7 (by rw [List.length_map,List.length_map];exact Nat.le_refl _)] at R
            obtain ⟨ys,eD,yl,T'⟩:=T.add hD2 hD3 R;refine o0.mk hy eD (p8 (by rw [yl,List.length_take];omega)) ⟨_,rfl,?_⟩
            rw [d7 (l:=NP) (x:=os.map (aQ L)) (by rw [hNP,List.getElem?_map,hL];rfl)]
            exact T'
        · rintro σ H3 ⟨o,rfl,T⟩
          rw [k7 (by rw [List.length_map,D13.rws.length,lP,lNP];exact Nat.le_refl _)] at T
          obtain ⟨vs,DM⟩:=D13.made hD2 T;refine (hI _ _ _).mpr ⟨D2,vs,_,C,_,_,_,_,_,_,rfl,DM,lNP,⟨by rw [lNP];omega,oN.B0,Nat.lt_of_lt_of_le oN.BW (d6 ⋯),λL hL=>?_⟩⟩
          rw [hNP] at hL;obtain ⟨L0,h0,rfl⟩:=List.mem_map.mp hL;refine ⟨by rw [List.length_map,lo,lNP],λx hx=>?_⟩
          obtain ⟨o3,ho3,rfl⟩:=List.mem_map.mp hx;have r0:=oP.row L0 h0;exact (r0.2 _ (O1 (L:=L0) (k:=o3) (by have:=h13 o3 ho3;omega))).mono ⋯
  rintro σ H4 ⟨c,hc,h⟩;obtain ⟨l,us,N,C,o6,o7,o8,o9,o10,o11,rfl,D5,lN,oN⟩:=(hI _ _ _).mp h
  subst_eqs
  exact k l us N C H4 D5 lN (oN.mono ⋯)
def eB (B:Nat):Nat->Nat
 | 0=>1
 | k+1=>B*eB B k*(k+1)
theorem aD3 {B:Nat} (h:0<B):∀ k,0<eB B k
 | 0=>Nat.one_pos
 | k+1=>z0z (z0z h (aD3 h k)) (Nat.succ_pos k)
theorem aE0 {n:Nat} {A:Mt}:∀ k,(chQ n A k).length=k+1
 | 0=>rfl
 | k+1=>by show (chQ n A k).length+1=_;rw [aE0 k]
def aT6 (K:q0a):Sp:=λvs H Q _ => ∃ (a:Addr) (M:List (List Rat)) (n B W:Nat),vs=[.ref a]/\TbA H a M/\y4 B W M/\M.length=n/\n<=4/\W<=170/\∀ r xs H',c7 H H'->H r=none->H' r=some (.lst xs)->t5 H' xs (chQ n (qq M) n)->(∀ q ∈ chQ n (qq M) n,OvB (eB B n) (n*(W+12)+1) q)->eB B n<2 ^ (n*(W+12)+1)->Q (.ref r) H'
abbrev Y4:Stmt:=top 59
theorem y1:i7 ["_law_table","_law_many","_law_found","_law_rows","_law_k","_law_trace","_law_i","_law_number_here"] ["_law_table"] (c9 Y4):=by and_intros
theorem aC7 {f f1 f2 f3 f4 f5 f6:Addr} (d:Df K mg "_law_char" Y4 ["_law_table"] f) (G__law_unit:Def P w K mg base CX0 1 "_law_unit" f1 ["_law_n"] ar1) (G__law_table_times:Def P w K mg base CX0 4 "_law_table_times" f2 ["_law_one","_law_other_here"] (aT3 K)) (G__law_plus:Def P w K mg base CX0 2 "_law_plus" f3 ["_law_one","_law_other_here"] (E7 K (· + ·))) (G__law_over:Def P w K mg base CX0 2 "_law_over" f4 ["_law_one","_law_other_here"] (af7 K)) (G__law_table_often:Def P w K mg base CX0 3 "_law_table_often" f5 ["_law_number_here","_law_table"] (aA1 K)) (G__law_table_plus:Def P w K mg base CX0 4 "_law_table_plus" f6 ["_law_one","_law_other_here"] (as2 K)) (n_len:mg "len" = none) (n_range:mg "range" = none):Def P w K mg base CX0 5 "_law_char" f ["_law_table"] (aT6 K):=by
  refine d.ok (N:=["_law_table","_law_many","_law_found","_law_rows","_law_k","_law_trace","_law_i","_law_number_here"]) y1 (by rintro vs H Q E ⟨_,_,_,_,_,h,_⟩;rw [h];rfl) (λcdv A outer s H vs Q E hr h=>?_)
  obtain ⟨a,M,n,B,W,rfl,hA,oM,hn,n4,hW,k⟩:=h;obtain ⟨ts,ha,hR⟩:=hA.ex;have hRl:=hR.length;have fM:C3 n M (qq M):=C3.of hn λL hL=>by rw [(oM.row L hL).1,hn]
  refine ⟨_, (c6 (g8 (i := 1) y1.nd rfl (Or.inl rfl) (j8 k0 rfl n_len (by decide +kernel) (b6 (pv 0) b8)))
      (c6 (g8 (i:=2) y1.nd rfl (Or.inl rfl) (B5 (b6 (j3 (b6 b9 (b6 b9 b8))) b8)))
      (c6 (g8 (i:=3) y1.nd rfl (Or.inl rfl) (d4 G__law_unit hr (b6 (pv 1) b8) f9))
      (c6 (K2 PassesOwn.never rfl (aP1 rfl n_range (b6 b9 (b6 (g7 A8 (pv 1) b9) b8))) (d5 (i:=4) y1.nd rfl (Or.inl rfl)) (c6 (g8 (i:=3) y1.nd rfl (Or.inl rfl) (d4 G__law_table_times hr (b6 (pv 0) (b6 (pv 3) b8)) f9))
      (c6 (g8 (i:=5) y1.nd rfl (Or.inl rfl) (j3 (b6 b9 (b6 b9 b8))))
      (c6 (K2 PassesOwn.never rfl (y3 rfl n_range (b6 (pv 1) b8)) (d5 (i:=6) y1.nd rfl (Or.inl rfl)) (d2 (g8 (i:=5) y1.nd rfl (Or.inl rfl) (d4 G__law_plus hr (b6 (pv 5) (b6 (j4 t9 (j4 t9 (pv 3) (pv 6) (λ_ _=>rfl)) (pv 6) (λ_ _=>rfl)) b8)) f9))))
      (c6 (g8 (i:=7) y1.nd rfl (Or.inl rfl) (d4 G__law_over hr (b6 (j3 (b6 (g7 M0 b9 (j4 l6 (pv 5) b9 (λ_ _=>rfl))) (b6 (j4 l6 (pv 5) b9 (λ_ _=>rfl)) b8))) (b6 (j3 (b6 (pv 4) (b6 b9 b8))) b8)) f9))
      (c6 (am1 (aM0 PySem.F.plainAttrs_list PySem.F.slot_list_append PySem.F.type_list_append J7 (pv 2) (b6 (pv 7) b8)))
      (d2 (g8 (i:=3) y1.nd rfl (Or.inl rfl) (d4 G__law_table_plus hr (b6 (pv 3) (b6 (d4 G__law_table_often hr (b6 (pv 7) (b6 (d4 G__law_unit hr (b6 (pv 1) b8) f9) b8)) f9) b8)) f9)))))))))
      (d2 (i5 (aP2 (pv 2) U8 U8 (P1 (ax8 an7 b9))))))))),?_⟩
  rw [show start ["_law_table","_law_many","_law_found","_law_rows","_law_k","_law_trace","_law_i","_law_number_here"] [.ref a]=[some (.ref a),none,none,none,none,none,none,none] from rfl]
  refine h9 (λσ H1=>H1=H/\σ=[some (.ref a),some (.int (n:Int)),none,none,none,none,none,none]) (λN hN'=>?_) ?_
  · subst_eqs
    exact ⟨_,.inl (SqL.of ha),hN' _ _ ⟨rfl,by rw [List.length_map,hRl,hn]⟩⟩
  rintro σ H1 ⟨rfl,rfl⟩;refine h9 (λσ H2 => ∃ l xs,σ=[some (.ref a),some (.int (n:Int)),some (.ref l),none,none,none,none,none]/\c7 H1 H2/\H1 l=none/\H2 l=some (.lst xs)/\t5 H2 xs [1]) (λN hN'=>?_) ?_
  · subst_eqs
    refine ⟨by decide,λp1 f1=>⟨by decide,λp2 f2=>?_⟩⟩
    have S1:=c7.new f1 (.tup [.int 1,.int 1]);have S2:=c7.new f2 (.lst [.ref p1]);exact hN' _ _ ⟨p2,_,rfl,S1.trans S2,S1.free f2,c5,.cons (S2 _ _ c5) .nil⟩
  rintro σ H2 ⟨l,xs0,rfl,s2,fl,el,nl⟩;refine h9 (λσ H3 => ∃ r,σ=[some (.ref a),some (.int (n:Int)),some (.ref l),some (.ref r),none,none,none,none]/\c7 H2 H3/\TbA H3 r (M1 n)) (λN hN'=>?_) ?_
  · subst_eqs
    exact ⟨n,rfl,⋯,λr ts1 H3 s3 fr ft nd e3 R3=>hN' _ _ ⟨r,rfl,s3,⟨ts1,e3,R3⟩⟩⟩
  rintro σ H3 ⟨r0,rfl,s3,U3⟩;obtain ⟨I,hI⟩:∃ I:Nat->L2.St->Hp->Prop,∀ c σ H4,I c σ H4 ↔ ∃ (r:Addr) (xs:List V) (N:List (List Rat)) (o4 o5 o6 o7:Option V),σ=[some (.ref a),some (.int (n:Int)),some (.ref l),some (.ref r),o4,o5,o6,o7]/\c7 H1 H4/\H4 l=some (.lst xs)/\t5 H4 xs (chQ n (qq M) c).reverse/\(∀ q ∈ chQ n (qq M) c,OvB (eB B c) (c*(W+12)+1) q)/\TbA H4 r N/\C3 n N (flT n (qq M) c)/\y4 (eB B c) (c*(W+12)+1) N:=⟨_,λ_ _ _=>Iff.rfl⟩;refine h9 (λσ H4=>I n σ H4) (λN hN'=>?_) ?_
  · refine ⟨_,rfl,_,_,rfl,rfl,_,_,rfl,⟨⋯,⋯,⋯,⋯⟩,V1 I ((hI _ _ _).mpr ⟨r0,xs0,_,_,_,_,_,rfl,s2.trans s3,s3 _ _ el,nl.mono s3.tups,λq hq=>?_,U3,C3.unit n,by rw [Nat.zero_mul];exact as0 ⋯⟩) ?_ (λσ H4 h=>hN' _ _ (by rw [show ((n:Int)+1-1).toNat=n by omega] at h;exact h))⟩
    · rw [List.mem_singleton.mp hq,Nat.zero_mul];exact ⟨1,by show (1:Rat)=Rat.divInt 1 ((1:Nat):Int);decide,by decide⟩
    rintro c σ H4 hc h;have hc':c<n:=⋯;obtain ⟨r,xs,N,o4,o5,o6,o7,rfl,s4,el4,nl4,ob4,U4,fN,oN⟩:=(hI _ _ _).mp h;have bW:c*(W+12)<=3*182:=Nat.mul_le_mul ⋯ ⋯;have sW:(c+1)*(W+12)=c*(W+12)+(W+12):=Nat.succ_mul _ _;have lN:=fN.len;have E0:=aD3 oM.B0 c;obtain ⟨PN,hPN⟩:∃ PN,PN=am2 M N:=⟨_,rfl⟩;have oP:y4 (B*eB B c) (W+(c*(W+12)+1)+4) PN:=by rw [hPN];exact oM.prodO oN ⋯ ⋯
    have fP:C3 n PN (mm n (qq M) (flT n (qq M) c)):=by rw [hPN];exact fM.prod fN
    have lP:=fP.len;obtain ⟨tr,er,Rr⟩:=U4.ex;refine h9 (λσ H5 => ∃ r,σ=[some (.ref a),some (.int (n:Int)),some (.ref l),some (.ref r),some (.int (1+(c:Int))),o5,o6,o7]/\t6 H4 r PN H5/\H4 r=none) (λN' hN'=>?_) ?_
    · subst_eqs
      refine ⟨a,r,ts,tr,M,N,n,B,W,eB B c,c*(W+12)+1,rfl,s4 _ _ ha,hR.same s4,er,Rr,hn,lN,⋯,λL hL=>by rw [<- hn];exact oM.row L hL,λL hL=>by rw [<- lN];exact oN.row L hL,oM.B0,E0,oM.BW,oN.BW,⋯,λr2 ts2 H5 s5 fr2 ft2 nd2 e5 R5=>hN' _ _ ⟨r2,rfl,⟨s5,ts2,e5,ft2,nd2,by rw [hPN];exact R5⟩,fr2⟩⟩
    rintro σ H5 ⟨rp,rfl,⟨s5,tp,ep5,ft5,_,Rp5⟩,frp⟩;refine h9 (λσ H6 => ∃ pt,σ=[some (.ref a),some (.int (n:Int)),some (.ref l),some (.ref rp),some (.int (1+(c:Int))),some (.ref pt),o6,o7]/\c7 H5 H6/\H6 pt=some (.tup (t7 0))) (λN' hN'=>?_) ?_
    · subst_eqs
      exact ⟨by decide,λpt ft=>hN' _ _ ⟨pt,rfl,c7.new ft _,c5⟩⟩
    rintro σ H6 ⟨pt0,rfl,s6,e6⟩;have ep:=s6 _ _ ep5;have Rp:=Rp5.same s6;have lp:=Rp.length;refine h9 (λσ H7 => ∃ pt o6,σ=[some (.ref a),some (.int (n:Int)),some (.ref l),some (.ref rp),some (.int (1+(c:Int))),some (.ref pt),o6,o7]/\c7 H6 H7/\H7 pt=some (.tup (t7 (i4 (λt=>mm n (qq M) (flT n (qq M) c) t t) n)))/\OvB (B*eB B c) (W+(c*(W+12)+1)+8) (i4 (λt=>mm n (qq M) (flT n (qq M) c) t t) n)) (λN' hN'=>?_) ?_
    · obtain ⟨J,hJ⟩:∃ J:Nat->L2.St->Hp->Prop,∀ i σ H7,J i σ H7 ↔ ∃ pt o6,σ=[some (.ref a),some (.int (n:Int)),some (.ref l),some (.ref rp),some (.int (1+(c:Int))),some (.ref pt),o6,o7]/\c7 H6 H7/\H7 pt=some (.tup (t7 (i4 (λt=>mm n (qq M) (flT n (qq M) c) t t) i)))/\OvB (B*eB B c) (W+(c*(W+12)+1)+4+i) (i4 (λt=>mm n (qq M) (flT n (qq M) c) t t) i):=⟨_,λ_ _ _=>Iff.rfl⟩
      refine ⟨_,rfl,_,rfl,⋯,⋯,V1 J ((hJ _ _ _).mpr ⟨pt0,_,rfl,c7.refl _,e6,OvB.zero _ _⟩) ?_ (λσ H7 h=>?_)⟩
      · rintro i σ H7 hi h
        have hi':i<n:=⋯;obtain ⟨pt,o6,rfl,s7,e7,b7⟩:=(hJ _ _ _).mp h;obtain ⟨t,ht⟩:∃ t,tp[i]? = some t:=⟨_,List.getElem?_eq_getElem ⋯⟩;obtain ⟨ys,L,hL,et,nt⟩:=Rp.get ht;have rL:=oP.row L (List.mem_of_getElem? hL)
        have eL:aQ L i=mm n (qq M) (flT n (qq M) c) i i:=by
          have:=fP.at' i i hi' hi';unfold qq at this;rw [hL] at this;exact this
        obtain ⟨pq,gq,eq⟩:=nt.get (show L[i]? = some (aQ L i) by unfold aQ;rw [List.getElem?_eq_getElem (by rw [rL.1];omega)];rfl)
        have bq:=rL.2 (aQ L i) (by unfold aQ;rw [List.getElem?_eq_getElem (by rw [rL.1];omega)];exact List.getElem_mem _)
        have BE0:=Nat.mul_pos oM.B0 E0
        subst_eqs
        refine ⟨_,SqL.of (s7 _ _ ep),.ref t,by rw [show (0+(i:Int))=(i:Int) by omega];exact C7 (by rw [List.getElem?_map,ht];rfl),t,rfl,_,SqL.of (s7 _ _ et),.ref pq,by rw [show (0+(i:Int))=(i:Int) by omega];exact C7 gq,?_⟩
        have w1:=(ao3 oP.B0 oP.BW bq);have w2:=ao3 (W:=W+(c*(W+12)+1)+4+i) oP.B0 (Nat.lt_of_lt_of_le oP.BW (d6 ⋯)) b7;refine ⟨_,_,_,_,_,_,rfl,⟨pt,rfl,SqT.of e7⟩,⟨pq,rfl,SqT.of (s7 _ _ eq)⟩,w2.t ⋯,w1.t ⋯,⋯,λr8 H8 s8 e8=>?_⟩;refine (hJ _ _ _).mpr ⟨r8,_,rfl,s7.trans s8,by rw [e8,eL];rfl,?_⟩
        show OvB _ _ (i4 (λt=>mm n (qq M) (flT n (qq M) c) t t) i+mm n (qq M) (flT n (qq M) c) i i);rw [<- eL];exact (OvB.add oP.B0 b7 (bq.mono ⋯)).mono ⋯
      · obtain ⟨pt,o6,rfl,s7,e7,b7⟩:=(hJ _ _ _).mp h
        rw [Int.toNat_natCast] at e7 b7;exact hN' _ _ ⟨pt,o6,rfl,s7,e7,b7.mono ⋯⟩
    rintro σ H7 ⟨pt,o6,rfl,s7,e7,b7⟩;obtain ⟨tq,htq⟩:∃ tq,tq=i4 (λt=>mm n (qq M) (flT n (qq M) c) t t) n:=⟨_,rfl⟩
    have hk:flK n (qq M) c=-tq / (((1+(c:Int):Int)):Rat):=by
      unfold flK;rw [<- htq,Rat.intCast_add,Rat.intCast_one,Rat.add_comm];rfl
    rw [<- htq] at e7 b7;have E1:eB B (c+1)=B*eB B c*(c+1):=rfl;have c8:c+1<2 ^ 3:=⋯
    have oK0:OvB (eB B (c+1)) ((c+1)*(W+12)) (flK n (qq M) c):=by
      have:=aG0 (w:=3) b7.neg (q:=((1+(c:Int):Int):Rat)) ⟨by rw [Rat.num_intCast];omega,by rw [Rat.den_intCast];decide⟩ (λz=>by
        have:=(Rat.intCast_inj (a:=1+(c:Int)) (b:=0)).mp z;omega)
      rw [hk,E1];rw [Rat.num_intCast,show (1+(c:Int)).natAbs=c+1 by omega] at this
      exact this.mono ⋯
    have oK:=oK0.mono (Nat.le_succ _)
    have BE1:eB B (c+1)<2 ^ ((c+1)*(W+12)+1):=by
      rw [E1];have:=Nat.mul_lt_mul'' oP.BW c8;rw [<- Nat.pow_add] at this;exact Nat.lt_of_lt_of_le this (d6 ⋯)
    have bK:BdN ((c+1)*(W+12)+1) (flK n (qq M) c):=ao3 (aD3 oM.B0 (c+1)) BE1 oK;have b7d:=ao3 (W:=W+(c*(W+12)+1)+8) oP.B0 (Nat.lt_of_lt_of_le oP.BW (d6 ⋯)) b7;refine h9 (λσ H8 => ∃ pk,σ=[some (.ref a),some (.int (n:Int)),some (.ref l),some (.ref rp),some (.int (1+(c:Int))),some (.ref pt),o6,some (.ref pk)]/\c7 H7 H8/\H8 pk=some (.tup (t7 (flK n (qq M) c)))) (λN' hN'=>?_) ?_
    · subst_eqs
      refine ⟨_,SqT.of e7,_,at0 tq,_,rfl,_,SqT.of e7,_,at1 tq,by decide,λp1 f1=>⟨by decide,λp2 f2=>?_⟩⟩
      have S1:=c7.new f1 (.tup [.int (0-tq.num),.int tq.den]);have S2:=c7.new f2 (.tup [.int (1+(c:Int)),.int 1]);have en:(HO.tup [V.int (0-tq.num),V.int tq.den])=.tup (t7 (-tq)):=by unfold t7;rw [Rat.neg_num,Rat.neg_den,Int.zero_sub]
      have ek:(HO.tup [V.int (1+(c:Int)),V.int 1])=.tup (t7 (((1+(c:Int):Int)):Rat)):=by unfold t7;rw [Rat.num_intCast,Rat.den_intCast];rfl
      refine ⟨_,_,-tq,(((1+(c:Int):Int)):Rat),W+(c*(W+12)+1)+8,3,rfl,⟨p1,rfl,SqT.of (S2 _ _ (by rw [c5,en]))⟩,⟨p2,rfl,SqT.of (by rw [c5,ek])⟩,(⟨by rw [Rat.neg_num,Int.natAbs_neg];exact b7d.n,by rw [Rat.neg_den];exact b7d.d⟩:BdN _ (-tq)).t ⋯,λz=>?_,by rw [Rat.num_intCast];omega,by rw [Rat.den_intCast];exact Nat.one_lt_two_pow (by decide),⋯,λr8 H8 s8 e8=>hN' _ _ ⟨r8,rfl,S1.trans (S2.trans s8),by rw [e8,hk]⟩⟩
      have:=(Rat.intCast_inj (a:=1+(c:Int)) (b:=0)).mp z;omega
    rintro σ H8 ⟨pk,rfl,s8,e8⟩;have S48:=s5.trans (s6.trans (s7.trans s8));have el8:=S48 _ _ el4;refine h9 (λσ H9=>σ=[some (.ref a),some (.int (n:Int)),some (.ref l),some (.ref rp),some (.int (1+(c:Int))),some (.ref pt),o6,some (.ref pk)]/\H9=upd H8 l (.lst (xs ++ [.ref pk]))) (λN' hN'=>?_) ?_
    · subst_eqs
      exact ⟨.inl ⟨_,SqL.of el8⟩,_,el8,p8 (by rw [nl4.length,List.length_reverse,aE0];omega),hN' _ _ ⟨rfl,rfl⟩⟩
    rintro σ H9 ⟨rfl,rfl⟩;have up8:∀ {H':Hp},c7 H8 H'->True:=λ_=>trivial
    have lf:∀ b o,H1 b=some o->upd H8 l (.lst (xs ++ [.ref pk])) b=some o:=λb o h=>by
      rw [g9 (i9 h fl)];exact (s4.trans S48) _ _ h
    have e8p:=(s7.trans s8) _ _ ep;have R8:=Rp.same (s7.trans s8)
    have nlp:l ∉ tp:=λz=>by
      have:=(ft5 l z).1;rw [el4] at this;cases this
    have lrp:rp ≠ l:=λz=>by rw [z,el4] at frp;cases frp
    have R9:=R8.over el8 (o:=.lst (xs ++ [.ref pk])) nlp;have pkl:pk ≠ l:=λz=>by rw [z,el8] at e8;cases e8
    have Nn:=((nl4.mono S48.tups).append (.cons e8 .nil)).mono (X1.lst el8 (o:=.lst (xs ++ [.ref pk])))
    subst_eqs
    refine ⟨n,rfl,⋯,λru tu H10 s10 fru ftu ndu eu Ru=>?_⟩;refine ⟨_,flK n (qq M) c,ru,tu,M1 n,1,1,(c+1)*(W+12)+1,rfl,⟨pk,rfl,SqT.of (s10 _ _ (by rw [g9 pkl];exact e8))⟩,bK,eu,Ru.toC,as0 ⋯,⋯,λr2 t2 H11 s11 fr2 ft2 nd2 e11 R11=>?_⟩
    have oPu:=oP.upW (Nat.succ_pos c) c8 (V':=(c+1)*(W+12)) ⋯;rw [<- E1] at oPu;have lu:=(C3.unit n).len
    have oOu:y4 (eB B (c+1)) ((c+1)*(W+12)) (ak3 (flK n (qq M) c) (M1 n)):=⟨by rw [P2,lu];omega,oPu.B0,oPu.BW,λL hL=>by
      obtain ⟨L0,h0,rfl⟩:=List.mem_map.mp hL;refine ⟨by rw [List.length_map,P2,(C3.unit n).row L0 h0,lu],λq hq=>?_⟩
      obtain ⟨x,hx,rfl⟩:=List.mem_map.mp hq;obtain ⟨i,_,rfl⟩:=List.mem_map.mp h0;obtain ⟨j,_,rfl⟩:=List.mem_map.mp hx
      split
      · rw [Rat.mul_one];exact oK0
      · rw [Rat.mul_zero];exact OvB.zero _ _⟩
    have S11:=s10.trans s11;refine ⟨rp,r2,tp,t2,PN,ak3 (flK n (qq M) c) (M1 n),_,_,_,_,rfl,S11 _ _ (by rw [g9 lrp];exact e8p),(R9.same S11).toC,e11,R11.toC,oPu,oOu,⋯,by rw [P2,lu,lP],λr3 t3 H12 s12 fr3 ft3 nd3 e12 R12=>?_⟩
    have S12:=S11.trans s12;refine (hI _ _ _).mpr ⟨r3,_,_,_,_,_,_,rfl,λb o h=>S12 _ _ (lf b o h),S12 _ _ c5,?_,?_,⟨t3,e12,R12⟩,?_,?_⟩
    · show t5 H12 _ (flK n (qq M) c :: chQ n (qq M) c).reverse
      rw [List.reverse_cons];exact Nn.mono S12.tups
    · intro q hq
      rcases List.mem_cons.mp hq with rfl | hq
      · exact oK
      · have:=(ob4 q hq).up E0 (C:=B*(c+1)) (c:=W+3) (Nat.mul_pos oM.B0 (Nat.succ_pos c)) (by rw [Nat.pow_add];exact Nat.mul_lt_mul'' oM.BW c8)
        rw [show eB B c*(B*(c+1))=eB B (c+1) by rw [E1,Nat.mul_comm B (eB B c),Nat.mul_assoc]] at this
        exact this.mono ⋯
    · exact (fP.sum ((C3.unit n).often (flK n (qq M) c))).to λi j _ _=>rfl
    · exact oPu.sumO oOu (by rw [P2,lu,lP]) ⋯
  rintro σ H4 h;obtain ⟨r,xs,N,o4,o5,o6,o7,rfl,s4,el4,nl4,ob4,U4,fN,oN⟩:=(hI _ _ _).mp h
  subst_eqs
  refine ⟨xs,SqL.of el4,by decide,λp fp=>?_⟩
  rw [aU1];have Sp:=c7.new fp (.lst xs.reverse);have nr:=(nl4.mono Sp.tups).rev;rw [List.reverse_reverse] at nr;exact k p _ _ (s4.trans Sp) (s4.free fp) c5 nr ob4 oN.BW
theorem OvB.bt {B W e:Nat} {q:Rat} (h:OvB B W q) (hB:0<B) (hBe:B<2 ^ e) (hW:W<=20000):BtN e q:=by
 obtain ⟨v,rfl,b⟩:=h;have:=O0 (t:=v) (b:=(B:Int)) ⋯;rw [z0b] at this;exact ⟨q0t this.1 (q0b b (d6 hW)),q0t this.2 hBe⟩
def aL7 (K:q0a):Sp:=λvs H Q _ => ∃ (a b:Addr) (xs ys:List V) (ps qs:List Rat) (B C V' W e:Nat),vs=[.ref a,.ref b]/\SqL K H a xs/\SqL K H b ys/\t5 H xs ps/\t5 H ys qs/\(∀ q ∈ ps,OvB B V' q)/\(∀ q ∈ qs,OvB C W q)/\0<B/\0<C/\B*C<2 ^ e/\1<=e/\2*e<=6000/\V'+W<=19000/\ps.length<=20/\qs.length<=20 /\
 ∀ m r zs H',N3 (G9 ps qs) m->(∀ q ∈ G9 ps qs,OvB (B*C) (V'+W+400) q)->c7 H H'->H r=none->H' r=some (.lst zs)->t5 H' zs ((G9 ps qs).take m)->Q (.ref r) H'
abbrev G5:Stmt:=top 42
theorem A2:i7 ["_law_p","_law_q","_law_found","_law_i","_law_one","_law_j","_law_other_here"] ["_law_p","_law_q"] (c9 G5):=by and_intros
theorem ak2 {f fp f1 f2:Addr} (d:Df K mg "_law_poly_times" G5 ["_law_p","_law_q"] f) (G__law_plus:Def P w K mg base CX0 2 "_law_plus" fp ["_law_one","_law_other_here"] (E7 K (· + ·))) (G__law_times:Def P w K mg base CX0 2 "_law_times" f1 ["_law_one","_law_other_here"] (E7 K (· * ·))) (G__law_trim:Def P w K mg base CX0 1 "_law_trim" f2 ["_law_numbers"] (aT0 K)) (n_len:mg "len" = none) (n_enumerate:mg "enumerate" = none):Def P w K mg base CX0 3 "_law_poly_times" f ["_law_p","_law_q"] (aL7 K):=by
 refine d.ok (N:=["_law_p","_law_q","_law_found","_law_i","_law_one","_law_j","_law_other_here"]) A2 (by rintro vs H Q E ⟨_,_,_,_,_,_,_,_,_,_,_,h,_⟩;rw [h];rfl) (λcdv A outer s H vs Q E hr h=>?_)
 obtain ⟨a,b,xs,ys,ps,qs,B,C,V',W,e,rfl,hS,hS',hN,hN',hs,hs',hB,hC,hBC,he1,he,hVW,hl,hl',k⟩:=h;have hBCp:=z0z hB hC;have hBe:B<2 ^ e:=q0t (g0p _ hC) hBC;have hCe:C<2 ^ e:=q0t (v0a _ hB) hBC;have hu:=hr.units
 refine ⟨_,(c6 (B8 (PW.pt (ac6 (j9 (aB7 hu) (pv 0) (B5 b8) (j1 _)) (aj8 (j9 (aB7 hu) (pv 1) (B5 b8) (j1 _))))) (d2 (i5 (B5 b8))) p9)
   (c6 (g8 (i:=2) A2.nd rfl (q0w rfl) (g7 aU8 (B5 (b6 (j3 (b6 b9 (b6 b9 b8))) b8)) (g7 M0 (g7 A8 (j8 k0 rfl n_len (by decide +kernel) (b6 (pv 0) b8)) (j8 k0 rfl n_len (by decide +kernel) (b6 (pv 1) b8))) b9)))
   (c6 (K2 PassesOwn.never rfl (ar3 rfl n_enumerate (b6 (pv 0) b8)) (show PG _ _ (G3 K 2 (l9 (j7 3) (l9 (j7 4) G4))) from by (refine C9 (n:=2) ?_ ?_ ?_ ?_;rfl;(refine i6 ?_ ?_ ?_;(exact (d5 (i:=3) A2.nd rfl (q0w rfl)));(refine i6 ?_ ?_ ?_;(exact (d5 (i:=4) A2.nd rfl (q0w rfl)));(exact y7);rfl);rfl);rfl;rfl)) (d2 (K2 PassesOwn.never rfl (ar3 rfl n_enumerate (b6 (pv 1) b8)) (show PG _ _ (G3 K 2 (l9 (j7 5) (l9 (j7 6) G4))) from by (refine C9 (n:=2) ?_ ?_ ?_ ?_;rfl;(refine i6 ?_ ?_ ?_;(exact (d5 (i:=5) A2.nd rfl (q0w rfl)));(refine i6 ?_ ?_ ?_;(exact (d5 (i:=6) A2.nd rfl (q0w rfl)));(exact y7);rfl);rfl);rfl;rfl)) (d2 (F9 (d4 G__law_plus hr (b6 (j4 t9 (pv 2) (g7 A8 (pv 3) (pv 5)) (λ_ _=>rfl)) (b6 (d4 G__law_times hr (b6 (pv 4) (b6 (pv 6) b8)) f9) b8)) f9) (Z4 (pv 2) (g7 A8 (pv 3) (pv 5)) K6))))))
   (d2 (i5 (d4 G__law_trim hr (b6 (pv 2) b8) f9)))))),?_⟩
 rw [show start ["_law_p","_law_q","_law_found","_law_i","_law_one","_law_j","_law_other_here"] [.ref a,.ref b]=[some (.ref a),some (.ref b),none,none,none,none,none] from rfl]
 subst_eqs
 have tl0:N3 ([]:List Rat) 0:=⟨q0m _,λi q _ e=>by simp at e,λh=>absurd rfl h⟩
 refine ⟨by decide,λp hp=>?_⟩
 have S1:=c7.new hp (.lst []);refine ⟨F4 ps,F4 [],rfl,M6 (S1.seq hS) (hN.mono S1.tups),M6 (SqL.of c5) .nil,ae4 _ _,z0d (an3 _) (by decide),?_⟩
 rw [aa8];refine ⟨_,rfl,F2 (λh=>⟨by decide,λr hr'=>?_⟩) (λh=>?_)⟩
 ·have e:G9 ps qs=[]:=by rw [G9,if_pos (.inl (by simpa using h))]
  rw [e] at k;exact k 0 r [] _ tl0 (by simp) (S1.trans (c7.new hr' _)) (S1.free hr') c5 .nil
 have np:ps ≠ []:=λz=>h (by simp [z])
 refine ⟨by decide,λp2 hp2=>?_⟩
 have S2:=S1.trans (c7.new hp2 (.lst []));refine ⟨F4 qs,F4 [],rfl,M6 (S2.seq hS') (hN'.mono S2.tups),M6 (SqL.of c5) .nil,ae4 _ _,z0d (an3 _) (by decide),?_⟩
 rw [aa8];refine ⟨_,rfl,F2 (λh=>⟨by decide,λr hr'=>?_⟩) (λh=>?_)⟩
 ·have e:G9 ps qs=[]:=by rw [G9,if_pos (.inr (by simpa using h))]
  rw [e] at k;exact k 0 r [] _ tl0 (by simp) (S2.trans (c7.new hr' _)) (S2.free hr') c5 .nil
 have nq:qs ≠ []:=λz=>h (by simp [z])
 have lx:=hN.length;have ly:=hN'.length;have lp:0<ps.length:=v0p.mpr np;have lq:0<qs.length:=v0p.mpr nq;refine ⟨v8,λp3 hp3=>⟨bd7,λp4 hp4=>?_⟩⟩;have S3:=S2.trans (c7.new hp3 (.tup [.int 0,.int 1]));have S4:=S3.trans (c7.new hp4 (.lst [.ref p3]));refine ⟨_,.inl (S4.seq hS),_,.inl (S4.seq hS'),_,c5,⋯,⋯,?_,λl hl0=>?_⟩
 ·simp only [z0n,v0u]
  exact z0d (show _<=40 by omega) (by decide)
 have hz:(q0z ((xs.length:Int)+(ys.length:Int)-1).toNat [V.ref p3]).flatten=q0z (ps.length+qs.length-1) (V.ref p3):=by
  have e:((xs.length:Int)+(ys.length:Int)-1).toNat=ps.length+qs.length-1:=⋯;rw [e,List.flatten_replicate_singleton]
 rw [hz];have S5:=S4.trans (c7.new hl0 (.lst (q0z (ps.length+qs.length-1) (.ref p3))));have hlH:H l=none:=S4.free hl0;have ez:(upd (upd (upd (upd (upd H p (.lst [])) p2 (.lst [])) p3 (.tup [.int 0,.int 1])) p4 (.lst [.ref p3])) l (.lst (q0z (ps.length+qs.length-1) (.ref p3)))) p3=some (.tup (t7 0)):=c7.new hl0 _ _ _ (c7.new hp4 _ _ _ c5)
 refine ⟨_,rfl,a,rfl,⟨_,S5.seq hS⟩,aH5 xs (λi σ H2 => ∃ o3 o4 o5 o6,σ=[some (.ref a),some (.ref b),some (.ref l),o3,o4,o5,o6]/\c7 H H2/\∃ zs,H2 l=some (.lst zs)/\t5 H2 zs (B7 0 (q0z (ps.length+qs.length-1) (0:Rat)) ps qs i)/\∀ v ∈ B7 0 (q0z (ps.length+qs.length-1) (0:Rat)) ps qs i,OvB (B*C) (V'+W+i*qs.length) v)
  ⟨_,_,_,_,rfl,S5,_,c5,t5.rep ez _,λv hv=>by rw [(List.mem_replicate.mp hv).2];exact OvB.zero _ _⟩ (λi σ H2 ⟨_,_,_,_,_,s2,_⟩=>s2.seq hS) ?_ ?_⟩
 ·rintro i x σ H2 r hx ⟨o3,o4,o5,o6,rfl,s2,zs,e2,n2,b2⟩ hr'
  obtain ⟨px,q,rfl,hq,hpx⟩:=hN.getV hx;have hi:=(q0g.mp hq).1;have sr:=c7.new hr' (.tup [.int i,.ref px]);refine ⟨_,_,rfl,SqT.of c5,rfl,_,_,rfl,_,_,rfl,rfl,?_⟩
  refine ⟨_,rfl,b,rfl,⟨_,(s2.trans sr).seq hS'⟩,aH5 ys (λj σ H4 => ∃ o5 o6,σ=[some (.ref a),some (.ref b),some (.ref l),some (.int i),some (.ref px),o5,o6]/\c7 H H4/\∃ zs,H4 l=some (.lst zs)/\t5 H4 zs (E8 0 (B7 0 (q0z (ps.length+qs.length-1) (0:Rat)) ps qs i) i q qs j)/\∀ v ∈ E8 0 (B7 0 (q0z (ps.length+qs.length-1) (0:Rat)) ps qs i) i q qs j,OvB (B*C) (V'+W+(i*qs.length+j)) v)
   ⟨_,_,rfl,s2.trans sr,_,sr _ _ e2,n2.mono sr.tups,b2⟩ (λi σ H2 ⟨_,_,_,s2,_⟩=>s2.seq hS') ?_ ?_⟩
  ·rintro j y σ H4 t hy ⟨o5,o6,rfl,s4,zs4,e4,n4,b4⟩ ht
   obtain ⟨py,q',rfl,hq',hpy⟩:=hN'.getV hy;have hj:=(q0g.mp hq').1;have st:=c7.new ht (.tup [.int j,.ref py]);have e5:=st _ _ e4
   have hF:i+j<(E8 0 (B7 0 (q0z (ps.length+qs.length-1) (0:Rat)) ps qs i) i q qs j).length:=by
    rw [ao5,ag1,v0f];omega
   have eg:=q0c hF;obtain ⟨pv,hv,hpv⟩:=(n4.mono st.tups).get eg;have ec:(i:Int)+(j:Int)=((i+j:Nat):Int):=⋯
   have hc:i*qs.length+j<400:=by
    have h1:i*qs.length<=19*qs.length:=u0v _ ⋯;omega
   subst_eqs
   have o1:=hs q (q0h hq);have o2:=hs' q' (q0h hq');have sq:=o1.bt hB hBe ⋯;have sq':=o2.bt hC hCe ⋯;refine ⟨_,SqT.of c5,rfl,_,_,rfl,_,_,rfl,rfl,_,rfl,_,SqL.of e5,_,(by rw [ec];exact C7 hv),?_⟩
   refine ⟨_,_,q,q',e,e,rfl,⟨px,rfl,SqT.of (st _ _ (s4 _ _ hpx))⟩,⟨py,rfl,SqT.of (st _ _ (s4 _ _ hpy))⟩,sq,sq',⋯,λr1 H5 s5 er1=>?_⟩;have bold:=b4 _ (List.getElem_mem hF);refine ⟨_,_,_,_,e,e,rfl,⟨pv,rfl,SqT.of (s5 _ _ hpv)⟩,⟨r1,rfl,SqT.of er1⟩,bold.bt hBCp hBC ⋯,(o1.mul o2).bt hBCp hBC ⋯,⋯,λr2 H6 s6 er2=>?_⟩;have e6:=s6 _ _ (s5 _ _ e5);have lz:zs4.length=(E8 0 (B7 0 (q0z (ps.length+qs.length-1) (0:Rat)) ps qs i) i q qs j).length:=n4.length;have n6:t5 H6 zs4 (E8 0 (B7 0 (q0z (ps.length+qs.length-1) (0:Rat)) ps qs i) i q qs j):=((n4.mono st.tups).mono s5.tups).mono s6.tups
   have estep:E8 0 (B7 0 (q0z (ps.length+qs.length-1) (0:Rat)) ps qs i) i q qs (j+1)=Z0 (E8 0 (B7 0 (q0z (ps.length+qs.length-1) (0:Rat)) ps qs i) i q qs j) (i+j) (q*q'):=by
    rw [E8,hq'];rfl
   refine ⟨_,rfl,_,e6,i+j,?_,(s4.trans (st.trans (s5.trans s6))).over hlH _,_,c5,?_,?_⟩
   ·rw [ec]
    unfold ixN;rw [if_pos ⋯,if_pos (by rw [lz];omega)]
    rfl
   ·rw [estep,<- az5 _ _ _ _ eg]
    exact (n6.set (i+j) er2).mono (X1.lst e6)
   ·rw [estep]
    intro v hv';exact (aS0 hBCp b4 ((o1.mul o2).mono ⋯) v hv').mono ⋯
  ·rintro σ H4 ⟨o5,o6,rfl,s4,zs4,e4,n4,b4⟩
   refine ⟨_,_,_,_,rfl,s4,zs4,e4,?_,?_⟩
   ·rw [ly] at n4
    rw [B7,hq];exact n4
   ·rw [ly] at b4
    rw [B7,hq];intro v hv;refine (b4 v hv).mono ?_;have e:(i+1)*qs.length=i*qs.length+qs.length:=by grind
    omega
 ·rintro σ H2 ⟨o3,o4,o5,o6,rfl,s2,zs,e2,n2,b2⟩
  rw [lx] at n2 b2;have em:G9 ps qs=B7 0 (q0z (ps.length+qs.length-1) 0) ps qs ps.length:=by rw [G9,if_neg (by simp [np,nq])]
  rw [<- em] at n2 b2;refine ⟨_,rfl,l,zs,_,rfl,SqL.of e2,n2,λm r H3 tl s3 hr' e3=>?_⟩;refine k m r _ _ tl (λv hv=>(b2 v hv).mono ?_) (s2.trans s3) (s2.free hr') e3 ((n2.take m).mono s3.tups);have:ps.length*qs.length<=20*20:=Nat.mul_le_mul hl hl';omega
theorem bg8 {q:Rat} {b:Nat} (s:BdN b q) (h:q ≠ 0):∃ q',t7 q'=[.int (if q.num<0 then -q.num else q.num),.int (q.den:Int)]/\BdN b q'/\q' ≠ 0:=by
 by_cases hs:0<=q.num
 ·exact ⟨q,by unfold t7;rw [if_neg ⋯],s,h⟩
 ·refine ⟨-q,by unfold t7;rw [u0z,m0f,if_pos ⋯],⟨by rw [u0z,u0y];exact s.n,by rw [m0f];exact s.d⟩,λz=>h ?_⟩
  grind
abbrev U7:Stmt:=top 40
theorem ai0:i7 ["_law_urn_here","_law_kind_here","_law_found"] ["_law_urn_here","_law_kind_here"] (c9 U7):=by and_intros
theorem at8 {f f1:Addr} (d:Df K mg "_law_above" U7 ["_law_urn_here","_law_kind_here"] f) (GD__law_other:Def P w K mg base CX0 3 "_law_other" f1 ["_law_urn_here","_law_kind_here"] W3) (n_abs:mg "abs" = none):Def P w K mg base CX0 4 "_law_above" f ["_law_urn_here","_law_kind_here"] W3:=by
 refine d.ok (N:=["_law_urn_here","_law_kind_here","_law_found"]) ai0 (by rintro vs H Q E ⟨_,_,h,_⟩;rw [h];rfl) (λcdv A outer s H vs Q E hr h=>?_)
 obtain ⟨u,kd,rfl,hu,k⟩:=h;have G__law_other:=GD__law_other
 refine ⟨_,(c6 (g8 (i:=2) ai0.nd rfl (q0w rfl) (d4 G__law_other hr (b6 (pv 0) (b6 (pv 1) b8)) f9))
   (d2 (i5 (j3 (b6 (j8 ab1 rfl n_abs (by decide +kernel) (b6 (j4 l6 (pv 2) b9 (λ_ _=>rfl)) b8)) (b6 (j4 l6 (pv 2) b9 (λ_ _=>rfl)) b8)))))),?_⟩
 rw [show start ["_law_urn_here","_law_kind_here","_law_found"] [.ref u,.int kd]=[some (.ref u),some (.int kd),none] from rfl]
 subst_eqs
 refine ⟨u,kd,rfl,hu,λr q H1 sm q0 s1 u1 e1=>?_⟩;obtain ⟨q',e',b',z'⟩:=bg8 sm q0;refine ⟨r,rfl,_,SqT.of e1,_,at0 q,_,rfl,r,rfl,_,SqT.of e1,_,at1 q,v8,λp hp=>?_⟩;refine k p q' _ b' z' (s1.trans (c7.x (c7.new hp _) u)) (J0 u1 hp) ?_;rw [c5,e']
def aI7 (K:q0a):Sp:=λvs H Q _ => ∃ x q,vs=[x]/\Num K H x q/\∀ i:Int,-1<=i->i<=1->Q (.int i) H
abbrev X8:Stmt:=top 36
theorem aA7:i7 ["_law_number_here"] ["_law_number_here"] (c9 X8):=by and_intros
theorem aC1 {f:Addr} (d:Df K mg "_law_sign" X8 ["_law_number_here"] f) (n_int:mg "int" = none):Def P w K mg base CX0 1 "_law_sign" f ["_law_number_here"] (aI7 K):=by
 refine d.ok (N:=["_law_number_here"]) aA7 (by rintro vs H Q E ⟨_,_,h,_⟩;rw [h];rfl) (λcdv A outer s H vs Q E hr h=>?_)
 obtain ⟨x,q,rfl,⟨a,rfl,ha⟩,k⟩:=h;refine ⟨_,(d2 (i5 (g7 M0 (w4 C2 rfl n_int (by decide +kernel) (b6 (B6 ac8 (j4 l6 (pv 0) b9 (λ_ _=>rfl)) b9 (j1 _)) b8)) (w4 C2 rfl n_int (by decide +kernel) (b6 (B6 ac7 (j4 l6 (pv 0) b9 (λ_ _=>rfl)) b9 (j1 _)) b8))))),?_⟩
 rw [show start ["_law_number_here"] [.ref a]=[some (.ref a)] from rfl]
 subst_eqs
 refine ⟨_,ha,_,at0 q,_,rfl,_,ha,_,at0 q,_,rfl,k _ ?_ ?_⟩
 ·split <;> split <;> omega
 ·split <;> split <;> omega
structure ai3 (u:Addr) (H:Hp) (t l rt:Addr) (xs:List V) (fs:List Rat) (i j m:Int) (C:Nat):Prop where
 tu:t ≠ u
 et:H t=some (.tup [.ref l,.ref rt])
 ls:LsX u H l xs fs
 ru:rt ≠ u
 er:H rt=some (.tup [.int i,.int j,.int m])
 l2:2<=fs.length
 l5:fs.length<=5
 C0:0<C
 C1:C<2 ^ 12
 ov:∀ x ∈ fs,OvB C 14 x
 last:fs[fs.length-1]? = some 1
theorem Y5 {q:Rat} {b:Nat} (h:BdN b q):OvB q.den b q:=⟨q.num,(z0e q).symm,h.n⟩
theorem ar5 {C:Nat} (hC:0<C) {W:Nat} (h:C<2 ^ W):OvB C W 1:=by
 refine ⟨C,?_,by rw [z0b];exact h⟩
 have hz:(C:Int) ≠ 0:=⋯;exact (Rat.divInt_self' hz).symm
theorem aZ4 {v:Int} {W:Nat} (h:v.natAbs<2 ^ W):OvB 1 W (v:Rat):=by
 refine ⟨v,?_,h⟩;have:=z0e (v:Rat);rw [u0t,u0u] at this;exact this.symm
theorem Z9:(3:Nat)<=sizeLine:=by decide
theorem bi3 {P:Rat->Prop} {a b c:Rat} (ha:P a) (hb:P b) (hc:P c):∀ x ∈ [a,b,c],P x:=λx hx=>by
 simp only [z0r,g0n,or_false] at hx;rcases hx with rfl | rfl | rfl
 ·exact ha
 ·exact hb
 ·exact hc
theorem bk5 {P:Rat->Prop} {a b:Rat} (ha:P a) (hb:P b):∀ x ∈ [a,b],P x:=λx hx=>by
 simp only [z0r,g0n,or_false] at hx;rcases hx with rfl | rfl
 ·exact ha
 ·exact hb
theorem U9 (q:Rat):0<q.den:=by have:=q.den_nz;omega
def aF1 (K:q0a):Sp:=λvs H Q _ => ∃ u kd,vs=[.ref u,.int kd]/\k8 H u/\(kd=0 \/ kd=1)/\∀ t l rt xs fs i j m C H',l4 u H H'->k8 H' u->ai3 u H' t l rt xs fs i j m C->Q (.ref t) H'
abbrev P0:Stmt:=top 44
theorem A7:i7 ["_law_urn_here","_law_kind_here","_law_way","_law_v","_law_root","_law_sign_here","_law_u","_law_found"] ["_law_urn_here","_law_kind_here"] (c9 P0):=by and_intros
theorem at5 {f f1 f3 f4 f5 f6 f7:Addr} (d:Df K mg "_law_factor" P0 ["_law_urn_here","_law_kind_here"] f) (G__law_draw:Def P w K mg base CX0 1 "_law_draw" f1 ["_law_urn_here","_law_many"] C8) (G__law_times:Def P w K mg base CX0 2 "_law_times" f3 ["_law_one","_law_other_here"] (E7 K (· * ·))) (G__law_plus:Def P w K mg base CX0 2 "_law_plus" f4 ["_law_one","_law_other_here"] (E7 K (· + ·))) (GD__law_number:Def P w K mg base CX0 2 "_law_number" f5 ["_law_urn_here","_law_kind_here"] N6) (GD__law_above:Def P w K mg base CX0 4 "_law_above" f6 ["_law_urn_here","_law_kind_here"] W3) (G__law_sign:Def P w K mg base CX0 1 "_law_sign" f7 ["_law_number_here"] (aI7 K)) (n_int:mg "int" = none):Def P w K mg base CX0 5 "_law_factor" f ["_law_urn_here","_law_kind_here"] (aF1 K):=by
 refine d.ok (N:=["_law_urn_here","_law_kind_here","_law_way","_law_v","_law_root","_law_sign_here","_law_u","_law_found"]) A7 (by rintro vs H Q E ⟨_,_,h,_⟩;rw [h];rfl) (λcdv A outer s H vs Q E hr h=>?_)
 obtain ⟨u,kd,rfl,hU,hk,k⟩:=h;have G__law_number:=GD__law_number;have G__law_above:=GD__law_above;have hb:bK kd=4:=by rcases hk with rfl | rfl <;> rfl
 refine ⟨_,(c6 (g8 (i:=2) A7.nd rfl (q0w rfl) (d4 G__law_draw hr (b6 (pv 0) (b6 b9 b8)) f9))
   (c6 (B8 (j9 ac7 (pv 2) b9 (j1 _)) (c6 (g8 (i:=4) A7.nd rfl (q0w rfl) (d4 G__law_number hr (b6 (pv 0) (b6 (pv 1) b8)) f9))
   (c6 (g8 (i:=5) A7.nd rfl (q0w rfl) (d4 G__law_sign hr (b6 (pv 4) b8) f9))
   (d2 (i5 (j3 (b6 (B5 (b6 (j3 (b6 (g7 M0 b9 (j4 l6 (pv 4) b9 (λ_ _=>rfl))) (b6 (j4 l6 (pv 4) b9 (λ_ _=>rfl)) b8))) (b6 (j3 (b6 b9 (b6 b9 b8))) b8))) (b6 (j3 (b6 (w4 C2 rfl n_int (by decide +kernel) (b6 (B6 ac7 (pv 5) b9 (j1 _)) b8)) (b6 (w4 C2 rfl n_int (by decide +kernel) (b6 (B6 S9 (pv 5) b9 (j1 _)) b8)) (b6 (w4 C2 rfl n_int (by decide +kernel) (b6 (B6 ac8 (pv 5) b9 (j1 _)) b8)) b8)))) b8))))))) p9)
   (c6 (g8 (i:=3) A7.nd rfl (q0w rfl) (d4 G__law_above hr (b6 (pv 0) (b6 (pv 1) b8)) f9))
   (c6 (B8 (j9 ac7 (pv 2) b9 (j1 _)) (c6 (g8 (i:=6) A7.nd rfl (q0w rfl) (as9 (j9 ac7 (pv 2) b9 (j1 _)) (d4 G__law_number hr (b6 (pv 0) (b6 (pv 1) b8)) f9) (j3 (b6 b9 (b6 b9 b8)))))
   (c6 (g8 (i:=5) A7.nd rfl (q0w rfl) (d4 G__law_sign hr (b6 (pv 6) b8) f9))
   (c6 (g8 (i:=7) A7.nd rfl (q0w rfl) (B5 (b6 (d4 G__law_plus hr (b6 (d4 G__law_times hr (b6 (pv 6) (b6 (pv 6) b8)) f9) (b6 (pv 3) b8)) f9) (b6 (d4 G__law_times hr (b6 (j3 (b6 (ax8 an7 b9) (b6 b9 b8))) (b6 (pv 6) b8)) f9) (b6 (j3 (b6 b9 (b6 b9 b8))) b8)))))
   (d2 (i5 (j3 (b6 (pv 7) (b6 (j3 (b6 (g7 p7 b9 (w4 C2 rfl n_int (by decide +kernel) (b6 (B6 ac7 (pv 5) b9 (j1 _)) b8))) (b6 (g7 p7 b9 (w4 C2 rfl n_int (by decide +kernel) (b6 (B6 S9 (pv 5) b9 (j1 _)) b8))) (b6 (g7 p7 b9 (w4 C2 rfl n_int (by decide +kernel) (b6 (B6 ac8 (pv 5) b9 (j1 _)) b8))) b8)))) b8)))))))) p9)
   (c6 (B8 (j9 S9 (pv 2) b9 (j1 _)) (d2 (i5 (j3 (b6 (B5 (b6 (j3 (b6 (g7 M0 b9 (j4 l6 (pv 3) b9 (λ_ _=>rfl))) (b6 (j4 l6 (pv 3) b9 (λ_ _=>rfl)) b8))) (b6 (j3 (b6 b9 (b6 b9 b8))) (b6 (j3 (b6 b9 (b6 b9 b8))) b8)))) (b6 (j3 (b6 b9 (b6 b9 (b6 b9 b8)))) b8))))) p9)
   (d2 (i5 (j3 (b6 (B5 (b6 (pv 3) (b6 (j3 (b6 b9 (b6 b9 b8))) (b6 (j3 (b6 b9 (b6 b9 b8))) (b6 (j3 (b6 b9 (b6 b9 b8))) (b6 (j3 (b6 b9 (b6 b9 b8))) b8)))))) (b6 (j3 (b6 b9 (b6 b9 (b6 b9 b8)))) b8)))))))))),?_⟩
 rw [show start ["_law_urn_here","_law_kind_here","_law_way","_law_v","_law_root","_law_sign_here","_law_u","_law_found"] [.ref u,.int kd]=[some (.ref u),some (.int kd),none,none,none,none,none,none] from rfl]
 refine h9 (λσ H1 => ∃ wy:Int,σ=[some (.ref u),some (.int kd),some (.int wy),none,none,none,none,none]/\l4 u H H1/\k8 H1 u/\0<=wy/\wy<8) (λN hN=>?_) ?_
 ·simp! [C8]
  exact ⟨hU,by decide,by decide,λr H1 r0 r7 s1 u1=>hN _ _ ⟨r,rfl,s1,u1,r0,r7⟩⟩
 rintro σ H1 ⟨wy,rfl,s1,u1,w0,w8⟩;refine h9 (λσ H2=>σ=[some (.ref u),some (.int kd),some (.int wy),none,none,none,none,none]/\H1=H2) (λN hN=>?_) ?_
 ·subst_eqs
  refine F2 (λhw=>?_) (λhw=>hN _ _ ⟨rfl,rfl⟩);refine ⟨u,kd,rfl,u1,λpr root H3 br s3 u3 e3=>?_⟩;rw [hb] at br;refine ⟨_,root,rfl,⟨pr,rfl,SqT.of e3⟩,λsi _ _=>?_⟩;refine ⟨pr,rfl,_,SqT.of e3,_,at0 root,_,rfl,pr,rfl,_,SqT.of e3,_,at1 root,v8,λq1 h1=>⟨v8,λq2 h2=>⟨v8,λq3 h3=>⟨si,rfl,rfl,si,rfl,Z9,λq4 h4=>⟨v8,λq5 h5=>?_⟩⟩⟩⟩⟩;have S1:=c7.new h1 (.tup [.int (0-root.num),.int root.den]);have S2:=c7.new h2 (.tup [.int 1,.int 1]);have S3:=c7.new h3 (.lst [.ref q1,.ref q2]);have S4:=c7.new h4 (.tup [.int (if si<0 then 1 else 0),.int (if V.int si=V.int 0 then 1 else 0),.int (if 0<si then 1 else 0)]);have S5:=c7.new h5 (.tup [.ref q3,.ref q4]);have T4:=S4.trans S5;have T3:=S3.trans T4;have T2:=S2.trans T3;have T1:=S1.trans T2;have v3:=c7.urn (S1.trans S2) u3;have v4:=c7.urn S3 v3;have v5:=c7.urn S4 v4;have en:(HO.tup [V.int (0-root.num),V.int root.den])=.tup (t7 (-root)):=by unfold t7;rw [u0z,m0f,m0z]
  exact k q5 q3 q4 [.ref q1,.ref q2] [-root,1] _ _ _ root.den _ ((s1.trans s3).trans (c7.x T1 u)) (c7.urn T1 u3) ⟨w5 v5 h5,c5,⟨w5 v3 h3,T4 _ _ c5,.cons (T2 _ _ (by rw [c5,en])) (.cons (T3 _ _ c5) .nil)⟩,w5 v4 h4,S5 _ _ c5,by simp,by simp,U9 _,q0b br.d (by decide),bk5 ((Y5 br).neg.mono (by decide)) (ar5 (U9 _) (q0b br.d (by decide))),rfl⟩
 rintro σ H2 ⟨rfl,rfl⟩;refine h9 (λσ H2 => ∃ av v,σ=[some (.ref u),some (.int kd),some (.int wy),some (.ref av),none,none,none,none]/\l4 u H H2/\k8 H2 u/\H2 av=some (.tup (t7 v))/\BdN 4 v) (λN hN=>?_) ?_
 ·subst_eqs
  refine ⟨u,kd,rfl,u1,λr v H2 bv v0 s2 u2 e2=>hN _ _ ⟨r,v,rfl,s1.trans s2,u2,e2,by rw [hb] at bv;exact bv⟩⟩
 clear s1 u1;rintro σ H2 ⟨av,v,rfl,s2,u2,ev,bv⟩
 have quad:∀ (pu:Addr) (u0:Rat) (H3:Hp),l4 u H2 H3->k8 H3 u->H3 pu=some (.tup (t7 u0))->BdN 4 u0->aI7 K [V.ref pu] H3 (λx_1 H1=>E7 K (λx1 x2=>x1*x2) [V.ref pu,V.ref pu] H1 (λx_2 H1=>E7 K (λx1 x2=>x1+x2) [x_2,V.ref av] H1 (λx_3 H1=>0+1+1<=sizeLine/\∀ (p:Addr),H1 p=none->E7 K (λx1 x2=>x1*x2) [V.ref p,V.ref pu] (upd H1 p (HO.tup [V.int (-2),V.int 1])) (λx H1=>0+1+1<=sizeLine/\∀ (p:Addr),H1 p=none->0+1+1+1<=sizeLine/\∀ (p_1:Addr),upd H1 p (HO.tup [V.int 1,V.int 1]) p_1=none->∃ i,x_1=V.int i/\IntMulOk 2 (if i<0 then 1 else 0)/\aA3 x_1 (V.int 0)=true/\IntMulOk 2 (if x_1=V.int 0 then 1 else 0)/\∃ i_1,x_1=V.int i_1/\IntMulOk 2 (if 0<i_1 then 1 else 0)/\0+1+1+1<=sizeLine/\∀ (p_2:Addr),upd (upd H1 p (HO.tup [V.int 1,V.int 1])) p_1 (HO.lst [x_3,x,V.ref p]) p_2=none->0+1+1<=sizeLine/\∀ (p_3:Addr),upd (upd (upd H1 p (HO.tup [V.int 1,V.int 1])) p_1 (HO.lst [x_3,x,V.ref p])) p_2 (HO.tup [V.int (2*if i<0 then 1 else 0),V.int (2*if x_1=V.int 0 then 1 else 0),V.int (2*if 0<i_1 then 1 else 0)]) p_3=none->Q (V.ref p_3) (upd (upd (upd (upd H1 p (HO.tup [V.int 1,V.int 1])) p_1 (HO.lst [x_3,x,V.ref p])) p_2 (HO.tup [V.int (2*if i<0 then 1 else 0),V.int (2*if x_1=V.int 0 then 1 else 0),V.int (2*if 0<i_1 then 1 else 0)])) p_3 (HO.tup [V.ref p_1,V.ref p_2]))) E0) E0) E0) E0:=λpu u0 H3 s3 u3 e3 bu=>by
  have ev3:=s3.tups u2 _ _ ev;refine ⟨_,u0,rfl,⟨pu,rfl,SqT.of e3⟩,λsi _ _=>?_⟩;refine ⟨.ref pu,.ref pu,u0,u0,4,4,rfl,⟨pu,rfl,SqT.of e3⟩,⟨pu,rfl,SqT.of e3⟩,bu.t (by decide),bu.t (by decide),by decide,λp4 H4 s4 e4=>?_⟩
  refine ⟨.ref p4,.ref av,_,v,8,4,rfl,⟨p4,rfl,SqT.of e4⟩,⟨av,rfl,SqT.of (s4 _ _ ev3)⟩,(bu.mul bu).t (by decide),bv.t (by decide),by decide,λpf H5 s5 e5=>⟨v8,λq1 h1=>?_⟩⟩
  have S1:=c7.new h1 (.tup [.int (-2),.int 1]);refine ⟨.ref q1,.ref pu,(((-2:Int)):Rat),u0,2,4,rfl,⟨q1,rfl,SqT.of c5⟩,⟨pu,rfl,SqT.of (S1 _ _ (s5 _ _ (s4 _ _ e3)))⟩,(show BdN 2 (((-2:Int)):Rat) from ⟨by decide,by decide⟩).t (by decide),bu.t (by decide),by decide,λp6 H6 s6 e6=>?_⟩
  refine ⟨v8,λq2 h2=>⟨Z9,λq3 h3=>?_⟩⟩;have m2:∀ c:Prop,[Decidable c]->IntMulOk 2 (if c then 1 else 0):=λc _=>by split <;> exact aP6 (by decide)
  refine ⟨si,rfl,m2 _,rfl,m2 _,si,rfl,m2 _,Z9,λq7 h7=>⟨v8,λq8 h8=>?_⟩⟩;have S2:=c7.new h2 (.tup [.int 1,.int 1]);have S3:=c7.new h3 (.lst [.ref pf,.ref p6,.ref q2]);have S7:=c7.new h7 (.tup [V.int (2*if si<0 then 1 else 0),V.int (2*if V.int si=V.int 0 then 1 else 0),V.int (2*if 0<si then 1 else 0)]);have S8:=c7.new h8 (.tup [.ref q3,.ref q7]);have T7:=S7.trans S8;have T3:=S3.trans T7;have T2:=S2.trans T3;have T1:=S1.trans (s6.trans T2);have T:=s4.trans (s5.trans T1);have v2:=c7.urn (((s4.trans s5).trans S1).trans (s6.trans S2)) u3;have v3:=c7.urn S3 v2;have v7:=c7.urn S7 v3;have du:=U9 u0;have dv:=U9 v;have C0:0<u0.den*u0.den*v.den:=z0z (z0z du du) dv;have d8:u0.den*u0.den<2 ^ (4+4):=by rw [z0w];exact z0h bu.d bu.d
  have C1:u0.den*u0.den*v.den<2 ^ 12:=by
   have:u0.den*u0.den*v.den<2 ^ (4+4+4):=by rw [z0w 2 (4+4) 4];exact z0h d8 bv.d
   exact this
  have o1:OvB (u0.den*u0.den*v.den) 14 (u0*u0+v):=by
   have a1:=((Y5 bu).mul (Y5 bu)).up (z0z du du) dv bv.d;have a2:=(Y5 bv).up dv (z0z du du) d8;rw [g0j v.den] at a2;exact (a1.add C0 (a2.mono (by decide))).mono (by decide)
  have o2:OvB (u0.den*u0.den*v.den) 14 (((-2:Int):Rat)*u0):=by
   have a1:=(aZ4 (v:=-2) (W:=2) (by decide)).mul (Y5 bu)
   rw [Nat.one_mul] at a1;have d9:u0.den*v.den<2 ^ (4+4):=by rw [z0w];exact z0h bu.d bv.d
   have a2:=a1.up du (z0z du dv) d9;rw [<- m0r] at a2;exact a2.mono (by decide)
  exact k q8 q3 q7 [.ref pf,.ref p6,.ref q2] [u0*u0+v,((-2:Int):Rat)*u0,1] _ _ _ (u0.den*u0.den*v.den) _ ((s2.trans s3).trans (c7.x T u)) (c7.urn T u3) ⟨w5 v7 h8,c5,⟨w5 v2 h3,T7 _ _ c5,.cons (T1 _ _ e5) (.cons (T2 _ _ e6) (.cons (T3 _ _ c5) .nil))⟩,w5 v3 h7,S8 _ _ c5,by simp,by simp,C0,C1,bi3 o1 o2 (ar5 C0 (q0b C1 (by decide))),rfl⟩
 subst_eqs
 refine F2 (λhw=>F2 (λh5=>?_) (λh5=>?_)) (λhw=>⟨rfl,F2 (λh6=>?_) (λh6=>?_)⟩)
 ·refine ⟨u,kd,rfl,u2,λpu u0 H3 bu s3 u3 e3=>?_⟩
  rw [hb] at bu;exact quad pu u0 H3 s3 u3 e3 bu
 ·refine ⟨v8,λp hp=>quad p 0 _ (c7.x (c7.new hp _) u) (J0 u2 hp) c5 ⟨by decide,by decide⟩⟩
 ·refine ⟨_,SqT.of ev,_,at0 v,_,rfl,_,SqT.of ev,_,at1 v,v8,λq1 h1=>⟨v8,λq2 h2=>⟨v8,λq3 h3=>⟨Z9,λq4 h4=>⟨Z9,λq5 h5=>⟨v8,λq7 h7=>?_⟩⟩⟩⟩⟩⟩
  have en:(HO.tup [V.int (0-v.num),V.int v.den])=.tup (t7 (-v)):=by unfold t7;rw [u0z,m0f,m0z]
  rw [en] at h2 h3 h4 h5 h7 ⊢;have S1:=c7.new h1 (.tup (t7 (-v)));have S2:=c7.new h2 (.tup [.int 0,.int 1]);have S3:=c7.new h3 (.tup [.int 1,.int 1]);have S4:=c7.new h4 (.lst [.ref q1,.ref q2,.ref q3]);have S5:=c7.new h5 (.tup [.int 1,.int 0,.int 1]);have S7:=c7.new h7 (.tup [.ref q4,.ref q5]);have T5:=S5.trans S7;have T4:=S4.trans T5;have T3:=S3.trans T4;have T2:=S2.trans T3;have T1:=S1.trans T2;have v3:=c7.urn (S1.trans (S2.trans S3)) u2;have v4:=c7.urn S4 v3;have v5:=c7.urn S5 v4;exact k q7 q4 q5 [.ref q1,.ref q2,.ref q3] [-v,0,1] _ _ _ v.den _ (s2.trans (c7.x T1 u)) (c7.urn T1 u2) ⟨w5 v5 h7,c5,⟨w5 v3 h4,T5 _ _ c5,.cons (T2 _ _ c5) (.cons (T3 _ _ c5) (.cons (T4 _ _ c5) .nil))⟩,w5 v4 h5,S7 _ _ c5,by simp,by simp,U9 _,q0b bv.d (by decide),bi3 ((Y5 bv).neg.mono (by decide)) (OvB.zero _ _) (ar5 (U9 _) (q0b bv.d (by decide))),rfl⟩
 ·refine ⟨v8,λq1 h1=>⟨v8,λq2 h2=>⟨v8,λq3 h3=>⟨v8,λq4 h4=>⟨(by decide:5<=sizeLine),λq5 h5=>⟨Z9,λq6 h6=>⟨v8,λq7 h7=>?_⟩⟩⟩⟩⟩⟩⟩
  have S1:=c7.new h1 (.tup [.int 0,.int 1]);have S2:=c7.new h2 (.tup [.int 0,.int 1]);have S3:=c7.new h3 (.tup [.int 0,.int 1]);have S4:=c7.new h4 (.tup [.int 1,.int 1]);have S5:=c7.new h5 (.lst [.ref av,.ref q1,.ref q2,.ref q3,.ref q4]);have S6:=c7.new h6 (.tup [.int 2,.int 0,.int 2]);have S7:=c7.new h7 (.tup [.ref q5,.ref q6]);have T5:=S6.trans S7;have T4:=S5.trans T5;have T3:=S4.trans T4;have T2:=S3.trans T3;have T1:=S2.trans T2;have T:=S1.trans T1;have v4:=c7.urn (S1.trans (S2.trans (S3.trans S4))) u2;have v5:=c7.urn S5 v4;have v6:=c7.urn S6 v5;refine k q7 q5 q6 [.ref av,.ref q1,.ref q2,.ref q3,.ref q4] [v,0,0,0,1] _ _ _ v.den _ (s2.trans (c7.x T u)) (c7.urn T u2) ⟨w5 v6 h7,c5,⟨w5 v4 h5,T5 _ _ c5,.cons (T _ _ ev) (.cons (T1 _ _ c5) (.cons (T2 _ _ c5) (.cons (T3 _ _ c5) (.cons (T4 _ _ c5) .nil))))⟩,w5 v5 h6,S7 _ _ c5,by simp,by simp,U9 _,q0b bv.d (by decide),λx hx=>?_,rfl⟩
  simp only [z0r,g0n,or_false] at hx;rcases hx with rfl | rfl | rfl | rfl | rfl
  ·exact (Y5 bv).mono (by decide)
  ·exact OvB.zero _ _
  ·exact OvB.zero _ _
  ·exact OvB.zero _ _
  ·exact ar5 (U9 _) (q0b bv.d (by decide))
end
end R
set_option maxRecDepth 100000
namespace L2
open PySem PySem.Spec PyProof.Rows
section
variable {K:q0a} {a b D:Addr} {xs ys:List V} {g:TG} {te:TE} {σ0:St} {H0:Hp} {Q:VK}
theorem bb1 (xs ys:List V) (Pv:Nat->St->Hp->Prop) (h0:Pv 0 σ0 H0) (hl:∀ i σ H,Pv i σ H->SqT K H a xs/\SqT K H b ys)
  (hs:∀ i x y σ H p,xs[i]? = some x->ys[i]? = some y->Pv i σ H->H p=none->g (.ref p) σ (upd H p (.tup [x,y])) λσ4 H4=>te σ4 H4 λv H5=>o0 D (min xs.length ys.length) Pv i σ4 v H5)
  (hd:∀ σ H,Pv (min xs.length ys.length) σ H->Q (.ref D) H):X2 (bh5 K a b) D σ0 H0 g te Q:=by
 refine ⟨λi m σ H=>m=min xs.length ys.length-i/\i<=min xs.length ys.length/\Pv i σ H,⟨_,rfl,z0u _,h0⟩,?_⟩;rintro i m σ H ⟨rfl,hi,p⟩;obtain ⟨q,q'⟩:=hl i σ H p
 by_cases hlt:i<min xs.length ys.length
 ·have h1:i<xs.length:=⋯
  have h2:i<ys.length:=⋯;refine .inr ⟨⟨xs,ys,xs[i],ys[i],q,q',q0c h1,q0c h2⟩,?_⟩;intro v H3 hy;obtain ⟨x,y,r,e1,e2,hr,rfl,rfl⟩:=hy xs ys q q';exact hs i x y σ _ r e1 e2 p hr
 ·have e:i=min xs.length ys.length:=⋯
  subst e;exact .inl ⟨⟨xs,ys,q,q',⋯⟩,hd σ H p⟩
end
end L2
set_option maxRecDepth 100000
namespace R
open PySem L2 PyProof.Rows
theorem ai3.same {u:Addr} {H H':Hp} {t l rt:Addr} {xs:List V} {fs:List Rat} {i j m:Int} {C:Nat} (f:ai3 u H t l rt xs fs i j m C) (s:c7 H H'):ai3 u H' t l rt xs fs i j m C:=⟨f.tu,s _ _ f.et,f.ls.same s,f.ru,s _ _ f.er,f.l2,f.l5,f.C0,f.C1,f.ov,f.last⟩
theorem ai3.samex {u:Addr} {H H':Hp} {t l rt:Addr} {xs:List V} {fs:List Rat} {i j m:Int} {C:Nat} (f:ai3 u H t l rt xs fs i j m C) (s:l4 u H H') (hu:k8 H u):ai3 u H' t l rt xs fs i j m C:=⟨f.tu,s _ _ f.et f.tu,f.ls.samex s hu,f.ru,s _ _ f.er f.ru,f.l2,f.l5,f.C0,f.C1,f.ov,f.last⟩
section
variable {P:Program} {w:World} {K:q0a} {mg:Str->Option Value} {base:Heap}
def aE8 (K:q0a):Sp:=λvs H Q _ => ∃ u kd,vs=[.ref u,.int kd,.int 4]/\k8 H u/\(kd=0 \/ kd=1)/\∀ t l rn xs qs H',l4 u H H'->k8 H' u->H' t=some (.tup [.ref l,.ref rn])->LsX u H' l xs qs->H l=none->1<=qs.length->qs.length<=5->N3 qs qs.length->ClN 80 qs->Q (.ref t) H'
abbrev K8:Stmt:=top 45
theorem A6:i7 ["_law_urn_here","_law_kind_here","_law_most","_law_found","_law_numbers","_law_factor_here","_law_turn"] ["_law_urn_here","_law_kind_here","_law_most"] (c9 K8):=by and_intros
theorem at4 {f f1 f2 f3 f4:Addr} (d:Df K mg "_law_rooted" K8 ["_law_urn_here","_law_kind_here","_law_most"] f) (G__law_draw:Def P w K mg base CX0 1 "_law_draw" f1 ["_law_urn_here","_law_many"] C8) (GD__law_other:Def P w K mg base CX0 3 "_law_other" f2 ["_law_urn_here","_law_kind_here"] W3) (G__law_factor:Def P w K mg base CX0 5 "_law_factor" f3 ["_law_urn_here","_law_kind_here"] (aF1 K)) (G__law_poly_times:Def P w K mg base CX0 3 "_law_poly_times" f4 ["_law_p","_law_q"] (aL7 K)) (n_range:mg "range" = none) (n_len:mg "len" = none) (n_tuple:mg "tuple" = none) (n_zip:mg "zip" = none):Def P w K mg base CX0 6 "_law_rooted" f ["_law_urn_here","_law_kind_here","_law_most"] (aE8 K):=by
 refine d.ok (N:=["_law_urn_here","_law_kind_here","_law_most","_law_found","_law_numbers","_law_factor_here","_law_turn"]) A6 (by rintro vs H Q E ⟨_,_,h,_⟩;rw [h];rfl) (λcdv A outer s H vs Q E hr h=>?_)
 obtain ⟨u,kd,rfl,hU,hk,k⟩:=h;have G__law_other:=GD__law_other;have hb:bK kd=4:=by rcases hk with rfl | rfl <;> rfl
 refine ⟨_,(c6 (g8 (i:=3) A6.nd rfl (q0w rfl) (B5 (b6 (d4 G__law_other hr (b6 (pv 0) (b6 (pv 1) b8)) f9) b8)))
   (c6 (g8 (i:=4) A6.nd rfl (q0w rfl) (j3 (b6 b9 (b6 b9 (b6 b9 b8)))))
   (c6 (g8 (i:=5) A6.nd rfl (q0w rfl) (d4 G__law_factor hr (b6 (pv 0) (b6 (pv 1) b8)) f9))
   (c6 (K2 PassesOwn.never rfl (y3 rfl n_range (b6 (d4 G__law_draw hr (b6 (pv 0) (b6 (g7 A8 (pv 2) b9) b8)) f9) b8)) (d5 (i:=6) A6.nd rfl (q0w rfl)) (c6 (B8 (j9 ac8 (d4 G__law_draw hr (b6 (pv 0) (b6 b9 b8)) f9) b9 (j1 _)) (d2 (g8 (i:=5) A6.nd rfl (q0w rfl) (d4 G__law_factor hr (b6 (pv 0) (b6 (pv 1) b8)) f9))) p9)
   (d2 (B8 (j9 bi0 (g7 M0 (g7 A8 (j8 k0 rfl n_len (by decide +kernel) (b6 (pv 3) b8)) (j8 k0 rfl n_len (by decide +kernel) (b6 (j4 l6 (pv 5) b9 (λ_ _=>rfl)) b8))) b9) (pv 2) (j1 _)) (c6 (g8 (i:=3) A6.nd rfl (q0w rfl) (d4 G__law_poly_times hr (b6 (pv 3) (b6 (j4 l6 (pv 5) b9 (λ_ _=>rfl)) b8)) f9))
   (d2 (g8 (i:=4) A6.nd rfl (q0w rfl) (w4 aw8 rfl n_tuple (by decide +kernel) (b6 (t8 (Nc:=["_law_a","_law_b"]) (caps:=[none,none]) rfl (G2.of (osc:=c9 K8) (N:=["_law_urn_here","_law_kind_here","_law_most","_law_found","_law_numbers","_law_factor_here","_law_turn"]) (ks:=[]) rfl rfl rfl rfl j6 (by decide +kernel)) (aZ1 rfl n_zip (b6 (pv 4) (b6 (j4 l6 (pv 5) b9 (λ_ _=>rfl)) b8))) (λC s₂ H₂ fp pins=>(show PG _ _ (G3 K 2 (l9 (j7 0) (l9 (j7 1) G4))) from by (refine C9 (n:=2) ?_ ?_ ?_ ?_;rfl;(refine i6 ?_ ?_ ?_;(exact (d5 (i:=0) (show z0j (["_law_a","_law_b"]:List Str) by decide +kernel) rfl (q0w rfl) (z0v rfl)));(refine i6 ?_ ?_ ?_;(exact (d5 (i:=1) (show z0j (["_law_a","_law_b"]:List Str) by decide +kernel) rfl (q0w rfl) (z0v rfl)));(exact y7);rfl);rfl);rfl;rfl))) (λC s₂ H₂ fp pins=>(g7 A8 (pv 0) (pv 1)))) b8))))) p9))))
   (d2 (i5 (j3 (b6 (pv 3) (b6 (pv 4) b8))))))))),?_⟩
 rw [show start ["_law_urn_here","_law_kind_here","_law_most","_law_found","_law_numbers","_law_factor_here","_law_turn"] [.ref u,.int kd,.int 4]=[some (.ref u),some (.int kd),some (.int 4),none,none,none,none] from rfl]
 refine h9 (λσ H1 => ∃ l q,σ=[some (.ref u),some (.int kd),some (.int 4),some (.ref l),none,none,none]/\l4 u H H1/\k8 H1 u/\(∃ xs,LsX u H1 l xs [q])/\BdN 4 q/\q ≠ 0/\H l=none) (λN hN=>?_) ?_
 ·subst_eqs
  refine ⟨u,kd,rfl,hU,λr q H1 bq q0 s1 u1 e1=>⟨by decide,λp hp=>hN _ _ ⟨p,q,rfl,s1.trans (c7.x (c7.new hp _) u),J0 u1 hp,⟨_,w5 u1 hp,c5,.cons (c7.new hp _ _ _ e1) .nil⟩,by rw [hb] at bq;exact bq,q0,s1.free u1 hp⟩⟩⟩
 rintro σ H1 ⟨l0,q0,rfl,s1,u1,⟨xs0,L0⟩,bq0,q0n,fl0⟩;refine h9 (λσ H2 => ∃ rn,σ=[some (.ref u),some (.int kd),some (.int 4),some (.ref l0),some (.ref rn),none,none]/\c7 H1 H2/\H2 rn=some (.tup [.int 0,.int 0,.int 0])) (λN hN=>?_) ?_
 ·subst_eqs
  exact ⟨(by decide:3<=sizeLine),λp hp=>hN _ _ ⟨p,rfl,c7.new hp _,c5⟩⟩
 rintro σ H2 ⟨rn0,rfl,s2,e2⟩;have u2:=c7.urn s2 u1;refine h9 (λσ H3 => ∃ tf lf rf fx fs i j m C,σ=[some (.ref u),some (.int kd),some (.int 4),some (.ref l0),some (.ref rn0),some (.ref tf),none]/\l4 u H2 H3/\k8 H3 u/\ai3 u H3 tf lf rf fx fs i j m C) (λN hN=>?_) ?_
 ·subst_eqs
  exact ⟨u,kd,rfl,u2,hk,λt l rt xs fs i j m C H3 s3 u3 F3=>hN _ _ ⟨t,l,rt,xs,fs,i,j,m,C,rfl,s3,u3,F3⟩⟩
 rintro σ H3 ⟨tf0,lf0,rf0,fx0,fs0,i0,j0,m0,C0,rfl,s3,u3,F0⟩
 have rn0u:rn0 ≠ u:=λz=>by
  obtain ⟨g,m,p,hg,_⟩:=u2;rw [z,hg] at e2;cases e2
 have sH3:l4 u H H3:=s1.trans ((c7.x s2 u).trans s3);refine h9 (λσ H4 => ∃ l rn o5 o6 xs qs,σ=[some (.ref u),some (.int kd),some (.int 4),some (.ref l),some (.ref rn),o5,o6]/\l4 u H H4/\k8 H4 u/\LsX u H4 l xs qs/\1<=qs.length/\qs.length<=5/\N3 qs qs.length/\ClN 80 qs/\H l=none) (λN hN=>?_) ?_
 ·obtain ⟨I,hI⟩:∃ I:Nat->L2.St->Hp->Prop,∀ i σ H4,I i σ H4 ↔ ∃ l rn tf lf rf fx fs a b c C o6 xs qs B i' j' m',σ=[some (.ref u),some (.int kd),some (.int 4),some (.ref l),some (.ref rn),some (.ref tf),o6]/\l4 u H H4/\k8 H4 u/\LsX u H4 l xs qs/\ai3 u H4 tf lf rf fx fs a b c C/\rn ≠ u/\H4 rn=some (.tup [.int i',.int j',.int m'])/\1<=qs.length/\qs.length<=5/\N3 qs qs.length/\0<B/\B<2 ^ (4+12*i)/\(∀ x ∈ qs,OvB B (4+19*i) x)/\H l=none:=⟨_,λ_ _ _=>Iff.rfl⟩
  have hfin:∀ i σ H4,i<=4->I i σ H4->N σ H4:=λi σ H4 hi h=>by
   obtain ⟨l,rn,tf,lf,rf,fx,fs,a,b,c,C,o6,xs,qs,B,i',j',m',rfl,s4,u4,L,F,rnu,er,l1,l8,tl,B0,B1,ov,fl⟩:=(hI i σ H4).mp h;refine hN _ _ ⟨l,rn,_,o6,xs,qs,rfl,s4,u4,L,l1,l8,tl,ab0 B0 (q0b B1 (d6 ⋯)) λx hx=>(ov x hx).mono ⋯,fl⟩
  refine ⟨_,rfl,_,rfl,_,_,rfl,rfl,u,_,rfl,u3,by decide,by decide,λr H4 r0 r8 s4 u4=>⟨r,rfl,⋯,⋯,V1 I ?_ ?_ (λσ H5 h=>hfin _ σ H5 ⋯ h)⟩⟩
  ·refine (hI 0 _ _).mpr ⟨l0,rn0,tf0,lf0,rf0,fx0,fs0,i0,j0,m0,C0,_,xs0,[q0],q0.den,0,0,0,rfl,sH3.trans s4,u4,((L0.same s2).samex s3 u2).samex s4 u3,F0.samex s4 u3,rn0u,s4 _ _ (s3 _ _ e2 rn0u) rn0u,by simp,by simp,az8 (qs:=[]) q0n,U9 _,bq0.d,(λx hx=>?_),fl0⟩
   rw [z0f.mp hx];exact Y5 bq0
  rintro n σ H5 hn h;obtain ⟨l,rn,tf,lf,rf,fx,fs,a,b,c,C,o6,xs,qs,B,i',j',m',rfl,s5,u5,L,F,rnu,er,l1,l8,tl,B0,B1,ov,fl⟩:=(hI n σ H5).mp h;have hn7:n<4:=⋯;refine h9 (λσ H6 => ∃ tf lf rf fx fs a b c C,σ=[some (.ref u),some (.int kd),some (.int 4),some (.ref l),some (.ref rn),some (.ref tf),some (.int (0+n))]/\l4 u H H6/\k8 H6 u/\LsX u H6 l xs qs/\ai3 u H6 tf lf rf fx fs a b c C/\H6 rn=some (.tup [.int i',.int j',.int m'])) (λN' hN'=>?_) ?_
  ·simp! [C8]
   refine ⟨u5,by decide,by decide,λr2 H6 _ _ s6 u6=>F2 (λ_=>?_) (λ_=>?_)⟩
   ·refine ⟨u,kd,rfl,u6,hk,λt l' rt xs' fs' i j m C' H7 s7 u7 F7=>hN' _ _ ⟨t,l',rt,xs',fs',i,j,m,C',rfl,s5.trans (s6.trans s7),u7,(L.samex s6 u5).samex s7 u6,F7,s7 _ _ (s6 _ _ er rnu) rnu⟩⟩
   ·exact hN' _ _ ⟨tf,lf,rf,fx,fs,a,b,c,C,rfl,s5.trans s6,u6,L.samex s6 u5,F.samex s6 u5,s6 _ _ er rnu⟩
  rintro σ H6 ⟨tf,lf,rf,fx,fs,a,b,c,C,rfl,s6,u6,L,F,er⟩;have lx:=L.nums.length;have lf':=F.ls.nums.length;have f2:=F.l2;have f5:=F.l5
  subst_eqs
  refine ⟨_,.inl (SqL.of L.at'),_,SqT.of F.et,_,rfl,lf,rfl,_,.inl (SqL.of F.ls.at'),F2 (λhle=>?_) (λhgt=>?_)⟩
  ·have hBC:B*C<2 ^ (4+12*n+12):=by rw [z0w];exact z0h B1 F.C1
   refine ⟨_,SqT.of F.et,_,rfl,l,lf,xs,fx,qs,fs,B,C,4+19*n,14,4+12*n+12,rfl,SqL.of L.at',SqL.of F.ls.at',L.nums,F.ls.nums,ov,F.ov,B0,F.C0,hBC,⋯,⋯,⋯,⋯,⋯,λm1 r1 zs1 H7 tm1 _ s7 f7 e7 n7=>?_⟩;have F7:=F.same s7;have er7:=s7 _ _ er;refine ⟨_,SqT.of F7.et,_,rfl,rf,rfl,⟨_,SqT.of er7⟩,⟨_,SqT.of F7.er⟩,λD hD=>?_⟩;refine bb1 [.int i',.int j',.int m'] [.int a,.int b,.int c] (λj σ H8 => ∃ o1 o2,σ=[o1,o2]/\c7 H7 H8/\∃ ns:List Int,ns.length=j/\H8 D=some (.lst (ns.map V.int))) ⟨_,_,rfl,c7.new hD _,[],rfl,c5⟩ (by rintro j σ H8 ⟨_,_,_,s8,_⟩;exact ⟨SqT.of (s8 _ _ er7),SqT.of (s8 _ _ F7.er)⟩) ?_ ?_
   ·rintro j x y σ H8 pt hx hy ⟨o1,o2,rfl,s8,ns,hns,e8⟩ hpt
    have hj:j<3:=(q0g.mp hx).1;obtain ⟨v1,hv1,rfl⟩:=aa5 (ws:=[i',j',m']) hx;obtain ⟨v2,hv2,rfl⟩:=aa5 (ws:=[a,b,c]) hy;have st:=c7.new hpt (.tup [.int v1,.int v2])
    subst_eqs
    refine ⟨_,SqT.of c5,rfl,_,_,rfl,_,_,rfl,rfl,_,rfl,_,rfl,o0.mk hj (st _ _ e8) (p8 (by rw [q0d];omega)) ⟨_,_,rfl,(s8.trans st).over hD _,ns ++ [v1+v2],by simp [hns],?_⟩⟩
    rw [c5,j0u];rfl
   ·rintro σ H8 ⟨o1,o2,rfl,s8,ns,hns,e8⟩
    have hns3:ns.length=3:=hns
    obtain ⟨x1,x2,x3,rfl⟩:∃ x1 x2 x3,ns=[x1,x2,x3]:=by
     match ns,hns3 with
     | [x1,x2,x3],_=>exact ⟨x1,x2,x3,rfl⟩
    refine ⟨D,rfl,_,.inl ⟨SqL.of e8,λq hq=>?_⟩⟩;have S:=s7.trans (s8.trans (c7.new hq (.tup [.int x1,.int x2,.int x3])));have S8:=s8.trans (c7.new hq (.tup [.int x1,.int x2,.int x3]));have ml:(G9 qs fs).length=qs.length+fs.length-1:=am9 (λz=>by rw [z] at l1;simp at l1) (λz=>by rw [z] at f2;simp at f2)
    have hlast:(G9 qs fs)[(G9 qs fs).length-1]? = some (qs[qs.length-1]*1):=aP7 (λz=>by rw [z] at l1;simp at l1) (λz=>by rw [z] at f2;simp at f2) (q0c ⋯) F.last
    have tlf:N3 (G9 qs fs) (G9 qs fs).length:=as1 λv hv=>by
     rw [hlast] at hv;cases hv;rw [Rat.mul_one];exact tl.last ⋯ _ (q0c ⋯)
    have hm1:=tm1.uniq tlf;have e9:(G9 qs fs).take m1=G9 qs fs:=by rw [hm1,y0g]
    rw [e9] at n7;refine (hI (n+1) _ _).mpr ⟨r1,q,tf,lf,rf,fx,fs,a,b,c,C,_,zs1,G9 qs fs,B*C,x1,x2,x3,rfl,s6.trans (c7.x S u),c7.urn S u6,⟨w5 u6 f7,S8 _ _ e7,n7.mono S8.tups⟩,F.same S,w5 (c7.urn (s7.trans s8) u6) hq,c5,⋯,⋯,tlf,z0z B0 F.C0,q0b hBC (d6 ⋯),λx hx=>(aZ8 B0 F.C0 ov F.ov x hx).mono ⋯,s6.free u6 f7⟩
  ·exact (hI (n+1) _ _).mpr ⟨l,rn,tf,lf,rf,fx,fs,a,b,c,C,_,xs,qs,B,i',j',m',rfl,s6,u6,L,F,rnu,er,l1,l8,tl,B0,q0b B1 (d6 ⋯),λx hx=>(ov x hx).mono ⋯,fl⟩
 rintro σ H4 ⟨l,rn,o5,o6,xs,qs,rfl,s4,u4,L,l1,l8,tl,cl,fl⟩
 subst_eqs
 refine ⟨v8,λp hp=>?_⟩;have Sp:=c7.new hp (.tup [.ref l,.ref rn]);exact k p l rn xs qs _ (s4.trans (c7.x Sp u)) (J0 u4 hp) c5 (L.same Sp) fl l1 l8 tl cl
theorem bj1:∀ d:Nat,d<16->0<d->d ∣ 360360:=by decide
theorem be7 {q:Rat} (h:BdN 4 q):OvB 360360 23 q:=by
 have d0:0<q.den:=by have:=q.den_nz;omega
 obtain ⟨c,hc⟩:=bj1 q.den h.d d0;refine ⟨q.num*(c:Int),?_,?_⟩
 ·have e:((360360:Nat):Int)=(q.den:Int)*(c:Int):=by rw [<- j0e,<- hc]
  have c0:(c:Int) ≠ 0:=λz=>by
   have:c=0:=⋯;rw [this,Nat.mul_zero] at hc;cases hc
  rw [e,m0p c0,z0e]
 ·have cl:c<2 ^ 19:=by
   have:1*c<=q.den*c:=u0v _ d0;rw [<- hc] at this;exact q0t (show c<=360360 by omega) (by decide)
  rw [z0p,z0b,show 23=4+19 from rfl,z0w];exact z0h h.n cl
theorem aU6 {C:Nat} {q:Rat} {m:Nat} (h:BdN m q):OvB q.den m q:=⟨q.num,(z0e q).symm,h.n⟩
def aH8 (L:List Rat):Nat:=(L.map (·.den)).foldr (· * ·) 1
theorem ae9:∀ L:List Rat,0<aH8 L
 | []=>Nat.one_pos
 | q :: L=>by
  have d0:0<q.den:=by have:=q.den_nz;omega
  exact z0z d0 (ae9 L)
theorem ar7 {m:Nat}:∀ L:List Rat,(∀ q ∈ L,BdN m q)->aH8 L<2 ^ (m*L.length+1)
 | [],_=>by simp [aH8]
 | q :: L,h=>by
  have a:=(h q q0u).d;have b:=ar7 L λx hx=>h x (q0p _ hx)
  show q.den*aH8 L<_;rw [z0n,v0z,show m*L.length+m+1=m+(m*L.length+1) by omega,z0w]
  exact z0h a b
theorem aD6 {m:Nat}:∀ L:List Rat,(∀ q ∈ L,BdN m q)->∀ q ∈ L,OvB (aH8 L) (m*L.length+1) q
 | [],_,_,hq=>absurd hq (by simp)
 | x :: L,h,q,hq=>by
  have d0:0<x.den:=by have:=x.den_nz;omega
  have bx:=h x q0u;have hL:=λy hy=>h y (q0p x hy)
  show OvB (x.den*aH8 L) _ q;rw [z0n,v0z];rcases z0r.mp hq with rfl | hq
  ·exact ((aU6 bx (C:=0)).up d0 (ae9 L) (ar7 L hL)).mono ⋯
  ·rw [g0j]
   exact ((aD6 L hL q hq).up (ae9 L) d0 bx.d).mono ⋯
def bj8 (N:List (List Rat)):Prop:=(∃ C,y4 C 120 N) \/ (N.length<=2/\∀ L ∈ N,L.length=N.length/\∀ q ∈ L,BdN 40 q)
theorem aZ9 {N:List (List Rat)} (h2:N.length<=2) (h:∀ L ∈ N,L.length=N.length/\∀ q ∈ L,BdN 40 q):∃ C,y4 C 162 N:=by
 have ln:(N.flatten).length<=4:=by
  rw [List.length_flatten]
  match N,h2,h with
  | [],_,_=>simp
  | [a],_,h=>have:=(h a (by simp)).1;simp at this;simp [this]
  | [a,b],_,h =>
   have h1:=(h a (by simp)).1
   have h2:=(h b (by simp)).1
   simp at h1 h2;simp [h1,h2]
 have bd:∀ q ∈ N.flatten,BdN 40 q:=λq hq=>by
  obtain ⟨L,hL,hq⟩:=List.mem_flatten.mp hq;exact (h L hL).2 q hq
 refine ⟨aH8 N.flatten,⋯,ae9 _,q0b (ar7 _ bd) (d6 ⋯),λL hL=>⟨(h L hL).1,λq hq=>(aD6 _ bd q (List.mem_flatten.mpr ⟨L,hL,hq⟩)).mono ⋯⟩⟩
theorem R1.to {u l:Addr} {H0 H H':Hp} {us:List Addr} {M:List (List Rat)} (d:R1 u H l us M H') (hU:k8 H u) (s:l4 u H0 H):R1 u H0 l us M H':=⟨s.trans d.same,d.urn,s.free hU d.fr,d.lu,d.at',d.nl,d.nu,λt ht=>s.free hU (d.nf t ht),d.rws⟩
theorem bg1 {u D:Addr} {H:Hp} {kd:Int} {n:Nat} {Q:VK} (hU:k8 H u) (hD:H D=none) (n4:n<=4) (k:∀ us N H',R1 u H D us N H'->N.length=n->(∀ L ∈ N,L.length=n/\∀ q ∈ L,BdN (bK kd) q)->Q (.ref D) H'):X2 (Itr 0 n) D [some (V.ref u),some (V.int (n:Int)),some (V.int kd),none] (upd H D (HO.lst [])) (j7 3) (λσ H Q => ∃ v,σ[1]? = some (some v)/\∃ j,v=V.int j/\-2 ^ 62<=j/\j<2 ^ 62/\∀ (D:Addr),H D=none->X2 (Itr 0 j.toNat) D [σ[0]?.join,σ[2]?.join,none] (upd H D (HO.lst [])) (j7 2) (V8 N6 E0 (A3 (B3 0) (A3 (B3 1) N4))) Q) Q:=by
 refine I0 (λi σ H2 => ∃ (o:Option V) (us:List Addr) (N:List (List Rat)),σ=[some (.ref u),some (.int (n:Int)),some (.int kd),o]/\R1 u H D us N H2/\N.length=i/\∀ L ∈ N,L.length=n/\∀ q ∈ L,BdN (bK kd) q) ⟨_,[],[],rfl,⟨c7.x (c7.new hD _) u,J0 hU hD,hD,w5 hU hD,c5,by simp,by simp,by simp,.nil⟩,rfl,by simp⟩ ?_ ?_
 ·rintro i σ H2 hi ⟨o,us,N,rfl,dA,lN,bN⟩
  refine ⟨_,rfl,_,rfl,⋯,⋯,λD2 fD2=>?_⟩;have D2u:D2 ≠ u:=w5 dA.urn fD2;have D2D:D2 ≠ D:=(i9 dA.at' fD2).symm;obtain ⟨Pv,hPv⟩:∃ Pv:Nat->L2.St->Hp->Prop,∀ j σ H3,Pv j σ H3 ↔ ∃ (o:Option V) (xs:List V) (qs:List Rat),σ=[some (.ref u),some (.int kd),o]/\l4 u H2 H3/\k8 H3 u/\H3 D2=some (.lst xs)/\t5 H3 xs qs/\qs.length=j/\∀ q ∈ qs,BdN (bK kd) q:=⟨_,λ_ _ _=>Iff.rfl⟩;refine I0 Pv ((hPv _ _ _).mpr ⟨_,[],[],rfl,c7.x (c7.new fD2 _) u,J0 dA.urn fD2,c5,.nil,rfl,by simp⟩) ?_ ?_
  ·rintro j σ H3 hj h
   obtain ⟨o,xs,qs,rfl,s3,u3,e3,n3,l3,b3⟩:=(hPv _ _ _).mp h
   subst_eqs
   refine ⟨u,kd,rfl,u3,λr q H4 bq s4 u4 e4=>?_⟩;have e5:=s4 _ _ e3 D2u;refine o0.mk hj e5 (p8 (by rw [n3.length,l3];omega)) ((hPv _ _ _).mpr ⟨_,_,qs ++ [q],rfl,(s3.trans s4).over fD2 _,u4.other D2u,c5,((n3.mono (s4.tups u3)).append (.cons e4 .nil)).mono (X1.lst e5),by simp [l3],λx hx=>?_⟩)
   rcases z0y.mp hx with z | z
   ·exact b3 x z
   ·rw [z0f.mp z];exact bq
  ·intro σ H3 h
   obtain ⟨o,xs,qs,rfl,s3,u3,e3,n3,l3,b3⟩:=(hPv _ _ _).mp h;have d3:=dA.x s3 u3
   have nD:D2 ∉ us:=λz=>by
    obtain ⟨i,hi⟩:=j0g.mp z;obtain ⟨_,_,_,e,_⟩:=dA.rws.get hi;rw [fD2] at e;cases e
   have nl:D ∉ us ++ [D2]:=λz=>by
    rcases z0y.mp z with z | z
    ·exact d3.nl z
    ·exact D2D (z0f.mp z).symm
   refine o0.mk hi d3.at' (p8 (by rw [q0d,d3.rws.length,lN];omega)) ⟨_,us ++ [D2],N ++ [qs],rfl,⟨λb o h z=>?_,d3.urn.other d3.lu,d3.fr,d3.lu,by rw [c5,j0u];rfl,nl,λt ht=>?_,λt ht=>?_,(d3.rws.append (.cons e3 n3 .nil)).over d3.at' nl⟩,by simp [lN],λL hL=>?_⟩
   ·rw [g9 (i9 h d3.fr)]
    exact d3.same _ _ h z
   ·rcases z0y.mp ht with z | z
    ·exact d3.nu t z
    ·rw [z0f.mp z];exact D2u
   ·rcases z0y.mp ht with z | z
    ·exact d3.nf t z
    ·rw [z0f.mp z];exact dA.same.free dA.urn fD2
   ·rcases z0y.mp hL with z | z
    ·exact bN L z
    ·rw [z0f.mp z];exact ⟨⋯,b3⟩
 ·rintro σ H2 ⟨o,us,N,rfl,dA,lN,bN⟩
  exact k us N H2 dA lN bN
def aT2:Sp:=λvs H Q _ => ∃ u,vs=[.ref u]/\k8 H u/\∀ r l v us N H',R1 u H l us N H'->1<=N.length->N.length<=4->bj8 N->H' r=some (.tup [.ref l,v])->Q (.ref r) H'
abbrev G7:Stmt:=top 58
theorem y6:i7 ["_law_urn_here","_law_told","_law_kind_here","_law_p","_law_numbers","_law_n"] ["_law_urn_here"] (c9 G7):=by and_intros
theorem aq6 {f f1 f2 f3 f4 f5 f6:Addr} (d:Df K mg "_law_machine" G7 ["_law_urn_here"] f) (G__law_draw:Def P w K mg base CX0 1 "_law_draw" f1 ["_law_urn_here","_law_many"] C8) (G__law_kind:Def P w K mg base CX0 2 "_law_kind" f2 ["_law_urn_here"] as3) (G__law_rooted:Def P w K mg base CX0 6 "_law_rooted" f3 ["_law_urn_here","_law_kind_here","_law_most"] (aE8 K)) (GD__law_number:Def P w K mg base CX0 2 "_law_number" f4 ["_law_urn_here","_law_kind_here"] N6) (G__law_likened:Def P w K mg base CX0 7 "_law_likened" f5 ["_law_urn_here","_law_kind_here","_law_table","_law_most"] (an9 K)) (G__law_companion:Def P w K mg base CX0 3 "_law_companion" f6 ["_law_p"] (aI8 K)) (n_len:mg "len" = none) (n_range:mg "range" = none):Def P w K mg base CX0 8 "_law_machine" f ["_law_urn_here"] aT2:=by
 refine d.ok (N:=["_law_urn_here","_law_told","_law_kind_here","_law_p","_law_numbers","_law_n"]) y6 (by rintro vs H Q E ⟨_,h,_⟩;rw [h];rfl) (λcdv A outer s H vs Q E hr h=>?_)
 obtain ⟨u,rfl,hU,k⟩:=h;have G__law_number:=GD__law_number
 refine ⟨_,(c6 (g8 (i:=1) y6.nd rfl (q0w rfl) (B6 ac8 (d4 G__law_draw hr (b6 (pv 0) (b6 b9 b8)) f9) b9 (j1 _)))
   (c6 (g8 (i:=2) y6.nd rfl (z0v rfl) (d4 G__law_kind hr (b6 (pv 0) b8) f9))
   (c6 (F9 (d4 G__law_rooted hr (b6 (pv 0) (b6 (g7 J6 (pv 2) b9) (b6 b9 b8))) f9) (show PG _ _ (G3 K 2 (l9 (j7 3) (l9 (j7 4) G4))) from by (refine C9 (n:=2) ?_ ?_ ?_ ?_;rfl;(refine i6 ?_ ?_ ?_;(exact (d5 (i:=3) y6.nd rfl (q0w rfl)));(refine i6 ?_ ?_ ?_;(exact (d5 (i:=4) y6.nd rfl (q0w rfl)));(exact y7);rfl);rfl);rfl;rfl)))
   (c6 (B8 (Z3 (Z2 (pv 1))) (c6 (g8 (i:=5) y6.nd rfl (z0v rfl) (g7 A8 b9 (d4 G__law_draw hr (b6 (pv 0) (b6 b9 b8)) f9)))
   (c6 (B8 (j9 ac8 (pv 5) b9 (j1 _)) (d2 (g8 (i:=2) y6.nd rfl (z0v rfl) (g7 J6 (pv 2) b9))) p9)
   (d2 (i5 (j3 (b6 (t8 (Nc:=["_law_urn_here","_law_n","_law_kind_here","_law_i"]) (caps:=[some 0,some 5,some 2,none]) rfl (G2.of (osc:=c9 G7) (N:=["_law_urn_here","_law_told","_law_kind_here","_law_p","_law_numbers","_law_n"]) (ks:=["_law_urn_here","_law_n","_law_kind_here"]) rfl rfl rfl rfl (i8 rfl (i8 rfl (i8 rfl j6))) (by decide +kernel)) (y3 rfl n_range (b6 (pv 5) b8)) (λC s₂ H₂ fp pins=>(d5 (i:=3) (show z0j (["_law_urn_here","_law_n","_law_kind_here","_law_i"]:List Str) by decide +kernel) rfl (q0w rfl) (z0v rfl))) (λC s₂ H₂ fp pins=>(t8 (Nc:=["_law_urn_here","_law_kind_here","_law_j"]) (caps:=[some 0,some 2,none]) rfl (G2.of (osc:=_) (N:=["_law_urn_here","_law_n","_law_kind_here","_law_i"]) (ks:=["_law_urn_here","_law_kind_here"]) rfl rfl rfl rfl (i8 rfl (i8 rfl j6)) (by kernel_rfl)) (y3 rfl n_range (b6 (pv 1) b8)) (λC s₂ H₂ fp pins=>(d5 (i:=2) (show z0j (["_law_urn_here","_law_kind_here","_law_j"]:List Str) by decide +kernel) rfl (q0w rfl) (z0v rfl))) (λC s₂ H₂ fp pins=>(d4 G__law_number hr (b6 (pv 0) (b6 (pv 1) b8)) f9))))) (b6 be6 b8))))))) p9)
   (c6 (B8 (j9 ac7 (j8 k0 rfl n_len (by decide +kernel) (b6 (pv 3) b8)) b9 (j1 _)) (d2 (aB4 (i:=3) (j:=4) rfl y6.nd rfl rfl (by decide) rfl rfl (b6 (B5 (b6 (j3 (b6 b9 (b6 b9 b8))) (b6 (j3 (b6 b9 (b6 b9 b8))) b8))) (b6 (j3 (b6 b9 (b6 b9 (b6 b9 b8)))) b8)) rfl)) p9)
   (d2 (i5 (j3 (b6 (d4 G__law_likened hr (b6 (pv 0) (b6 b9 (b6 (d4 G__law_companion hr (b6 (pv 3) b8) f9) (b6 b9 b8)))) f9) (b6 (pv 4) b8)))))))))),?_⟩
 rw [show start ["_law_urn_here","_law_told","_law_kind_here","_law_p","_law_numbers","_law_n"] [.ref u]=[some (.ref u),none,none,none,none,none] from rfl]
 refine h9 (λσ H1 => ∃ b,σ=[some (.ref u),some (.bl b),none,none,none,none]/\l4 u H H1/\k8 H1 u) (λN hN=>?_) ?_
 ·simp! [C8]
  refine ⟨hU,by decide,by decide,λr H1 r0 r1 s1 u1=>hN _ _ ⟨_,rfl,s1,u1⟩⟩
 rintro σ H1 ⟨b,rfl,s1,u1⟩;refine h9 (λσ H2 => ∃ kd:Int,σ=[some (.ref u),some (.bl b),some (.int kd),none,none,none]/\l4 u H H2/\k8 H2 u/\(kd=0 \/ kd=1 \/ kd=2)) (λN hN=>?_) ?_
 ·simp only [ak9,ipM,aj6,ah1,ae0,B2,W6,D4,y0,V6,ae6,aj4,tSl,ai6,K5,A4,Q6,aj5,F8,T9,x4,z0s,v0w,u0h,u0j,u0k,ag6,ai8,aj0,tOr,ai7,V3,tB,tOp,tUn,ag9,tBM,B3,tC,tCB,ag7,ad1,j7,ae7,G3,l9,G4,A3,N4,ag8,ai5,ad0,tIf,V9,V4,V8,V7,V5,L8,ai9,rI,rI0,rU,F6,N8,ae1,Q7,rEq,rNe,aj7,Z1,W8,W7,K0,Z6,Cx.nox,Cx.wish,y0d,j0k,v0y,y0y,Option.some.injEq,V.int.injEq,V.bl.injEq,V.ref.injEq,V.str.injEq,exists_eq_left',exists_eq_left,exists_and_left,true_and,and_true,List.cons.injEq,reduceCtorEq,y0x,if_false,if_true,exists_const,↓reduceIte,tyV,z0n,v0u,exists_eq,v0r,v0j,v0s,decide_eq_true_eq,not_true_eq_false,not_false_eq_true,y0c,decide_eq_false_iff_not,g0a,u0x,and_assoc,false_and,false_or,or_false,as3]
  exact ⟨u1,λr H2 hk s2 u2=>hN _ _ ⟨r,rfl,s1.trans s2,u2,hk⟩⟩
 rintro σ H2 ⟨kd,rfl,s2,u2,hk⟩;refine h9 (λσ H3 => ∃ l rn xs qs,σ=[some (.ref u),some (.bl b),some (.int kd),some (.ref l),some (.ref rn),none]/\l4 u H H3/\k8 H3 u/\LsX u H3 l xs qs/\1<=qs.length/\qs.length<=5/\N3 qs qs.length/\ClN 80 qs) (λN hN=>?_) ?_
 ·subst_eqs
  refine ⟨by decide,u,_,rfl,u2,by rcases hk with rfl | rfl | rfl <;> decide,λt l rn xs qs H3 s3 u3 e3 L3 fl l1 l5 tl cl=>?_⟩
  exact ⟨t,rfl,_,SqT.of e3,rfl,_,_,rfl,_,_,rfl,rfl,hN _ _ ⟨l,rn,xs,qs,rfl,s2.trans s3,u3,L3,l1,l5,tl,cl⟩⟩
 rintro σ H3 ⟨l,rn,xs,qs,rfl,s3,u3,L3,l1,l5,tl,cl⟩
 -- a polynomial's table,and one alike to it
 have aY4:∀ {p v:Addr} {xs:List V} {qs:List Rat} {H4:Hp},l4 u H H4->k8 H4 u->LsX u H4 p xs qs->2<=qs.length->qs.length<=5->N3 qs qs.length->ClN 80 qs->aI8 K [V.ref p] H4 (λx H1=>an9 K [V.ref u,V.int 0,x,V.int 4] H1 (λx H1=>0+1+1<=sizeLine/\∀ (p:Addr),H1 p=none->Q (V.ref p) (upd H1 p (HO.tup [x,V.ref v]))) E0) E0:=fun {p v xs qs H4} s4 u4 L4 l2 l5 tl cl=>by
  refine ⟨p,xs,qs,qs.length-1,rfl,SqL.of L4.at',L4.nums,cl,tl,⋯,⋯,⋯,λM B lM oM r ts H5 s5 f5 g5 nd5 e5 R5=>?_⟩;have u5:=c7.urn s5 u4;refine ⟨u,r,ts,M,B,M.length,rfl,u5,TbX.made u4 f5 g5 e5 R5,rfl,⋯,⋯,oM,λr2 us N C H6 dA lN oN=>⟨by decide,λp2 f2=>?_⟩⟩
  have S:=c7.new f2 (.tup [.ref r2,.ref v]);exact k p2 r2 _ us N _ ((dA.to u5 (s4.trans (c7.x s5 u))).s S) ⋯ ⋯ (.inl ⟨C,oN⟩) c5
 simp! [C8]
 refine F2 (λ_=>?_) (λ_=>?_)
 ·refine ⟨u3,by decide,by decide,λr H4 r0 r4 s4 u4=>?_⟩
  obtain ⟨n,hn⟩:∃ n:Nat,1+r=(n:Int):=⟨(1+r).toNat,⋯⟩;rw [hn];have S4:=s3.trans s4
  have drawn:∀ kd':Int,(bK kd'=4 \/ n<=2/\bK kd'<=40)->∀ (D:Addr),H4 D=none->X2 (Itr 0 (n:Int).toNat) D [some (V.ref u),some (V.int (n:Int)),some (V.int kd'),none] (upd H4 D (HO.lst [])) (j7 3) (λσ H Q => ∃ v,σ[1]? = some (some v)/\∃ j,v=V.int j/\-2 ^ 62<=j/\j<2 ^ 62/\∀ (D:Addr),H D=none->X2 (Itr 0 j.toNat) D [σ[0]?.join,σ[2]?.join,none] (upd H D (HO.lst [])) (j7 2) (V8 N6 E0 (A3 (B3 0) (A3 (B3 1) N4))) Q) λx H1=>0+1+1<=sizeLine/\∀ (p:Addr),H1 p=none->Q (V.ref p) (upd H1 p (HO.tup [x,V.non])):=λkd' hb D fD=>by
   rw [g0d];refine bg1 u4 fD ⋯ λus N H5 dA lN bN=>⟨by decide,λp fp=>?_⟩
   refine k p D _ us N _ ((dA.to u4 S4).s (c7.new fp _)) ⋯ ⋯ ?_ c5;rcases hb with hb | ⟨h2,hb⟩
   ·rw [hb] at bN
    exact .inl ⟨360360,⋯,by decide,by decide,λL hL=>⟨by rw [(bN L hL).1,lN],λq hq=>(be7 ((bN L hL).2 q hq)).mono (by decide)⟩⟩
   ·exact .inr ⟨⋯,λL hL=>⟨by rw [(bN L hL).1,lN],λq hq=>((bN L hL).2 q hq).mono hb⟩⟩
  refine F2 (λh2=>⟨by decide,⋯,⋯,drawn _ (.inl ?_)⟩) (λh2=>⟨⋯,⋯,drawn _ ?_⟩)
  ·rcases hk with rfl | rfl | rfl <;> rfl
  ·exact .inr ⟨⋯,by unfold bK;split <;> decide⟩
 ·have ex:=L3.nums.length
  refine ⟨xs,.inl (SqL.of L3.at'),F2 (λ_=>?_) (λ_=>?_)⟩
  ·refine ⟨by decide,λp1 f1=>⟨by decide,λp2 f2=>⟨by decide,λp3 f3=>⟨by decide,λp4 f4=>?_⟩⟩⟩⟩
   have S1:=c7.new f1 (HO.tup [V.int 1,V.int 1]);have S2:=c7.new f2 (HO.tup [V.int 1,V.int 1]);have S3:=c7.new f3 (HO.lst [V.ref p1,V.ref p2]);have S4:=c7.new f4 (HO.tup [V.int 1,V.int 0,V.int 0]);have S:=(S1.trans S2).trans (S3.trans S4);have u4:=c7.urn (S1.trans S2) u3;refine aY4 (s3.trans (c7.x S u)) (c7.urn S u3) (qs:=[1,1]) (xs:=[V.ref p1,V.ref p2]) ⟨w5 u4 f3,S4 _ _ c5,.cons (S4 _ _ (S3 _ _ (S2 _ _ c5))) (.cons (S4 _ _ (S3 _ _ c5)) .nil)⟩ (by decide) (by decide) (az8 (qs:=[1]) (by decide)) ?_
   exact (ab0 (B:=1) (W:=80) (by decide) (by decide) λx hx=>by
    rcases z0r.mp hx with rfl | hx
    ·exact ⟨1,by decide,by decide⟩
    ·rw [z0f.mp hx];exact ⟨1,by decide,by decide⟩)
  ·exact aY4 s3 u3 L3 ⋯ l5 tl cl
def aL8 (K:q0a):Sp:=λvs H Q _ => ∃ (a:Addr) (ts:List Addr) (M:List (List Rat)),vs=[.ref a,.int M.length]/\H a=some (.lst (ts.map V.ref))/\ao9 K H ts M/\M.length<=7/\(∀ L ∈ M,L.length=M.length/\∀ q ∈ L,BdN 6000 q)/\∀ H',c7 H H'->Q (.bl true) H'
abbrev G0:Stmt:=top 54
theorem aa0:i7 ["_law_thing","_law_n","_law_row"] ["_law_thing","_law_n"] (c9 G0):=by and_intros
theorem ao4 {f fd:Addr} (d:Df K mg "_law_is_table" G0 ["_law_thing","_law_n"] f) (G__law_is_number:Def P w K mg base CX0 2 "_law_is_number" fd ["_law_thing"] (aL9 K)) (n_isinstance:mg "isinstance" = none) (n_list:mg "list" = none) (n_len:mg "len" = none) (n_all:mg "all" = none):Def P w K mg base CX0 3 "_law_is_table" f ["_law_thing","_law_n"] (aL8 K):=by
  refine d.ok (N:=["_law_thing","_law_n","_law_row"]) aa0 (by rintro vs H Q E ⟨_,_,_,h,_⟩;rw [h];rfl) (λcdv A outer s H vs Q E hr h=>?_)
  obtain ⟨a,ts,M,rfl,ha,hR,hM,hL,k⟩:=h;have hu:=hr.units
  refine ⟨_, (c6 (B8 (PW.pt (ac6 (Z3 (Z2 (j8 R0 rfl n_isinstance (by decide +kernel) (b6 (pv 0) (b6 (am3 (v := .ty "list") rfl n_list (by decide +kernel) rfl) b8))))) (aj8 (j9 aG1 (j8 k0 rfl n_len (by decide +kernel) (b6 (pv 0) b8)) (pv 1) (j1 _))))) (d2 (i5 am4)) p9)
      (c6 (K2 PassesOwn.never rfl (r6 (pv 0)) (d5 (i:=2) aa0.nd rfl (Or.inl rfl)) (d2 (B8 (PW.pt (ac6 (Z3 (Z2 (j8 R0 rfl n_isinstance (by decide +kernel) (b6 (pv 2) (b6 (am3 (v:=.ty "list") rfl n_list (by decide +kernel) rfl) b8))))) (ac6 (j9 aG1 (j8 k0 rfl n_len (by decide +kernel) (b6 (pv 2) b8)) (pv 1) (j1 _)) (aj8 (Z3 (Z2 (j8 (aX6 rfl) rfl n_all (by decide +kernel) (b6 (t8 (Nc:=["_law_one"]) (caps:=[none]) rfl (G2.of (osc:=c9 G0) (N:=["_law_thing","_law_n","_law_row"]) (ks:=[]) rfl rfl rfl rfl j6 (by decide +kernel)) (r6 (pv 2)) (λC s₂ H₂ fp pins=>(d5 (i:=0) (show List.Nodup (["_law_one"]:List Str) by decide +kernel) rfl (Or.inl rfl) (Or.inr rfl))) (λC s₂ H₂ fp pins=>(d4 G__law_is_number hr (b6 (pv 0) b8) f9))) b8)))))))) (d2 (i5 am4)) p9)))
      (d2 (i5 am4)))),?_⟩
  rw [show start ["_law_thing","_law_n","_law_row"] [.ref a,.int M.length]=[some (.ref a),some (.int M.length),none] from rfl]
  subst_eqs
  have hRl:=hR.length;refine ⟨trivial,_,.of (.lst ha),_,ai1,F2 (λz=>by cases z) (λ_=>?_)⟩
  refine ⟨_,.inl (SqL.of ha),rfl,F2 (λz=>absurd (by rw [List.length_map,hRl]) z) (λ_=>?_)⟩
  refine ⟨_,rfl,a,rfl,⟨_,SqL.of ha⟩,aa6 (xs:=ts.map V.ref) (λi σ H2 => ∃ o,σ=[some (.ref a),some (.int M.length),o]/\c7 H H2) ⟨_,rfl,c7.refl _⟩ (λi σ H2 _ ⟨_,_,s2⟩=>SqL.of (s2 _ _ ha)) ?_ ?_⟩
  · rintro i x σ H2 hx ⟨o,rfl,s2⟩
    obtain ⟨t,ht,rfl⟩:=A1 hx;obtain ⟨xs,L,hL',et,nt⟩:=hR.get ht;have hLm:=hL L (List.mem_of_getElem? hL');have lx:=nt.length;have l7:=hLm.1;have et2:=s2 _ _ et
    subst_eqs
    refine ⟨trivial,_,.of (.lst et2),_,ai1,F2 (λz=>by cases z) (λ_=>?_)⟩
    refine ⟨_,.inl (SqL.of et2),rfl,F2 (λz=>absurd (by rw [lx,l7]) z) (λ_=>?_)⟩
    refine ⟨⟨_,SqL.of et2⟩,λD hD=>?_⟩;refine y9 xs (λj σ H3 => ∃ o,σ=[o]/\c7 H2 H3/\H3 D=some (.lst ((List.replicate j true).map V.bl))) ⟨_,rfl,c7.new hD _,c5⟩ (λj σ H3 _ ⟨o,_,s3,_⟩=>SqL.of (s3 _ _ et2)) ?_ ?_
    · rintro j x σ H3 hx2 ⟨o,rfl,s3,e3⟩
      have hj:j<xs.length:=(List.getElem?_eq_some_iff.mp hx2).1;obtain ⟨p,q,rfl,hq,hp⟩:=nt.getV hx2
      subst_eqs
      have sq:=(hLm.2 q (List.mem_of_getElem? hq)).bd6 (by decide)
      refine ⟨_,q,rfl,⟨p,rfl,(hp.mono (s2.trans s3).tups).sqt⟩,?_,λH4 s4=>?_⟩
      · rw [Int.natAbs_natCast]
        exact sq.d
      · refine o0.mk hj (s4 _ _ e3) (by simp;exact Nat.lt_of_lt_of_le (show j<1000 by omega) (by decide)) ⟨_,rfl,(s3.trans s4).over hD _,?_⟩
        rw [c5,List.replicate_succ',List.map_append];rfl
    · rintro σ H3 ⟨o,rfl,s3,e3⟩
      refine ⟨D,rfl,_,SqL.of e3,F2 (λz=>by simp at z) (λ_=>s2.trans s3)⟩
  · rintro σ H2 ⟨o,rfl,s2⟩
    subst_eqs
    exact k H2 s2
structure SX (X:List Addr) (H H':Hp):Prop where
 s:∀ b o,H b=some o->b ∉ X->H' b=some o
 l:∀ x ∈ X,∃ ys,H' x=some (.lst ys)
 l0:∀ x ∈ X,∃ ys,H x=some (.lst ys)
theorem SX.tups {X:List Addr} {H H':Hp} (h:SX X H H'):X1 H H':=λp xs e=>h.s _ _ e λz=>by
 obtain ⟨ys,e2⟩:=h.l0 p z;rw [e] at e2;cases e2
theorem SX.start {X:List Addr} {H:Hp} (l:∀ x ∈ X,∃ ys,H x=some (.lst ys)):SX X H H:=⟨λ_ _ h _=>h,l,l⟩
theorem SX.same {X:List Addr} {H H' H2:Hp} (h:SX X H H') (s:c7 H' H2):SX X H H2:=⟨λb o e n=>s _ _ (h.s b o e n),λx hx=>let ⟨ys,e⟩:=h.l x hx;⟨ys,s _ _ e⟩,h.l0⟩
theorem SX.upd {X:List Addr} {H H':Hp} (h:SX X H H') {a:Addr} (ha:a ∈ X) (ys:List V):SX X H (upd H' a (.lst ys)):=⟨λb o e n=>by rw [g9 (λz=>n (by rw [z];exact ha))];exact h.s b o e n,λx hx=>by
 by_cases z:x=a
 ·exact ⟨ys,by rw [z,c5]⟩
 ·rw [g9 z];exact h.l x hx,h.l0⟩
theorem Rws.sx {X:List Addr} {H H':Hp} (h:SX X H H'):∀ {ts:List Addr} {M:List (List Rat)},(∀ t ∈ ts,t ∉ X)->Rws H ts M->Rws H' ts M
 | _,_,_,.nil=>.nil
 | _,_,n,.cons e ns t=>.cons (h.s _ _ e (n _ q0u)) (ns.mono h.tups) (Rws.sx h (λt ht=>n t (q0p _ ht)) t)
theorem aF4:∀ {a b:List Addr},a.map V.ref=b.map V.ref->a=b
 | [],[],_=>rfl
 | [],_ :: _,h=>by cases h
 | _ :: _,[],h=>by cases h
 | x :: a,y :: b,h=>by
  rw [z0s,z0s] at h
  injection h with h1 h2
  injection h1 with h1
  rw [h1,aF4 h2]
theorem aN5 {n:Nat} {A:Mt}:∀ k,(chQ n A k)[k]? = some 1
 | 0=>rfl
 | k+1=>aN5 k
theorem Rws.drop1 {H:Hp}:∀ {ts:List Addr} {M:List (List Rat)},Rws H ts M->Rws H (ts.drop 1) (M.drop 1)
 | _,_,.nil=>.nil
 | _,_,.cons _ _ t=>t
def aL4:Sp:=λvs H Q _ => ∃ (p a:Addr) (xs:List V) (qs:List Rat) (M:List (List Rat)) (n B W D W1:Nat),vs=[.ref p,.ref a]/\H p=some (.lst xs)/\t5 H xs qs/\TbA H a M/\y4 B W M/\M.length=n/\1<=n/\n<=4/\1<=W/\W<=170/\(∀ q ∈ qs,OvB D W1 q)/\0<D/\D<2 ^ W1/\1<=W1/\W1<=800/\qs.length<=8/\N3 qs qs.length/\∀ H',c7 H H'->Q (.bl true) H'
abbrev U5:Stmt:=top 61
theorem K7:i7 ["_law_p","_law_table","_law_n","_law_due_here","_law_told","_law_handed","_law_beside"] ["_law_p","_law_table"] (c9 U5):=by and_intros
theorem aw6 {f f1 f2 f3 f4 f5 f6 f7:Addr} (d:Df K mg "_law_right" U5 ["_law_p","_law_table"] f) (G__law_copied:Def P w K mg base CX0 1 "_law_copied" f1 ["_law_table"] aF2) (G__law_due:Def P w K mg base CX0 5 "_law_due" f2 ["_law_p","_law_table"] (aT4 K)) (G_worth_by:Def P w K mg base CX0 4 "worth_by" f3 ["p","table"] (ax1 K)) (G__law_is_table:Def P w K mg base CX0 3 "_law_is_table" f4 ["_law_thing","_law_n"] (aL8 K)) (G__law_char:Def P w K mg base CX0 5 "_law_char" f5 ["_law_table"] (aT6 K)) (G__law_table_often:Def P w K mg base CX0 3 "_law_table_often" f6 ["_law_number_here","_law_table"] (aA1 K)) (G__law_unit:Def P w K mg base CX0 1 "_law_unit" f7 ["_law_n"] ar1) (n_len:mg "len" = none) (n_list:mg "list" = none):Def P w K mg base CX0 6 "_law_right" f ["_law_p","_law_table"] aL4:=by
  refine d.ok (N:=["_law_p","_law_table","_law_n","_law_due_here","_law_told","_law_handed","_law_beside"]) K7 (by rintro vs H Q E ⟨_,_,_,_,_,_,_,_,_,_,h,_⟩;rw [h];rfl) (λcdv A outer s H vs Q E hr h=>?_)
  obtain ⟨p,a,xs,qs,M,n,B,W,D,W1,rfl,hp,hN,hA,oM,hn,n1,n4,w1,hW,oq,D0,DW,w11,hW1,q8,tl,k⟩:=h;have hu:=hr.units;have lx:=hN.length;obtain ⟨ts,ha,hR⟩:=hA.ex;have hRl:=hR.length;have rM:∀ L ∈ M,L.length=n:=λL hL=>by rw [(oM.row L hL).1,hn]
  have fM:C3 n M (qq M):=C3.of hn rM
  have cM:ClN W M.flatten:=ab0 oM.B0 oM.BW λq hq=>by
    obtain ⟨L,hL,hq⟩:=List.mem_flatten.mp hq;exact (oM.row L hL).2 q hq
  have cq:ClN W1 qs:=ab0 D0 DW oq
  refine ⟨_, (c6 (g8 (i := 2) K7.nd rfl (Or.inl rfl) (j8 k0 rfl n_len (by decide +kernel) (b6 (pv 1) b8)))
      (c6 (aB4 (i:=5) (j:=6) rfl K7.nd rfl rfl (by decide) rfl rfl (b6 (w4 M9 rfl n_list (by decide +kernel) (b6 (pv 0) b8)) (b6 (d4 G__law_copied hr (b6 (pv 1) b8) f9) b8)) rfl)
      (c6 (g8 (i:=3) K7.nd rfl (Or.inl rfl) (d4 G__law_due hr (b6 (pv 0) (b6 (pv 1) b8)) f9))
      (c6 (g8 (i:=4) K7.nd rfl (Or.inl rfl) (d4 G_worth_by hr (b6 (pv 5) (b6 (pv 6) b8)) f9))
      (c6 (B8 (PW.pt (ac6 (Z3 (Z2 (d4 G__law_is_table hr (b6 (pv 4) (b6 (pv 2) b8)) f9))) (ac6 (j9 (aj9 hu) (pv 4) (pv 3) (j1 _)) (ac6 (j9 (aj9 hu) (pv 5) (pv 0) (j1 _)) (aj8 (j9 (aj9 hu) (pv 6) (pv 1) (j1 _))))))) (d2 (i5 am4)) p9)
      (c6 (F9 (j3 (b6 b9 (b6 b9 b8))) (Z4 (j4 t9 (pv 4) b9 (λ_ _=>rfl)) b9 K6))
      (c6 (B8 (PW.pt (ac6 (j9 (aj9 hu) (Q8 X4 (pv 4) (P1 b9) U8) (Q8 X4 (pv 3) (P1 b9) U8) (j1 _)) (aj8 (j9 (aj9 hu) (pv 6) (pv 1) (j1 _))))) (d2 (i5 am4)) p9)
      (c6 (am1 (aM0 PySem.F.plainAttrs_list PySem.F.slot_list_append PySem.F.type_list_append J7 (pv 4) (b6 (B5 b8) b8)))
      (c6 (F9 (j3 (b6 b9 (b6 b9 b8))) (Z4 (j4 t9 (pv 6) (g7 M0 (pv 2) b9) (λ_ _=>rfl)) b9 K6))
      (c6 (am1 (aM0 PySem.F.plainAttrs_list PySem.F.slot_list_append PySem.F.type_list_append J7 (pv 5) (b6 (j3 (b6 b9 (b6 b9 b8))) b8)))
      (c6 (B8 (j9 (aj9 hu) (d4 G_worth_by hr (b6 (d4 G__law_char hr (b6 (pv 1) b8) f9) (b6 (d4 G__law_copied hr (b6 (pv 1) b8) f9) b8)) f9) (d4 G__law_table_often hr (b6 (j3 (b6 b9 (b6 b9 b8))) (b6 (d4 G__law_unit hr (b6 (pv 2) b8) f9) b8)) f9) (j1 _)) (d2 (i5 am4)) p9)
      (d2 (i5 (B6 (aB7 hu) (d4 G_worth_by hr (b6 (w4 M9 rfl n_list (by decide +kernel) (b6 (pv 0) b8)) (b6 (d4 G__law_copied hr (b6 (pv 1) b8) f9) b8)) f9) (pv 3) (j1 _))))))))))))))),?_⟩
  rw [show start ["_law_p","_law_table","_law_n","_law_due_here","_law_told","_law_handed","_law_beside"] [.ref p,.ref a]=[some (.ref p),some (.ref a),none,none,none,none,none] from rfl]
  refine h9 (λσ H1=>H1=H/\σ=[some (.ref p),some (.ref a),some (.int (n:Int)),none,none,none,none]) (λN hN'=>?_) ?_
  · subst_eqs
    exact ⟨_,.inl (SqL.of ha),hN' _ _ ⟨rfl,by rw [List.length_map,hRl,hn]⟩⟩
  rintro σ H1 ⟨rfl,rfl⟩;refine h9 (λσ H2 => ∃ l b,σ=[some (.ref p),some (.ref a),some (.int (n:Int)),none,none,some (.ref l),some (.ref b)]/\c7 H1 H2/\H1 l=none/\H2 l=some (.lst xs)/\t6 H1 b M H2/\H1 b=none/\l ≠ b/\∀ us:List Addr,H2 b=some (.lst (us.map V.ref))->l ∉ us) (λN hN'=>?_) ?_
  · subst_eqs
    refine ⟨xs,.inl (SqL.of hp),λl fl=>?_⟩;have Sl:=c7.new fl (.lst xs)
    exact ⟨a,ts,M,rfl,Sl _ _ ha,hR.same Sl,⋯,λr us H2 s2 fr ft nd er rr=>hN' _ _ ⟨l,r,rfl,Sl.trans s2,fl,s2 _ _ c5,⟨Sl.trans s2,us,er,λt ht=>⟨Sl.free (ft t ht).1,(ft t ht).2⟩,nd,rr⟩,Sl.free fr,(λz=>by rw [<- z,c5] at fr;cases fr),λus' h z=>by
      rw [er] at h;have:us=us':=aF4 (HO.lst.inj (Option.some.inj h));have:=(ft l (this ▸ z)).1;rw [c5] at this;cases this⟩⟩
  rintro σ H2 ⟨l,b,rfl,s2,fl,el,Tb,fb,lb,lBx⟩;refine h9 (λσ H3 => ∃ d R,σ=[some (.ref p),some (.ref a),some (.int (n:Int)),some (.ref d),none,some (.ref l),some (.ref b)]/\t6 H2 d R H3/\H2 d=none/\C3 n R (hsM n (qq M) qs)/\y4 (D*B ^ qs.length) (W1+qs.length*(W+5)+2) R) (λN hN'=>?_) ?_
  · subst_eqs
    exact ⟨p,a,xs,qs,M,n,B,W,D,W1,rfl,s2 _ _ hp,hN.mono s2.tups,hA.same s2,oM,hn,n4,w1,hW,oq,D0,DW,hW1,q8,λR fR oR r t3 H3 s3 fr3 ft3 nd3 e3 R3=>hN' _ _ ⟨r,R,rfl,⟨s3,t3,e3,ft3,nd3,R3⟩,fr3,fR,oR⟩⟩
  rintro σ H3 ⟨d,R,rfl,⟨s3,tsD,ed,ftD,_,RD⟩,fd,fR,oR⟩;have s23:=s2.trans s3;refine h9 (λσ H4 => ∃ t,σ=[some (.ref p),some (.ref a),some (.int (n:Int)),some (.ref d),some (.ref t),some (.ref l),some (.ref b)]/\t6 H3 t R H4/\H3 t=none) (λN hN'=>?_) ?_
  · subst_eqs
    obtain ⟨us,eb,Rb⟩:=Tb.ws;refine ⟨l,b,xs,qs,us,M,n,W,W1,rfl,SqL.of (s3 _ _ el),(hN.mono s23.tups).toC,cq,⋯,w11,q8,tl,s3 _ _ eb,Rb.same s3,hn,rM,n4,cM,⋯,λR' fR' r us' H4 s4 fr ft nd er rr=>?_⟩;rw [fR'.eq fR] at rr;exact hN' _ _ ⟨r,rfl,⟨s4,us',er,ft,nd,rr⟩,fr⟩
  rintro σ H4 ⟨t,rfl,⟨s4,tsT,et,ftT,ndT,RT⟩,ftt⟩;have s14:=s23.trans s4;obtain ⟨_,tsB,eb,ftB,ndB,RB⟩:=Tb;have lR:=fR.len;have lT:=RT.length;have lB':=RB.length;have lB:=lBx _ eb;have eW:qs.length*(W+5)<=8*175:=Nat.mul_le_mul q8 ⋯
  -- what stays while aY4,beside and handed are changed
  obtain ⟨X,hX⟩:∃ X:List Addr,X=l :: t :: (tsT ++ tsB):=⟨_,rfl⟩;have eb4:=s4 _ _ (s3 _ _ eb);have RB4:=(RB.same s3).same s4
  have lsT:∀ x ∈ tsT,∃ ys,H4 x=some (.lst ys):=λx hx=>by
    obtain ⟨i,hi⟩:=List.mem_iff_getElem?.mp hx;obtain ⟨xs,_,_,e,_⟩:=RT.get hi;exact ⟨xs,e⟩
  have lsB:∀ x ∈ tsB,∃ ys,H4 x=some (.lst ys):=λx hx=>by
    obtain ⟨i,hi⟩:=List.mem_iff_getElem?.mp hx;obtain ⟨xs,_,_,e,_⟩:=RB4.get hi;exact ⟨xs,e⟩
  have xX:∀ x ∈ X,(∃ ys,H4 x=some (.lst ys))/\H1 x=none:=λx hx=>by
    rw [hX] at hx;rcases List.mem_cons.mp hx with rfl | hx
    · exact ⟨⟨_,s4 _ _ (s3 _ _ el)⟩,fl⟩
    rcases List.mem_cons.mp hx with rfl | hx
    · exact ⟨⟨_,et⟩,s23.free ftt⟩
    rcases List.mem_append.mp hx with hx | hx
    · exact ⟨lsT x hx,s23.free (ftT x hx).1⟩
    · exact ⟨lsB x hx,(ftB x hx).1⟩
  have old:∀ x,(∃ o,H1 x=some o)->x ∉ X:=λx ⟨o,h⟩ hx=>by
    have:=(xX x hx).2;rw [h] at this;cases this
  have aX:=old a ⟨_,ha⟩;have pX:=old p ⟨_,hp⟩
  have tsX:∀ x ∈ ts,x ∉ X:=λx hx=>by
    obtain ⟨i,hi⟩:=List.mem_iff_getElem?.mp hx;obtain ⟨xs,_,_,e,_⟩:=hR.get hi;exact old x ⟨_,e⟩
  have dueX:∀ x,H2 x=none->(∃ o,H3 x=some o)->x ∉ X:=λx h2 ⟨o,h3⟩ hx=>by
    rw [hX] at hx;rcases List.mem_cons.mp hx with rfl | hx
    · rw [el] at h2;cases h2
    rcases List.mem_cons.mp hx with rfl | hx
    · rw [h3] at ftt;cases ftt
    rcases List.mem_append.mp hx with hx | hx
    · have:=(ftT x hx).1
      rw [h3] at this;cases this
    · obtain ⟨i,hi⟩:=List.mem_iff_getElem?.mp hx
      obtain ⟨_,_,_,e,_⟩:=RB.get hi;rw [h2] at e;cases e
  have dX:=dueX d fd ⟨_,ed⟩
  have tdX:∀ x ∈ tsD,x ∉ X:=λx hx=>by
    obtain ⟨i,hi⟩:=List.mem_iff_getElem?.mp hx;obtain ⟨_,_,_,e,_⟩:=RD.get hi;exact dueX x (ftD x hx).1 ⟨_,e⟩
  have SX0:SX X H4 H4:=SX.start λx hx=>(xX x hx).1;refine h9 (λσ H5=>c7 H4 H5/\σ=[some (.ref p),some (.ref a),some (.int (n:Int)),some (.ref d),some (.ref t),some (.ref l),some (.ref b)]) (λN hN'=>?_) ?_
  · subst_eqs
    refine ⟨t,tsT,R,by rw [lR],et,RT.toC,⋯,λL hL=>?_,λH5 s5=>⟨true,rfl,F2 (λz=>by cases z) λ_=>?_⟩⟩
    · have:=oR.bd L hL
      exact ⟨this.1,λq hq=>(this.2 q hq).mono ⋯⟩
    have S5:=s14.trans s5;refine ⟨F1 R,F1 R,rfl,.lst (SqL.of (s5 _ _ et)) (RT.same s5).isDs,.lst (SqL.of (s5 _ _ (s4 _ _ ed))) ((RD.same s4).same s5).isDs,V0 _ _,aa9 _,_,rfl,?_⟩;rw [V2,decide_eq_true rfl,if_neg (by decide)]
    refine ⟨F4 qs,F4 qs,rfl,M6 (SqL.of (s5 _ _ (s4 _ _ (s3 _ _ el)))) (hN.mono S5.tups),M6 (SqL.of (S5 _ _ hp)) (hN.mono S5.tups),ae4 _ _,Nat.le_trans (an3 _) (by decide),_,rfl,?_⟩
    rw [aa8,decide_eq_true rfl,if_neg (by decide)]
    refine ⟨F1 M,F1 M,rfl,.lst (SqL.of (s5 _ _ eb4)) (RB4.same s5).isDs,.lst (SqL.of (S5 _ _ ha)) (hR.same S5).isDs,V0 _ _,aa9 _,_,rfl,?_⟩;rw [V2,decide_eq_true rfl,if_neg (by decide)]
    exact hN' _ _ ⟨s5,rfl⟩
  rintro σ H5 ⟨s5,rfl⟩;have SX5:=SX0.same s5;obtain ⟨D1,h1⟩:∃ D1,tsT[0]? = some D1:=⟨_,List.getElem?_eq_getElem ⋯⟩;have m1:=List.mem_of_getElem? h1;have D1X:D1 ∈ X:=by rw [hX];exact List.mem_cons_of_mem _ (List.mem_cons_of_mem _ (List.mem_append_left _ m1))
  have tX:t ∈ X:=by rw [hX];exact List.mem_cons_of_mem _ List.mem_cons_self
  have lX:l ∈ X:=by rw [hX];exact List.mem_cons_self
  refine h9 (λσ H6=>σ=[some (.ref p),some (.ref a),some (.int (n:Int)),some (.ref d),some (.ref t),some (.ref l),some (.ref b)]/\SX X H4 H6/\H6 t=some (.lst (tsT.map V.ref))/\Rws H6 (tsT.drop 1) (R.drop 1)/\H6 b=some (.lst (tsB.map V.ref))/\Rws H6 tsB M/\H6 l=some (.lst xs)) (λN hN'=>?_) ?_
  · subst_eqs
    refine ⟨by decide,λp1 f1=>?_⟩
    have Sp:=c7.new f1 (.tup [.int 77,.int 1]);obtain ⟨x1,L1,eL1,ex1,nx1⟩:=((RT.same s5).same Sp).get h1;have lx1:x1.length=n:=by rw [nx1.length,fR.row _ (List.mem_of_getElem? eL1)]
    refine ⟨_,SqL.of (Sp _ _ (s5 _ _ et)),.ref D1,by exact C7 (j:=0) (by rw [List.getElem?_map,h1];rfl),D1,rfl,x1,ex1,0,by exact ak7 (k:=0) ⋯,?_⟩
    have d1t:D1 ≠ t:=(ftT D1 m1).2;have D1H4:=(ftT D1 m1).1;have d1b:D1 ≠ b:=λz=>by rw [z,s3 _ _ eb] at D1H4;cases D1H4
    have d1B:D1 ∉ tsB:=λz=>by
      obtain ⟨i,hi⟩:=List.mem_iff_getElem?.mp z;obtain ⟨_,_,_,e,_⟩:=(RB.same s3).get hi;rw [D1H4] at e;cases e
    have d1l:D1 ≠ l:=λz=>by rw [z,s3 _ _ el] at D1H4;cases D1H4
    have d1d:D1 ∉ tsT.drop 1:=λz=>by
      have h0:tsT=D1 :: tsT.drop 1:=by
        cases tsT with
        | nil=>cases h1
        | cons q r=>cases h1;rfl
      rw [h0] at ndT;exact (List.nodup_cons.mp ndT).1 z
    have S56:=s5.trans Sp;refine hN' _ _ ⟨rfl,(SX5.same Sp).upd D1X _,by rw [g9 d1t.symm];exact S56 _ _ et,((RT.same S56).drop1).over ex1 d1d,by rw [g9 d1b.symm];exact S56 _ _ eb4,(RB4.same S56).over ex1 d1B,by rw [g9 d1l.symm];exact S56 _ _ (s4 _ _ (s3 _ _ el))⟩
  rintro σ H6 ⟨rfl,SX6,et6,RT6,eb6,RB6,el6⟩;have keep:∀ {G:Hp},SX X H4 G->G a=some (.lst (ts.map V.ref))/\Rws G ts M/\G p=some (.lst xs)/\t5 G xs qs/\G d=some (.lst (tsD.map V.ref))/\Rws G tsD R:=fun {G} sx=>⟨sx.s _ _ (s14 _ _ ha) aX,Rws.sx sx tsX (hR.same s14),sx.s _ _ (s14 _ _ hp) pX,(hN.mono s14.tups).mono sx.tups,sx.s _ _ (s4 _ _ ed) dX,Rws.sx sx tdX (RD.same s4)⟩;have lD:=RD.length;refine h9 (λσ H7=>σ=[some (.ref p),some (.ref a),some (.int (n:Int)),some (.ref d),some (.ref t),some (.ref l),some (.ref b)]/\c7 H6 H7) (λN hN'=>?_) ?_
  · obtain ⟨k1,k2,k3,k4,k5,k6⟩:=keep SX6
    subst_eqs
    refine ⟨_,SqL.of et6,λp1 f1=>⟨_,SqL.of (c7.new f1 _ _ _ k5),λp2 f2=>?_⟩⟩;rw [aN3,aN3,<- List.map_drop,<- List.map_drop] at *;have Sa:=c7.new f1 (.lst ((tsT.drop 1).map V.ref));have Sb:=c7.new f2 (.lst ((tsD.drop 1).map V.ref));have Sab:=Sa.trans Sb;refine ⟨F1 (R.drop 1),F1 (R.drop 1),rfl,.lst (SqL.of (Sb _ _ c5)) (RT6.same Sab).isDs,.lst (SqL.of c5) ((k6.drop1).same Sab).isDs,V0 _ _,aa9 _,_,rfl,?_⟩;rw [V2,decide_eq_true rfl,if_neg (by decide)]
    refine ⟨F1 M,F1 M,rfl,.lst (SqL.of (Sab _ _ eb6)) (RB6.same Sab).isDs,.lst (SqL.of (Sab _ _ k1)) (k2.same Sab).isDs,V0 _ _,aa9 _,_,rfl,?_⟩;rw [V2,decide_eq_true rfl,if_neg (by decide)]
    exact hN' _ _ ⟨rfl,Sab⟩
  rintro σ H7 ⟨rfl,s7⟩;refine h9 (λσ H8=>σ=[some (.ref p),some (.ref a),some (.int (n:Int)),some (.ref d),some (.ref t),some (.ref l),some (.ref b)]/\SX X H4 H8/\H8 b=some (.lst (tsB.map V.ref))/\Rws H8 tsB M/\H8 l=some (.lst xs)) (λN hN'=>?_) ?_
  · subst_eqs
    refine ⟨.inl ⟨_,SqL.of (s7 _ _ et6)⟩,by decide,λp1 f1=>?_⟩
    have Sp:=c7.new f1 (.lst []);have S:=s7.trans Sp;have tb:t ≠ b:=λz=>by rw [z,s3 _ _ eb] at ftt;cases ftt
    have tnB:t ∉ tsB:=λz=>by
      obtain ⟨i,hi⟩:=List.mem_iff_getElem?.mp z;obtain ⟨_,_,_,e,_⟩:=(RB.same s3).get hi;rw [ftt] at e;cases e
    have tl':t ≠ l:=λz=>by rw [z,s3 _ _ el] at ftt;cases ftt
    exact ⟨_,S _ _ et6,p8 (by rw [List.length_map];omega),hN' _ _ ⟨rfl,(SX6.same S).upd tX _,by rw [g9 tb.symm];exact S _ _ eb6,(RB6.same S).over (S _ _ et6) tnB,by rw [g9 tl'.symm];exact S _ _ el6⟩⟩
  rintro σ H8 ⟨rfl,SX8,eb8,RB8,el8⟩;refine h9 (λσ H9=>σ=[some (.ref p),some (.ref a),some (.int (n:Int)),some (.ref d),some (.ref t),some (.ref l),some (.ref b)]/\SX X H4 H9/\H9 l=some (.lst xs)) (λN hN'=>?_) ?_
  · subst_eqs
    refine ⟨by decide,λp1 f1=>?_⟩
    have Sp:=c7.new f1 (.tup [.int 55,.int 1]);obtain ⟨D2,h2⟩:∃ D2,tsB[n-1]? = some D2:=⟨_,List.getElem?_eq_getElem ⋯⟩;have m2:=List.mem_of_getElem? h2;have D2X:D2 ∈ X:=by rw [hX];exact List.mem_cons_of_mem _ (List.mem_cons_of_mem _ (List.mem_append_right _ m2))
    obtain ⟨x1,L1,eL1,ex1,nx1⟩:=(RB8.same Sp).get h2;have lx1:x1.length=n:=by rw [nx1.length,rM _ (List.mem_of_getElem? eL1)]
    have d2l:D2 ≠ l:=λz=>by
      exact lB (z ▸ m2)
    exact ⟨_,SqL.of (Sp _ _ eb8),.ref D2,by rw [show ((n:Int)-1)=((n-1:Nat):Int) by omega];exact C7 (by rw [List.getElem?_map,h2];rfl),D2,rfl,x1,ex1,0,by exact ak7 (k:=0) ⋯,hN' _ _ ⟨rfl,(SX8.same Sp).upd D2X _,by rw [g9 d2l.symm];exact Sp _ _ el8⟩⟩
  rintro σ H9 ⟨rfl,SX9,el9⟩;refine h9 (λσ H10=>σ=[some (.ref p),some (.ref a),some (.int (n:Int)),some (.ref d),some (.ref t),some (.ref l),some (.ref b)]/\SX X H4 H10) (λN hN'=>?_) ?_
  · subst_eqs
    refine ⟨.inl ⟨_,SqL.of el9⟩,by decide,λp1 f1=>?_⟩
    have Sp:=c7.new f1 (.tup [.int 3,.int 1]);exact ⟨_,Sp _ _ el9,p8 ⋯,hN' _ _ ⟨rfl,(SX9.same Sp).upd lX _⟩⟩
  rintro σ H10 ⟨rfl,SX10⟩;refine h9 (λσ H11=>σ=[some (.ref p),some (.ref a),some (.int (n:Int)),some (.ref d),some (.ref t),some (.ref l),some (.ref b)]/\SX X H4 H11) (λN hN'=>?_) ?_
  · subst_eqs
    obtain ⟨k1,k2,k3,k4,k5,k6⟩:=keep SX10;refine ⟨a,M,n,B,W,rfl,⟨ts,k1,k2⟩,oM,hn,n4,hW,λr zs Ha sa fr er nr obc bec=>?_⟩;refine ⟨a,ts,M,rfl,sa _ _ k1,k2.same sa,⋯,λc us Hb sb frb ftb ndb eb' Rb'=>?_⟩;have wb:n*(W+12)<=4*182:=Nat.mul_le_mul n4 ⋯;refine ⟨r,c,zs,chQ n (qq M) n,us,M,n,W,n*(W+12)+1,rfl,SqL.of (sb _ _ er),(nr.mono sb.tups).toC,ab0 (aD3 oM.B0 n) bec obc,⋯,⋯,by rw [aE0];omega,as1 λx hx=>?_,eb',Rb',hn,rM,n4,cM,⋯,λR' fR' rw' us' Hc sc frc ftc ndc ec Rc=>⟨by decide,λpz fz=>?_⟩⟩
    · rw [aE0,Nat.add_sub_cancel,aN5] at hx
      cases hx;decide
    have Sz:=c7.new fz (.tup [.int 0,.int 1]);refine ⟨n,rfl,⋯,λru tu Hd sd fru ftu ndu eu Ru=>?_⟩;refine ⟨_,0,ru,tu,M1 n,1,1,1,rfl,⟨pz,rfl,SqT.of (sd _ _ c5)⟩,⟨by decide,by decide⟩,eu,Ru.toC,as0 ⋯,by decide,λrz tz He se frz ftz ndz ez Rz=>?_⟩
    have eq0:R'=ak3 0 (M1 n):=(fR'.to λi j hi hj=>bg5 n1 n4 hi hj).eq (((C3.unit n).often 0).to λi j _ _=>by grind)
    subst eq0;have Sc:=Sz.trans (sd.trans se);refine ⟨F1 _,F1 _,rfl,.lst (SqL.of (Sc _ _ ec)) (Rc.same Sc).isDs,.lst (SqL.of ez) Rz.isDs,V0 _ _,aa9 _,_,rfl,?_⟩;rw [V2,decide_eq_true rfl,if_neg (by decide)]
    exact hN' _ _ ⟨rfl,SX10.same (sa.trans (sb.trans (sc.trans Sc)))⟩
  rintro σ H11 ⟨rfl,SX11⟩;obtain ⟨k1,k2,k3,k4,k5,k6⟩:=keep SX11
  subst_eqs
  refine ⟨xs,.inl (SqL.of k3),λc fc=>?_⟩;have Sc:=c7.new fc (.lst xs);refine ⟨a,ts,M,rfl,Sc _ _ k1,k2.same Sc,⋯,λc2 us Hb sb frb ftb ndb eb' Rb'=>?_⟩;have S:=Sc.trans sb;refine ⟨c,c2,xs,qs,us,M,n,W,W1,rfl,SqL.of (sb _ _ c5),(k4.mono S.tups).toC,cq,⋯,w11,q8,tl,eb',Rb',hn,rM,n4,cM,⋯,λR' fR' rw' us' Hc sc frc ftc ndc ec Rc=>?_⟩;have eqR:=fR'.eq fR;subst eqR;have S2:=S.trans sc;refine ⟨F1 _,F1 _,rfl,.lst (SqL.of ec) Rc.isDs,.lst (SqL.of (S2 _ _ k5)) (k6.same S2).isDs,V0 _ _,aa9 _,?_⟩;rw [V2,decide_eq_true rfl];exact k _ λx o h=>S2 _ _ (SX11.s _ _ (s14 _ _ h) (old x ⟨o,h⟩))
abbrev ax4:Stmt:=top 62
theorem ad7:i7 ["_law_script","_law_at","_law_urn_here","_law_bare","_law_p","_law_table","_law_numbers"] ["_law_script"] (c9 ax4):=by and_intros
theorem be8 {f g1 g2 g3 g4 g5 g6:Addr} {fd:FuncData} (F:Fun K "law" "law" ax4 f fd) (G__law_urn:Def P w K mg base CX0 1 "_law_urn" g1 ["_law_script","_law_at"] (bc0 K)) (G__law_draw:Def P w K mg base CX0 1 "_law_draw" g2 ["_law_urn_here","_law_many"] C8) (G__law_kind:Def P w K mg base CX0 2 "_law_kind" g3 ["_law_urn_here"] as3) (GD__law_drawn_poly:Def P w K mg base CX0 4 "_law_drawn_poly" g4 ["_law_urn_here","_law_kind_here","_law_most"] al3) (G__law_machine:Def P w K mg base CX0 8 "_law_machine" g5 ["_law_urn_here"] aT2) (G__law_right:Def P w K mg base CX0 6 "_law_right" g6 ["_law_p","_law_table"] aL4)
  (n_range:mg "range" = none):af4 P w K mg base CX0 9 f fd ["_law_script"] (aL6 K):=by
 refine F.ok (N:=["_law_script","_law_at","_law_urn_here","_law_bare","_law_p","_law_table","_law_numbers"]) ad7 (λvs H Q E ⟨x,y,h,_⟩=>by rw [h];rfl) (λcdv A outer s H vs Q E hr h=>?_)
 obtain ⟨as,ns,rfl,hS,h63,k⟩:=h;have hu:=hr.units;have G__law_drawn_poly:=GD__law_drawn_poly
 refine ⟨_,(c6 (K2 PassesOwn.never rfl (y3 rfl n_range (b6 b9 b8)) (d5 (i:=1) ad7.nd rfl (q0w rfl)) (c6 (g8 (i:=2) ad7.nd rfl (q0w rfl) (d4 G__law_urn hr (b6 (pv 0) (b6 (pv 1) b8)) f9))
   (c6 (g8 (i:=3) ad7.nd rfl (q0w rfl) (B6 S9 (d4 G__law_draw hr (b6 (pv 2) (b6 b9 b8)) f9) b9 (j1 _)))
   (c6 (g8 (i:=4) ad7.nd rfl (q0w rfl) (d4 G__law_drawn_poly hr (b6 (pv 2) (b6 (d4 G__law_kind hr (b6 (pv 2) b8) f9) (b6 b9 b8))) f9))
   (c6 (B8 (Z2 (pv 3)) (d2 (g8 (i:=4) ad7.nd rfl (q0w rfl) (B5 b8))) p9)
   (c6 (F9 (d4 G__law_machine hr (b6 (pv 2) b8) f9) (show PG _ _ (G3 K 2 (l9 (j7 5) (l9 (j7 6) G4))) from by (refine C9 (n:=2) ?_ ?_ ?_ ?_;rfl;(refine i6 ?_ ?_ ?_;(exact (d5 (i:=5) ad7.nd rfl (q0w rfl)));(refine i6 ?_ ?_ ?_;(exact (d5 (i:=6) ad7.nd rfl (q0w rfl)));(exact y7);rfl);rfl);rfl;rfl)))
   (d2 (B8 (Z3 (Z2 (d4 G__law_right hr (b6 (pv 4) (b6 (pv 5) b8)) f9))) (d2 (i5 am4)) p9))))))))
   (d2 (i5 am4))),?_⟩
 rw [show start ["_law_script","_law_at","_law_urn_here","_law_bare","_law_p","_law_table","_law_numbers"] [.ref as]=[some (.ref as),none,none,none,none,none,none] from rfl]
 refine ⟨_,rfl,by decide,by decide,V1 (λi σ H1 => ∃ o1 o2 o3 o4 o5 o6:Option V,σ=[some (.ref as),o1,o2,o3,o4,o5,o6]/\SqL K H1 as (ns.map V.int)) ⟨_,_,_,_,_,_,rfl,hS⟩ ?_ ?_⟩
 ·rintro i σ H1 hi ⟨o1,o2,o3,o4,o5,o6,rfl,hS1⟩
  refine h9 (λσ H2 => ∃ u,σ=[some (.ref as),some (.int (0+(i:Int))),some (.ref u),o3,o4,o5,o6]/\c7 H1 H2/\H1 u=none/\k8 H2 u) (λN hN=>?_) ?_
  ·subst_eqs
   exact ⟨as,ns,_,rfl,hS1,⋯,⋯,λu H2 s2 hu0 hu2=>hN _ _ ⟨u,rfl,s2,hu0,hu2⟩⟩
  rintro σ H2 ⟨u,rfl,s2,fu,u2⟩;have su:∀ {H'},l4 u H2 H'->SqL K H' as (ns.map V.int):=λs=>((c7.x s2 u).trans s).seq fu hS1;refine h9 (λσ H3 => ∃ b,σ=[some (.ref as),some (.int (0+(i:Int))),some (.ref u),some (.bl b),o4,o5,o6]/\l4 u H2 H3/\k8 H3 u) (λN hN=>?_) ?_
  ·simp! [C8]
   exact ⟨u2,by decide,by decide,λr H3 r0 r1 s3 u3=>⟨rfl,hN _ _ ⟨_,rfl,s3,u3⟩⟩⟩
  rintro σ H3 ⟨b,rfl,s3,u3⟩;obtain ⟨PolyOk,hPo⟩:∃ PolyOk:List Rat->Prop,∀ qs,PolyOk qs ↔ (qs.length<=8/\N3 qs qs.length/\∀ q ∈ qs,BdN 40 q):=⟨_,λ_=>Iff.rfl⟩;refine h9 (λσ H4 => ∃ p xs qs,σ=[some (.ref as),some (.int (0+(i:Int))),some (.ref u),some (.bl b),some (.ref p),o5,o6]/\l4 u H2 H4/\k8 H4 u/\LsX u H4 p xs qs/\PolyOk qs) (λN hN=>?_) ?_
  ·simp only [ak9,ipM,aj6,ah1,ae0,B2,W6,D4,y0,V6,ae6,aj4,tSl,ai6,K5,A4,Q6,aj5,F8,T9,x4,z0s,v0w,u0h,u0j,u0k,ag6,ai8,aj0,tOr,ai7,V3,tB,tOp,tUn,ag9,tBM,B3,tC,tCB,ag7,ad1,j7,ae7,G3,l9,G4,A3,N4,ag8,ai5,ad0,tIf,V9,V4,V8,V7,V5,L8,ai9,rI,rI0,rU,F6,N8,ae1,Q7,rEq,rNe,aj7,Z1,W8,W7,K0,Z6,Cx.nox,Cx.wish,y0d,j0k,v0y,y0y,Option.some.injEq,V.int.injEq,V.bl.injEq,V.ref.injEq,V.str.injEq,exists_eq_left',exists_eq_left,exists_and_left,true_and,and_true,List.cons.injEq,reduceCtorEq,y0x,if_false,if_true,exists_const,↓reduceIte,tyV,z0n,v0u,exists_eq,v0r,v0j,v0s,decide_eq_true_eq,not_true_eq_false,not_false_eq_true,y0c,decide_eq_false_iff_not,g0a,u0x,and_assoc,false_and,false_or,or_false,as3]
   refine ⟨u3,λkd H4 hk s4 u4=>?_⟩;refine ⟨u,kd,7,rfl,u4,by decide,by decide,λr xs qs q H5 s5 u5 fr er nr bq bl q0 lq=>?_⟩
   have b40:bK kd<=40:=by unfold bK;split <;> decide
   refine hN _ _ ⟨r,xs,qs ++ [q],rfl,s3.trans (s4.trans s5),u5,⟨w5 u4 fr,er,nr⟩,(hPo _).mpr ⟨by rw [j0d];simp;omega,az8 q0,λx hx=>?_⟩⟩
   rcases z0y.mp hx with z | z
   ·exact (bq x z).mono b40
   ·rw [z0f.mp z];exact bl.mono b40
  rintro σ H4 ⟨p,xs,qs,rfl,s4,u4,L4,po4⟩;refine h9 (λσ H5 => ∃ p xs qs,σ=[some (.ref as),some (.int (0+(i:Int))),some (.ref u),some (.bl b),some (.ref p),o5,o6]/\l4 u H2 H5/\k8 H5 u/\LsX u H5 p xs qs/\PolyOk qs) (λN hN=>?_) ?_
  ·subst_eqs
   refine F2 (λ_=>?_) (λ_=>hN _ _ ⟨p,xs,qs,rfl,s4,u4,L4,po4⟩);refine ⟨by decide,λl fl=>hN _ _ ⟨l,[],[],rfl,s4.trans (c7.x (c7.new fl _) u),J0 u4 fl,⟨w5 u4 fl,c5,.nil⟩,(hPo _).mpr ⟨by decide,bd4,by simp⟩⟩⟩
  clear s4 u4 L4 po4;rintro σ H5 ⟨p,xs,qs,rfl,s5,u5,L5,po5⟩;refine h9 (λσ H6 => ∃ l v us M,σ=[some (.ref as),some (.int (0+(i:Int))),some (.ref u),some (.bl b),some (.ref p),some (.ref l),some v]/\R1 u H5 l us M H6/\1<=M.length/\M.length<=4/\bj8 M) (λN hN=>?_) ?_
  ·subst_eqs
   refine ⟨u,rfl,u5,λr l v us M H6 dA m1 m4 mT e6=>?_⟩;exact ⟨r,rfl,_,SqT.of e6,rfl,_,_,rfl,_,_,rfl,rfl,hN _ _ ⟨l,v,us,M,rfl,dA,m1,m4,mT⟩⟩
  rintro σ H6 ⟨l,v,us,M,rfl,dA,m1,m4,mT⟩;have L6:=L5.samex dA.same u5;obtain ⟨q8,tl,bq⟩:=(hPo _).mp po5
  obtain ⟨C,W,oM,w1,hW⟩:∃ C W,y4 C W M/\1<=W/\W<=162:=by
   rcases mT with ⟨C,h⟩ | ⟨h2,h⟩
   ·exact ⟨C,120,h,by decide,by decide⟩
   ·obtain ⟨C,h⟩:=aZ9 h2 h
    exact ⟨C,162,h,by decide,by decide⟩
  have bl:40*qs.length<=320:=⋯
  subst_eqs
  refine ⟨p,l,xs,qs,M,M.length,C,W,aH8 qs,321,rfl,L6.at',L6.nums,⟨us,dA.at',dA.rws⟩,oM,rfl,m1,m4,w1,⋯,λq hq=>(aD6 qs bq q hq).mono ⋯,ae9 qs,q0b (ar7 qs bq) (d6 ⋯),by decide,by decide,q8,tl,λH7 s7=>⟨true,rfl,F2 (λz=>by cases z) λ_=>su (s5.trans (dA.same.trans (c7.x s7 u)))⟩⟩
 ·rintro σ H1 ⟨o1,o2,o3,o4,o5,o6,rfl,hS1⟩
  exact k H1
end
end R
set_option maxRecDepth 100000
namespace PySem.W.Fast
def tw7955039782088980613:=0
def tw17182173528735909216:=0
def tw7038354385266331648:=0
def tw16255057859185648284:=0
def tw5132768016203438873:=0
def tw12428771370794073484:=0
def tw3827324219377084948:=0
def tw16940960470964092640:=0
def tw4583605599603741657:=0
def tw15684489336496924184:=0
def tw16813945485967832433:=0
def tw2634159131524491434:=0
def tw16432554732897874717:=0
def tw9286277990290249829:=0
def tw16279021811317865371:=0
def tw5958805189267382209:=0
def tw11324471419068627797:=0
def tw16050463573592038822:=0
def tw15467410731331660510:=0
def tw12911921269363225877:=0
def tw12481231761922110556:=0
def tw18084156068226227878:=0
def tw12414373100829000808:=0
def tw8707203790292464958:=0
def tw12907989227591592848:=0
def tw3832055580627405678:=0
def tw7213849171200653733:=0
def tw16034288119729941344:=0
def tw6831132312651128016:=0
def tw9475330856994243154:=0
def tw13189045494805333924:=0
def tw11684219705506211161:=0
def tw190262535389630329:=0
def tw4128140956957464897:=0
def tw2938830992309636638:=0
def tw11691411801774061246:=0
def tw12161453281410012493:=0
def tw7216650468580066640:=0
def tw12964611679830091268:=0
def tw8787247914024196358:=0
def tw10544431498192637927:=0
def tw2746350294923687428:=0
def tw13498354654328400590:=0
def tw11902557853786479248:=0
def tw5393265202686786390:=0
def tw5309939047071542253:=0
def tw2411001439181961369:=0
def tw13946314768637627521:=0
def tw10910915618145710869:=0
def tw1775497898407268109:=0
def tw7169143207116396991:=0
def tw5115077141589367642:=0
def tw6863641664064774622:=0
def tw5328451039877957231:=0
def tw8568307757642412049:=0
def tw12078826164821855722:=0
def tw17978980136082069961:=0
def tw4434372210082897791:=0
def tw5895076407817693165:=0
def tw3680917268591717737:=0
def tw2859275817577022379:=0
def tw12694818252143877547:=0
def tw13856092873765812740:=0
def tw15201333001229401758:=0
def tw10742619976136474969:=0
def tw18161694847170522564:=0
def tw15768738471054971943:=0
def tw10283304311556460643:=0
def tw2853241765081268727:=0
def tw6047316210345515618:=0
def tw13735191539933124199:=0
def tw11598989576778703942:=0
def tw13106154372656081298:=0
def tw9125006642137909138:=0
def tw13341977450775173214:=0
def tw3835393831743317686:=0
def tw17623492837472358244:=0
def tw2678610503657860970:=0
def tw9156065573252142436:=0
def tw5271454169957417384:=0
def tw11142001666446699753:=0
def tw6512773275666920202:=0
def tw13046258898703454880:=0
def tw9361571930565445213:=0
def tw6674233528519028345:=0
def tw13187104343867546710:=0
def tw17409989730664400108:=0
def tw4150880362525971305:=0
def tw7092473866113111614:=0
def tw3704850456276106537:=0
def tw3807613080656338886:=0
def tw16441692360872364683:=0
def tw12871221128054972291:=0
def tw1037965121108973321:=0
def tw15877258527435990595:=0
def tw7361483679673693839:=0
def tw18294641564359709881:=0
def tw17634743667389495437:=0
def tw8346602504169583843:=0
def tw141690080739770382:=0
def tw16872556228130359453:=0
def tw13527955562629311758:=0
def tw10042153248787515019:=0
def tw6575052503401895300:=0
def tw14289024196154586943:=0
def tw9038896128431874482:=0
def tw13369540864209792720:=0
def tw884399802554421983:=0
def tw8865236651014304336:=0
def tw14309212165287285648:=0
def tw11774073393256391075:=0
def tw16271467960600282908:=0
def tw14578755304647827977:=0
def tw6857790689312040682:=0
def tw17349163198025261362:=0
def tw9769429036016144858:=0
def tw18412761678009026809:=0
def tw5122126458437344238:=0
def tw18202107196689338244:=0
def tw7014568226045149638:=0
def tw16223929442973757201:=0
def tw11772375681986014276:=0
def tw17822996790476236234:=0
def tw13580977017221375882:=0
def tw5491019040709558360:=0
def tw10374388248191356775:=0
def tw11507276548078072219:=0
def tw10694495657242037849:=0
def tw1077186692939876223:=0
def tw973321558744298772:=0
def tw17667774698961533537:=0
def tw14180047306608073566:=0
def tw8227303152707870385:=0
def tw12755142927454359246:=0
def tw904386821194078452:=0
def tw9414613977826940318:=0
def tw12189653351863117216:=0
def tw5792450849938217646:=0
def tw8264002920708340720:=0
def tw2741237782731810375:=0
def tw11404663929809499204:=0
def tw2041386346873458638:=0
def tw17448909088419120341:=0
def tw15504037361891806353:=0
def tw15680884214275809210:=0
def tw17960540766995146087:=0
def tw2069877211999834147:=0
def tw17784710597743910384:=0
def tw17054999142546324291:=0
def tw9903728387164577019:=0
def tw9177729719863464528:=0
def tw51625539380274579:=0
def tw17473689173011460490:=0
def tw13673009697318772227:=0
def tw7485281618132622211:=0
def tw2737257113057323077:=0
def tw13075220500769656424:=0
def tw14107768673304774132:=0
def tw10157528408920564318:=0
def tw14142667165230379537:=0
def tw4286766863014035019:=0
def tw16013976203698492416:=0
def tw2371889945269780688:=0
def tw16851476298633531826:=0
def tw12659602860966984257:=0
def tw17250256617070985506:=0
def tw16116564083768949699:=0
def tw12708989273895564895:=0
def tw17147906160063749833:=0
def tw385918560660733982:=0
def tw5459227057468598976:=0
def tw3055692656540454150:=0
def tw8002034883168593670:=0
def tw8020508763223990819:=0
def tw15987327477895513849:=0
def tw6519490427716279155:=0
def tw12241172177949523345:=0
def tw11798918979114153490:=0
def tw609924640488194270:=0
def tw2719032865612967153:=0
def tw346937536831617899:=0
def tw10302141177071594701:=0
def tw8788931811704852378:=0
def tw11428104989428697652:=0
def tw8578013999950627605:=0
def tw181442166973638382:=0
def tw7139210661556314293:=0
def tw11148156364007016063:=0
def tw5142372151284781016:=0
def tw3557302140695713704:=0
def tw16964761972098709557:=0
def tw15431522820360044022:=0
def tw5364920080032139313:=0
def tw14519579578291072338:=0
def tw11684498303085051362:=0
def tw18238934197500445010:=0
def tw11234656269040782806:=0
def tw15941140415745162359:=0
def tw4713681290953314417:=0
def tw10844191252844125531:=0
def tw4461306100283409486:=0
def tw10648682998990178296:=0
def tw3459787561695934187:=0
def tw575892717555956509:=0
def tw14153556049219013113:=0
def tw1098450361556599738:=0
def tw354333546479239736:=0
def tw1085215473766736662:=0
def tw896357007587012759:=0
def tw128038676728433160:=0
def tw3753381699761041221:=0
def tw3399146427917172844:=0
end PySem.W.Fast
namespace R
open PySem L2 PyProof.Rows
section
variable {l:g0s} {w:World} {K:q0a} {h:Heap} {mg:Str->Option Value}
structure Gd (K:q0a) (nm:Str) (st:Stmt) (f:Addr):Prop where
 a:z0x K mainGlobals nm=some (some (.ref f))
 F:∃ fd,Fun K nm nm st f fd
theorem Gd.df {nm:Str} {st:Stmt} {f:Addr} {ps:List Str} (X:K.In h) (G:h.Ns mainGlobals mg) (g:Gd K nm st f) (hb:∀ (kV doc pm:Value) (an:Option Addr) (cdv ct:Value) (us:List Value),us.length=ps.length->bindArgs (y0r nm nm (ag2 st) (Y9 st) (c9 st) .none kV doc pm an cdv ct) ⟨us,[]⟩=pure (ps.zip us)):Df K mg nm st ps f:=by
 obtain ⟨a,_,F⟩:=g;exact ⟨⟨_,F,F.binds hb⟩,v0m X G a⟩
theorem ba3 {us:List Value} {n:Nat} (h:us.length=n+1):∃ a r,us=a :: r/\r.length=n:=by
 cases us with
 | nil=>cases h
 | cons a r=>exact ⟨a,r,rfl,Nat.succ.inj h⟩
theorem bi5 {us:List Value} (h:us.length=0):us=[]:=u0w h
theorem Q9 {us:List Value} (h:us.length=1):∃ a0,us=[a0]:=by
 obtain ⟨_,_,rfl,g⟩:=ba3 h;obtain ⟨rfl⟩:=bi5 g;exact ⟨_,rfl⟩
theorem E3 {us:List Value} (h:us.length=2):∃ a0,∃ a1,us=[a0,a1]:=by
 obtain ⟨_,_,rfl,g⟩:=ba3 h;obtain ⟨_,rfl⟩:=Q9 g;exact ⟨_,_,rfl⟩
theorem aV4 {us:List Value} (h:us.length=3):∃ a0,∃ a1,∃ a2,us=[a0,a1,a2]:=by
 obtain ⟨_,_,rfl,g⟩:=ba3 h;obtain ⟨_,_,rfl⟩:=E3 g;exact ⟨_,_,_,rfl⟩
theorem bi4 {us:List Value} (h:us.length=4):∃ a0,∃ a1,∃ a2,∃ a3,us=[a0,a1,a2,a3]:=by
 obtain ⟨_,_,rfl,g⟩:=ba3 h;obtain ⟨_,_,_,rfl⟩:=aV4 g;exact ⟨_,_,_,_,rfl⟩
theorem bg7 {fa f_common_divisor f_times f_over f_content_of f_cleared f_turned f__law_flipped f__law_unit f__law_low f__law_urn f__law_draw f__law_kind f__law_number f__law_whole f__law_is_number f__law_other f__law_trim f__law_drawn_poly f__law_plus f__law_times f__law_table_plus f_lifted f_divisor_for_all f_lowered f_rows_times f_with_unit f_whole_rows f_power_of f_worth_by f__law_copied f__law_dot f__law_table_times f__law_less f__law_over f__law_table_often f__law_due f__law_companion f__law_likened f__law_char f__law_poly_times f__law_above f__law_sign f__law_factor f__law_rooted f__law_machine f__law_is_table f__law_right f_law:Addr} {t_SHORT:Tok} {t_LONG:Tok} {A_ONE:Addr} {td_ONE:Option Addr} {ts_ONE:Array (Option Value)} {tn_ONE:Nat} {tt0_ONE tt1_ONE:Tok}
  (X:K.In h) (G:h.Ns mainGlobals mg) (hfa:mg "law" = some (.ref fa))
  (g_common_divisor:Gd K "common_divisor" J4 f_common_divisor)
  (g_times:Gd K "times" ar2 f_times)
  (g_over:Gd K "over" aB2 f_over)
  (g_content_of:Gd K "content_of" U0 f_content_of)
  (g_cleared:Gd K "cleared" aa1 f_cleared)
  (g_turned:Gd K "turned" ad9 f_turned)
  (g__law_flipped:Gd K "_law_flipped" G8 f__law_flipped)
  (g__law_unit:Gd K "_law_unit" Q3 f__law_unit)
  (g__law_low:Gd K "_law_low" ab6 f__law_low)
  (g__law_urn:Gd K "_law_urn" ab5 f__law_urn)
  (g__law_draw:Gd K "_law_draw" Y3 f__law_draw)
  (g__law_kind:Gd K "_law_kind" Y2 f__law_kind)
  (g__law_number:Gd K "_law_number" O9 f__law_number)
  (g__law_whole:Gd K "_law_whole" U1 f__law_whole)
  (g__law_is_number:Gd K "_law_is_number" J5 f__law_is_number)
  (g__law_other:Gd K "_law_other" U6 f__law_other)
  (g__law_trim:Gd K "_law_trim" X7 f__law_trim)
  (g__law_drawn_poly:Gd K "_law_drawn_poly" D8 f__law_drawn_poly)
  (g__law_plus:Gd K "_law_plus" X9 f__law_plus)
  (g__law_times:Gd K "_law_times" U2 f__law_times)
  (g__law_table_plus:Gd K "_law_table_plus" D7 f__law_table_plus)
  (g_lifted:Gd K "lifted" W4 f_lifted)
  (g_divisor_for_all:Gd K "divisor_for_all" D6 f_divisor_for_all)
  (g_lowered:Gd K "lowered" ag0 f_lowered)
  (g_rows_times:Gd K "rows_times" M5 f_rows_times)
  (g_with_unit:Gd K "with_unit" Q0 f_with_unit)
  (g_whole_rows:Gd K "whole_rows" J3 f_whole_rows)
  (g_power_of:Gd K "power_of" ab4 f_power_of)
  (g_worth_by:Gd K "worth_by" N7 f_worth_by)
  (g__law_copied:Gd K "_law_copied" K9 f__law_copied)
  (g__law_dot:Gd K "_law_dot" ab8 f__law_dot)
  (g__law_table_times:Gd K "_law_table_times" C5 f__law_table_times)
  (g__law_less:Gd K "_law_less" Y1 f__law_less)
  (g__law_over:Gd K "_law_over" Y0 f__law_over)
  (g__law_table_often:Gd K "_law_table_often" C6 f__law_table_often)
  (g__law_due:Gd K "_law_due" ab7 f__law_due)
  (g__law_companion:Gd K "_law_companion" B9 f__law_companion)
  (g__law_likened:Gd K "_law_likened" v9 f__law_likened)
  (g__law_char:Gd K "_law_char" Y4 f__law_char)
  (g__law_poly_times:Gd K "_law_poly_times" G5 f__law_poly_times)
  (g__law_above:Gd K "_law_above" U7 f__law_above)
  (g__law_sign:Gd K "_law_sign" X8 f__law_sign)
  (g__law_factor:Gd K "_law_factor" P0 f__law_factor)
  (g__law_rooted:Gd K "_law_rooted" K8 f__law_rooted)
  (g__law_machine:Gd K "_law_machine" G7 f__law_machine)
  (g__law_is_table:Gd K "_law_is_table" G0 f__law_is_table)
  (g__law_right:Gd K "_law_right" U5 f__law_right)
  (g_law:Gd K "law" ax4 f_law)
  (z_abs:z0x K mainGlobals "abs" = some none)
  (z_all:z0x K mainGlobals "all" = some none)
  (z_bool:z0x K mainGlobals "bool" = some none)
  (z_enumerate:z0x K mainGlobals "enumerate" = some none)
  (z_int:z0x K mainGlobals "int" = some none)
  (z_isinstance:z0x K mainGlobals "isinstance" = some none)
  (z_len:z0x K mainGlobals "len" = some none)
  (z_list:z0x K mainGlobals "list" = some none)
  (z_max:z0x K mainGlobals "max" = some none)
  (z_range:z0x K mainGlobals "range" = some none)
  (z_reversed:z0x K mainGlobals "reversed" = some none)
  (z_sum:z0x K mainGlobals "sum" = some none)
  (z_tuple:z0x K mainGlobals "tuple" = some none)
  (z_zip:z0x K mainGlobals "zip" = some none)
  (y_SHORT:z0x K mainGlobals "SHORT" = some (some (.int 6000 t_SHORT)))
  (y_LONG:z0x K mainGlobals "LONG" = some (some (.int 1000 t_LONG)))
  (y_ONE:z0x K mainGlobals "ONE" = some (some (.ref A_ONE)))
  (u_ONE:K.lookup A_ONE=some ⟨.type "tuple",td_ONE,.seq #[.int 1 tt0_ONE,.int 1 tt1_ONE] tn_ONE,ts_ONE⟩) :
  ∃ fd:FuncData,(∀ (s:Shared) (v:Value),BindsTo s fd ⟨[v],[]⟩ [("_law_script",v)])/\∀ base:Heap,K.In base->base.Ns mainGlobals mg->af4 l.prog w K mg base CX0 9 fa fd ["_law_script"] (aL6 K):=by
 have e:=hfa.symm.trans (v0m X G g_law.a)
 cases e
 obtain ⟨_,F_law⟩:=g_law.F;obtain ⟨oc,od,kV,doc,pm,an,cdv,ct,osl,rfl,_,_⟩:=F_law.ex;have d_common_divisor:Df K mg "common_divisor" J4 ["one","other"] f_common_divisor:=g_common_divisor.df X G λ_ _ _ _ _ _ us hl=>by obtain ⟨_,_,rfl⟩:=E3 hl;rfl
 have d_times:Df K mg "times" ar2 ["one","other"] f_times:=g_times.df X G λ_ _ _ _ _ _ us hl=>by obtain ⟨_,_,rfl⟩:=E3 hl;rfl
 have d_over:Df K mg "over" aB2 ["one","other"] f_over:=g_over.df X G λ_ _ _ _ _ _ us hl=>by obtain ⟨_,_,rfl⟩:=E3 hl;rfl
 have d_content_of:Df K mg "content_of" U0 ["wholes"] f_content_of:=g_content_of.df X G λ_ _ _ _ _ _ us hl=>by obtain ⟨_,rfl⟩:=Q9 hl;rfl
 have d_cleared:Df K mg "cleared" aa1 ["numbers"] f_cleared:=g_cleared.df X G λ_ _ _ _ _ _ us hl=>by obtain ⟨_,rfl⟩:=Q9 hl;rfl
 have d_turned:Df K mg "turned" ad9 ["table"] f_turned:=g_turned.df X G λ_ _ _ _ _ _ us hl=>by obtain ⟨_,rfl⟩:=Q9 hl;rfl
 have d__law_flipped:Df K mg "_law_flipped" G8 ["_law_table"] f__law_flipped:=g__law_flipped.df X G λ_ _ _ _ _ _ us hl=>by obtain ⟨_,rfl⟩:=Q9 hl;rfl
 have d__law_unit:Df K mg "_law_unit" Q3 ["_law_n"] f__law_unit:=g__law_unit.df X G λ_ _ _ _ _ _ us hl=>by obtain ⟨_,rfl⟩:=Q9 hl;rfl
 have d__law_low:Df K mg "_law_low" ab6 ["_law_top","_law_bottom"] f__law_low:=g__law_low.df X G λ_ _ _ _ _ _ us hl=>by obtain ⟨_,_,rfl⟩:=E3 hl;rfl
 have d__law_urn:Df K mg "_law_urn" ab5 ["_law_script","_law_at"] f__law_urn:=g__law_urn.df X G λ_ _ _ _ _ _ us hl=>by obtain ⟨_,_,rfl⟩:=E3 hl;rfl
 have d__law_draw:Df K mg "_law_draw" Y3 ["_law_urn_here","_law_many"] f__law_draw:=g__law_draw.df X G λ_ _ _ _ _ _ us hl=>by obtain ⟨_,_,rfl⟩:=E3 hl;rfl
 have d__law_kind:Df K mg "_law_kind" Y2 ["_law_urn_here"] f__law_kind:=g__law_kind.df X G λ_ _ _ _ _ _ us hl=>by obtain ⟨_,rfl⟩:=Q9 hl;rfl
 have d__law_number:Df K mg "_law_number" O9 ["_law_urn_here","_law_kind_here"] f__law_number:=g__law_number.df X G λ_ _ _ _ _ _ us hl=>by obtain ⟨_,_,rfl⟩:=E3 hl;rfl
 have d__law_whole:Df K mg "_law_whole" U1 ["_law_thing"] f__law_whole:=g__law_whole.df X G λ_ _ _ _ _ _ us hl=>by obtain ⟨_,rfl⟩:=Q9 hl;rfl
 have d__law_is_number:Df K mg "_law_is_number" J5 ["_law_thing"] f__law_is_number:=g__law_is_number.df X G λ_ _ _ _ _ _ us hl=>by obtain ⟨_,rfl⟩:=Q9 hl;rfl
 have d__law_other:Df K mg "_law_other" U6 ["_law_urn_here","_law_kind_here"] f__law_other:=g__law_other.df X G λ_ _ _ _ _ _ us hl=>by obtain ⟨_,_,rfl⟩:=E3 hl;rfl
 have d__law_trim:Df K mg "_law_trim" X7 ["_law_numbers"] f__law_trim:=g__law_trim.df X G λ_ _ _ _ _ _ us hl=>by obtain ⟨_,rfl⟩:=Q9 hl;rfl
 have d__law_drawn_poly:Df K mg "_law_drawn_poly" D8 ["_law_urn_here","_law_kind_here","_law_most"] f__law_drawn_poly:=g__law_drawn_poly.df X G λ_ _ _ _ _ _ us hl=>by obtain ⟨_,_,_,rfl⟩:=aV4 hl;rfl
 have d__law_plus:Df K mg "_law_plus" X9 ["_law_one","_law_other_here"] f__law_plus:=g__law_plus.df X G λ_ _ _ _ _ _ us hl=>by obtain ⟨_,_,rfl⟩:=E3 hl;rfl
 have d__law_times:Df K mg "_law_times" U2 ["_law_one","_law_other_here"] f__law_times:=g__law_times.df X G λ_ _ _ _ _ _ us hl=>by obtain ⟨_,_,rfl⟩:=E3 hl;rfl
 have d__law_table_plus:Df K mg "_law_table_plus" D7 ["_law_one","_law_other_here"] f__law_table_plus:=g__law_table_plus.df X G λ_ _ _ _ _ _ us hl=>by obtain ⟨_,_,rfl⟩:=E3 hl;rfl
 have d_lifted:Df K mg "lifted" W4 ["p"] f_lifted:=g_lifted.df X G λ_ _ _ _ _ _ us hl=>by obtain ⟨_,rfl⟩:=Q9 hl;rfl
 have d_divisor_for_all:Df K mg "divisor_for_all" D6 ["wholes","bottom"] f_divisor_for_all:=g_divisor_for_all.df X G λ_ _ _ _ _ _ us hl=>by obtain ⟨_,_,rfl⟩:=E3 hl;rfl
 have d_lowered:Df K mg "lowered" ag0 ["scale","wholes"] f_lowered:=g_lowered.df X G λ_ _ _ _ _ _ us hl=>by obtain ⟨_,_,rfl⟩:=E3 hl;rfl
 have d_rows_times:Df K mg "rows_times" M5 ["one","other"] f_rows_times:=g_rows_times.df X G λ_ _ _ _ _ _ us hl=>by obtain ⟨_,_,rfl⟩:=E3 hl;rfl
 have d_with_unit:Df K mg "with_unit" Q0 ["rows","whole"] f_with_unit:=g_with_unit.df X G λ_ _ _ _ _ _ us hl=>by obtain ⟨_,_,rfl⟩:=E3 hl;rfl
 have d_whole_rows:Df K mg "whole_rows" J3 ["table"] f_whole_rows:=g_whole_rows.df X G λ_ _ _ _ _ _ us hl=>by obtain ⟨_,rfl⟩:=Q9 hl;rfl
 have d_power_of:Df K mg "power_of" ab4 ["whole","many"] f_power_of:=g_power_of.df X G λ_ _ _ _ _ _ us hl=>by obtain ⟨_,_,rfl⟩:=E3 hl;rfl
 have d_worth_by:Df K mg "worth_by" N7 ["p","table"] f_worth_by:=g_worth_by.df X G λ_ _ _ _ _ _ us hl=>by obtain ⟨_,_,rfl⟩:=E3 hl;rfl
 have d__law_copied:Df K mg "_law_copied" K9 ["_law_table"] f__law_copied:=g__law_copied.df X G λ_ _ _ _ _ _ us hl=>by obtain ⟨_,rfl⟩:=Q9 hl;rfl
 have d__law_dot:Df K mg "_law_dot" ab8 ["_law_row","_law_column"] f__law_dot:=g__law_dot.df X G λ_ _ _ _ _ _ us hl=>by obtain ⟨_,_,rfl⟩:=E3 hl;rfl
 have d__law_table_times:Df K mg "_law_table_times" C5 ["_law_one","_law_other_here"] f__law_table_times:=g__law_table_times.df X G λ_ _ _ _ _ _ us hl=>by obtain ⟨_,_,rfl⟩:=E3 hl;rfl
 have d__law_less:Df K mg "_law_less" Y1 ["_law_one","_law_other_here"] f__law_less:=g__law_less.df X G λ_ _ _ _ _ _ us hl=>by obtain ⟨_,_,rfl⟩:=E3 hl;rfl
 have d__law_over:Df K mg "_law_over" Y0 ["_law_one","_law_other_here"] f__law_over:=g__law_over.df X G λ_ _ _ _ _ _ us hl=>by obtain ⟨_,_,rfl⟩:=E3 hl;rfl
 have d__law_table_often:Df K mg "_law_table_often" C6 ["_law_number_here","_law_table"] f__law_table_often:=g__law_table_often.df X G λ_ _ _ _ _ _ us hl=>by obtain ⟨_,_,rfl⟩:=E3 hl;rfl
 have d__law_due:Df K mg "_law_due" ab7 ["_law_p","_law_table"] f__law_due:=g__law_due.df X G λ_ _ _ _ _ _ us hl=>by obtain ⟨_,_,rfl⟩:=E3 hl;rfl
 have d__law_companion:Df K mg "_law_companion" B9 ["_law_p"] f__law_companion:=g__law_companion.df X G λ_ _ _ _ _ _ us hl=>by obtain ⟨_,rfl⟩:=Q9 hl;rfl
 have d__law_likened:Df K mg "_law_likened" v9 ["_law_urn_here","_law_kind_here","_law_table","_law_most"] f__law_likened:=g__law_likened.df X G λ_ _ _ _ _ _ us hl=>by obtain ⟨_,_,_,_,rfl⟩:=bi4 hl;rfl
 have d__law_char:Df K mg "_law_char" Y4 ["_law_table"] f__law_char:=g__law_char.df X G λ_ _ _ _ _ _ us hl=>by obtain ⟨_,rfl⟩:=Q9 hl;rfl
 have d__law_poly_times:Df K mg "_law_poly_times" G5 ["_law_p","_law_q"] f__law_poly_times:=g__law_poly_times.df X G λ_ _ _ _ _ _ us hl=>by obtain ⟨_,_,rfl⟩:=E3 hl;rfl
 have d__law_above:Df K mg "_law_above" U7 ["_law_urn_here","_law_kind_here"] f__law_above:=g__law_above.df X G λ_ _ _ _ _ _ us hl=>by obtain ⟨_,_,rfl⟩:=E3 hl;rfl
 have d__law_sign:Df K mg "_law_sign" X8 ["_law_number_here"] f__law_sign:=g__law_sign.df X G λ_ _ _ _ _ _ us hl=>by obtain ⟨_,rfl⟩:=Q9 hl;rfl
 have d__law_factor:Df K mg "_law_factor" P0 ["_law_urn_here","_law_kind_here"] f__law_factor:=g__law_factor.df X G λ_ _ _ _ _ _ us hl=>by obtain ⟨_,_,rfl⟩:=E3 hl;rfl
 have d__law_rooted:Df K mg "_law_rooted" K8 ["_law_urn_here","_law_kind_here","_law_most"] f__law_rooted:=g__law_rooted.df X G λ_ _ _ _ _ _ us hl=>by obtain ⟨_,_,_,rfl⟩:=aV4 hl;rfl
 have d__law_machine:Df K mg "_law_machine" G7 ["_law_urn_here"] f__law_machine:=g__law_machine.df X G λ_ _ _ _ _ _ us hl=>by obtain ⟨_,rfl⟩:=Q9 hl;rfl
 have d__law_is_table:Df K mg "_law_is_table" G0 ["_law_thing","_law_n"] f__law_is_table:=g__law_is_table.df X G λ_ _ _ _ _ _ us hl=>by obtain ⟨_,_,rfl⟩:=E3 hl;rfl
 have d__law_right:Df K mg "_law_right" U5 ["_law_p","_law_table"] f__law_right:=g__law_right.df X G λ_ _ _ _ _ _ us hl=>by obtain ⟨_,_,rfl⟩:=E3 hl;rfl
 have n_abs:=z0t X G z_abs;have n_all:=z0t X G z_all;have n_bool:=z0t X G z_bool;have n_enumerate:=z0t X G z_enumerate;have n_int:=z0t X G z_int;have n_isinstance:=z0t X G z_isinstance;have n_len:=z0t X G z_len;have n_list:=z0t X G z_list;have n_max:=z0t X G z_max;have n_range:=z0t X G z_range;have n_reversed:=z0t X G z_reversed;have n_sum:=z0t X G z_sum;have n_tuple:=z0t X G z_tuple;have n_zip:=z0t X G z_zip;have c_SHORT:=v0m X G y_SHORT;have c_LONG:=v0m X G y_LONG;have c_ONE:=v0m X G y_ONE;have t_ONE:∀ H:Hp,SqT K H A_ONE [.int 1,.int 1]:=λH=>.inr ⟨_,_,_,u_ONE,rfl,rfl,(show 2<=sizeLine by decide),(.cons ⟨_,rfl⟩ (.cons ⟨_,rfl⟩ .nil))⟩
 refine ⟨y0r "law" "law" (ag2 ax4) (Y9 ax4) (c9 ax4) .none kV doc pm an cdv ct,λs v=>.of_eq rfl,λbase _ _=>?_⟩
 have G_common_divisor:=am6 (P:=l.prog) (w:=w) (base:=base) d_common_divisor ⟨_,c_SHORT⟩ n_abs;have G_times:=aU9 (P:=l.prog) (w:=w) (base:=base) d_times G_common_divisor;have G_over:=aZ6 (P:=l.prog) (w:=w) (base:=base) d_over G_times;have G_content_of:=aw3 (P:=l.prog) (w:=w) (base:=base) d_content_of G_common_divisor;have G_cleared:=aJ3 (P:=l.prog) (w:=w) (base:=base) d_cleared G_common_divisor;have G__law_flipped:=aq8 (P:=l.prog) (w:=w) (base:=base) d__law_flipped n_range n_len;have G__law_unit:=aB9 (P:=l.prog) (w:=w) (base:=base) d__law_unit n_range n_int;have G__law_low:=aG5 (P:=l.prog) (w:=w) (base:=base) d__law_low n_abs;have G__law_urn:=aG4 (P:=l.prog) (w:=w) (base:=base) d__law_urn n_len n_abs;have G__law_draw:=aC6 (P:=l.prog) (w:=w) (base:=base) d__law_draw;have G__law_kind:=aC5 (P:=l.prog) (w:=w) (base:=base) d__law_kind G__law_draw;have G__law_whole:=aw4 (P:=l.prog) (w:=w) (base:=base) d__law_whole n_isinstance n_int n_bool;have G__law_is_number:=am7 (P:=l.prog) (w:=w) (base:=base) d__law_is_number G__law_whole G__law_low n_isinstance n_tuple n_len;have G__law_trim:=aC0 (P:=l.prog) (w:=w) (base:=base) d__law_trim n_list;have G__law_plus:=aC2 (P:=l.prog) (w:=w) (base:=base) d__law_plus G__law_low;have G__law_times:=aw5 (P:=l.prog) (w:=w) (base:=base) d__law_times G__law_low;have G__law_table_plus:=ak1 (P:=l.prog) (w:=w) (base:=base) d__law_table_plus G__law_plus n_zip;have G_lifted:=aP4 (P:=l.prog) (w:=w) (base:=base) d_lifted G_cleared G_content_of c_ONE t_ONE;have G_divisor_for_all:=ak0 (P:=l.prog) (w:=w) (base:=base) d_divisor_for_all G_common_divisor c_LONG n_max;have G_lowered:=aJ2 (P:=l.prog) (w:=w) (base:=base) d_lowered G_divisor_for_all G_common_divisor;have GD_turned:=aJ5 (P:=l.prog) (w:=w) (base:=base) d_turned n_range n_len;have G_rows_times:=aw2 (P:=l.prog) (w:=w) (base:=base) d_rows_times GD_turned n_zip n_sum;have G_with_unit:=aB8 (P:=l.prog) (w:=w) (base:=base) d_with_unit n_enumerate;have G_whole_rows:=aw1 (P:=l.prog) (w:=w) (base:=base) d_whole_rows G_cleared n_range n_len;have G_power_of:=aG3 (P:=l.prog) (w:=w) (base:=base) d_power_of n_range;have G_worth_by:=aG2 (P:=l.prog) (w:=w) (base:=base) d_worth_by G_whole_rows G_lifted G_with_unit G_rows_times G_power_of G_over G_lowered n_len n_reversed;have G__law_copied:=at6 (P:=l.prog) (w:=w) (base:=base) d__law_copied n_list;have G__law_dot:=aG7 (P:=l.prog) (w:=w) (base:=base) d__law_dot G__law_plus G__law_times n_zip;have G__law_table_times:=ah2 (P:=l.prog) (w:=w) (base:=base) d__law_table_times G__law_flipped G__law_dot;have G__law_less:=aC4 (P:=l.prog) (w:=w) (base:=base) d__law_less G__law_low;have G__law_over:=aC3 (P:=l.prog) (w:=w) (base:=base) d__law_over G__law_low;have G__law_table_often:=ah3 (P:=l.prog) (w:=w) (base:=base) d__law_table_often G__law_times;have G__law_due:=aG6 (P:=l.prog) (w:=w) (base:=base) d__law_due G__law_unit G__law_table_often G__law_table_plus G__law_table_times n_len;have G__law_companion:=am8 (P:=l.prog) (w:=w) (base:=base) d__law_companion G__law_over n_len n_range n_int
 have GD__law_number:=aq9 (P:=l.prog) (w:=w) (base:=base) d__law_number G__law_draw G__law_low n_int;have GD__law_other:=at7 (P:=l.prog) (w:=w) (base:=base) d__law_other G__law_draw GD__law_number;have GD__law_drawn_poly:=ah4 (P:=l.prog) (w:=w) (base:=base) d__law_drawn_poly G__law_draw GD__law_number GD__law_other n_range;have G__law_likened:=aq7 (P:=l.prog) (w:=w) (base:=base) d__law_likened G__law_draw GD__law_other G__law_plus G__law_times G__law_less G__law_over n_len n_range n_list n_max n_zip n_int;have G__law_char:=aC7 (P:=l.prog) (w:=w) (base:=base) d__law_char G__law_unit G__law_table_times G__law_plus G__law_over G__law_table_often G__law_table_plus n_len n_range;have G__law_poly_times:=ak2 (P:=l.prog) (w:=w) (base:=base) d__law_poly_times G__law_plus G__law_times G__law_trim n_len n_enumerate;have GD__law_above:=at8 (P:=l.prog) (w:=w) (base:=base) d__law_above GD__law_other n_abs;have G__law_sign:=aC1 (P:=l.prog) (w:=w) (base:=base) d__law_sign n_int;have G__law_factor:=at5 (P:=l.prog) (w:=w) (base:=base) d__law_factor G__law_draw G__law_times G__law_plus GD__law_number GD__law_above G__law_sign n_int;have G__law_rooted:=at4 (P:=l.prog) (w:=w) (base:=base) d__law_rooted G__law_draw GD__law_other G__law_factor G__law_poly_times n_range n_len n_tuple n_zip;have G__law_machine:=aq6 (P:=l.prog) (w:=w) (base:=base) d__law_machine G__law_draw G__law_kind G__law_rooted GD__law_number G__law_likened G__law_companion n_len n_range;have G__law_is_table:=ao4 (P:=l.prog) (w:=w) (base:=base) d__law_is_table G__law_is_number n_isinstance n_list n_len n_all;have G__law_right:=aw6 (P:=l.prog) (w:=w) (base:=base) d__law_right G__law_copied G__law_due G_worth_by G__law_is_table G__law_char G__law_table_often G__law_unit n_len n_list;exact be8 (P:=l.prog) (w:=w) (base:=base) F_law G__law_urn G__law_draw G__law_kind GD__law_drawn_poly G__law_machine G__law_right n_range
end
theorem bk1 {l:g0s} {q:Program} {loose:List Str} {XP:(Str->Option Value)->Heap->Prop} {YP:World->Heap->Prop} {d:DefRec} {K:Params->q0a} (hn:l.most=some 63) (hdf:d.params.defaults=[])
  (hY:∀ (w:World) (h:Heap),YP w h->(K w.params).In h)
  (F:∀ (w:World) (mg:Str->Option Value) (fa:Addr) (h:Heap),(K w.params).In h->h.Ns mainGlobals mg->mg d.name=some (.ref fa) ->
   ∃ fd:FuncData,(∀ (s:Shared) (u:Value),BindsTo s fd ⟨[u],[]⟩ [("_law_script",u)])/\∀ base:Heap,(K w.params).In base->base.Ns mainGlobals mg->af4 l.prog w (K w.params) mg base CX0 9 fa fd ["_law_script"] (aL6 (K w.params))) :
  PySem.W.WalkO q loose XP YP l.row.toRowW d [] (λf vs=>PySem.call f vs) :=
 L2.aL1 (n:=63) (k:=9) (x := "_law_script") (CX:=λ_=>CX0) (sp:=λw=>aL6 (K w.params)) hn (by decide) hdf ⟨rfl,by decide,by decide⟩ hY F (λ_ _ a ns hl _ hS=>⟨a,ns,rfl,hS,hl,λ_=>rfl⟩) λ_ _ _ _ _ z=>z
end R
local macro_rules | `(tactic|left) => `(tactic|exact ⟨by k_is, _, L2.bf8 (by k_is) (by k_is) (by k_is)⟩)
local macro_rules | `(tactic|right) => `(tactic|exact ⟨by k_is, by k_exc, by (refine ⟨?_, ?_, ?_, ?_, ?_, ?_⟩ <;> first | k_is | kernel_rfl)⟩)
open PySem PySem.W PyProof.Rows
set_option maxRecDepth 100000 in
theorem PySem.Challenge.cw_restward_k35_worths_at_tables_holds : PySem.Challenge.rw_restward_k35_worths_at_tables.Holds := by
  w_on;o_law;k_head;(case hw=>w_witness2)
  k_fill
  refine R.bk1 (l:=PySem.Challenge.rw_restward_k35_worths_at_tables) rfl rfl (λw h Y=>PySem.W.kIn_of Y) ?F
  case F =>
    intro w mg fa h KX G hmg
    refine' R.bg7 KX G hmg ?g_common_divisor ?g_times ?g_over ?g_content_of ?g_cleared ?g_turned ?g__law_flipped ?g__law_unit ?g__law_low ?g__law_urn ?g__law_draw ?g__law_kind ?g__law_number ?g__law_whole ?g__law_is_number ?g__law_other ?g__law_trim ?g__law_drawn_poly ?g__law_plus ?g__law_times ?g__law_table_plus ?g_lifted ?g_divisor_for_all ?g_lowered ?g_rows_times ?g_with_unit ?g_whole_rows ?g_power_of ?g_worth_by ?g__law_copied ?g__law_dot ?g__law_table_times ?g__law_less ?g__law_over ?g__law_table_often ?g__law_due ?g__law_companion ?g__law_likened ?g__law_char ?g__law_poly_times ?g__law_above ?g__law_sign ?g__law_factor ?g__law_rooted ?g__law_machine ?g__law_is_table ?g__law_right ?g_law ?z_abs ?z_all ?z_bool ?z_enumerate ?z_int ?z_isinstance ?z_len ?z_list ?z_max ?z_range ?z_reversed ?z_sum ?z_tuple ?z_zip ?y_SHORT ?y_LONG ?y_ONE ?u_ONE
    (case g_common_divisor=>left)
    (case g_times=>left)
    (case g_over=>left)
    (case g_content_of=>left)
    (case g_cleared=>left)
    (case g_turned=>left)
    (case g__law_flipped=>left)
    (case g__law_unit=>left)
    (case g__law_low=>left)
    (case g__law_urn=>left)
    (case g__law_draw=>left)
    (case g__law_kind=>left)
    (case g__law_number=>left)
    (case g__law_whole=>left)
    (case g__law_is_number=>left)
    (case g__law_other=>left)
    (case g__law_trim=>left)
    (case g__law_drawn_poly=>left)
    (case g__law_plus=>left)
    (case g__law_times=>left)
    (case g__law_table_plus=>left)
    (case g_lifted=>left)
    (case g_divisor_for_all=>left)
    (case g_lowered=>left)
    (case g_rows_times=>left)
    (case g_with_unit=>left)
    (case g_whole_rows=>left)
    (case g_power_of=>left)
    (case g_worth_by=>left)
    (case g__law_copied=>left)
    (case g__law_dot=>left)
    (case g__law_table_times=>left)
    (case g__law_less=>left)
    (case g__law_over=>left)
    (case g__law_table_often=>left)
    (case g__law_due=>left)
    (case g__law_companion=>left)
    (case g__law_likened=>left)
    (case g__law_char=>left)
    (case g__law_poly_times=>left)
    (case g__law_above=>left)
    (case g__law_sign=>left)
    (case g__law_factor=>left)
    (case g__law_rooted=>left)
    (case g__law_machine=>left)
    (case g__law_is_table=>left)
    (case g__law_right=>left)
    (case g_law=>left)
    (case z_abs=>k_is)
    (case z_all=>k_is)
    (case z_bool=>k_is)
    (case z_enumerate=>k_is)
    (case z_int=>k_is)
    (case z_isinstance=>k_is)
    (case z_len=>k_is)
    (case z_list=>k_is)
    (case z_max=>k_is)
    (case z_range=>k_is)
    (case z_reversed=>k_is)
    (case z_sum=>k_is)
    (case z_tuple=>k_is)
    (case z_zip=>k_is)
    (case y_SHORT=>k_is)
    (case y_LONG=>k_is)
    (case y_ONE=>k_is);(case u_ONE=>k_is)
