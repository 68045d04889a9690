import PyProof.Rows.All
import Wide.All
import OpenK.AllK
import Wide.FinOn
import Lean
import PyProof.EqAt
import PyProof.EqKinds
import PyProof.TupleCall
import PySem.Challenge.RW_spinfloor_k64_deeds_refused
open Array renaming length_toList → Rq, all_toList → R9, getElem?_toList → SM, toList_inj → S7
open Bool renaming false_ne_true → Qw, and_eq_true → QT, eq_iff_iff → Rp, or_true → Si, false_and → SO, false_eq_true → S1, or_false → Tr
open Int renaming toNat_natCast → Qy, emod_lt_of_pos → Rm, emod_nonneg → Ro, zero_add → RB, toNat_of_nonneg → Se
open List renaming getElem?_eq_getElem → PZ, getElem?_eq_some_iff → P0, length_append → P2, getElem?_append_right → P4, length_map → P5, getElem?_append_left → P6, mem_of_getElem? → P7, mem_cons → P8, length_singleton → Qa, getElem?_map → Qd, mem_cons_of_mem → Qe, mem_append → Qf, getD_eq_getElem?_getD → Qi, mem_cons_self → Ql, mem_append_right → Qo, nodup_cons → Qp, size_toArray → Qq, mem_map → Qv, nodup_append → Qx, length_cons → Qz, map_cons → QA, map_append → QE, mem_append_left → QF, length_range → QH, take_add_one → QI, length_take → QK, length_set → QM, take_length → QN, getElem_mem → QO, mem_singleton → QP, flatten_cons → QS, getElem?_set → QU, range → QW, all_eq_true → QX, mem_iff_getElem? → QY, mem_flatten → QZ, replicate → Q0, not_mem_nil → Q4, getElem?_range → Q8, flatten_append → Q9, map_map → Ra, getElem?_set_ne → Rf, getElem?_set_self → Ri, append_nil → Rl, take_of_length_le → Rr, exists_cons_of_ne_nil → Rt, length_drop → Rx, any_cons → RA, getElem?_replicate → RG, mem_range → RI, contains_cons → RJ, take_append_drop → RL, lookup → RM, range_succ → RX, getElem?_take → RY, find?_cons → RZ, length_pos_of_mem → R5, all_cons → Sb, getElem_of_mem → Sd, getElem?_drop → Sf, append_of_mem → Sg, nodup_nil → Sl, mem_or_eq_of_mem_set → Sm, idxOf_lt_length_iff → Ss, append_assoc → Su, map_take → Sy, length_eq_zero_iff → Sz, cons_ne_nil → SD, mem_filter → SH, length_nil → SI, eq_nil_or_concat → SJ, concat_eq_append → SK, map_eq_nil_iff → SS, filterMap_cons → SU, mem_filterMap → SX, map_drop → SY, lookup_cons → S4, eq_nil_of_length_eq_zero → S5, cons_append → S6, of_mem_zip → Tb, idxOf_lt_length_of_mem → Tc, drop_eq_getElem_cons → Tg, getElem?_cons_succ → Tq
open List.cons renaming inj → R0
open Nat renaming le_refl → P9, sub_self → Qu, lt_of_lt_of_le → QB, ne_of_lt → QC, le_trans → QG, lt_irrefl → Q3, zero_le → Q6, le_of_lt → Rn, mod_eq_of_lt → Rv, toDigits_of_lt_base → RE, le_succ → RF, lt_succ_self → RH, not_lt_zero → RK, ne_of_gt → RQ, min_eq_left → RW, toDigits → R8, lt_succ_of_lt → Sr, add_sub_cancel_left → Sx, mod_self → SG, lt_of_le_of_lt → SW, testBit → Ta, testBit_or → Tf
open Option renaming map_eq_some_iff → QJ, isSome → Rz, isSome_iff_exists → RP, map_some → SE
open Option.some renaming inj → Qt
open PySem renaming Spec → Qn, mem_of_lookup → Q7, frameOf → Tn
open PySem.F renaming plainAttrs_list → Qg, type_list_append → Qr, slot_list_append → Qs, plainAttrs_str → QV, slot_str_split → Rh, slot_str_join → Rk, type_str_join → Ry, excBase_ValueError → RO, type_list_index → RU, slot_list_index → RV, type_str_split → R4, type_list_pop → R6, slot_list_pop → R7, type_list_insert → Sn, slot_list_insert → So, args_str_split_2 → Sq, entry_str_split → Sw, slot_str_partition → Te, type_list_extend → Th, store_ValueError → Ti, slot_list_extend → Tj
open PySem.NumText renaming digitsVal → Sv, AllDigits → Tp
open PySem.Txt renaming split → QD
open PySem.W renaming Frag → P1, keepIn → Qb, nsIn → Qc, codeIn → Qh, mg_of → Qj, fnOf → Qk, findIn → Qm, mg_none_of → QL, mroIn → QR, hasDictIn → Q5, kitOne → Rb, looks_findIn → Rc, isFn → Rg, emptyDict → Rj, plainGet → Ru, instObj → RC, looks_mroIn → RD, plainOver → RN, makesIn → RS, callWith_K → RT, Looks → Sa, notCls → Sj, lookIn → Sk, any_some → SA, plainGet_of → SQ, hideAll_get → SR, excIn → SV, methodObj → S2, handedIn → S3, takerIn → S8, OpenLaw → S9, clsIn → To
set_option Elab.async false
set_option linter.all false
set_option maxRecDepth 100000
local macro_rules | `(tactic| omega) => `(tactic| first | assumption | lia | omega +splitDisjunctions)
namespace L2
open PySem PySem.Spec PyProof.Rows
abbrev Key:=Sum Int Str
def HG:Key->Value->Bool
 |.inl k,v=>Value.isInt k v
 |.inr x,v=>Value.isStrOf x v
def keyH(w:World):Key->Int
 |.inl k=>hashInt k
 |.inr x=>hashStr w x
theorem bS:∀{k:Key}{v:Value},HG k v=true->(∃ i t,k=Sum.inl i/\v=Value.int i t)∨(∃ x t,k=Sum.inr x/\v=Value.str x t)
 |.inl i,v,h=>by
  obtain⟨t,e⟩:=Value.isInt_shape (k:=i) (v:=v) h
  exact .inl ⟨i,t,rfl,e⟩
 |.inr x,v,h=>by
  obtain⟨t,e⟩:=Value.isStrOf_shape (x:=x) (v:=v) h
  exact .inr ⟨x,t,rfl,e⟩
theorem KA(i:Int)(t:Tok):HG (.inl i) (.int i t)=true:=by simp[HG,Value.isInt]
theorem Kz(x:Str)(t:Tok):HG (.inr x) (.str x t)=true:=by simp[HG,Value.isStrOf]
theorem key_ll(a b:Int):decide ((Sum.inl a:Key)=Sum.inl b)=(a == b):=by
 by_cases e:a=b
 ·subst e;simp
 ·have h:¬ (Sum.inl a:Key)=Sum.inl b:=fun q=>e (Sum.inl.inj q)
  rw[decide_eq_false h]
  exact(beq_eq_false_iff_ne.mpr e).symm
theorem key_rr(a b:Str):decide ((Sum.inr a:Key)=Sum.inr b)=decide (a=b):=by
 by_cases e:a=b
 ·subst e;simp
 ·have h:¬ (Sum.inr a:Key)=Sum.inr b:=fun q=>e (Sum.inr.inj q)
  rw[decide_eq_false h,decide_eq_false e]
theorem key_lr(a:Int)(b:Str):decide ((Sum.inl a:Key)=Sum.inr b)=false:=decide_eq_false (fun q=>nomatch q)
theorem key_rl(a:Str)(b:Int):decide ((Sum.inr a:Key)=Sum.inl b)=false:=decide_eq_false (fun q=>nomatch q)
def dI(prog:Program)(w:World):PySem.KeyKind prog w Key where
 is:=HG
 hash:=keyH w
 inj:=fun v a b ha hb=>by
  rcases bS ha with⟨i,t,rfl,rfl⟩ | ⟨x,t,rfl,rfl⟩
  ·rcases bS hb with⟨j,u,rfl,e⟩ | ⟨y,u,rfl,e⟩
   ·injection e with e1 _;rw[e1]
   ·exact nomatch e
  ·rcases bS hb with⟨j,u,rfl,e⟩ | ⟨y,u,rfl,e⟩
   ·exact nomatch e
   ·injection e with e1 _;rw[e1]
 byValue:=fun k v h=>by
  rcases bS h with⟨i,t,rfl,rfl⟩ | ⟨x,t,rfl,rfl⟩<;>rfl
 pyHash:=fun hv h=>by
  rcases bS hv with⟨i,t,rfl,rfl⟩ | ⟨x,t,rfl,rfl⟩
  ·exact wpAny_pyHash_int h
  ·exact wpAny_pyHash_str h
 eqBool:=fun hu hv h=>by
  rcases bS hu with⟨i,t,rfl,rfl⟩ | ⟨x,t,rfl,rfl⟩
  ·rcases bS hv with⟨j,u,rfl,rfl⟩ | ⟨y,u,rfl,rfl⟩
   ·rw[key_ll]at h;exact wpAny_eqBool_int h
   ·rw[key_lr]at h;exact SeqAt.EqAt.int_str i t y u _ _ _ _ h
  ·rcases bS hv with⟨j,u,rfl,rfl⟩ | ⟨y,u,rfl,rfl⟩
   ·rw[key_rl]at h;exact SeqAt.EqAt.str_int x t j u _ _ _ _ h
   ·rw[key_rr]at h;exact wpAny_eqBool_str h
 «strs»:=fun k x t v h=>by
  rcases bS h with⟨i,u,rfl,e⟩ | ⟨y,u,rfl,e⟩
  ·exact nomatch e
  ·injection e with e1 _
   subst e1
   cases v<;>rfl
theorem DQ(prog:Program)(w:World)(i:Int)(t:Tok):(dI prog w).is (.inl i) (.int i t)=true:=KA i t
theorem DP(prog:Program)(w:World)(x:Str)(t:Tok):(dI prog w).is (.inr x) (.str x t)=true:=Kz x t
end L2
namespace L2
open PySem PySem.Spec PyProof.Rows
inductive V where
 |non | bl (b:Bool) | int (i:Int) | str (x:Str) | byt (b:Array UInt8) | flt (b:UInt64) | ref (a:Addr) | ty (n:String)
 deriving DecidableEq
def RelV:V->Value->Prop
 |.non,u=>u=Value.none
 |.bl b,u=>u=Value.bool b
 |.int i,u=>∃ t,u=Value.int i t
 |.str x,u=>∃ t,u=Value.str x t
 |.byt b,u=>∃ t,u=Value.bytes b t
 |.flt b,u=>∃ t,u=Value.float b t
 |.ref a,u=>u=Value.ref a
 |.ty n,u=>u=Value.type n
abbrev Vals:List V->List Value->Prop:=Paired RelV
theorem Vals.length{xs:List V}{us:List Value}(r:Vals xs us):xs.length=us.length:=Paired.length r
theorem Vals.get:∀{xs:List V}{us:List Value}{i:Nat}{x:V},Vals xs us->xs[i]?=some x->∃ u,us[i]?=some u/\RelV x u
 |_,_,_,_,.nil,e=>by simp at e
 |_,_,0,_,.cons r _,e=>by simp at e;subst e;exact⟨_,rfl,r⟩
 |_,_,i+1,x,.cons _ t,e=>by
  obtain⟨u,h1,h2⟩:=Vals.get (i:=i) (x:=x) t (by simpa using e)
  exact⟨u,by simpa using h1,h2⟩
theorem Vals.set{x:V}{u:Value}(r:RelV x u):∀{xs:List V}{us:List Value}(i:Nat),Vals xs us->Vals (xs.set i x) (us.set i u)
 |_,_,_,.nil=>.nil
 |_,_,0,.cons _ t=>.cons r t
 |_,_,i+1,.cons q t=>.cons q (Vals.set r i t)
theorem Vals.append:∀{xs ys:List V}{us ws:List Value},Vals xs us->Vals ys ws->Vals (xs++ys) (us++ws)
 |_,_,_,_,.nil,s=>s
 |_,_,_,_,.cons r t,s=>.cons r (Vals.append t s)
theorem Vals.take:∀{xs:List V}{us:List Value}(n:Nat),Vals xs us->Vals (xs.take n) (us.take n)
 |_,_,0,_=>.nil
 |_,_,_+1,.nil=>.nil
 |_,_,n+1,.cons r t=>.cons r (Vals.take n t)
theorem Vals.drop:∀{xs:List V}{us:List Value}(n:Nat),Vals xs us->Vals (xs.drop n) (us.drop n)
 |_,_,0,r=>r
 |_,_,_+1,.nil=>.nil
 |_,_,n+1,.cons _ t=>Vals.drop n t
def RelO:Option V->Option Value->Prop
 |some v,some u=>RelV v u
 |none,none=>True
 |_,_=>False
def KV{κ:Type}:List (κ×V)->List (κ×Value)->Prop:=Paired fun(p:κ×V) (q:κ×Value)=>p.1=q.1/\RelV p.2 q.2
def kV:Key->V
 |.inl i=>.int i
 |.inr x=>.str x
inductive HO where
  |lst (xs:List V)
  |tup (xs:List V)
  |dK (kvs:List (Key×V)) | dT (kvs:List (List Key×V))
  |set (S:Int->Bool) (n:Nat)
  |ins (C dx:Addr) (fs:List (Str×V))
  |own (x:Addr)
  |xd (fs:List (Str×V))
  |met (f x:Addr)
  |rng (lo hi:Int)
  |frz (o:Obj) (u:HO)
  |tbl (ps:Array Value)
  |ext (φ:Heap->Prop)
abbrev Hp:=Addr->Option HO
def upd(H:Hp)(a:Addr)(o:HO):Hp:=fun b=>if b=a then some o else H b
theorem ag{H:Hp}{a:Addr}{o:HO}:upd H a o a=some o:=by unfold upd;rw[if_pos rfl]
theorem ar{H:Hp}{a b:Addr}{o:HO}(h:b≠a):upd H a o b=H b:=by unfold upd;rw[if_neg h]
theorem ne_of{H:Hp}{a b:Addr}{o u:HO}(h:H a=some o)(h':H b=some u)(d:o≠u):a≠b:=by
 intro e;subst e;rw[h]at h';exact d (Qt h')
theorem aB{H:Hp}{a b:Addr}{o:HO}(h:H a=some o)(h':H b=none):a≠b:=by
 intro e;subst e;rw[h]at h';cases h'
section
variable(P:Program)(w:World)
def b5(H:Hp)(h:Heap)(a:Addr):HO->Prop
 |.lst xs=>xs.length<=sizeLine/\∃(its:List Value)(n:Nat),Vals xs its/\h.get? a=some { cls:=.type "list",data:=.seq its.toArray n }
 |.tup xs=>xs.length<=sizeLine/\∃ its:List Value,Vals xs its/\IsTup h a its.toArray
 |.dK kvs=>kvs.length<=sizeLine/\(a == sysModules)=false/\∃ vs,KV kvs vs/\h.DictOf (dI P w) a vs
 |.dT kvs=>kvs.length<=sizeLine/\(a == sysModules)=false/\∃ xs:List (List Key×Addr×Value),
   Paired (fun(p:List Key×V) (q:List Key×Addr×Value)=>p.1=q.1/\H q.2.1=some (.tup (p.1.map kV))/\RelV p.2 q.2.2) kvs xs /\
   ∃ o es ep,h.get? a=some o/\o.ExactDict/\o.data=.dict es ep/\es.toList=xs.map (entryOfKey (tupleKind (dI P w)))/\(xs.map (·.1)).Nodup
 |.set S n=>h.SetOf (intKind P w) a S n
 |.ins C dx fs=>H dx=some (.own a)/\fs.length<=1000/\dx≠a/\h.get? a=some (RC C dx) /\
   ∃ mA,h.Ns1 dx mA/\(∀ f,RelO (fs.lookup f) (mA f))/\PySem.Within mA (fs.map (·.1))
 |.own _=>∃ o,h.get? a=some o
 |.xd fs=>∃ mA,h.Ns1 a mA/\∀ f,RelO (fs.lookup f) (mA f)
 |.rng lo hi=>∃ t u v,h.get? a=some { cls:=.type "range",data:=.fields #[.int lo t,.int hi u,.int 1 v] }
 |.frz o u=>h.get? a=some o/\b5 H h a u
 |.tbl ps=>h.get? a=some { cls:=.none,data:=.fields ps }
 |.met f x=>h.get? a=some (S2 (.ref f) (.ref x))
 |.ext φ=>φ h/\(∃ o,h.get? a=some o)/\∀ h1 h2:Heap,φ h1->(∀ o,h1.get? a=some o->h2.get? a=some o)->φ h2
def HOk(H:Hp)(h:Heap):Prop:=∀ a o,H a=some o->b5 P w H h a o
end
section
variable{P:Program}{w:World}{H H':Hp}{h h':Heap}{a:Addr}{o:HO}
theorem b5.lt(x:b5 P w H h a o):a<h.objs.size:=by
 cases o with
 |lst xs=>obtain⟨_,_,_,_,e⟩:=x;exact Heap.lt_size e
 |tup xs=>obtain⟨_,_,_,p⟩:=x;exact p.lt
 |dK kvs=>obtain⟨_,_,_,_,o,_,_,e,_⟩:=x;exact Heap.lt_size e
 |dT kvs=>obtain⟨_,_,_,_,o,_,_,e,_⟩:=x;exact Heap.lt_size e
 |set S n=>obtain⟨o,_,_,_,e,_⟩:=x;exact Heap.lt_size e
 |ins C dx fs=>obtain⟨_,_,_,e,_⟩:=x;exact Heap.lt_size e
 |own y=>obtain⟨_,e⟩:=x;exact Heap.lt_size e
 |xd fs=>obtain⟨_,⟨_,_,_,e,_⟩,_⟩:=x;exact Heap.lt_size e
 |rng lo hi=>obtain⟨_,_,_,e⟩:=x;exact Heap.lt_size e
 |frz ob u=>obtain⟨e,_⟩:=x;exact Heap.lt_size e
 |tbl ps=>exact Heap.lt_size (show h.get? a=some _ from x)
 |met f y=>exact Heap.lt_size (show h.get? a=some _ from x)
 |ext φ=>obtain⟨_,⟨_,e⟩,_⟩:=x;exact Heap.lt_size e
theorem Paired.mapP{α β:Type}{F G:α->β->Prop}:∀{l₁:List α}{l₂:List β},Paired F l₁ l₂->(∀ a b,F a b->G a b)->Paired G l₁ l₂
 |_,_,.nil,_=>.nil
 |_,_,.cons r t,f=>.cons (f _ _ r) (Paired.mapP t f)
theorem b5.stay(x:b5 P w H h a o)(k:∀ b u,(b=a∨H b=some (.own a))->h.get? b=some u->h'.get? b=some u)
  (ho:∀ b,H b=some (.own a)->H' b=some (.own a)) (ht:∀ b xs,H b=some (.tup xs)->H' b=some (.tup xs)):b5 P w H' h' a o:=by
 induction o with
 |lst xs=>obtain⟨z,its,n,r,e⟩:=x;exact⟨z,its,n,r,k _ _ (.inl rfl) e⟩
 |tup xs=>obtain⟨z,its,r,ob,e,c⟩:=x;exact⟨z,its,r,ob,k _ _ (.inl rfl) e,c⟩
 |dK kvs=>obtain⟨z,y,vs,r,ob,es,ep,e,c⟩:=x;exact⟨z,y,vs,r,ob,es,ep,k _ _ (.inl rfl) e,c⟩
 |dT kvs =>
  obtain⟨z,y,xs,r,ob,es,ep,e,c⟩:=x
  exact⟨z,y,xs,Paired.mapP r fun p q z=>⟨z.1,ht _ _ z.2.1,z.2.2⟩,ob,es,ep,k _ _ (.inl rfl) e,c⟩
 |set S n=>obtain⟨ob,es,ep,t,e,c⟩:=x;exact⟨ob,es,ep,t,k _ _ (.inl rfl) e,c⟩
 |ins C dx fs =>
  obtain⟨d,z,ne,e,mA,⟨od,es,ep,e2,c⟩,r⟩:=x
  exact⟨ho _ d,z,ne,k _ _ (.inl rfl) e,mA,⟨od,es,ep,k _ _ (.inr d) e2,c⟩,r⟩
 |own y=>obtain⟨ob,e⟩:=x;exact⟨ob,k _ _ (.inl rfl) e⟩
 |xd fs=>obtain⟨mA,⟨od,es,ep,e,c⟩,r⟩:=x;exact⟨mA,⟨od,es,ep,k _ _ (.inl rfl) e,c⟩,r⟩
 |rng lo hi=>obtain⟨t,u,v,e⟩:=x;exact⟨t,u,v,k _ _ (.inl rfl) e⟩
 |frz ob u ih=>obtain⟨e,q⟩:=x;exact⟨k _ _ (.inl rfl) e,ih q⟩
 |tbl ps =>
  have e:h.get? a=some { cls:=.none,data:=.fields ps }:=x
  show h'.get? a=some { cls:=.none,data:=.fields ps }
  exact k a _ (.inl rfl) e
 |met f y =>
  have e:h.get? a=some (S2 (.ref f) (.ref y)):=x
  show h'.get? a=some (S2 (.ref f) (.ref y))
  exact k a _ (.inl rfl) e
 |ext φ=>obtain⟨p,⟨o,e⟩,st⟩:=x;exact⟨st _ _ p fun o q=>k _ _ (.inl rfl) q,⟨o,k _ _ (.inl rfl) e⟩,st⟩
theorem HOk.lt(x:HOk P w H h)(e:H a=some o):a<h.objs.size:=(x a o e).lt
theorem HOk.fresh(x:HOk P w H h)(e:h.objs.size<=a):H a=none:=by
 cases q:H a with
 |none=>rfl
 |some u=>exact absurd (QB (x.lt q) e) (Q3 _)
theorem HOk.kept(x:HOk P w H h)(k:∀ b u,h.get? b=some u->h'.get? b=some u):HOk P w H h':=fun a o e =>
 (x a o e).stay (fun b u _ q=>k b u q) (fun _ q=>q) fun _ _ q=>q
theorem HOk.laid(x:HOk P w H h)(k:∀ b u,h.get? b=some u->h'.get? b=some u)(hp:h.objs.size<=a)(new:b5 P w (upd H a o) h' a o):HOk P w (upd H a o) h':=fun b u e=>by
 have hn:=x.fresh hp
 by_cases hb:b=a
 ·subst hb;rw[ag]at e;cases e;exact new
 ·rw[ar hb]at e
  exact(x b u e).stay (fun c v _ q=>k c v q) (fun c q=>by rw[ar (aB q hn)];exact q) fun c xs q=>by rw[ar (aB q hn)];exact q
end
def Rd(H:Hp)(a:Addr)(u:HO):Prop:=H a=some u∨∃ o,H a=some (.frz o u)
theorem Rd.ok{P:Program}{w:World}{H:Hp}{h:Heap}{a:Addr}{u:HO}(r:Rd H a u)(x:HOk P w H h):b5 P w H h a u:=by
 rcases r with r | ⟨o,r⟩
 ·exact x a u r
 ·obtain⟨_,q⟩:=x a _ r
  exact q
def Mut:Option HO->Prop
 |some (.lst _)=>True
 |some (.dK _)=>True
 |some (.dT _)=>True
 |some (.set _ _)=>True
 |some (.ins _ _ _)=>True
 |some (.ext _)=>True
 |_=>False
section
variable{P:Program}{w:World}{H:Hp}{h h':Heap}{x e:Addr}{o':HO}
theorem HOk.write(ok:HOk P w H h)(mu:Mut (H x))(he:e=x∨H e=some (.own x))(k:∀ b u,b≠e->h.get? b=some u->h'.get? b=some u)(heo:∃ u,h'.get? e=some u)
  (new:b5 P w (upd H x o') h' x o'):HOk P w (upd H x o') h':=fun b u q=>by
 have nown:∀ c y,H c=some (.own y)->c≠x:=fun c y r z=>by subst z;rw[r]at mu;exact mu
 have ntup:∀ c xs,H c=some (.tup xs)->c≠x:=fun c xs r z=>by subst z;rw[r]at mu;exact mu
 by_cases hb:b=x
 ·subst hb;rw[ag]at q;cases q;exact new
 ·rw[ar hb]at q
  by_cases hbe:b=e
  ·have q':H b=some (.own x):=by
    rcases he with z | z
    ·exact absurd (hbe.trans z) hb
    ·rw[hbe];exact z
   rw[q]at q';cases q'
   obtain⟨v,hv⟩:=heo
   exact⟨v,by rw[hbe];exact hv⟩
  ·refine(ok b u q).stay (fun c v hc r=>k c v ?_ r) (fun c r=>by rw[ar (nown c b r)];exact r) fun c xs r=>by rw[ar (ntup c xs r)];exact r
   rcases hc with rfl | hc
   ·exact hbe
   ·rintro rfl
    rcases he with z | z
    ·exact nown c b hc z
    ·rw[hc]at z;cases z;exact hb rfl
end
structure Un(fs ex:List Addr)(H H':Hp)(h h':Heap):Prop where
 keep:∀ b o,h.get? b=some o->H b=none->b∉fs->b∉ex->h'.get? b=some o
 slot:∀ b o,h.get? b=some o->H b=none->b∈fs->b∉ex->∃ sl,h'.get? b=some { o with slots:=sl }
 free:∀ b o,h.get? b=some o->H b=none->b∉ex->H' b=none
 there:∀ b o,h.get? b=some o->b∉ex->∃ o',h'.get? b=some o'
 tups:∀ b xs,H b=some (.tup xs)->H' b=some (.tup xs)
 frzs:∀ b o u,H b=some (.frz o u)->H' b=some (.frz o u)
 tbls:∀ b ps,H b=some (.tbl ps)->∃ more,H' b=some (.tbl (ps++more))
section
variable{fs fs' ex ex':List Addr}{H H1 H2:Hp}{h h1 h2 h':Heap}{a x e:Addr}{o:HO}
theorem Un.any(u:Un fs ex H H1 h h1){b:Addr}{ob:Obj}(q:h.get? b=some ob)(n:H b=none)(hx:b∉ex):∃ sl,h1.get? b=some { ob with slots:=sl }:=by
 by_cases hb:b∈fs
 ·exact u.slot b ob q n hb hx
 ·exact⟨ob.slots,u.keep b ob q n hb hx⟩
theorem Un.kept(k:∀ b u,h.get? b=some u->h'.get? b=some u):Un fs ex H H h h' :=
 ⟨fun b ob q _ _ _=>k b ob q,fun b ob q _ _ _=>⟨ob.slots,k b ob q⟩,fun _ _ _ n _=>n,fun b ob q _=>⟨ob,k b ob q⟩,fun _ _ q=>q,fun _ _ _ q=>q,fun _ ps q=>⟨#[],by rw[q];simp⟩⟩
theorem Un.refl:Un fs ex H H h h:=Un.kept fun _ _ q=>q
theorem Un.laid(k:∀ b u,h.get? b=some u->h'.get? b=some u)(hp:h.objs.size<=a)(hn:H a=none):Un fs ex H (upd H a o) h h' where
 keep:=fun b u q _ _ _=>k b u q
 slot:=fun b u q _ _ _=>⟨u.slots,k b u q⟩
 free:=fun b u q n _=>by rw[ar (QC (QB (Heap.lt_size q) hp))];exact n
 there:=fun b u q _=>⟨u,k b u q⟩
 tups:=fun b xs q=>by rw[ar (aB q hn)];exact q
 frzs:=fun b u xs q=>by rw[ar (aB q hn)];exact q
 tbls:=fun b ps q=>⟨#[],by rw[ar (aB q hn),q];simp⟩
theorem Un.write(mu:Mut (H x))(he:e=x∨H e=some (.own x))(k:∀ b u,b≠e->h.get? b=some u->h'.get? b=some u)(heo:∃ u,h'.get? e=some u):Un fs ex H (upd H x o) h h':=by
 have hx:∀ b,H b=none->b≠x:=fun b n z=>by subst z;rw[n]at mu;exact mu
 have hb:∀ b,H b=none->b≠e:=fun b n z=>by
  subst z
  rcases he with r | r
  ·exact hx b n r
  ·rw[n]at r;cases r
 have hm:∀ b u,H b=some u->¬ Mut (some u)->b≠x:=fun b u q nm z=>by subst z;rw[q]at mu;exact nm mu
 refine⟨fun b u q n _ _=>k b u (hb b n) q,fun b u q n _ _=>⟨u.slots,k b u (hb b n) q⟩,fun b u q n _=>by rw[ar (hx b n)];exact n,fun b u q _=>?_,
  fun b xs q=>by rw[ar (hm b _ q fun z=>z)];exact q,fun b u xs q=>by rw[ar (hm b _ q fun z=>z)];exact q,fun b ps q=>⟨#[],by rw[ar (hm b _ q fun z=>z),q];simp⟩⟩
 by_cases hbe:b=e
 ·subst hbe;exact heo
 ·exact⟨u,k b u hbe q⟩
end
def trk(h:Heap)(H:Hp):List Addr:=(QW h.objs.size).filter fun a=>(H a).isSome
def hidT(h:Heap)(H:Hp):Heap:=PySem.W.hideAll h (trk h H)
theorem KS(h:Heap)(H:Hp):(hidT h H).objs.size=h.objs.size:=PySem.W.hideAll_size _ _
theorem MY{h:Heap}{H:Hp}{b:Addr}{o:Obj}(e:h.get? b=some o)(n:H b=none):(hidT h H).get? b=some o :=
 SR _ e fun hm=>by
  have q:(H b).isSome=true:=(SH.mp hm).2
  rw[n]at q;simp at q
theorem OW{h:Heap}{H:Hp}{b:Addr}{o:Obj}(e:(hidT h H).get? b=some o):h.get? b=some o/\H b=none:=by
 have e':h.get? b=some o:=PySem.W.of_hideAll (trk h H) e
 refine⟨e',?_⟩
 cases q:H b with
 |none=>rfl
 |some x =>
  have hm:b∈trk h H:=SH.mpr ⟨RI.mpr (Heap.lt_size e'),by simp[q]⟩
  have z:(hidT h H).get? b=none:=PySem.W.hideAll_none (trk h H) hm
  rw[z]at e;cases e
end L2
namespace L2
open PySem PySem.Spec PyProof.Rows
structure Mod(K:P1)(mg:Str->Option Value)(base:Heap):Prop where
 kin:K.In base
 glob:base.Ns mainGlobals mg
 blt:∃ mb,base.Ns builtinsNs mb/\∀ x:Str,x≠"__name__"->mb x=bootBuiltins x
 nolimit:base.NoLimit
structure Cx where
 prog:Program
 w:World
 K:P1
 mg:Str->Option Value
 base:Heap
 A:Around
 N:List Str
 s₀:Shared
 H₀:Hp
 env:Env
 outer:List Env
 stack:List Env
 ex:List Addr
 fn:Str->Bool
 calm:Bool
 pn:List (Addr×Obj)
 xe:Value->Shared->Prop
def frs(l:List Env):List Addr:=l.filterMap (·.frame)
abbrev Cx.fs(X:Cx):List Addr:=frs X.outer
def Vis(sc:Scope)(x:Str):Prop:=sc.names.lookup x=some .local∨sc.names.lookup x=some .cell∨sc.names.lookup x=some .free
def Loc(sc:Scope)(x:Str):Prop:=sc.names.lookup x=some .local∨sc.names.lookup x=some .cell
def Look(env:Env)(h:Heap)(m:Str->Option Value)(x:Str)(u:Value):Prop :=
 (env.kindOf x=some .local/\m x=some u)∨((env.kindOf x=some .cell∨env.kindOf x=some .free)/\∃ c,env.cells.lookup x=some c/\h.IsCell c (some u))
structure Cx.Ok(X:Cx):Prop where
 mod:Mod X.K X.mg X.base
 kind:X.env.scope.kind=.function
 glob:X.env.globals=mainGlobals
 blt:X.env.builtins=builtinsNs
 above:X.s₀.heap.objs.size<=X.env.locals
 inj:∀ x y c,X.env.cells.lookup x=some c->X.env.cells.lookup y=some c->x=y
 has:∀ x,(X.env.kindOf x=some .cell∨X.env.kindOf x=some .free)->∃ c,X.env.cells.lookup x=some c
 cab:∀ x c,X.fn x=true->X.env.cells.lookup x=some c->X.s₀.heap.objs.size<=c
 hd:X.calm=true->X.A.handled=none
 frames:X.A.frames=some X.stack
 stk:X.stack=X.outer∨(X.stack=X.env::X.outer/\X.env.frame=some X.env.locals)
 exf:∀ b∈X.ex,b≠X.env.locals/\∀ x c,X.env.cells.lookup x=some c->c≠b
 bs:∀ b o,X.base.get? b=some o->X.s₀.heap.get? b=some o/\X.H₀ b=none
 bsz:X.base.objs.size<=X.s₀.heap.objs.size
 noex:∀ b o,X.base.get? b=some o->b∉X.ex
 exfs:∀ b∈X.ex,b∉X.fs
 funs:X.s₀.heap.FunFrames X.base X.outer
 frf:∀ b∈X.fs,X.H₀ b=none
structure Inv(X:Cx)(pins:List (Addr×Obj))(σ:List (Option V))(H:Hp)(s:Shared):Prop where
 ok:X.Ok
 os:s.os=X.s₀.os
 bare:AllBare s.gens
 base:Un X.fs X.ex X.H₀ H X.s₀.heap s.heap
 loc:∃ m,s.heap.Ns X.env.locals m/\∀(i:Nat)(x:Str)(v:V),X.N[i]?=some x->σ[i]?=some (some v)->Vis X.env.scope x->∃ u,RelV v u/\Look X.env s.heap m x u
 cell:∀ x c,X.env.cells.lookup x=some c->∃ v,s.heap.IsCell c v
 free:H X.env.locals=none
 freeC:∀ x c,X.env.cells.lookup x=some c->H c=none
 pin:∀ p∈X.pn++pins,s.heap.get? p.1=some p.2/\H p.1=none/\p.1≠X.env.locals/\p.1∉X.fs/\∀ v,p.2.data≠.cell v
 hok:HOk X.prog X.w H s.heap
 len:σ.length=X.N.length
section
variable{X:Cx}{pins:List (Addr×Obj)}{σ:List (Option V)}{H H':Hp}{s:Shared}{h':Heap}
theorem Cx.Ok.nofr(ok:X.Ok){b:Addr}{o:Obj}(e:X.base.get? b=some o):b∉X.fs:=fun hb=>by
 have:=(ok.funs.mem hb).1
 rw[e]at this;cases this
theorem Inv.bs(I:Inv X pins σ H s):∀ b o,X.base.get? b=some o->s.heap.get? b=some o/\H b=none:=fun b o e =>
 ⟨I.base.keep b o (I.ok.bs b o e).1 (I.ok.bs b o e).2 (I.ok.nofr e) (I.ok.noex b o e),I.base.free b o (I.ok.bs b o e).1 (I.ok.bs b o e).2 (I.ok.noex b o e)⟩
theorem Inv.bk(I:Inv X pins σ H s):∀ b o,X.base.get? b=some o->s.heap.get? b=some o:=fun b o e=>(I.bs b o e).1
theorem Inv.mod(I:Inv X pins σ H s):Mod X.K X.mg X.base:=I.ok.mod
theorem Inv.kIn(I:Inv X pins σ H s):X.K.In s.heap:=I.ok.mod.kin.keeps I.bk
theorem Inv.lt(I:Inv X pins σ H s):X.env.locals<s.heap.objs.size:=let ⟨_,hn,_⟩:=I.loc;hn.lt
theorem Inv.sz(I:Inv X pins σ H s):X.s₀.heap.objs.size<=s.heap.objs.size:=QG I.ok.above (Rn I.lt)
theorem Inv.nofs(I:Inv X pins σ H s){a:Addr}(h:s.heap.objs.size<=a):a∉X.fs:=fun hb=>by
 obtain⟨_,o,ho,_⟩:=I.ok.funs.mem hb
 exact absurd (QB (Heap.lt_size ho) (QG I.sz h)) (Q3 _)
theorem Inv.cne(I:Inv X pins σ H s):∀ x c,X.env.cells.lookup x=some c->c≠X.env.locals:=fun x c e z=>by
 obtain⟨v,o,ho,hd⟩:=I.cell x c e
 obtain⟨m,⟨o',es,ep,ho',hd',_⟩,_⟩:=I.loc
 rw[z,ho']at ho;cases ho;rw[hd']at hd;cases hd
theorem Inv.funs(I:Inv X pins σ H s):s.heap.FunFrames X.base X.outer:=by
 have all:∀(l:List Env),(∀ b∈frs l,b∈X.fs)->X.s₀.heap.FunFrames X.base l->s.heap.FunFrames X.base l:=by
  intro l
  induction l with
  |nil=>intro _ _;trivial
  |cons env r ih =>
   intro hs hl
   obtain⟨hk,⟨L,o,hf,hn,ho,hd⟩,hr⟩:=hl
   have hL:L∈X.fs:=hs L (by unfold frs;rw[SU,hf];exact Ql)
   obtain⟨sl,e⟩:=I.base.slot L o ho (I.ok.frf L hL) hL fun z=>I.ok.exfs L z hL
   exact⟨hk,⟨L,_,hf,hn,e,hd⟩,ih (fun b hb=>hs b (by unfold frs;rw[SU,hf];exact Qe _ hb)) hr⟩
 exact all X.outer (fun _ hb=>hb) I.ok.funs
theorem Inv.stack(I:Inv X pins σ H s):s.heap.FunFrames X.base X.stack:=by
 rcases I.ok.stk with e | ⟨e,hf⟩
 ·rw[e];exact I.funs
 ·rw[e]
  obtain⟨m,hn,_⟩:=I.loc
  refine .cons (by rw[I.ok.kind];decide) hf hn ?_ I.funs
  exact Heap.get?_none_of_le (QG I.ok.bsz I.ok.above)
theorem Inv.stkSub(I:Inv X pins σ H s):∀ b∈frs X.stack,b∈X.env.locals::X.fs:=fun b hb=>by
 rcases I.ok.stk with e | ⟨e,hf⟩
 ·rw[e]at hb;exact Qe _ hb
 ·rw[e]at hb
  unfold frs at hb
  rw[SU,hf]at hb
  exact hb
theorem Inv.stkFree(I:Inv X pins σ H s):∀ b∈frs X.stack,H b=none:=fun b hb=>by
 rcases P8.mp (I.stkSub b hb)with e | hb
 ·rw[e];exact I.free
 ·obtain⟨_,o,ho,_⟩:=I.ok.funs.mem hb
  exact I.base.free b o ho (I.ok.frf b hb) fun z=>I.ok.exfs b z hb
theorem Inv.step{g':Array GenState}{t':Nat}{d':Drawn}{ch:List Addr}(I:Inv X pins σ H s)
  (hch:∀ b∈ch,(b∈X.ex∨X.s₀.heap.objs.size<=b)/\b≠X.env.locals/\(∀ x c,X.env.cells.lookup x=some c->c≠b)/\∀ p∈X.pn++pins,p.1≠b)
  (keep:∀ b o,b≠X.env.locals->b∉X.fs->b∉ch->s.heap.get? b=some o->H b=none->h'.get? b=some o)
  (slot:∀ b o,b≠X.env.locals->b∈X.fs->b∉ch->s.heap.get? b=some o->H b=none->∃ sl,h'.get? b=some { o with slots:=sl }) (free:∀ b o,b∉ch->s.heap.get? b=some o->H b=none->H' b=none)
  (there:∀ b o,b∉ch->s.heap.get? b=some o->∃ o',h'.get? b=some o')
  (tups:∀ b xs,H b=some (.tup xs)->H' b=some (.tup xs)) (frzs:∀ b o u,H b=some (.frz o u)->H' b=some (.frz o u)) (tbls:∀ b ps,H b=some (.tbl ps)->∃ more,H' b=some (.tbl (ps++more)))
  (ns:∀ m,s.heap.Ns X.env.locals m->h'.Ns X.env.locals m) (hok:HOk X.prog X.w H' h') (hg:AllBare g') :
  Inv X pins σ H' { s with heap:=h',gens:=g',drawn:=d',toks:=t' }:=by
 have neL:∀ b o,X.s₀.heap.get? b=some o->b≠X.env.locals:=fun b o e=>QC (QB (Heap.lt_size e) I.ok.above)
 have neC:∀ b o,X.s₀.heap.get? b=some o->b∉X.ex->b∉ch:=fun b o e hx hb=>by
  rcases(hch b hb).1 with z | z
  ·exact hx z
  ·exact absurd (QB (Heap.lt_size e) z) (Q3 _)
 have cellK:∀ x c,X.env.cells.lookup x=some c->∀ v,s.heap.IsCell c v->h'.IsCell c v:=fun x c e v ⟨o,ho,hd⟩=>by
  have nch:c∉ch:=fun z=>(hch c z).2.2.1 x c e rfl
  by_cases hc:c∈X.fs
  ·obtain⟨sl,q⟩:=slot c o (I.cne x c e) hc nch ho (I.freeC x c e)
   exact⟨_,q,hd⟩
  ·exact⟨o,keep c o (I.cne x c e) hc nch ho (I.freeC x c e),hd⟩
 refine⟨I.ok,I.os,hg,⟨fun b o e n hb hx=>?_,fun b o e n hb hx=>?_,fun b o e n hx=>?_,fun b o e hx=>?_,fun b xs e=>tups b xs (I.base.tups b xs e),fun b o xs e=>frzs b o xs (I.base.frzs b o xs e),fun b ps e=>?_⟩,?_,fun x c e=>?_,?_,fun x c e=>?_,fun p hp=>?_,hok,I.len⟩
 ·exact keep b o (neL b o e) hb (neC b o e hx) (I.base.keep b o e n hb hx) (I.base.free b o e n hx)
 ·obtain⟨sl,e1⟩:=I.base.slot b o e n hb hx
  obtain⟨sl',e2⟩:=slot b _ (neL b o e) hb (neC b o e hx) e1 (I.base.free b o e n hx)
  exact⟨sl',e2⟩
 ·obtain⟨o',e1⟩:=I.base.there b o e hx
  exact free b o' (neC b o e hx) e1 (I.base.free b o e n hx)
 ·obtain⟨o',e1⟩:=I.base.there b o e hx
  exact there b o' (neC b o e hx) e1
 ·obtain⟨m1,e1⟩:=I.base.tbls b ps e
  obtain⟨m2,e2⟩:=tbls b _ e1
  exact⟨m1++m2,by rw[e2,Array.append_assoc]⟩
 ·obtain⟨m,hn,hl⟩:=I.loc
  refine⟨m,ns m hn,fun i x v e1 e2 e3=>?_⟩
  obtain⟨u,r,l⟩:=hl i x v e1 e2 e3
  refine⟨u,r,?_⟩
  rcases l with l | ⟨k,c,e,z⟩
  ·exact .inl l
  ·exact .inr ⟨k,c,e,cellK x c e _ z⟩
 ·obtain⟨v,z⟩:=I.cell x c e
  exact⟨v,cellK x c e v z⟩
 ·obtain⟨m,⟨o,_,_,ho,_⟩,_⟩:=I.loc
  exact free _ o (fun z=>(hch _ z).2.1 rfl) ho I.free
 ·obtain⟨v,o,ho,hd⟩:=I.cell x c e
  exact free c o (fun z=>(hch c z).2.2.1 x c e rfl) ho (I.freeC x c e)
 ·obtain⟨e,n,ne,nf,d⟩:=I.pin p hp
  have nch:p.1∉ch:=fun z=>(hch p.1 z).2.2.2 p hp rfl
  exact⟨keep p.1 p.2 ne nf nch e n,free p.1 p.2 nch e n,ne,nf,d⟩
theorem Inv.un{t':Nat}(I:Inv X pins σ H s)(u:Un X.fs [] H H' s.heap h')(hok:HOk X.prog X.w H' h'):Inv X pins σ H' { s with heap:=h',toks:=t' }:=by
 obtain⟨m,⟨o,es,ep,ho,r⟩,_⟩:=id I.loc
 obtain⟨sl,hL⟩:=u.any ho I.free (by simp)
 exact I.step (g':=s.gens) (d':=s.drawn) (ch:=[]) (fun _ z=>nomatch z) (fun b o _ hb _ e n=>u.keep b o e n hb (by simp)) (fun b o _ hb _ e n=>u.slot b o e n hb (by simp)) (fun b o _ e n=>u.free b o e n (by simp)) (fun b o _ e=>u.there b o e (by simp)) u.tups u.frzs u.tbls (fun m' hm=>by
  obtain⟨o',es',ep',ho',r'⟩:=hm
  rw[ho]at ho';cases ho'
  exact⟨_,es',ep',hL,r'⟩) hok I.bare
theorem Inv.call{g':Array GenState}{t':Nat}{d':Drawn}{ch:List Addr}(I:Inv X pins σ H s)(u:Un (frs X.stack) ch H H' s.heap h')(hok:HOk X.prog X.w H' h')(hg:AllBare g')
  (hch:∀ b∈ch,(b∈X.ex∨X.s₀.heap.objs.size<=b)/\b≠X.env.locals/\(∀ x c,X.env.cells.lookup x=some c->c≠b)/\∀ p∈X.pn++pins,p.1≠b) :
  Inv X pins σ H' { s with heap:=h',gens:=g',drawn:=d',toks:=t' }:=by
 obtain⟨m,⟨o,es,ep,ho,r⟩,_⟩:=id I.loc
 obtain⟨sl,hL⟩:=u.any ho I.free fun z=>(hch _ z).2.1 rfl
 exact I.step (ch:=ch) hch (fun b o hL hb hc e n=>u.keep b o e n (fun z=>(P8.mp (I.stkSub b z)).elim hL hb) hc) (fun b o _ _ hc e n=>u.any e n hc) (fun b o hc e n=>u.free b o e n hc) (fun b o hc e=>u.there b o e hc) u.tups u.frzs u.tbls (fun m' hm=>by
  obtain⟨o',es',ep',ho',r'⟩:=hm
  rw[ho]at ho';cases ho'
  exact⟨_,es',ep',hL,r'⟩) hok hg
theorem Inv.turned{t':Nat}{it:Addr}(I:Inv X pins σ H s)(k:∀ b o,b≠it->s.heap.get? b=some o->h'.get? b=some o)(hn:H it=none)(hL:it≠X.env.locals)
  (h1:it∈X.ex∨X.s₀.heap.objs.size<=it) (h2:∀ x c,X.env.cells.lookup x=some c->c≠it) (h3:∀ p∈X.pn++pins,p.1≠it):Inv X pins σ H { s with heap:=h',toks:=t' }:=by
 have nit:∀ b u,H b=some u->b≠it:=fun b u e z=>by rw[z,hn]at e;cases e
 refine I.step (g':=s.gens) (d':=s.drawn) (ch:=[it]) (fun b hb=>?_) (fun b o _ _ hc e _=>k b o (fun z=>hc (by simp[z])) e) (fun b o _ _ hc e _=>⟨o.slots,k b o (fun z=>hc (by simp[z])) e⟩) (fun _ _ _ _ n=>n)
  (fun b o hc e=>⟨o,k b o (fun z=>hc (by simp[z])) e⟩) (fun _ _ e=>e) (fun _ _ _ e=>e) (fun b ps e=>⟨#[],by rw[e];simp⟩) (fun m hm=>?_) (fun b u e=>?_) I.bare
 ·have e:b=it:=by simpa using hb
  subst e
  exact⟨h1,hL,h2,h3⟩
 ·obtain⟨o,es,ep,ho,r⟩:=hm
  exact⟨o,es,ep,k _ o (Ne.symm hL) ho,r⟩
 ·refine(I.hok b u e).stay (fun c v hc q=>k c v ?_ q) (fun _ q=>q) fun _ _ q=>q
  rcases hc with z | z
  ·rw[z];exact nit b u e
  ·exact nit c _ z
theorem Inv.tok(I:Inv X pins σ H s)(t:Nat):Inv X pins σ H { s with toks:=t }:=I.un (h':=s.heap) (t':=t) Un.refl I.hok
theorem Inv.kept{t':Nat}(I:Inv X pins σ H s)(k:∀ b u,s.heap.get? b=some u->h'.get? b=some u):Inv X pins σ H { s with heap:=h',toks:=t' }:=I.un (Un.kept k) (I.hok.kept k)
theorem Inv.laid{a:Addr}{o:HO}{t':Nat}(I:Inv X pins σ H s)(k:∀ b u,s.heap.get? b=some u->h'.get? b=some u)(hp:s.heap.objs.size<=a)(new:b5 X.prog X.w (upd H a o) h' a o) :
  Inv X pins σ (upd H a o) { s with heap:=h',toks:=t' }:=I.un (Un.laid k hp (I.hok.fresh hp)) (I.hok.laid k hp new)
theorem Inv.write{x e:Addr}{o:HO}{t':Nat}(I:Inv X pins σ H s)(mu:Mut (H x))(he:e=x∨H e=some (.own x))(k:∀ b u,b≠e->s.heap.get? b=some u->h'.get? b=some u)(heo:∃ u,h'.get? e=some u)
  (new:b5 X.prog X.w (upd H x o) h' x o):Inv X pins σ (upd H x o) { s with heap:=h',toks:=t' }:=I.un (Un.write mu he k heo) (I.hok.write mu he k heo new)
theorem Inv.weak{σ':List (Option V)}(I:Inv X pins σ H s)(hl:σ'.length=σ.length)(w:∀ (i:Nat) v,σ'[i]?=some (some v)->σ[i]?=some (some v)):Inv X pins σ' H s :=
 ⟨I.ok,I.os,I.bare,I.base,let ⟨m,hn,hl'⟩:=I.loc;⟨m,hn,fun i x v e1 e2 e3=>hl' i x v e1 (w i v e2) e3⟩,I.cell,I.free,I.freeC,I.pin,I.hok,hl.trans I.len⟩
theorem Inv.pins_of{pins':List (Addr×Obj)}(I:Inv X pins σ H s)(h:∀ p∈pins',s.heap.get? p.1=some p.2/\H p.1=none/\p.1≠X.env.locals/\p.1∉X.fs/\∀ v,p.2.data≠.cell v):Inv X pins' σ H s :=
 ⟨I.ok,I.os,I.bare,I.base,I.loc,I.cell,I.free,I.freeC,fun p hp=>(Qf.mp hp).elim (fun z=>I.pin p (QF _ z)) (h p),I.hok,I.len⟩
theorem yj{N:List Str}(hN:N.Nodup){i j:Nat}{x:Str}(a:N[i]?=some x)(b:N[j]?=some x):i=j:=by
 obtain⟨h1,e1⟩:=P0.mp a
 obtain⟨h2,e2⟩:=P0.mp b
 exact(List.getElem_inj hN).mp (e1.trans e2.symm)
theorem IZ{M:Model}{A:Around}{E:Value->Shared->Prop}{i:Nat}{x:Str}{v:V}{u:Value}{Q:Unit->Shared->Prop}(I:Inv X pins σ H s)(hN:X.N.Nodup)(hi:X.N[i]?=some x)(hx:Loc X.env.scope x)(r:RelV v u)
  (h:∀ s',Inv X pins (σ.set i (some v)) H s'->(∃ a,Heap.SameBut a s.heap s'.heap/\(a=X.env.locals∨X.env.cells.lookup x=some a))->Q () s') (hf:X.fn x=true∨X.env.scope.names.lookup x=some .local:=by first | exact .inl rfl | exact .inr rfl | assumption):wpAny M A (storeName X.env x u) Q E s:=by
 obtain⟨m,hn,hl⟩:=id I.loc
 have hcls:(X.env.scope.kind == .class||(X.env.scope.kind == .module&&X.env.locals != X.env.globals))=false:=by rw[I.ok.kind];rfl
 have hiσ:i<σ.length:=by rw[I.len];exact(P0.mp hi).1
 have cne:=I.cne
 have tracked:∀{a:Addr}{h':Heap},(∃ o,s.heap.get? a=some o/\H a=none)->Heap.SameBut a s.heap h'->HOk X.prog X.w H h':=fun{a h'} ha hs b ob e=>by
  obtain⟨_,_,hfree⟩:=ha
  refine(I.hok b ob e).stay (fun c w' hc q=>(hs.2 c ?_).trans q) (fun _ q=>q) fun _ _ q=>q
  rintro rfl
  rcases hc with rfl | hc
  ·rw[hfree]at e;cases e
  ·rw[hfree]at hc;cases hc
 rcases hx with hk | hk
 ·refine wpAny_storeName_local hk hn (fun h' hn' hs=>?_) hcls
  obtain⟨oL,_,_,hoL,_⟩:=id hn
  refine h _ ⟨I.ok,I.os,I.bare,⟨fun b o e n hb hx=>?_,fun b o e n hb hx=>?_,I.base.free,fun b o e hx=>?_,I.base.tups,I.base.frzs,I.base.tbls⟩,⟨_,hn',fun j y v' e1 e2 e3=>?_⟩,fun y c e=>?_,I.free,I.freeC,fun p hp=>?_,tracked ⟨oL,hoL,I.free⟩ hs,by simpa using I.len⟩ ⟨_,hs,.inl rfl⟩
  ·exact(hs.2 b (QC (QB (Heap.lt_size e) I.ok.above))).trans (I.base.keep b o e n hb hx)
  ·obtain⟨sl,e1⟩:=I.base.slot b o e n hb hx
   exact⟨sl,(hs.2 b (QC (QB (Heap.lt_size e) I.ok.above))).trans e1⟩
  ·obtain⟨o',e1⟩:=I.base.there b o e hx
   exact⟨o',(hs.2 b (QC (QB (Heap.lt_size e) I.ok.above))).trans e1⟩
  ·by_cases hj:j=i
   ·subst hj
    rw[hi]at e1;cases e1
    rw[Ri hiσ]at e2
    cases e2
    exact⟨u,r,.inl ⟨hk,by simp⟩⟩
   ·rw[Rf (Ne.symm hj)]at e2
    obtain⟨u',r',q⟩:=hl j y v' e1 e2 e3
    refine⟨u',r',?_⟩
    rcases q with⟨k,e⟩ | ⟨k,c,e,z⟩
    ·refine .inl ⟨k,?_⟩
     have:y≠x:=fun e=>hj (yj hN e1 (e▸hi))
     simp[this,e]
    ·exact .inr ⟨k,c,e,z.sameBut hs (cne y c e)⟩
  ·obtain⟨w',z⟩:=I.cell y c e
   exact⟨w',z.sameBut hs (cne y c e)⟩
  ·obtain⟨e,n,ne,nf,d⟩:=I.pin p hp
   exact⟨(hs.2 p.1 ne).trans e,n,ne,nf,d⟩
 ·have hfn:X.fn x=true:=by
   rcases hf with z | z
   ·exact z
   ·rw[z]at hk;cases hk
  obtain⟨c,hc⟩:=I.ok.has x (.inl hk)
  obtain⟨w',z⟩:=I.cell x c hc
  refine wpAny_storeName_cell I.ok.kind hk hc z (fun h' hc' hs=>?_)
  obtain⟨oc,hoc,hocd⟩:=id z
  refine h { s with heap:=h' } ⟨I.ok,I.os,I.bare,⟨fun b o e n hb hx=>?_,fun b o e n hb hx=>?_,I.base.free,fun b o e hx=>?_,I.base.tups,I.base.frzs,I.base.tbls⟩,⟨m,hn.sameBut hs (Ne.symm (cne x c hc)),fun j y v' e1 e2 e3=>?_⟩,fun y c' e=>?_,I.free,I.freeC,fun p hp=>?_,tracked ⟨oc,hoc,I.freeC x c hc⟩ hs,by simpa using I.len⟩ ⟨c,hs,.inr hc⟩
  ·exact(hs.2 b (QC (QB (Heap.lt_size e) (I.ok.cab x c hfn hc)))).trans (I.base.keep b o e n hb hx)
  ·obtain⟨sl,e1⟩:=I.base.slot b o e n hb hx
   exact⟨sl,(hs.2 b (QC (QB (Heap.lt_size e) (I.ok.cab x c hfn hc)))).trans e1⟩
  ·obtain⟨o',e1⟩:=I.base.there b o e hx
   exact⟨o',(hs.2 b (QC (QB (Heap.lt_size e) (I.ok.cab x c hfn hc)))).trans e1⟩
  ·by_cases hj:j=i
   ·subst hj
    rw[hi]at e1;cases e1
    rw[Ri hiσ]at e2
    cases e2
    exact⟨u,r,.inr ⟨.inl hk,c,hc,hc'⟩⟩
   ·rw[Rf (Ne.symm hj)]at e2
    obtain⟨u',r',q⟩:=hl j y v' e1 e2 e3
    refine⟨u',r',?_⟩
    rcases q with q | ⟨k,c',e,z'⟩
    ·exact .inl q
    ·refine .inr ⟨k,c',e,z'.sameBut hs ?_⟩
     rintro rfl
     exact hj (yj hN e1 (I.ok.inj _ _ _ e hc▸hi))
  ·by_cases hcc:c'=c
   ·subst hcc;exact⟨_,hc'⟩
   ·obtain⟨w2,z2⟩:=I.cell y c' e
    exact⟨w2,z2.sameBut hs hcc⟩
  ·obtain⟨e,n,ne,nf,d⟩:=I.pin p hp
   refine⟨(hs.2 p.1 ?_).trans e,n,ne,nf,d⟩
   intro q
   rw[q,hoc]at e
   have q':oc=p.2:=Qt e
   exact d w' (by rw[← q'];exact hocd)
theorem nu{M:Model}{A:Around}{E:Value->Shared->Prop}{i:Nat}{x:Str}{v:V}{u:Value}{Q:Unit->Shared->Prop}(I:Inv X pins σ H s)(hN:X.N.Nodup)(hi:X.N[i]?=some x)(hx:Loc X.env.scope x)(r:RelV v u)
  (h:∀ s',Inv X pins (σ.set i (some v)) H s'->Q () s') (hf:X.fn x=true∨X.env.scope.names.lookup x=some .local:=by first | exact .inl rfl | exact .inr rfl | assumption):wpAny M A (storeName X.env x u) Q E s :=
 IZ I hN hi hx r (fun s' I' _=>h s' I') hf
theorem Inv.call'{s':Shared}{ch:List Addr}(I:Inv X pins σ H s)(ho:s'.os=s.os)(u:Un (frs X.stack) ch H H' s.heap s'.heap)(hok:HOk X.prog X.w H' s'.heap)(hg:AllBare s'.gens)
  (hch:∀ b∈ch,(b∈X.ex∨X.s₀.heap.objs.size<=b)/\b≠X.env.locals/\(∀ x c,X.env.cells.lookup x=some c->c≠b)/\∀ p∈X.pn++pins,p.1≠b):Inv X pins σ H' s':=by
 obtain⟨h',g',d',t',o'⟩:=s'
 have e:o'=s.os:=ho
 subst e
 exact I.call (g':=g') (t':=t') (d':=d') u hok hg hch
end
abbrev XK:=Value->Option Addr->Hp->Prop
abbrev St:=List (Option V)
abbrev VK:=V->Hp->Prop
abbrev TE:=St->Hp->VK->Prop
abbrev TT:=St->Hp->(Bool->Hp->Prop)->Prop
abbrev TA:=St->Hp->(List V->Hp->Prop)->Prop
structure Ends where
 nx:St->Hp->Prop
 rt:VK
 bk:St->Hp->Prop:=fun _ _=>False
 ct:St->Hp->Prop:=fun _ _=>False
abbrev TS:=Ends->St->Hp->Prop
def EP(X:Cx)(pins:List (Addr×Obj))(σ:St)(Q:VK)(u:Value)(s':Shared):Prop:=∃ v H',Inv X pins σ H' s'/\RelV v u/\Q v H'
def TP(X:Cx)(pins:List (Addr×Obj))(σ:St)(Q:Bool->Hp->Prop)(b:Bool)(s':Shared):Prop:=∃ H',Inv X pins σ H' s'/\Q b H'
def AP(X:Cx)(pins:List (Addr×Obj))(σ:St)(Q:List V->Hp->Prop)(us:List Value)(s':Shared):Prop:=∃ vs H',Inv X pins σ H' s'/\Vals vs us/\Q vs H'
def SP(X:Cx)(pins:List (Addr×Obj))(D:Ends)(f:Flow)(s':Shared):Prop :=
 match f with
 |.next=>∃ σ' H',Inv X pins σ' H' s'/\D.nx σ' H'
 |.brk=>∃ σ' H',Inv X pins σ' H' s'/\D.bk σ' H'
 |.cont=>∃ σ' H',Inv X pins σ' H' s'/\D.ct σ' H'
 |.ret u=>∃ v σ' H',Inv X pins σ' H' s'/\RelV v u/\D.rt v H'
def PE(X:Cx)(e:Expr)(t:TE):Prop :=
 ∀(pins:List (Addr×Obj))(s:Shared)(σ:St)(H:Hp)(Q:VK),Inv X pins σ H s->t σ H Q->wpAny (model X.prog X.w) X.A (eval e X.env) (EP X pins σ Q) X.xe s
def PT(X:Cx)(e:Expr)(t:TT):Prop :=
 ∀(pins:List (Addr×Obj))(s:Shared)(σ:St)(H:Hp)(Q:Bool->Hp->Prop),Inv X pins σ H s->t σ H Q->wpAny (model X.prog X.w) X.A (isTrue e X.env (eval e X.env)) (TP X pins σ Q) X.xe s
def PW(X:Cx)(e:Expr)(t:TT):Prop :=
 ∀(whole:Sem Value)(pins:List (Addr×Obj))(s:Shared)(σ:St)(H:Hp)(Q:Bool->Hp->Prop),Inv X pins σ H s->t σ H Q->wpAny (model X.prog X.w) X.A (isTrue e X.env whole) (TP X pins σ Q) X.xe s
theorem PW.pt{X:Cx}{e:Expr}{t:TT}(h:PW X e t):PT X e t:=h _
def PA(X:Cx)(es:List Expr)(t:TA):Prop :=
 ∀(pos:Pos)(pins:List (Addr×Obj))(s:Shared)(σ:St)(H:Hp)(Q:List V->Hp->Prop),Inv X pins σ H s->t σ H Q->wpAny (model X.prog X.w) X.A (spliced (backTo pos (starEach es X.env))) (AP X pins σ Q) X.xe s
def PS(X:Cx)(st:Stmt)(t:TS):Prop :=
 ∀(pins:List (Addr×Obj))(s:Shared)(σ:St)(H:Hp)(D:Ends),Inv X pins σ H s->t D σ H->wpAny (model X.prog X.w) X.A (exec st X.env) (SP X pins D) X.xe s
def PSs(X:Cx)(st:List Stmt)(t:TS):Prop :=
 ∀(pins:List (Addr×Obj))(s:Shared)(σ:St)(H:Hp)(D:Ends),Inv X pins σ H s->t D σ H->wpAny (model X.prog X.w) X.A (execs st X.env) (SP X pins D) X.xe s
theorem thn{α:Type}{t:Sem α}{Q Q':α->Shared->Prop}{M:Model}{A:Around}{E:Value->Shared->Prop}{s:Shared}(h:wpAny M A t Q E s)(hQ:∀ a s,Q a s->Q' a s):wpAny M A t Q' E s:=wpAny_mono h hQ fun _ _ x=>x
end L2
namespace L2
open PySem PySem.Spec PyProof.Rows
section
variable{X:Cx}
def tVar(i:Nat):TE:=fun σ H Q=>∃ v,σ[i]?=some (some v)/\Q v H
def tC(v:V):TE:=fun _ H Q=>Q v H
theorem pe_var{i:Nat}{x:Str}{pos:Pos}(hN:X.N[i]?=some x)(hv:Vis X.env.scope x) (hd:(x == ("__debug__" : Str))=false:=by decide) (hcd:(x == ("__classdict__" : Str))=false:=by decide):PE X (.Name x pos) (tVar i):=by
 intro pins s σ H Q I h
 obtain⟨v,e,h⟩:=h
 obtain⟨m,hn,hl⟩:=I.loc
 obtain⟨u,r,l⟩:=hl i x v hN e hv
 have fin:EP X pins σ Q u s:=⟨v,H,I,r,h⟩
 rcases l with⟨hk,hm⟩ | ⟨hk,c,hc,hcell⟩
 ·exact wpAny_Name (wpAny_loadName_local I.ok.kind hk hn hm fin) hd
 ·rcases hk with hk | hk
  ·exact wpAny_Name (wpAny_loadName_cell I.ok.kind hk hc hcell fin) hd
  ·exact wpAny_Name (wpAny_loadName_free I.ok.kind hk hc hcell fin hcd) hd
theorem ai{i j pos}:PE X (.Constant (.int i) j pos) (tC (.int i)):=fun _ _ _ H _ I h=>wpAny_Constant_int ⟨.int i,H,I.tok _,⟨_,rfl⟩,h⟩
theorem G0{b j pos}:PE X (.Constant (.bool b) j pos) (tC (.bl b)):=fun _ _ _ H _ I h=>Constant_bool ⟨.bl b,H,I,rfl,h⟩
theorem cW{j pos}:PE X (.Constant .none j pos) (tC .non):=fun _ _ _ H _ I h=>Constant_none ⟨.non,H,I,rfl,h⟩
theorem aM{x j pos}:PE X (.Constant (.str x) j pos) (tC (.str x)):=fun _ _ _ H _ I h=>Calls.Constant_str ⟨.str x,H,I.tok _,⟨_,rfl⟩,h⟩
def Gl(X:Cx)(x:Str):Prop:=X.env.kindOf x=some .globalImplicit
theorem mq{E:Value->Shared->Prop}{pins:List (Addr×Obj)}{s:Shared}{σ:St}{H:Hp}{x:Str}{u:Value}{pos:Pos}{Q:Value->Shared->Prop}(I:Inv X pins σ H s)(hg:Gl X x)(hm:X.mg x=some u)(h:Q u s)
  (hd:(x == ("__debug__" : Str))=false:=by decide):wpAny (model X.prog X.w) X.A (eval (.Name x pos) X.env) Q E s :=
 Calls.Name_function_global I.ok.kind hg (Calls.loadGlobal_global (by rw[I.ok.glob];exact I.mod.glob.keeps I.bk) hm h) hd
theorem wD{E:Value->Shared->Prop}{pins:List (Addr×Obj)}{s:Shared}{σ:St}{H:Hp}{x:Str}{u:Value}{pos:Pos}{Q:Value->Shared->Prop}(I:Inv X pins σ H s)(hg:Gl X x)(hm:X.mg x=none)(hv:bootBuiltins x=some u)(h:Q u s)
  (hn:x≠"__name__":=by decide) (hd:(x == ("__debug__" : Str))=false:=by decide):wpAny (model X.prog X.w) X.A (eval (.Name x pos) X.env) Q E s:=by
 obtain⟨mb,h1,h2⟩:=I.mod.blt
 exact Calls.Name_function_global I.ok.kind hg (Calls.loadGlobal_builtin (by rw[I.ok.glob];exact I.mod.glob.keeps I.bk) hm (by rw[I.ok.blt];exact h1.keeps I.bk) ((h2 x hn).trans hv) h) hd
theorem JC{x:Str}{v:V}{u:Value}{pos:Pos}(hg:Gl X x)(hm:X.mg x=some u)(r:RelV v u) (hd:(x == ("__debug__" : Str))=false:=by decide):PE X (.Name x pos) (tC v) :=
 fun _ _ _ H _ I h=>mq I hg hm ⟨v,H,I,r,h⟩ hd
theorem OI{x:Str}{v:V}{u:Value}{pos:Pos}(hg:Gl X x)(hm:X.mg x=none)(hv:bootBuiltins x=some u)(r:RelV v u) (hn:x≠"__name__":=by decide) (hd:(x == ("__debug__" : Str))=false:=by decide):PE X (.Name x pos) (tC v) :=
 fun _ _ _ H _ I h=>wD I hg hm hv ⟨v,H,I,r,h⟩ hn hd
variable{a b:Expr}{ta tb:TE}{pos:Pos}
def PC(X:Cx)(op:CmpOp)(a b:Expr)(t:TE):Prop :=
 ∀(pins:List (Addr×Obj))(s:Shared)(σ:St)(H:Hp)(Q:VK),Inv X pins σ H s->t σ H Q ->
  wpAny (model X.prog X.w) X.A (eval a X.env) (fun v s₁=>wpAny (model X.prog X.w) X.A (eval b X.env) (fun u s₂=>wpAny (model X.prog X.w) X.A (compareOp op v u) (EP X pins σ Q) X.xe s₂) X.xe s₁) X.xe s
def tB(t:TE):TT:=fun σ H Q=>t σ H fun x H1=>∃ c,x=.bl c/\Q c H1
theorem pt_cmp{op:CmpOp}{t:TE}(h:PC X op a b t)(h1:behindInMarks op b=false:=by first | exact nobehind _ (by decide) (by decide) | rfl):PT X (.Compare a [op] [b] pos) (tB t):=by
 intro pins s σ H Q I hw
 refine wpAny_isTrue_Compare1 (thn (h pins s σ H _ I hw) fun v s1 h1=>thn h1 fun u s2 h2=>thn h2 fun c s3 ⟨x,H1,I1,r1,q1⟩=>?_) h1
 obtain⟨d,rfl,q⟩:=q1
 cases r1
 exact wpAny_truthy_bool ⟨H1,I1,q⟩
theorem pt_val{e:Expr}{t:TE}(h:PE X e t)(he:∀ whole,isTrue e X.env whole=(do let v ← whole;standAt e.pos;holding [v] (truthy v)):=by intro _;rfl):PT X e (tB t):=by
 intro pins s σ H Q I hw
 refine isTrue_plain (thn (h pins s σ H _ I hw) fun v s1 ⟨x,H1,I1,r1,q1⟩=>?_) (he _)
 obtain⟨d,rfl,q⟩:=q1
 cases r1
 exact wpAny_truthy_bool ⟨H1,I1,q⟩
variable{tA tB':TT}{rest:List Expr}
def tAnd(t u:TT):TT:=fun σ H Q=>t σ H fun c H1=>if c=true then u σ H1 Q else Q false H1
def tOr(t u:TT):TT:=fun σ H Q=>t σ H fun c H1=>if c=true then Q true H1 else u σ H1 Q
def tNot(t:TT):TT:=fun σ H Q=>t σ H fun c H1=>Q (!c) H1
theorem oN(ha:PT X a tA):PW X (.BoolOp .And [a] pos) tA:=by
 intro wh pins s σ H Q I h
 refine isTrue_and (thn (ha pins s σ H Q I h) fun c s1 e=>?_)
 cases c with
 |true=>exact isTrue_and_nil e
 |false=>exact e
theorem fN(ha:PT X a tA):PW X (.BoolOp .Or [a] pos) tA:=by
 intro wh pins s σ H Q I h
 refine isTrue_or (thn (ha pins s σ H Q I h) fun c s1 e=>?_)
 cases c with
 |false=>exact isTrue_or_nil e
 |true=>exact e
theorem lA(ha:PT X a tA)(hb:PW X (.BoolOp .And (b::rest) pos) tB'):PW X (.BoolOp .And (a::b::rest) pos) (tAnd tA tB'):=by
 intro wh pins s σ H Q I h
 refine isTrue_and (thn (ha pins s σ H _ I h) fun c s1 ⟨H1,I1,q1⟩=>?_)
 cases c with
 |true=>exact hb wh pins s1 σ H1 Q I1 q1
 |false=>exact⟨H1,I1,q1⟩
theorem gy(ha:PT X a tA)(hb:PW X (.BoolOp .Or (b::rest) pos) tB'):PW X (.BoolOp .Or (a::b::rest) pos) (tOr tA tB'):=by
 intro wh pins s σ H Q I h
 refine isTrue_or (thn (ha pins s σ H _ I h) fun c s1 ⟨H1,I1,q1⟩=>?_)
 cases c with
 |true=>exact⟨H1,I1,q1⟩
 |false=>exact hb wh pins s1 σ H1 Q I1 q1
theorem pt_not(ha:PT X a tA):PT X (.UnaryOp .Not a pos) (tNot tA):=by
 intro pins s σ H Q I h
 exact isTrue_not (ha pins s σ H (fun c H1=>Q (!c) H1) I h)
def tAndV(ta tb:TE):TE:=fun σ H Q=>ta σ H fun x H1=>∃ c,x=.bl c/\if c=true then tb σ H1 Q else Q (.bl false) H1
theorem Nv{op}{t:TE}(h:PE X a t):PE X (.BoolOp op [a] pos) t:=fun pins s σ H Q I hw=>BoolOp_one (h pins s σ H Q I hw)
theorem Nw(ha:PE X a ta)(hb:PE X (.BoolOp .And (b::rest) pos) tb):PE X (.BoolOp .And (a::b::rest) pos) (tAndV ta tb):=by
 intro pins s σ H Q I h
 refine BoolOp_and (thn (ha pins s σ H _ I h) fun v s1 ⟨x,H1,I1,r1,q1⟩=>?_)
 obtain⟨c,rfl,q1⟩:=q1
 cases r1
 refine wpAny_truthy_bool ?_
 cases c with
 |true=>exact hb pins s1 σ H1 Q I1 q1
 |false=>exact⟨.bl false,H1,I1,rfl,q1⟩
def tIf(t:TT)(ta tb:TE):TE:=fun σ H Q=>t σ H fun c H1=>if c=true then ta σ H1 Q else tb σ H1 Q
theorem kM{c:Expr}(hc:PT X c tA)(ha:PE X a ta)(hb:PE X b tb):PE X (.IfExp c a b pos) (tIf tA ta tb):=by
 intro pins s σ H Q I h
 refine wpAny_IfExp (thn (hc pins s σ H _ I h) fun d s1 ⟨H1,I1,q1⟩=>?_)
 cases d with
 |true=>exact ha pins s1 σ H1 Q I1 q1
 |false=>exact hb pins s1 σ H1 Q I1 q1
end
end L2
namespace L2
open PySem PySem.Spec PyProof.Rows
def SqL(K:P1)(H:Hp)(a:Addr)(xs:List V):Prop :=
 Rd H a (.lst xs) ∨
  ∃(o:Obj)(its:Array Value)(n:Nat),K.lookup a=some o/\o.cls=.type "list"/\o.dict=none/\o.data=.seq its n/\its.size<=sizeLine/\Vals xs its.toList
def SqT(K:P1)(H:Hp)(a:Addr)(xs:List V):Prop :=
 Rd H a (.tup xs) ∨
  ∃(o:Obj)(its:Array Value)(n:Nat),K.lookup a=some o/\o.cls=.type "tuple"/\o.data=.seq its n/\its.size<=sizeLine/\Vals xs its.toList
def absV:Value->Option V
 |.none=>some .non
 |.bool b=>some (.bl b)
 |.int i _=>some (.int i)
 |.str x _=>some (.str x)
 |.bytes b _=>some (.byt b)
 |.float b _=>some (.flt b)
 |.ref a=>some (.ref a)
 |.type n=>some (.ty n)
 |_=>none
theorem RelV.abs{x:V}{u:Value}(r:RelV x u):absV u=some x:=by
 cases x with
 |non=>cases r;rfl
 |bl _=>cases r;rfl
 |int _=>obtain⟨t,rfl⟩:=r;rfl
 |str _=>obtain⟨t,rfl⟩:=r;rfl
 |byt _=>obtain⟨t,rfl⟩:=r;rfl
 |flt _=>obtain⟨t,rfl⟩:=r;rfl
 |ref _=>cases r;rfl
 |ty _=>cases r;rfl
theorem RelV.inj{x y:V}{u:Value}(r:RelV x u)(q:RelV y u):x=y:=Qt (r.abs.symm.trans q.abs)
theorem Vals.inj:∀{xs ys:List V}{us:List Value},Vals xs us->Vals ys us->xs=ys
 |_,_,_,.nil,.nil=>rfl
 |_,_,_,.cons r t,.cons r' t'=>by rw[r.inj r',Vals.inj t t']
section
variable{X:Cx}{pins:List (Addr×Obj)}{σ:St}{H:Hp}{s:Shared}{a:Addr}{xs ys:List V}
theorem SqL.of{K:P1}(h:H a=some (.lst xs)):SqL K H a xs:=.inl (.inl h)
theorem SqT.of{K:P1}(h:H a=some (.tup xs)):SqT K H a xs:=.inl (.inl h)
theorem Inv.list(I:Inv X pins σ H s)(h:SqL X.K H a xs):∃ its:List Value,Vals xs its/\PlainL s.heap a its.toArray/\xs.length<=sizeLine:=by
 rcases h with h | ⟨o,its,n,hk,hc,hd,hs,hz,r⟩
 ·obtain⟨z,its,n,r,e⟩:=h.ok I.hok
  exact⟨its,r,⟨_,n,e,rfl,rfl,rfl⟩,z⟩
 ·refine⟨its.toList,r,⟨o,n,I.kIn a o hk,hc,hd,by simpa using hs⟩,?_⟩
  have e:=r.length
  simp only[Rq]at e
  omega
theorem Inv.tuple(I:Inv X pins σ H s)(h:SqT X.K H a xs):∃ its:List Value,Vals xs its/\IsTup s.heap a its.toArray/\xs.length<=sizeLine:=by
 rcases h with h | ⟨o,its,n,hk,hc,hs,hz,r⟩
 ·obtain⟨z,its,r,p⟩:=h.ok I.hok
  exact⟨its,r,p,z⟩
 ·refine⟨its.toList,r,⟨o,I.kIn a o hk,hc,n,by simpa using hs⟩,?_⟩
  have e:=r.length
  simp only[Rq]at e
  omega
theorem Inv.list_inj(I:Inv X pins σ H s)(h:SqL X.K H a xs)(h':SqL X.K H a ys):xs=ys:=by
 obtain⟨its,r,⟨o,n,e,_,_,d⟩,_⟩:=I.list h
 obtain⟨its',r',⟨o',n',e',_,_,d'⟩,_⟩:=I.list h'
 rw[e]at e';cases e'
 rw[d]at d'
 injection d' with d1 _
 have:its=its':=by simpa using congrArg Array.toList d1
 subst this
 exact r.inj r'
end
abbrev Cx.wish(X:Cx)(E:Value->Shared->Prop):Cx:={ X with xe:=E }
abbrev Cx.nox(X:Cx):Cx:=X.wish fun _ _=>False
theorem Cx.Ok.wish{X:Cx}(ok:X.Ok)(E:Value->Shared->Prop):(X.wish E).Ok :=
 ⟨ok.mod,ok.kind,ok.glob,ok.blt,ok.above,ok.inj,ok.has,ok.cab,ok.hd,ok.frames,ok.stk,ok.exf,ok.bs,ok.bsz,ok.noex,ok.exfs,ok.funs,ok.frf⟩
theorem Cx.Ok.unwish{X:Cx}{E:Value->Shared->Prop}(ok:(X.wish E).Ok):X.Ok :=
 ⟨ok.mod,ok.kind,ok.glob,ok.blt,ok.above,ok.inj,ok.has,ok.cab,ok.hd,ok.frames,ok.stk,ok.exf,ok.bs,ok.bsz,ok.noex,ok.exfs,ok.funs,ok.frf⟩
section
variable{X:Cx}{pins:List (Addr×Obj)}{σ:St}{H:Hp}{s:Shared}{E:Value->Shared->Prop}
theorem Inv.wish(I:Inv X pins σ H s)(E:Value->Shared->Prop):Inv (X.wish E) pins σ H s:=⟨I.ok.wish E,I.os,I.bare,I.base,I.loc,I.cell,I.free,I.freeC,I.pin,I.hok,I.len⟩
theorem Inv.unwish(I:Inv (X.wish E) pins σ H s):Inv X pins σ H s:=⟨I.ok.unwish,I.os,I.bare,I.base,I.loc,I.cell,I.free,I.freeC,I.pin,I.hok,I.len⟩
theorem SP.unwish{D:Ends}{f:Flow}{s':Shared}(h:SP (X.wish E) pins D f s'):SP X pins D f s':=by
 cases f with
 |next=>obtain⟨σ',H',I,q⟩:=h;exact⟨σ',H',I.unwish,q⟩
 |brk=>obtain⟨σ',H',I,q⟩:=h;exact⟨σ',H',I.unwish,q⟩
 |cont=>obtain⟨σ',H',I,q⟩:=h;exact⟨σ',H',I.unwish,q⟩
 |ret u=>obtain⟨v,σ',H',I,r,q⟩:=h;exact⟨v,σ',H',I.unwish,r,q⟩
theorem PSs.nox{st:List Stmt}{t:TS}(h:PSs X.nox st t):PSs X st t:=fun pins s σ H D I hw =>
 wpAny_mono (h pins s σ H D (I.wish _) hw) (fun _ _ q=>q.unwish) fun _ _ z=>False.elim z
end
section
variable{X:Cx}{st:Stmt}{rest:List Stmt}{t u:TS}{e:Expr}{te:TE}{pos:Pos}
def tNext:TS:=fun D σ H=>D.nx σ H
def tSeq(t u:TS):TS:=fun D σ H=>t { D with nx:=u D } σ H
theorem aL:PSs X [] tNext:=fun _ _ σ H _ I h=>wpAny_execs_nil ⟨σ,H,I,h⟩
theorem ae(h1:PS X st t)(h2:PSs X rest u):PSs X (st::rest) (tSeq t u):=by
 intro pins s σ H D I h
 refine wpAny_execs_cons (thn (h1 pins s σ H { D with nx:=u D } I h) fun f s1 q=>?_)
 cases f with
 |next =>
  obtain⟨σ',H',I',q⟩:=q
  exact h2 pins s1 σ' H' D I' q
 |ret v=>exact q
 |brk=>exact q
 |cont=>exact q
theorem ak(h1:PS X st t):PSs X [st] t:=by
 intro pins s σ H D I h
 refine wpAny_execs_cons (thn (h1 pins s σ H D I h) fun f s1 q=>?_)
 cases f with
 |next=>exact wpAny_execs_nil q
 |ret v=>exact q
 |brk=>exact q
 |cont=>exact q
theorem Inv.quiet{pins:List (Addr×Obj)}{σ:St}{H:Hp}{s:Shared}(I:Inv X pins σ H s):interactive X.env=false:=by simp[interactive,I.ok.kind]
def tDrop(te:TE):TS:=fun D σ H=>te σ H fun _ H1=>D.nx σ H1
theorem aU(he:PE X e te)(hs:swapsWith e none pos.line X.env=pure false:=by rfl):PS X (.Expr e pos) (tDrop te):=by
 intro pins s σ H D I h
 exact wpAny_Expr_any (thn (he pins s σ H _ I h) fun v s1 ⟨x,H1,I1,r1,q1⟩=>⟨σ,H1,I1,q1⟩) I.quiet hs
def tRet(te:TE):TS:=fun D σ H=>te σ H D.rt
theorem aJ(he:PE X e te):PS X (.Return (some e) pos) (tRet te):=by
 intro pins s σ H D I h
 exact wpAny_Return_some (thn (he pins s σ H _ I h) fun v s1 ⟨x,H1,I1,r1,q1⟩=>⟨x,σ,H1,I1,r1,q1⟩)
def tIfS(c:TT)(t u:TS):TS:=fun D σ H=>c σ H fun b H1=>if b=true then t D σ H1 else u D σ H1
theorem ba{c:Expr}{a b:List Stmt}{tc:TT}(hc:PT X c tc)(ha:PSs X a t)(hb:PSs X b u):PS X (.If c a b pos) (tIfS tc t u):=by
 intro pins s σ H D I h
 refine wpAny_If (thn (hc pins s σ H _ I h) fun d s1 ⟨H1,I1,q1⟩=>?_)
 cases d with
 |true=>exact ha pins s1 σ H1 D I1 q1
 |false=>exact hb pins s1 σ H1 D I1 q1
def tNever:TS:=fun _ _ _=>False
theorem da:PS X st tNever:=fun _ _ _ _ _ _ h=>h.elim
end
abbrev TG:=V->St->Hp->(St->Hp->Prop)->Prop
abbrev TGs:=List V->St->Hp->(St->Hp->Prop)->Prop
def PG(X:Cx)(target:Expr)(t:TG):Prop :=
 ∀(pins:List (Addr×Obj))(s:Shared)(σ:St)(H:Hp)(v:V)(u:Value)(Q:St->Hp->Prop),Inv X pins σ H s->RelV v u->t v σ H Q ->
  wpAny (model X.prog X.w) X.A (assign target X.env u) (fun _ s'=>∃ σ' H',Inv X pins σ' H' s'/\Q σ' H') X.xe s
def PGs(X:Cx)(ts:List Expr)(t:TGs):Prop :=
 ∀(pins:List (Addr×Obj))(s:Shared)(σ:St)(H:Hp)(vs:List V)(us:List Value)(Q:St->Hp->Prop),Inv X pins σ H s->Vals vs us->t vs σ H Q ->
  wpAny (model X.prog X.w) X.A (assignInOrder ((assignEach ts X.env).map (·.2)) us) (fun _ s'=>∃ σ' H',Inv X pins σ' H' s'/\Q σ' H') X.xe s
abbrev TSet:=V->V->V->Hp->(Hp->Prop)->Prop
def PSet(X:Cx)(t:TSet):Prop :=
 ∀(pins:List (Addr×Obj))(s:Shared)(σ:St)(H:Hp)(o i v:V)(ov iv u:Value)(Q:Hp->Prop),Inv X pins σ H s->RelV o ov->RelV i iv->RelV v u->t o i v H Q ->
  wpAny (model X.prog X.w) X.A (setItem ov iv u) (fun _ s'=>∃ H',Inv X pins σ H' s'/\Q H') X.xe s
section
variable{X:Cx}{pos:Pos}
def Pn(i:Nat):TG:=fun v σ H Q=>Q (σ.set i (some v)) H
theorem aV{i:Nat}{x:Str}(hN:X.N.Nodup)(hi:X.N[i]?=some x)(hx:Loc X.env.scope x)(hf:X.fn x=true∨X.env.scope.names.lookup x=some .local:=by first | exact .inl rfl | exact .inr rfl | assumption):PG X (.Name x pos) (Pn i):=by
 intro pins s σ H v u Q I r h
 exact wpAny_assign_Name (nu I hN hi hx r (fun s' I'=>⟨_,H,I',h⟩) hf)
def gNil:TGs:=fun vs σ H Q=>vs = []/\Q σ H
def gCons(t:TG)(u:TGs):TGs:=fun vs σ H Q=>∃ v r,vs=v::r/\t v σ H fun σ' H'=>u r σ' H' Q
theorem oR:PGs X [] gNil:=by
 intro pins s σ H vs us Q I r h
 obtain⟨e,h⟩:=h
 subst e
 cases r
 exact assignInOrder_nil ⟨σ,H,I,h⟩
theorem bH{e:Expr}{es:List Expr}{t:TG}{u:TGs}(h1:PG X e t)(h2:PGs X es u)
  (hs:(assignEach (e::es) X.env).map (·.2)=assign e X.env::(assignEach es X.env).map (·.2):=by rfl):PGs X (e::es) (gCons t u):=by
 intro pins s σ H vs us Q I r h
 obtain⟨v,vr,e1,h⟩:=h
 subst e1
 cases r with
 |cons r rr =>
  rw[hs]
  refine assignInOrder_cons (thn (h1 pins s σ H _ _ _ I r h) fun _ s1 ⟨σ1,H1,I1,q1⟩=>?_)
  exact h2 pins s1 σ1 H1 _ _ Q I1 rr q1
def gTup(K:P1)(n:Nat)(t:TGs):TG:=fun v σ H Q=>∃ a xs,v=.ref a/\SqT K H a xs/\xs.length=n/\t xs σ H Q
theorem FH{es:List Expr}{k:Nat}{t:TGs}{n:Nat}(hc:X.calm=true)(h:PGs X es t)
  (hn:(assignEach es X.env).length=n:=by rfl) (hst:(assignEach es X.env).findIdx? (·.1)=none:=by rfl):PG X (.Tuple es k pos) (gTup X.K n t):=by
 intro pins s σ H v u Q I r hw
 obtain⟨a,xs,e1,hq,hl,hw⟩:=hw
 subst e1
 cases r
 obtain⟨its,rv,ht,hz⟩:=I.tuple hq
 refine assign_Tuple_tuple (I.ok.hd hc) ht (by simp[hn,← hl,rv.length]) hst fun h' hx=>?_
 have I1:Inv X pins σ H { s with heap:=h' }:=I.kept (t':=s.toks) fun b o e=>hx b o (QC (Heap.lt_size e)) e
 exact h pins _ σ H xs _ Q I1 (by simpa using rv) hw
def gSub(to ti:TE)(t:TSet):TG:=fun v σ H Q=>to σ H fun o H1=>ti σ H1 fun i H2=>t o i v H2 fun H3=>Q σ H3
theorem wB{o i:Expr}{to ti:TE}{t:TSet}(ho:PE X o to)(hi:PE X i ti)(hs:PSet X t)
  (ha:∀ v,assign (.Subscript o i pos) X.env v=(do
   let ov ← holding [v] (eval o X.env)
   let iv ← holding [v,ov] (eval i X.env)
   standAt pos
   holding [v,ov,iv] (setItem ov iv v)
   release [v,ov,iv] []):=by intro _;rfl):PG X (.Subscript o i pos) (gSub to ti t):=by
 intro pins s σ H v u Q I r h
 rw[ha]
 refine wpAny_bind (wpAny_holding (thn (ho pins s σ H _ I h) fun ov s1 ⟨x,H1,I1,r1,q1⟩=>?_))
 refine wpAny_bind (wpAny_holding (thn (hi pins s1 σ H1 _ I1 q1) fun iv s2 ⟨y,H2,I2,r2,q2⟩=>?_))
 refine wpAny_bind (wpAny_standAt (wpAny_bind (wpAny_holding (thn (hs pins s2 σ H2 x y v ov iv u _ I2 r1 r2 r q2) fun _ s3 ⟨H3,I3,q3⟩=>?_))))
 exact wpAny_release ⟨σ,H3,I3,q3⟩
def tAsg(te:TE)(g:TG):TS:=fun D σ H=>te σ H fun x H1=>g x σ H1 D.nx
theorem wz{tg e:Expr}{te:TE}{g:TG}(he:PE X e te)(hg:PG X tg g)(hs:swapsWithSole [tg] e pos.line X.env=pure false:=by rfl)(hw:swappedStores [tg] e X.env=pure none:=by rfl)
  (h1:(assignEach [tg] X.env).map (·.2) = [assign tg X.env]:=by rfl):PS X (.Assign [tg] e pos) (tAsg te g):=by
 intro pins s σ H D I h
 refine wpAny_Assign_stores (thn (he pins s σ H _ I h) fun v s1 ⟨x,H1,I1,r1,q1⟩=>?_) hs hw
 rw[h1]
 exact thn (hg pins s1 σ H1 x v _ I1 r1 q1) fun _ s2 q=>q
theorem ay{i:Nat}{x:Str}{e:Expr}{te:TE}{pos':Pos}(hN:X.N.Nodup)(hi:X.N[i]?=some x)(hx:Loc X.env.scope x)(he:PE X e te)(hs:swapsWith e (some (.Name x pos')) pos.line X.env=pure false:=by rfl)(hf:X.fn x=true∨X.env.scope.names.lookup x=some .local:=by first | exact .inl rfl | exact .inr rfl | assumption) :
  PS X (.Assign [.Name x pos'] e pos) (tAsg te (Pn i)):=by
 intro pins s σ H D I h
 refine wpAny_Assign_Name (thn (he pins s σ H _ I h) fun v s1 ⟨y,H1,I1,r1,q1⟩=>?_) hs
 exact nu I1 hN hi hx r1 (fun s2 I2=>⟨_,H1,I2,q1⟩) hf
end
section
variable{X:Cx}{pos:Pos}
def Np(c:TT)(tb:TS):TS:=fun D σ H=>∃ W:Nat->St->Hp->Prop,(∃ m,W m σ H)/\∀ m σ H,W m σ H ->
 c σ H fun b H1=>if b=true then ∃ N:St->Hp->Prop,(∀ σ' H',N σ' H'->∃ m',m'<m/\W m' σ' H')/\tb { D with nx:=N,ct:=N,bk:=D.nx } σ H1 else D.nx σ H1
theorem rC{c:Expr}{body:List Stmt}{tc:TT}{tb:TS}(hp:PassesOwn (model X.prog X.w) X.A X.env X.xe)(hc:PT X c tc)(hb:PSs X body tb):PS X (.While c body [] pos) (Np tc tb):=by
 intro pins s σ H D I h
 obtain⟨W,⟨m0,w0⟩,turn⟩:=h
 refine wpAny_While (codeAny_whileLoop (fun n s'=>∃ σ' H',Inv X pins σ' H' s'/\W n σ' H') ?_ m0 ⟨σ,H,I,w0⟩)
 rintro n s1 ⟨σ1,H1,I1,w1⟩
 refine wpAny_passesOwn hp (thn (hc pins s1 σ1 H1 _ I1 (turn n σ1 H1 w1)) fun b s2 ⟨H2,I2,q2⟩=>?_)
 cases b with
 |true =>
  obtain⟨N,hN,q2⟩:=q2
  rw[if_pos rfl]
  refine wpAny_passesOwn hp (thn (hb pins s2 σ1 H2 _ I2 q2) fun f s3 q3=>?_)
  cases f with
  |next =>
   obtain⟨σ3,H3,I3,n3⟩:=q3
   obtain⟨m',hm,w3⟩:=hN σ3 H3 n3
   exact⟨m',hm,σ3,H3,I3,w3⟩
  |cont =>
   obtain⟨σ3,H3,I3,n3⟩:=q3
   obtain⟨m',hm,w3⟩:=hN σ3 H3 n3
   exact⟨m',hm,σ3,H3,I3,w3⟩
  |brk=>exact q3
  |ret v=>exact q3
 |false =>
  rw[if_neg Qw]
  exact wpAny_execs_nil ⟨σ1,H2,I2,q2⟩
end
structure It where
 go:Nat->Hp->Prop
 yld:Nat->Hp->V->Hp->Prop
 stop:Nat->Hp->Prop
def FpOk(X:Cx)(pins:List (Addr×Obj))(H:Hp)(b:Addr):Prop :=
 H b=none/\b≠X.env.locals/\b∉X.fs/\(b∈X.ex∨X.s₀.heap.objs.size<=b)/\(∀ x c,X.env.cells.lookup x=some c->c≠b)/\∀ p∈X.pn++pins,p.1≠b
theorem Inv.fpOk{X:Cx}{pins:List (Addr×Obj)}{σ:St}{H H':Hp}{s:Shared}{b:Addr}(I:Inv X pins σ H s)(hb:s.heap.objs.size<=b)(hn:H' b=none):FpOk X pins H' b:=by
 refine⟨hn,RQ (QB I.lt hb),I.nofs hb,.inr (QG I.sz hb),fun x c e z=>?_,fun p hp z=>?_⟩
 ·obtain⟨v,q⟩:=I.cell x c e
  exact absurd (QB q.lt (by rw[z];exact hb)) (Q3 _)
 ·exact absurd (QB (Heap.lt_size (I.pin p hp).1) (by rw[z];exact hb)) (Q3 _)
structure Turn(P:Program)(w:World)(K:P1)(tg:Expr)(J:It)(fp:List Addr)(it:Addr)(tn:Nat->Heap->Prop):Prop where
 mem:it∈fp
 obj:∀ i h,tn i h->∀ b∈fp,∃ o,h.get? b=some o/\∀ v,o.data≠.cell v
 keep:∀ i h h',tn i h->(∀ b∈fp,∀ o,h.get? b=some o->h'.get? b=some o)->tn i h'
 item:∀(X:Cx),X.prog=P->X.w=w->X.K=K->X.calm=true->∀(i:Nat)(pins:List (Addr×Obj))(s:Shared)(σ:St)(H:Hp)(E:Value->Shared->Prop),Inv X pins σ H s->(∀ b∈fp,FpOk X pins H b)->tn i s.heap->J.go i H ->
  wpAny (model P w) X.A (pyNext (.ref it)) (fun r s1=>∃ u,r=some u /\
   wpAny (model P w) X.A (letOwnedTupleGo tg (.ref it) u) (fun _ s2=>∃ x H',Inv X pins σ H' s2/\RelV x u/\J.yld i H x H'/\tn (i+1) s2.heap/\∀ b∈fp,H' b=none) E s1) E s
 done:∀(X:Cx),X.prog=P->X.w=w->X.K=K->X.calm=true->∀(i:Nat)(pins:List (Addr×Obj))(s:Shared)(σ:St)(H:Hp)(E:Value->Shared->Prop),Inv X pins σ H s->(∀ b∈fp,FpOk X pins H b)->tn i s.heap->J.stop i H ->
  wpAny (model P w) X.A (pyNext (.ref it)) (fun r s1=>r=none/\Inv X pins σ H s1) E s
 self:∀(A:Around)(i:Nat)(s:Shared)(Q:Value->Shared->Prop)(E:Value->Shared->Prop),tn i s.heap->Q (.ref it) s->wpAny (model P w) A (pyIter (.ref it)) Q E s
abbrev TI:=St->Hp->(It->Hp->Prop)->Prop
def PIE(X:Cx)(pins:List (Addr×Obj))(σ:St)(tg:Expr)(R:It->Hp->Prop)(itv:Value)(s2:Shared):Prop :=
 ∃(it:Addr)(fp:List Addr)(tn:Nat->Heap->Prop)(J:It)(H':Hp),itv=.ref it/\Inv X pins σ H' s2/\Turn X.prog X.w X.K tg J fp it tn/\tn 0 s2.heap/\(∀ b∈fp,FpOk X pins H' b)/\R J H'
def PI(X:Cx)(tg iter:Expr)(wi:TI):Prop :=
 ∀(pins:List (Addr×Obj))(s:Shared)(σ:St)(H:Hp)(R:It->Hp->Prop),Inv X pins σ H s->wi σ H R ->
  wpAny (model X.prog X.w) X.A (eval iter X.env) (fun v s1=>wpAny (model X.prog X.w) X.A (pyIter v) (PIE X pins σ tg R) X.xe s1) X.xe s
theorem MZ{M:Model}{A:Around}{E:Value->Shared->Prop}{s:Shared}{tg:Expr}{it:Addr}{u:Value}{o:Obj}{n:String}{vs:Array Value}{Q:Unit->Shared->Prop}(ho:s.heap.get? it=some o)(hc:o.cls=.type n)(hd:o.data=.fields vs)
  (hn : ["enumerate","zip","dict_itemiterator","dict_reverseitemiterator","odict_iterator","itertools.zip_longest","itertools.pairwise"].contains n=false) (hQ:Q () s):wpAny M A (letOwnedTupleGo tg (.ref it) u) Q E s:=by
 unfold letOwnedTupleGo
 cases tg<;>first
  |exact wpAny_pure hQ
  | (cases u<;>first
    |exact wpAny_pure hQ
    | (refine wpAny_bind (wpAny_load ho ?_)
       rw[hc,hd]
       show wpAny M A (if(["enumerate","zip","dict_itemiterator","dict_reverseitemiterator","odict_iterator","itertools.zip_longest","itertools.pairwise"].contains n&&vs[0]? == some (rawInt _))=true then _ else _) Q E s
       rw[if_neg (by intro h;rw[hn,SO]at h;cases h)]
       exact wpAny_pure hQ))
def Itl(K:P1)(a:Addr):It :=
 ⟨fun i H=>∃ xs x,SqL K H a xs/\xs[i]?=some x,fun i H x H'=>H'=H/\∀ xs,SqL K H a xs->xs[i]?=some x,fun i H=>∃ xs,SqL K H a xs/\xs.length<=i⟩
def Itr(lo:Int)(n:Nat):It:=⟨fun i _=>i<n,fun i H x H'=>H'=H/\x=.int (lo+i),fun i _=>n<=i⟩
theorem IV{P:Program}{w:World}{K:P1}{tg:Expr}(a it:Addr):Turn P w K tg (Itl K a) [it] it (fun i h=>h.IsListIter it a i) where
 mem:=by simp
 obj:=fun i h st b hb=>by
  have e:b=it:=by simpa using hb
  subst e
  obtain⟨o,e,c,d⟩:=st
  exact⟨o,e,fun v z=>by rw[d]at z;cases z⟩
 keep:=fun i h h' st k=>st.at fun o e=>k it (by simp) o e
 item:=by
  intro X hP hw hK hc i pins s σ H E I hf st hg
  subst hP hw hK
  obtain⟨xs,x,hq,hx⟩:=hg
  obtain⟨its,rv,p,hz⟩:=I.list hq
  obtain⟨u,hu,ru⟩:=rv.get hx
  obtain⟨f0,f1,f2,f3,f4,f5⟩:=hf it (by simp)
  refine wpAny_pyNext_list_item st p.isList (x:=u) (by simpa using hu) fun h' st' sb=>?_
  have I1:Inv X pins σ H { s with heap:=h' }:=I.turned (t':=s.toks) (fun b o hb e=>(sb.2 b hb).trans e) f0 f1 f3 f4 f5
  obtain⟨o,e,c,d⟩:=id st'
  exact⟨u,rfl,MZ (s:={ s with heap:=h' }) e c d (by decide) ⟨x,H,I1,ru,⟨rfl,fun ys hy=>by rw[I.list_inj hy hq];exact hx⟩,st',fun b hb=>(hf b hb).1⟩⟩
 done:=by
  intro X hP hw hK hc i pins s σ H E I hf st hg
  subst hP hw hK
  obtain⟨xs,hq,hx⟩:=hg
  obtain⟨its,rv,p,hz⟩:=I.list hq
  obtain⟨f0,f1,f2,f3,f4,f5⟩:=hf it (by simp)
  have hl:=rv.length
  exact wpAny_pyNext_list_end (I.ok.hd hc) st p.isList (by simp;omega) fun h' eb=>⟨rfl,I.turned (t':=s.toks) (fun b o hb e=>eb b o hb e) f0 f1 f3 f4 f5⟩
 self:=fun _ _ _ _ _ st h=>wpAny_pyIter_listiter st h
theorem Gs{P:Program}{w:World}{K:P1}{tg:Expr}(it:Addr)(lo:Int)(n:Nat):Turn P w K tg (Itr lo n) [it] it (fun i h=>IsRangeIter h it (lo+(i:Nat)*1) ((n:Int)-(i:Nat)) 1) where
 mem:=by simp
 obj:=fun i h st b hb=>by
  have e:b=it:=by simpa using hb
  subst e
  exact⟨_,st,fun v z=>by
   have z':Data.fields _=Data.cell v:=z
   cases z'⟩
 keep:=fun i h h' st k=>k it (by simp) _ st
 item:=by
  intro X hP hw hK hc i pins s σ H E I hf st hg
  subst hP hw hK
  obtain⟨f0,f1,f2,f3,f4,f5⟩:=hf it (by simp)
  have W:=Walks.range (prog:=X.prog) (w:=X.w) (I.ok.hd hc) it lo 1 n
  refine W.item i s _ _ hg st fun v h' tk hv st' kk=>?_
  obtain⟨t,rfl⟩:=hv
  have I1:Inv X pins σ H { s with heap:=h',toks:=tk }:=I.turned (fun b o hb e=>kk b o (by simpa using hb) e) f0 f1 f3 f4 f5
  refine⟨_,rfl,MZ (s:={ s with heap:=h',toks:=tk }) (n:="range_iterator") st' rfl rfl (by decide) ⟨.int (lo+i),H,I1,⟨t,?_⟩,⟨rfl,rfl⟩,st',fun b hb=>(hf b hb).1⟩⟩
  rw[Int.mul_one]
 done:=by
  intro X hP hw hK hc i pins s σ H E I hf st hg
  subst hP hw hK
  obtain⟨f0,f1,f2,f3,f4,f5⟩:=hf it (by simp)
  exact wpAny_pyNext_range_end (I.ok.hd hc) st (by have:n<=i:=hg;omega) fun h' eb=>⟨rfl,I.turned (t':=s.toks) (fun b o hb e=>eb b o hb e) f0 f1 f3 f4 f5⟩
 self:=fun _ _ _ _ _ st h=>wpAny_pyIter_rangeiter st h
end L2
namespace L2
open PySem PySem.Spec PyProof.Rows
section
variable{X:Cx}{tg:Expr}
def iList(K:P1)(tl:TE):TI:=fun σ H R=>tl σ H fun x H1=>∃ a,x=.ref a/\(∃ xs,SqL K H1 a xs)/\R (Itl K a) H1
theorem b4{l:Expr}{tl:TE}(hl:PE X l tl):PI X tg l (iList X.K tl):=by
 intro pins s σ H R I h
 refine thn (hl pins s σ H _ I h) fun v s1 ⟨x,H1,I1,r1,q1⟩=>?_
 obtain⟨a,e,⟨xs,hq⟩,q⟩:=q1
 subst e
 cases r1
 obtain⟨its,rv,p,hz⟩:=I1.list hq
 refine wpAny_pyIter_list p.isList ?_
 refine⟨s1.heap.objs.size,[s1.heap.objs.size],_,_,H1,rfl,I1.kept (t':=s1.toks) fun b o e=>Heap.get?_push_of_some _ e,IV a _,⟨_,Heap.get?_push_size _ rfl,rfl,rfl⟩,fun b hb=>?_,q⟩
 have e:b=s1.heap.objs.size:=by simpa using hb
 subst e
 exact I1.fpOk (P9 _) (I1.hok.fresh (P9 _))
theorem Mm{pins:List (Addr×Obj)}{σ:St}{H:Hp}{s:Shared}{R:It->Hp->Prop}{E:Value->Shared->Prop}{lo hi:Int}{t u v:Tok}{tk:Nat}(I:Inv X pins σ H s)(h1 : -(2^62)<=lo)(h2:lo<2^62)(h3 : -(2^62)<=hi)(h4:hi<2^62)
  (q:R (Itr lo (hi-lo).toNat) H):wpAny (model X.prog X.w) X.A (pyIter (.ref s.heap.objs.size)) (PIE X pins σ tg R) E { s with heap:=s.heap.push { cls:=.type "range",data:=.fields #[.int lo t,.int hi u,.int 1 v] },toks:=tk }:=by
 refine wpAny_pyIter_range (IsRange.new ..) (small_one h1 h2 h3 h4) ?_
 have I1:Inv X pins σ H { s with heap:=s.heap.push { cls:=.type "range",data:=.fields #[.int lo t,.int hi u,.int 1 v] },toks:=tk }:=I.kept fun b o e=>Heap.get?_push_of_some _ e
 refine⟨(s.heap.push { cls:=.type "range",data:=.fields #[.int lo t,.int hi u,.int 1 v] }).objs.size,[(s.heap.push { cls:=.type "range",data:=.fields #[.int lo t,.int hi u,.int 1 v] }).objs.size],_,_,H,rfl,
  I1.kept (t':=tk) fun b o e=>Heap.get?_push_of_some _ e,Gs _ lo (hi-lo).toNat,?_,fun b hb=>?_,q⟩
 ·have e1:lo+((0:Nat):Int)*1=lo:=by simp
  have e2:(((hi-lo).toNat:Nat):Int)-((0:Nat):Int)=Builtin.Range.rangeSize lo hi 1:=by rw[rangeSize_one];split<;>omega +splitDisjunctions
  show IsRangeIter _ _ (lo+((0:Nat):Int)*1) ((((hi-lo).toNat:Nat):Int)-((0:Nat):Int)) 1
  rw[e1,e2]
  exact Heap.get?_push_size _ rfl
 ·have e:b=(s.heap.push { cls:=.type "range",data:=.fields #[.int lo t,.int hi u,.int 1 v] }).objs.size:=by simpa using hb
  subst e
  exact I1.fpOk (P9 _) (I1.hok.fresh (P9 _))
def iRng1(ta:TA):TI:=fun σ H R=>ta σ H fun vs H1=>∃ j:Int,vs = [.int j]/\-(2^62)<=j/\j<2^62/\R (Itr 0 j.toNat) H1
theorem bV{a:Expr}{ta:TA}{p pos:Pos} (hg:Gl X "range") (hm:X.mg "range" = none) (ha:PA X [a] ta) (hs:starEach [a] X.env = [(false,eval a X.env)]:=by rfl):PI X tg (.Call (.Name "range" p) [a] [] pos) (iRng1 ta):=by
 intro pins s σ H R I h
 refine Call_ (wD I hg hm boot_range (PyProof.Rows.callWith_type1 (thn (ha pos pins s σ H _ I h) fun us s1 ⟨vs,H1,I1,r1,q1⟩=>?_) hs rfl))
 obtain⟨j,e,q1,q2,q⟩:=q1
 subst e
 cases r1 with
 |cons r rr =>
  cases rr
  obtain⟨t,rfl⟩:=r
  exact call_range_1 (Mm I1 (by omega) (by omega) q1 q2 (by simpa using q))
def tFor(wi:TI)(g:TG)(tb:TS):TS:=fun D σ H=>wi σ H fun J H1=>∃ W:Nat->Nat->St->Hp->Prop,(∃ m,W 0 m σ H1)/\∀ i m σ H,W i m σ H ->
 (J.stop i H/\D.nx σ H)∨(J.go i H/\∃ N:St->Hp->Prop,(∀ σ' H',N σ' H'->∃ m',m'<m/\W (i+1) m' σ' H')/\∀ x H',J.yld i H x H'->g x σ H' fun σ2 H2=>tb { D with nx:=N,ct:=N,bk:=D.nx } σ2 H2)
def Aa(fp:List Addr)(h:Heap):List (Addr×Obj):=fp.filterMap fun b=>(h.get? b).map fun o=>(b,o)
theorem h7{fp:List Addr}{h:Heap}{b:Addr}{o:Obj}(hb:b∈fp)(e:h.get? b=some o):(b,o)∈Aa fp h:=SX.mpr ⟨b,hb,by rw[e];rfl⟩
theorem JX{fp:List Addr}{h:Heap}{p:Addr×Obj}(hp:p∈Aa fp h):p.1∈fp/\h.get? p.1=some p.2:=by
 obtain⟨b,hb,e⟩:=SX.mp hp
 cases q:h.get? b with
 |none=>rw[q]at e;cases e
 |some o =>
  rw[q]at e
  have e':(b,o)=p:=Qt e
  subst e'
  exact⟨hb,q⟩
theorem Inv.pinned{pins:List (Addr×Obj)}{σ:St}{H:Hp}{s:Shared}{fp:List Addr}(I:Inv X pins σ H s)(hf:∀ b∈fp,FpOk X pins H b)(ho:∀ b∈fp,∃ o,s.heap.get? b=some o/\∀ v,o.data≠.cell v):Inv X (pins++Aa fp s.heap) σ H s :=
 I.pins_of fun p hp=>(Qf.mp hp).elim (fun z=>I.pin p (Qo _ z)) fun z=>by
  obtain⟨hb,e⟩:=JX z
  obtain⟨f0,f1,f2,_⟩:=hf p.1 hb
  obtain⟨o,e',d⟩:=ho p.1 hb
  rw[e]at e';cases e'
  exact⟨e,f0,f1,f2,d⟩
theorem Inv.unpinned{pins pl:List (Addr×Obj)}{σ:St}{H:Hp}{s:Shared}(I:Inv X (pins++pl) σ H s):Inv X pins σ H s:=I.pins_of fun p hp=>I.pin p (Qo _ (QF _ hp))
theorem cF{iter:Expr}{body:List Stmt}{wi:TI}{g:TG}{tb:TS}{pos:Pos}(hp:PassesOwn (model X.prog X.w) X.A X.env X.xe)(hc:X.calm=true)(hi:PI X tg iter wi)(hg:PG X tg g)(hb:PSs X body tb)
  (hs:∀ x,foldedSetIterable iter X.env x=pure x:=by intro _;rfl):PS X (.For tg iter body [] pos) (tFor wi g tb):=by
 intro pins s σ H D I h
 refine wpAny_For (thn (hi pins s σ H _ I h) fun v s1 h1=>thn h1 fun itv s2 h2=>?_) hs
 obtain⟨it,fp,tn,J,H2,e,I2,T,st2,f2,W,⟨m0,w0⟩,turn⟩:=h2
 subst e
 have stat:∀{H':Hp},(∀ b∈fp,H' b=none)->∀ b∈fp,FpOk X pins H' b:=fun hn b hb=>⟨hn b hb,(f2 b hb).2⟩
 refine codeAny_forLoop_any (fun n s'=>∃ i σ' H',Inv X pins σ' H' s'/\tn i s'.heap/\(∀ b∈fp,H' b=none)/\W i n σ' H') ?_ m0 ⟨0,σ,H2,I2,st2,fun b hb=>(f2 b hb).1,w0⟩
 rintro n s3 ⟨i,σ3,H3,I3,st3,fr3,w3⟩
 rcases turn i n σ3 H3 w3 with⟨stop,qn⟩ | ⟨go,N,hN,step⟩
 ·refine wpAny_passesOwn hp (thn (T.done X rfl rfl rfl hc i pins s3 σ3 H3 X.xe I3 (stat fr3) st3 stop) fun r s4 ⟨hr,I4⟩=>?_)
  subst hr
  exact wpAny_execs_nil ⟨σ3,H3,I4,qn⟩
 ·refine wpAny_passesOwn hp (thn (T.item X rfl rfl rfl hc i pins s3 σ3 H3 X.xe I3 (stat fr3) st3 go) fun r s4 ⟨u,hr,h4⟩=>?_)
  subst hr
  refine wpAny_passesOwn hp (thn h4 fun _ s5 ⟨x,H5,I5,r5,y5,st5,fr5⟩=>?_)
  have I5':=I5.pinned (stat fr5) (T.obj _ _ st5)
  refine wpAny_passesOwn hp (thn (hg _ s5 σ3 H5 x u _ I5' r5 (step x H5 y5)) fun _ s6 ⟨σ6,H6,I6,q6⟩=>?_)
  refine wpAny_passesOwn hp (thn (hb _ s6 σ6 H6 _ I6 q6) fun f s7 q7=>?_)
  have again:∀{σ7:St}{H7:Hp},Inv X (pins++Aa fp s5.heap) σ7 H7 s7->N σ7 H7->∃ m,m<n/\∃ i σ' H',Inv X pins σ' H' s7/\tn i s7.heap/\(∀ b∈fp,H' b=none)/\W i m σ' H':=fun{σ7 H7} I7 n7=>by
   obtain⟨m',hm,w7⟩:=hN σ7 H7 n7
   refine⟨m',hm,i+1,σ7,H7,I7.unpinned,T.keep _ _ _ st5 fun b hb o e=>(I7.pin (b,o) (Qo _ (Qo _ (h7 hb e)))).1,fun b hb=>?_,w7⟩
   obtain⟨o,e,d⟩:=T.obj _ _ st5 b hb
   exact(I7.pin (b,o) (Qo _ (Qo _ (h7 hb e)))).2.1
  cases f with
  |next=>obtain⟨σ7,H7,I7,n7⟩:=q7;exact again I7 n7
  |cont=>obtain⟨σ7,H7,I7,n7⟩:=q7;exact again I7 n7
  |brk=>obtain⟨σ7,H7,I7,q7⟩:=q7;exact⟨σ7,H7,I7.unpinned,q7⟩
  |ret v=>obtain⟨x7,σ7,H7,I7,r7,q7⟩:=q7;exact⟨x7,σ7,H7,I7.unpinned,r7,q7⟩
end
theorem iY{K:P1}{a:Addr}{xs:List V}{g:TG}{tb:TS}{D:Ends}{σ:St}{H:Hp}(Pv:Nat->St->Hp->Prop)(h0:Pv 0 σ H)(hl:∀ i σ H,i<=xs.length->Pv i σ H->SqL K H a xs)
  (hs:∀ i x σ H,xs[i]?=some x->Pv i σ H->g x σ H fun σ2 H2=>tb { D with nx:=Pv (i+1),ct:=Pv (i+1),bk:=D.nx } σ2 H2) (hd:∀ σ H,Pv xs.length σ H->D.nx σ H) :
  ∃ W:Nat->Nat->St->Hp->Prop,(∃ m,W 0 m σ H)/\∀ i m σ H,W i m σ H ->
   ((Itl K a).stop i H/\D.nx σ H)∨((Itl K a).go i H/\∃ N:St->Hp->Prop,(∀ σ' H',N σ' H'->∃ m',m'<m/\W (i+1) m' σ' H')/\∀ x H',(Itl K a).yld i H x H'->g x σ H' fun σ2 H2=>tb { D with nx:=N,ct:=N,bk:=D.nx } σ2 H2):=by
 refine⟨fun i m σ H=>m=xs.length-i/\i<=xs.length/\Pv i σ H,⟨xs.length,by simp,Q6 _,h0⟩,?_⟩
 rintro i m σ H ⟨rfl,hi,p⟩
 have q:=hl i σ H hi p
 by_cases hlt:i<xs.length
 ·refine .inr ⟨⟨xs,xs[i],q,by simp[hlt]⟩,Pv (i+1),fun σ' H' p'=>⟨xs.length-(i+1),by omega,rfl,hlt,p'⟩,fun x H' y=>?_⟩
  obtain⟨e,y⟩:=y
  subst e
  exact hs i x σ _ (y xs q) p
 ·have e:i=xs.length:=by omega
  subst e
  exact .inl ⟨⟨xs,q,P9 _⟩,hd σ H p⟩
theorem cH{lo:Int}{n:Nat}{g:TG}{tb:TS}{D:Ends}{σ:St}{H:Hp}(Pv:Nat->St->Hp->Prop)(h0:Pv 0 σ H)
  (hs:∀ i σ H,i<n->Pv i σ H->g (.int (lo+i)) σ H fun σ2 H2=>tb { D with nx:=Pv (i+1),ct:=Pv (i+1),bk:=D.nx } σ2 H2) (hd:∀ σ H,Pv n σ H->D.nx σ H) :
  ∃ W:Nat->Nat->St->Hp->Prop,(∃ m,W 0 m σ H)/\∀ i m σ H,W i m σ H ->
   ((Itr lo n).stop i H/\D.nx σ H)∨((Itr lo n).go i H/\∃ N:St->Hp->Prop,(∀ σ' H',N σ' H'->∃ m',m'<m/\W (i+1) m' σ' H')/\∀ x H',(Itr lo n).yld i H x H'->g x σ H' fun σ2 H2=>tb { D with nx:=N,ct:=N,bk:=D.nx } σ2 H2):=by
 refine⟨fun i m σ H=>m=n-i/\i<=n/\Pv i σ H,⟨n,by simp,Q6 _,h0⟩,?_⟩
 rintro i m σ H ⟨rfl,hi,p⟩
 by_cases hlt:i<n
 ·refine .inr ⟨hlt,Pv (i+1),fun σ' H' p'=>⟨n-(i+1),by omega,rfl,hlt,p'⟩,fun x H' y=>?_⟩
  obtain⟨e,y⟩:=y
  subst e y
  exact hs i σ _ hlt p
 ·have e:i=n:=by omega
  subst e
  exact .inl ⟨P9 _,hd σ H p⟩
theorem xh{c:TT}{tb:TS}{D:Ends}{σ:St}{H:Hp}(Pv:St->Hp->Prop)(μ:St->Hp->Nat)(h0:Pv σ H)
  (hs:∀ σ H,Pv σ H->c σ H fun b H1=>if b=true then tb { D with nx:=fun σ' H'=>Pv σ' H'/\μ σ' H'<μ σ H,ct:=fun σ' H'=>Pv σ' H'/\μ σ' H'<μ σ H,bk:=D.nx } σ H1 else D.nx σ H1)
  (mono:∀ σ H Q Q',(∀ b H1,Q b H1->Q' b H1)->c σ H Q->c σ H Q'):Np c tb D σ H:=by
 refine⟨fun m σ H=>m=μ σ H/\Pv σ H,⟨_,rfl,h0⟩,?_⟩
 rintro m σ H ⟨rfl,p⟩
 refine mono σ H _ _ (fun b H1 q=>?_) (hs σ H p)
 cases b with
 |true=>exact⟨_,fun σ' H' ⟨p',l⟩=>⟨_,l,rfl,p'⟩,q⟩
 |false=>exact q
end L2
namespace L2
open PySem PySem.Spec PyProof.Rows
abbrev R2:=V->V->Hp->VK->Prop
def OpR(X:Cx)(f:Value->Value->Sem Value)(r:R2):Prop :=
 ∀(pins:List (Addr×Obj))(s:Shared)(σ:St)(H:Hp)(x y:V)(v u:Value)(Q:VK),Inv X pins σ H s->RelV x v->RelV y u->r x y H Q ->
  wpAny (model X.prog X.w) X.A (f v u) (EP X pins σ Q) X.xe s
def UnR(X:Cx)(f:Value->Sem Value)(r:V->Hp->VK->Prop):Prop :=
 ∀(pins:List (Addr×Obj))(s:Shared)(σ:St)(H:Hp)(x:V)(v:Value)(Q:VK),Inv X pins σ H s->RelV x v->r x H Q ->
  wpAny (model X.prog X.w) X.A (f v) (EP X pins σ Q) X.xe s
def jy(X:Cx)(f:Value)(r:List V->Hp->VK->Prop):Prop :=
 ∀(pins:List (Addr×Obj))(s:Shared)(σ:St)(H:Hp)(xs:List V)(us:List Value)(Q:VK),Inv X pins σ H s->Vals xs us->r xs H Q ->
  wpAny (model X.prog X.w) X.A (call f us) (EP X pins σ Q) X.xe s
def tOp(r:R2)(ta tb:TE):TE:=fun σ H Q=>ta σ H fun x H1=>tb σ H1 fun y H2=>r x y H2 Q
def tUn(r:V->Hp->VK->Prop)(ta:TE):TE:=fun σ H Q=>ta σ H fun x H1=>r x H1 Q
def rI(C:Int->Int->Prop)(g:Int->Int->V):R2:=fun x y H Q=>∃ i j,x=.int i/\y=.int j/\C i j/\Q (g i j) H
def rI0(g:Int->Int->V):R2:=fun x y H Q=>∃ i j,x=.int i/\y=.int j/\Q (g i j) H
def rU(g:Int->V):V->Hp->VK->Prop:=fun x H Q=>∃ i,x=.int i/\Q (g i) H
section
variable{X:Cx}{a b c:Expr}{ta tb tc:TE}{pos:Pos}
theorem binT(ha:PE X a ta)(hb:PE X b tb){pins:List (Addr×Obj)}{s:Shared}{σ:St}{H:Hp}{R:V->V->Hp->Prop}(I:Inv X pins σ H s)
  (h:ta σ H fun x H1=>tb σ H1 fun y H2=>R x y H2) {Q:Value->Shared->Prop} {f:Value->Value->Sem Value}
  (hf:∀ v u s2 x y H2,Inv X pins σ H2 s2->RelV x v->RelV y u->R x y H2->wpAny (model X.prog X.w) X.A (f v u) Q X.xe s2) :
  wpAny (model X.prog X.w) X.A (eval a X.env) (fun v s₁=>wpAny (model X.prog X.w) X.A (eval b X.env) (fun u s₂=>wpAny (model X.prog X.w) X.A (f v u) Q X.xe s₂) X.xe s₁) X.xe s:=by
 refine thn (ha pins s σ H _ I h) fun v s1 ⟨x,H1,I1,r1,q1⟩=>?_
 refine thn (hb pins s1 σ H1 _ I1 q1) fun u s2 ⟨y,H2,I2,r2,q2⟩=>?_
 exact hf v u s2 x y H2 I2 r1 r2 q2
theorem aE{op:Operator}{r:R2}(ho:OpR X (binaryOp op) r)(ha:PE X a ta)(hb:PE X b tb):PE X (.BinOp a op b pos) (tOp r ta tb):=by
 intro pins s σ H Q I h
 exact wpAny_BinOp (binT ha hb I h fun v u s2 x y H2 I2 rx ry q=>ho pins s2 σ H2 x y v u Q I2 rx ry q)
theorem GZ{op:UnaryOp}{r:V->Hp->VK->Prop}(ho:UnR X (unaryOp op) r)(ha:PE X a ta):PE X (.UnaryOp op a pos) (tUn r ta):=by
 intro pins s σ H Q I h
 exact UnaryOp_ (thn (ha pins s σ H _ I h) fun v s1 ⟨x,H1,I1,r1,q1⟩=>ho pins s1 σ H1 x v Q I1 r1 q1)
theorem opI{f:Value->Value->Sem Value}{C:Int->Int->Prop}{g:Int->Int->Int}
  (rule:∀(i j:Int)(t u:Tok)(s:Shared)(Q:Value->Shared->Prop)(E:Value->Shared->Prop),C i j->Q (.int (g i j) s.toks) { s with toks:=s.toks+1 }->wpAny (model X.prog X.w) X.A (f (.int i t) (.int j u)) Q E s) :
  OpR X f (rI C fun i j=>.int (g i j)):=by
 intro pins s σ H x y v u Q I rx ry h
 obtain⟨i,j,rfl,rfl,hc,q⟩:=h
 obtain⟨t,rfl⟩:=rx
 obtain⟨t',rfl⟩:=ry
 exact rule i j t t' s _ _ hc ⟨.int (g i j),H,I.tok _,⟨_,rfl⟩,q⟩
theorem opI0{f:Value->Value->Sem Value}{g:Int->Int->Int}
  (rule:∀(i j:Int)(t u:Tok)(s:Shared)(Q:Value->Shared->Prop)(E:Value->Shared->Prop),Q (.int (g i j) s.toks) { s with toks:=s.toks+1 }->wpAny (model X.prog X.w) X.A (f (.int i t) (.int j u)) Q E s) :
  OpR X f (rI0 fun i j=>.int (g i j)):=by
 intro pins s σ H x y v u Q I rx ry h
 obtain⟨i,j,rfl,rfl,q⟩:=h
 obtain⟨t,rfl⟩:=rx
 obtain⟨t',rfl⟩:=ry
 exact rule i j t t' s _ _ ⟨.int (g i j),H,I.tok _,⟨_,rfl⟩,q⟩
theorem opB0{f:Value->Value->Sem Value}{g:Int->Int->Bool}
  (rule:∀(i j:Int)(t u:Tok)(s:Shared)(Q:Value->Shared->Prop)(E:Value->Shared->Prop),Q (.bool (g i j)) s->wpAny (model X.prog X.w) X.A (f (.int i t) (.int j u)) Q E s) :
  OpR X f (rI0 fun i j=>.bl (g i j)):=by
 intro pins s σ H x y v u Q I rx ry h
 obtain⟨i,j,rfl,rfl,q⟩:=h
 obtain⟨t,rfl⟩:=rx
 obtain⟨t',rfl⟩:=ry
 exact rule i j t t' s _ _ ⟨.bl (g i j),H,I,rfl,q⟩
def CDiv(i j:Int):Prop:=0<j/\j<1073741824
def CPow(i j:Int):Prop:=0<=j/\j<=1000000/\i.natAbs<2^64
def CMul(i j:Int):Prop:=(-(2^64)<i/\i<2^64)∨(-(2^64)<j/\j<2^64)
theorem CMul.ok{i j:Int}(h:CMul i j):IntMulOk i j:=by
 rcases h with⟨h1,h2⟩ | ⟨h1,h2⟩
 ·exact .of_left (intBits_le_64 h1 h2)
 ·exact .of_right (intBits_le_64 h1 h2)
theorem bj:OpR X (binaryOp .Add) (rI0 fun i j=>.int (i+j)):=opI0 fun _ _ _ _ _ _ _ q=>add_int q
theorem nA:OpR X (binaryOp .Sub) (rI0 fun i j=>.int (i-j)):=opI0 fun _ _ _ _ _ _ _ q=>sub_int q
theorem hX:OpR X (binaryOp .Mult) (rI CMul fun i j=>.int (i*j)):=opI fun _ _ _ _ _ _ _ hc q=>mul_int q hc.ok
theorem bR:OpR X (binaryOp .FloorDiv) (rI CDiv fun i j=>.int (i/j)):=opI fun i j _ _ _ _ _ hc q=>by
 have h1:(0:Int)<j:=hc.1
 have h2:j<1073741824:=hc.2
 exact floordiv_int (by omega) (by rw[Int.fdiv_eq_ediv_of_nonneg i (by omega)];exact q) (.inl (PyProof.noPylong_small (by omega)))
theorem bB:OpR X (binaryOp .Mod) (rI (fun _ j=>0<j) fun i j=>.int (i%j)):=opI fun i j _ _ _ _ _ hc q=>by
 have h1:(0:Int)<j:=hc
 exact mod_int' (by omega) (by rw[Int.fmod_eq_emod_of_nonneg i (by omega)];exact q)
theorem Ad:OpR X (binaryOp .Pow) (rI CPow fun i j=>.int (i^j.toNat)):=opI fun _ _ _ _ _ _ _ hc q=>pow_int_small hc.1 hc.2.1 hc.2.2 q
theorem FQ:OpR X (binaryOp .LShift) (rI CPow fun i j=>.int (i*2^j.toNat)):=opI fun _ _ _ _ _ _ _ hc q=>lshift_int_small hc.1 hc.2.1 hc.2.2 q
theorem op_and:OpR X (binaryOp .BitAnd) (rI0 fun i j=>.int (Builtin.bitAnd i j)):=opI0 fun _ _ _ _ _ _ _ q=>and_int q
theorem op_or:OpR X (binaryOp .BitOr) (rI0 fun i j=>.int (Builtin.bitOr i j)):=opI0 fun _ _ _ _ _ _ _ q=>or_int q
theorem unI{f:Value->Sem Value}{g:Int->Int}
  (rule:∀(i:Int)(t:Tok)(s:Shared)(Q:Value->Shared->Prop)(E:Value->Shared->Prop),Q (.int (g i) s.toks) { s with toks:=s.toks+1 }->wpAny (model X.prog X.w) X.A (f (.int i t)) Q E s) :
  UnR X f (rU fun i=>.int (g i)):=by
 intro pins s σ H x v Q I rx h
 obtain⟨i,rfl,q⟩:=h
 obtain⟨t,rfl⟩:=rx
 exact rule i t s _ _ ⟨.int (g i),H,I.tok _,⟨_,rfl⟩,q⟩
theorem wk:UnR X (unaryOp .USub) (rU fun i=>.int (-i)):=unI fun _ _ _ _ _ q=>neg_int q
end
def scal:V->V->Bool
 |.non,.non=>true | .non,.int _=>true | .int _,.non=>true | .non,.bl _=>true | .bl _,.non=>true | .non,.str _=>true | .str _,.non=>true
 |.int _,.int _=>true | .bl _,.bl _=>true | .str _,.str _=>true | .byt _,.byt _=>true
 |.int _,.str _=>true | .str _,.int _=>true | .bl _,.str _=>true | .str _,.bl _=>true
 |_,_=>false
def rEq:R2:=fun x y H Q=>scal x y=true/\Q (.bl (decide (x=y))) H
def rNe:R2:=fun x y H Q=>scal x y=true/\Q (.bl (!decide (x=y))) H
theorem K7{i j:Int}:decide (V.int i=V.int j)=(i == j):=by
 rw[Rp]
 simp
theorem NQ{i j:Bool}:decide (V.bl i=V.bl j)=(i == j):=by
 rw[Rp]
 simp
theorem K6{i j:Str}:decide (V.str i=V.str j)=(i == j):=by
 rw[Rp]
 simp
theorem K9{i j:Array UInt8}:decide (V.byt i=V.byt j)=(i.toList == j.toList):=by
 rw[Rp]
 cases i
 cases j
 simp
section
variable{X:Cx}{a b c:Expr}{ta tb tc:TE}{pos:Pos}
theorem bb{pins:List (Addr×Obj)}{σ:St}{H:Hp}{s:Shared}{Q:VK}{k k':Bool}(I:Inv X pins σ H s)(q:Q (.bl k) H)(e:k=k'):EP X pins σ Q (.bool k') s:=by
 subst e
 exact⟨.bl k,H,I,rfl,q⟩
theorem eY:OpR X (compareOp .Eq) rEq:=by
 intro pins s σ H x y v u Q I rx ry h
 obtain⟨hs,q⟩:=h
 cases x with
 |non =>
  cases rx
  cases y with
  |non=>cases ry;exact PySem.EqNone.eq_none_none (bb I q (by simp))
  |bl j=>cases ry;exact PySem.EqNone.eq_none_bool (bb I q (by simp))
  |int j=>obtain⟨t',rfl⟩:=ry;exact PySem.EqNone.eq_none_int (bb I q (by simp))
  |str j=>obtain⟨t',rfl⟩:=ry;exact PySem.EqNone.eq_none_str (bb I q (by simp))
  |_=>exact absurd (show false=true from hs) Qw
 |bl i =>
  cases rx
  cases y with
  |non=>cases ry;exact PySem.EqNone.eq_bool_none (bb I q (by simp))
  |bl j=>cases ry;exact eq_bool (bb I q NQ)
  |str j=>obtain⟨t',rfl⟩:=ry;exact PySem.EqMixed.eq_bool_str (bb I q (by simp))
  |_=>exact absurd (show false=true from hs) Qw
 |int i =>
  obtain⟨t,rfl⟩:=rx
  cases y with
  |non=>cases ry;exact PySem.EqNone.eq_int_none (bb I q (by simp))
  |int j=>obtain⟨t',rfl⟩:=ry;exact eq_int (bb I q K7)
  |str j=>obtain⟨t',rfl⟩:=ry;exact PySem.EqMixed.eq_int_str (bb I q (by simp))
  |_=>exact absurd (show false=true from hs) Qw
 |str i =>
  obtain⟨t,rfl⟩:=rx
  cases y with
  |non=>cases ry;exact PySem.EqNone.eq_str_none (bb I q (by simp))
  |bl j=>cases ry;exact PySem.EqMixed.eq_str_bool (bb I q (by simp))
  |int j=>obtain⟨t',rfl⟩:=ry;exact PySem.EqMixed.eq_str_int (bb I q (by simp))
  |str j=>obtain⟨t',rfl⟩:=ry;exact eq_str (bb I q K6)
  |_=>exact absurd (show false=true from hs) Qw
 |byt i =>
  obtain⟨t,rfl⟩:=rx
  cases y with
  |byt j=>obtain⟨t',rfl⟩:=ry;exact PySem.W.eq_bytes (bb I q K9)
  |_=>exact absurd (show false=true from hs) Qw
 |_=>cases y<;>exact absurd (show false=true from hs) Qw
theorem fP:OpR X (compareOp .NotEq) rNe:=by
 intro pins s σ H x y v u Q I rx ry h
 obtain⟨hs,q⟩:=h
 cases x with
 |non =>
  cases rx
  cases y with
  |non=>cases ry;exact PySem.EqNone.ne_none_none (bb I q (by simp))
  |bl j=>cases ry;exact PySem.EqNone.ne_none_bool (bb I q (by simp))
  |int j=>obtain⟨t',rfl⟩:=ry;exact PySem.EqNone.ne_none_int (bb I q (by simp))
  |str j=>obtain⟨t',rfl⟩:=ry;exact PySem.EqNone.ne_none_str (bb I q (by simp))
  |_=>exact absurd (show false=true from hs) Qw
 |bl i =>
  cases rx
  cases y with
  |non=>cases ry;exact PySem.EqNone.ne_bool_none (bb I q (by simp))
  |bl j=>cases ry;exact ne_bool (bb I q (congrArg not NQ))
  |str j=>obtain⟨t',rfl⟩:=ry;exact PySem.EqMixed.ne_bool_str (bb I q (by simp))
  |_=>exact absurd (show false=true from hs) Qw
 |int i =>
  obtain⟨t,rfl⟩:=rx
  cases y with
  |non=>cases ry;exact PySem.EqNone.ne_int_none (bb I q (by simp))
  |int j=>obtain⟨t',rfl⟩:=ry;exact ne_int (bb I q (congrArg not K7))
  |str j=>obtain⟨t',rfl⟩:=ry;exact PySem.EqMixed.ne_int_str (bb I q (by simp))
  |_=>exact absurd (show false=true from hs) Qw
 |str i =>
  obtain⟨t,rfl⟩:=rx
  cases y with
  |non=>cases ry;exact PySem.EqNone.ne_str_none (bb I q (by simp))
  |bl j=>cases ry;exact PySem.EqMixed.ne_str_bool (bb I q (by simp))
  |int j=>obtain⟨t',rfl⟩:=ry;exact PySem.EqMixed.ne_str_int (bb I q (by simp))
  |str j=>obtain⟨t',rfl⟩:=ry;exact ne_str (bb I q (congrArg not K6))
  |_=>exact absurd (show false=true from hs) Qw
 |byt i =>
  obtain⟨t,rfl⟩:=rx
  cases y with
  |byt j=>obtain⟨t',rfl⟩:=ry;exact PySem.W.ne_bytes (bb I q (congrArg not K9))
  |_=>exact absurd (show false=true from hs) Qw
 |_=>cases y<;>exact absurd (show false=true from hs) Qw
theorem Af:OpR X (compareOp .Lt) (rI0 fun i j=>.bl (decide (i<j))):=opB0 fun _ _ _ _ _ _ _ q=>lt_int q
theorem op_le:OpR X (compareOp .LtE) (rI0 fun i j=>.bl (decide (i<=j))):=opB0 fun _ _ _ _ _ _ _ q=>le_int q
theorem l6:OpR X (compareOp .Gt) (rI0 fun i j=>.bl (decide (j<i))):=opB0 fun _ _ _ _ _ _ _ q=>gt_int q
theorem G1:OpR X (compareOp .GtE) (rI0 fun i j=>.bl (decide (j<=i))):=opB0 fun _ _ _ _ _ _ _ q=>ge_int q
theorem JI:OpR X (compareOp .In) (fun x y H Q=>∃ i j,x=.str i/\y=.str j/\Q (.bl (!(Builtin.Str.occurrences j i 0 j.length 1).isEmpty)) H):=by
 intro pins s σ H x y v u Q I rx ry h
 obtain⟨i,j,rfl,rfl,q⟩:=h
 obtain⟨t,rfl⟩:=rx
 obtain⟨t',rfl⟩:=ry
 exact in_str (bb I q rfl)
theorem qq:OpR X (compareOp .Is) (fun x y H Q=>y=.non/\Q (.bl (decide (x=.non))) H):=by
 intro pins s σ H x y v u Q I rx ry h
 obtain⟨rfl,q⟩:=h
 cases ry
 refine is_none_gen (bb I q ?_)
 cases x<;>first
  | (cases rx;rfl)
  | (obtain⟨t,rfl⟩:=rx;rfl)
theorem OJ:OpR X (compareOp .IsNot) (fun x y H Q=>y=.non/\Q (.bl (!decide (x=.non))) H):=by
 intro pins s σ H x y v u Q I rx ry h
 obtain⟨rfl,q⟩:=h
 cases ry
 refine isnot_none_gen (bb I q ?_)
 cases x<;>first
  | (cases rx;rfl)
  | (obtain⟨t,rfl⟩:=rx;rfl)
theorem Ae:OpR X (compareOp .NotIn) (fun x y H Q=>∃ i j,x=.str i/\y=.str j/\Q (.bl (!(!(Builtin.Str.occurrences j i 0 j.length 1).isEmpty))) H):=by
 intro pins s σ H x y v u Q I rx ry h
 obtain⟨i,j,rfl,rfl,q⟩:=h
 obtain⟨t,rfl⟩:=rx
 obtain⟨t',rfl⟩:=ry
 exact notIn_str (bb I q rfl)
theorem aC(b:Expr){op:CmpOp}(h:op≠.In:=by decide)(h2:op≠.NotIn:=by decide):behindInMarks op b=false:=by
 have e1:(op == CmpOp.In)=false:=by cases op<;>first | rfl | exact absurd rfl h
 have e2:(op == CmpOp.NotIn)=false:=by cases op<;>first | rfl | exact absurd rfl h2
 cases b<;>simp[behindInMarks,e1,e2]
theorem sM{op:CmpOp}{r:R2}(ho:OpR X (compareOp op) r)(ha:PE X a ta)(hb:PE X b tb)(hm:behindInMarks op b=false):PE X (.Compare a [op] [b] pos) (tOp r ta tb):=by
 intro pins s σ H Q I h
 exact wpAny_Compare1 (binT ha hb I h fun v u s2 x y H2 I2 rx ry q=>ho pins s2 σ H2 x y v u Q I2 rx ry q) hm
def tTest(t:TE):TT:=fun σ H Q=>t σ H fun x H'=>∃ k,x=.bl k/\Q k H'
theorem au{op:CmpOp}{r:R2}(ho:OpR X (compareOp op) r)(ha:PE X a ta)(hb:PE X b tb)(hm:behindInMarks op b=false):PT X (.Compare a [op] [b] pos) (tTest (tOp r ta tb)):=by
 intro pins s σ H Q I h
 refine wpAny_isTrue_Compare1 (thn (ha pins s σ H _ I h) fun v s1 ⟨x,H1,I1,r1,q1⟩=>thn (hb pins s1 σ H1 _ I1 q1) fun u s2 ⟨y,H2,I2,r2,q2⟩ =>
  thn (ho pins s2 σ H2 x y v u _ I2 r1 r2 q2) fun c s3 ⟨z,H3,I3,r3,k,e,q3⟩=>?_) hm
 subst e
 cases r3
 exact wpAny_truthy_bool ⟨H3,I3,q3⟩
theorem tj:(sizeLine:Nat)<2^63:=by rw[sizeLine_eq];decide
theorem hZ:OpR X (binaryOp .Add) (fun x y H Q=>∃ i j,x=.str i/\y=.str j/\i.length+j.length<=sizeLine/\Q (.str (i++j)) H):=by
 intro pins s σ H x y v u Q I rx ry h
 obtain⟨i,j,rfl,rfl,hz,q⟩:=h
 obtain⟨t,rfl⟩:=rx
 obtain⟨t',rfl⟩:=ry
 exact add_str (fun t' tk=>⟨.str (i++j),H,I.tok _,⟨_,rfl⟩,q⟩) hz
theorem qO{x:V}{us:List Value}(r:Vals [x] us):∃ u,us = [u]/\RelV x u:=by
 cases r with
 |cons r1 r2=>cases r2;exact⟨_,rfl,r1⟩
theorem N8{x y:V}{us:List Value}(r:Vals [x,y] us):∃ u w',us = [u,w']/\RelV x u/\RelV y w':=by
 cases r with
 |cons r1 r2 =>
  cases r2 with
  |cons r3 r4=>cases r4;exact⟨_,_,rfl,r1,r3⟩
theorem BN(hc:X.calm=true):jy X (.builtin "min") (fun xs H Q=>∃ i j,xs = [.int i,.int j]/\Q (.int (if j<i then j else i)) H):=by
 intro pins s σ H xs us Q I r h
 obtain⟨i,j,rfl,q⟩:=h
 obtain⟨u,w',rfl,⟨t,rfl⟩,⟨t',rfl⟩⟩:=N8 r
 refine min_two_ints (I.ok.hd hc) fun h' tk k=>⟨_,H,I.kept k,?_,q⟩
 by_cases hj:j<i
 ·rw[if_pos hj,if_pos hj];exact⟨_,rfl⟩
 ·rw[if_neg hj,if_neg hj];exact⟨_,rfl⟩
theorem BP:jy X (.type "int") (fun xs H Q=>(∃ i,xs = [.int i]/\Q (.int i) H)∨∃ k,xs = [.bl k]/\Q (.int (if k then 1 else 0)) H):=by
 intro pins s σ H xs us Q I r h
 rcases h with⟨i,rfl,q⟩ | ⟨k,rfl,q⟩
 ·obtain⟨u,rfl,t,rfl⟩:=qO r
  exact call_int_int ⟨.int i,H,I,⟨_,rfl⟩,q⟩
 ·obtain⟨u,rfl,r1⟩:=qO r
  cases r1
  exact call_int_bool ⟨.int (if k then 1 else 0),H,I.tok _,⟨_,rfl⟩,q⟩
theorem bC:jy X (.type "str") (fun xs H Q=>∃ i,xs = [.int i]/\i.natAbs.log2<1920/\Q (.str (toString i)) H):=by
 intro pins s σ H xs us Q I r h
 obtain⟨i,rfl,hz,q⟩:=h
 obtain⟨u,rfl,t,rfl⟩:=qO r
 exact PySem.P.str_of_int hz ⟨.str _,H,I.tok _,⟨_,rfl⟩,q⟩
end
end L2
namespace L2
open PySem PySem.Spec PyProof.Rows
structure ObjM(h:Heap)(x dx C:Addr)(mA:Str->Option Value):Prop where
 obj:h.get? x=some (RC C dx)
 ns:h.Ns1 dx mA
 ne:dx≠x
theorem AM{h:Heap}{dx:Addr}{mA:Str->Option Value}(n:h.Ns1 dx mA):∃ od,h.get? dx=some od/\∀ name,Sk name od=some (mA name):=by
 obtain⟨o,es,ep,ho,hd,hk,_,hm⟩:=n
 refine⟨o,ho,fun name=>?_⟩
 have e:=hm name
 unfold nsFind findBy at e
 rw[← Array.find?_toList]at e
 unfold Sk
 rw[hd]
 dsimp only
 split
 ·rename_i y q
  rw[q]at e
  exact congrArg some e
 ·rename_i q
  rw[q]at e
  have a:es.toList.any (·.refKey)=false:=by
   rw[List.any_eq_false]
   intro y hy
   obtain⟨z,t,hkey⟩:=hk y (Array.mem_toList_iff.mp hy)
   simp[DictEntry.refKey,hkey]
  have a':¬ es.toList.any (·.refKey)=true:=by rw[a];exact Qw
  rw[if_neg a']
  exact congrArg some e
theorem ObjM.look{h:Heap}{x dx C:Addr}{mA:Str->Option Value}(I:ObjM h x dx C mA):∃ od,PySem.W.InstAt h x (RC C dx) C (some od)/\∀ name,Sk name od=some (mA name) :=
 let ⟨od,ho,hl⟩:=AM I.ns
 ⟨od,⟨I.obj,rfl,rfl,ho⟩,hl⟩
section
variable{prog:Program}{w:World}{A:Around}{E:Value->Shared->Prop}{s:Shared}{K:P1}{x dx C f:Addr}{mA:Str->Option Value}{name:Str}{v:Value}
theorem Pm{expr:Bool}{Q:Value->Shared->Prop}(X:K.In s.heap)(I:ObjM s.heap x dx C mA)(hg:Ru K C name=true)(hh:Q5 K C=true)
  (ha:Qm K (.ref C) name=some none) (hv:mA name=some v) (hv':S3 v=true) (h:Q v { s with toks:=s.toks+1 }) :
  wpAny (model prog w) A (getAttr (.ref x) name expr) Q E s:=by
 obtain⟨od,J,hl⟩:=I.look
 exact PySem.W.get_value X J (SQ hg).1 (PySem.W.findObj_own hh ha rfl (by rw[hl,hv])) hv' h
theorem M0{pl:Sem Bool}{Q:Value×List Value->Shared->Prop}(X:K.In s.heap)(I:ObjM s.heap x dx C mA)(hg:Ru K C name=true)
  (hf:Qm K (.ref C) name=some (some (.ref f))) (ht:Rg K (.ref f)=true) (hv:mA name=none) (h:Q (.ref f,[.ref x]) s) :
  wpAny (model prog w) A (getMethod (.ref x) name pl) Q E s:=by
 obtain⟨od,J,hl⟩:=I.look
 exact PySem.W.method_fn X J (SQ hg).1 (SQ hg).2 hf (beq_iff_eq.mp ht) (by show(Sk name od).map (·.isSome)=some false;rw[hl,hv];rfl) h
theorem Ou{ns:List Str}{Q:Unit->Shared->Prop}(X:K.In s.heap)(I:ObjM s.heap x dx C mA)
  (hs:Qm K (.ref C) "__setattr__" = some (some (.builtin "object.__setattr__"))) (hp:RN K C=true) (ht:S8 K C name=some none) (hh:Q5 K C=true)
  (hw:PySem.Within mA ns) (hsz:ns.length<=sizeLine)
  (h:∀ h',ObjM h' x dx C (fun y=>if y=name then some v else mA y)->Heap.SameBut dx s.heap h'->Q () { s with heap:=h',toks:=s.toks+2 }) :
  wpAny (model prog w) A (setAttr (.ref x) name v) Q E s:=by
 obtain⟨od,J,hl⟩:=I.look
 refine PySem.W.set_plain X J hs (PySem.W.osa_open (s:={ s with toks:=s.toks+1 }) (r:=none) X J hp ht fun b=>?_)
 obtain⟨cd,hc,hd'⟩:=SA hh
 have hx:s.heap.get? x=some ⟨.ref C,some dx,.plain,#[]⟩:=I.obj
 refine wpAny_bind (wpAny_pure (wpAny_bind (wpAny_bind (wpAny_loadPart hx (wpAny_bind (PySem.W.Looks.here (s:={ s with toks:=s.toks+1 }) (PySem.W.looks_clsIn X hc) ?_))))))
 rw[hd']
 refine wpAny_pure (a:=some dx) (wpAny_bind (wpAny_pure (wpAny_bind ?_)))
 refine wpAny_nsSet1 (s:={ s with toks:=s.toks+1 }) I.ns fun h' hn2 hs2=>?_
 obtain⟨oD,esD,epD,hoD,hdD,hcD⟩:=hn2.count (PySem.Within.cons name v hw)
 refine wpAny_bind (wpAny_lookBehind hoD (by rw[hdD];exact pastItsLine_dict (QG hcD (by rw[Qz];omega))) ?_)
 exact wpAny_pure (h _ ⟨(hs2.2 _ (Ne.symm I.ne)).trans I.obj,hn2,I.ne⟩ hs2)
theorem FW{R:Result->Shared->Prop}{vs:List Value}{kw:List (Str×Value)}(X:K.In s.heap)(hm:RS K C=true)
  (hi:Qm K (.ref C) "__init__" = some (some (.ref f))) (hf:PySem.W.typeIn K (.ref f)=some (.type "function"))
  (h:codeAny (model prog w) (A.under (.builtin "type.__call__" ⟨.ref C::vs,kw⟩)) (.call (.ref f) ⟨.ref (s.heap.objs.size+1)::vs,kw⟩) (PySem.W.InitBack (s.heap.objs.size+1) R)
   { s with heap:=(s.heap.push Rj).push (RC C s.heap.objs.size) }) :
  codeAny (model prog w) A (.call (.ref C) ⟨vs,kw⟩) R s:=by
 obtain⟨hh,g,d,t,os⟩:=s
 exact PySem.W.make_core (PySem.W.makes_of X hm) (Rc X hi) (fun self=>PySem.W.bind_fn X self hf) (.inl rfl) h
end
def putF(f:Str)(v:V):List (Str×V)->List (Str×V)
 |[]=>[(f,v)]
 | (g,x)::r=>if g=f then(g,v)::r else(g,x)::putF f v r
theorem aK(f g:Str)(v:V):∀ fs:List (Str×V),(putF f v fs).lookup g=if g=f then some v else fs.lookup g
 |[]=>by
  show RM g [(f,v)]=_
  by_cases h:g=f
  ·have hb:(g == f)=true:=beq_iff_eq.mpr h
   simp only[RM,hb,if_pos h]
  ·have hb:(g == f)=false:=beq_eq_false_iff_ne.mpr h
   simp only[RM,hb,if_neg h]
 | (k,x)::r=>by
  have ih:=aK f g v r
  rw[show putF f v ((k,x)::r)=(if k=f then(k,v)::r else(k,x)::putF f v r) from rfl]
  by_cases hk:k=f
  ·rw[if_pos hk]
   by_cases h:g=k
   ·have hb:(g == k)=true:=beq_iff_eq.mpr h
    simp only[RM,hb,if_pos (h.trans hk)]
   ·have hb:(g == k)=false:=beq_eq_false_iff_ne.mpr h
    simp only[RM,hb,if_neg (fun e:g=f=>h (e.trans hk.symm))]
  ·rw[if_neg hk]
   by_cases h:g=k
   ·have hb:(g == k)=true:=beq_iff_eq.mpr h
    simp only[RM,hb,if_neg (fun e:g=f=>hk (h.symm.trans e))]
   ·have hb:(g == k)=false:=beq_eq_false_iff_ne.mpr h
    simp only[RM,hb]
    exact ih
theorem tL(f:Str)(v:V):∀ fs:List (Str×V),f∈(putF f v fs).map (·.1)/\∀ g,g∈fs.map (·.1)->g∈(putF f v fs).map (·.1)
 |[]=>⟨by simp[putF],fun g h=>by simp at h⟩
 | (k,x)::r=>by
  obtain⟨i1,i2⟩:=tL f v r
  rw[show putF f v ((k,x)::r)=(if k=f then(k,v)::r else(k,x)::putF f v r) from rfl]
  by_cases hk:k=f
  ·rw[if_pos hk]
   subst hk
   exact⟨by simp,fun g h=>by simpa using h⟩
  ·rw[if_neg hk]
   refine⟨?_,fun g h=>?_⟩
   ·rw[QA]
    exact Qe _ i1
   ·rw[QA]at h ⊢
    rcases P8.mp h with e | e
    ·exact P8.mpr (.inl e)
    ·exact Qe _ (i2 g e)
theorem tm(f:Str)(v:V):∀ fs:List (Str×V),(putF f v fs).length<=fs.length+1
 |[]=>by simp[putF]
 | (k,x)::r=>by
  have ih:=tm f v r
  rw[show putF f v ((k,x)::r)=(if k=f then(k,v)::r else(k,x)::putF f v r) from rfl]
  by_cases hk:k=f
  ·rw[if_pos hk,Qz,Qz];omega
  ·rw[if_neg hk,Qz,Qz];omega
theorem RelO.some_of{v:V}{o:Option Value}(r:RelO (some v) o):∃ u,o=some u/\RelV v u:=by
 cases o with
 |none=>exact(show False from r).elim
 |some u=>exact⟨u,rfl,r⟩
theorem RelO.none_of{o:Option Value}(r:RelO none o):o=none:=by
 cases o with
 |none=>rfl
 |some u=>exact(show False from r).elim
theorem Be{v:V}{u:Value}(r:RelV v u):S3 u=true:=by
 cases v with
 |non=>cases (show u=Value.none from r);rfl
 |bl b=>cases (show u=Value.bool b from r);rfl
 |int i=>obtain⟨t,e⟩:=(show ∃ t,u=Value.int i t from r);cases e;rfl
 |str x=>obtain⟨t,e⟩:=(show ∃ t,u=Value.str x t from r);cases e;rfl
 |byt b=>obtain⟨t,e⟩:=(show ∃ t,u=Value.bytes b t from r);cases e;rfl
 |flt b=>obtain⟨t,e⟩:=(show ∃ t,u=Value.float b t from r);cases e;rfl
 |ref a=>cases (show u=Value.ref a from r);rfl
 |ty n=>cases (show u=Value.type n from r);rfl
section
variable{P:Program}{w:World}{H H':Hp}{h h':Heap}{a C dx:Addr}{fs fs':List (Str×V)}
theorem Eh(hok:HOk P w H h)(e:H a=some (.ins C dx fs)):∃ mA,ObjM h a dx C mA/\(∀ f,RelO (fs.lookup f) (mA f))/\PySem.Within mA (fs.map (·.1))/\fs.length<=1000/\H dx=some (.own a):=by
 obtain⟨d,z,ne,ob,mA,n,r,q⟩:=(show b5 P w H h a (.ins C dx fs) from hok a _ e)
 exact⟨mA,⟨ob,n,ne⟩,r,q,z,d⟩
end
structure Cls(K:P1)(C:Addr):Prop where
 pg:Ru K C Str.empty=true
 hd:Q5 K C=true
 po:RN K C=true
 sa:Qm K (.ref C) "__setattr__" = some (some (.builtin "object.__setattr__"))
theorem Cls.get{K:P1}{C:Addr}(c:Cls K C)(f:Str):Ru K C f=true:=c.pg
def f9(K:P1)(C:Addr)(f:Str):Prop:=Qm K (.ref C) f=some none
theorem f9.taker{K:P1}{C:Addr}{f:Str}(n:f9 K C f):S8 K C f=some none:=by
 unfold S8
 rw[show Qm K (.ref C) f=some none from n]
 rfl
structure Meth(K:P1)(C:Addr)(m:Str)(f:Addr):Prop where
 at_:Qm K (.ref C) m=some (some (.ref f))
 fn:Rg K (.ref f)=true
 kp:Qb K (.ref f)=true
section
variable{X:Cx}{pins:List (Addr×Obj)}{σ:St}{H:Hp}{s:Shared}{a C dx:Addr}{fs:List (Str×V)}{f:Str}{v:V}{A:Around}{E:Value->Shared->Prop}
theorem HQ{b:Bool}{Q:Value->Shared->Prop}(I:Inv X pins σ H s)(e:H a=some (.ins C dx fs))(c:Cls X.K C)(n:f9 X.K C f)(l:fs.lookup f=some v)
  (h:∀ u s',Inv X pins σ H s'->RelV v u->Q u s'):wpAny (model X.prog X.w) A (getAttr (.ref a) f b) Q E s:=by
 obtain⟨mA,O,r,_,_,_⟩:=Eh I.hok e
 obtain⟨u,hu,ru⟩:=RelO.some_of (v:=v) (o:=mA f) (by rw[← l];exact r f)
 exact Pm I.kIn O (c.get f) c.hd n hu (Be ru) (h u _ (I.tok _) ru)
theorem wG{m:Str}{g:Addr}{pl:Sem Bool}{Q:Value×List Value->Shared->Prop}(I:Inv X pins σ H s)(e:H a=some (.ins C dx fs))(c:Cls X.K C)(k:Meth X.K C m g)(l:fs.lookup m=none)
  (h:Q (.ref g,[.ref a]) s):wpAny (model X.prog X.w) A (getMethod (.ref a) m pl) Q E s:=by
 obtain⟨mA,O,r,_,_,_⟩:=Eh I.hok e
 have hn:mA m=none:=RelO.none_of (by rw[← l];exact r m)
 exact M0 I.kIn O (c.get m) k.at_ k.fn hn h
theorem GH{y:V}{u:Value}{Q:Unit->Shared->Prop}(I:Inv X pins σ H s)(e:H a=some (.ins C dx fs))(c:Cls X.K C)(n:f9 X.K C f)(hl:fs.length<1000)(ry:RelV y u)
  (h:∀ s',Inv X pins σ (upd H a (.ins C dx (putF f y fs))) s'->Q () s'):wpAny (model X.prog X.w) A (setAttr (.ref a) f u) Q E s:=by
 obtain⟨mA,O,r,wi,_,ho⟩:=Eh I.hok e
 have hz:(fs.map (·.1)).length<=sizeLine:=by rw[P5,sizeLine_eq];omega
 refine Ou I.kIn O c.sa c.po n.taker c.hd wi hz fun h' O' sb=>h _ ?_
 have hd:∃ o,h'.get? dx=some o:=let ⟨o,_,_,e',_⟩:=O'.ns;⟨o,e'⟩
 refine I.write (x:=a) (e:=dx) (by rw[e];exact True.intro) (.inr ho) (fun b q hb z=>(sb.2 b hb).trans z) hd ?_
 refine⟨by rw[ar O.ne];exact ho,?_,O.ne,O'.obj,_,O'.ns,fun g=>?_,fun g hg=>?_⟩
 ·have:=tm f y fs;omega
 ·show RelO ((putF f y fs).lookup g) (if g=f then some u else mA g)
  rw[aK]
  by_cases q:g=f
  ·rw[if_pos q,if_pos q];exact ry
  ·rw[if_neg q,if_neg q];exact r g
 ·by_cases q:g=f
  ·rw[q];exact(tL f y fs).1
  ·refine(tL f y fs).2 g (wi g fun z=>hg ?_)
   show(if g=f then some u else mA g)=none
   rw[if_neg q];exact z
theorem Inv.made(I:Inv X pins σ H s):Inv X pins σ (upd (upd H s.heap.objs.size (.own (s.heap.objs.size+1))) (s.heap.objs.size+1) (.ins C s.heap.objs.size []))
  { s with heap:=(s.heap.push Rj).push (RC C s.heap.objs.size) }:=by
 have e1:(s.heap.push Rj).get? s.heap.objs.size=some Rj:=Heap.get?_push_size s.heap rfl
 have e2:((s.heap.push Rj).push (RC C s.heap.objs.size)).get? (s.heap.objs.size+1)=some (RC C s.heap.objs.size):=by
  have:=Heap.get?_push_size (s.heap.push Rj) (o:=RC C s.heap.objs.size) rfl
  rwa[Heap.size_push]at this
 have e3:(s.heap.push Rj).Ns s.heap.objs.size (fun _=>none):=⟨Rj,#[],_,e1,rfl,(fun e he=>absurd he (by simp)),fun _=>rfl⟩
 have I1:=I.laid (a:=s.heap.objs.size) (o:=.own (s.heap.objs.size+1)) (h':=s.heap.push Rj) (t':=s.toks) (fun b u q=>Heap.get?_push_of_some _ q) (P9 _) ⟨_,e1⟩
 refine I1.laid (a:=s.heap.objs.size+1) (o:=.ins C s.heap.objs.size []) (t':=s.toks) (fun b u q=>Heap.get?_push_of_some _ q) (Nat.le_of_eq (Heap.size_push _ _)) ?_
 have ne:s.heap.objs.size≠s.heap.objs.size+1:=QC (RH _)
 refine⟨by rw[ar ne,ag],Q6 _,ne,e2,fun _=>none,(Heap.Ns1.of_empty e3).at fun o q=>Heap.get?_push_of_some _ q,fun _=>True.intro,fun y hy=>absurd rfl hy⟩
theorem LL{prog:Program}{w:World}{env:Env}{e:Expr}{f:Str}{pos:Pos}{s:Shared}{Q:Value->Shared->Prop}(hb:attributeBase e f env (eval e env)=eval e env)
  (h:wpAny (model prog w) A (eval e env) (fun o s₁=>wpAny (model prog w) A (getAttr o f true) Q E s₁) E s):wpAny (model prog w) A (eval (.Attribute e f pos) env) Q E s :=
 Attribute_any_ h (by rw[arm_eval_Attribute,hb])
end
def tFld(K:P1)(ta:TE)(f:Str):TE:=fun σ H Q=>ta σ H fun x H1=>∃ a C dx fs v,x=.ref a/\H1 a=some (.ins C dx fs)/\Cls K C/\f9 K C f/\fs.lookup f=some v/\Q v H1
def sFld(K:P1)(ta tv:TE)(f:Str):TS:=fun D σ H=>tv σ H fun y H1=>ta σ H1 fun x H2=>∃ a C dx fs,x=.ref a/\H2 a=some (.ins C dx fs)/\Cls K C/\f9 K C f/\fs.length<1000 /\
 D.nx σ (upd H2 a (.ins C dx (putF f y fs)))
section
variable{X:Cx}{o e value:Expr}{f:Str}{pos pos' tpos:Pos}{ta tv:TE}
theorem bh(he:PE X e ta)(hb:attributeBase e f X.env (eval e X.env)=eval e X.env):PE X (.Attribute e f pos) (tFld X.K ta f):=by
 intro pins s σ H Q I h
 refine LL hb (thn (he pins s σ H _ I h) fun u s1 ⟨x,H1,I1,rx,a,C,dx,fs,v,ex,ea,c,n,l,q⟩=>?_)
 subst ex
 obtain rfl:u=Value.ref a:=rx
 exact HQ I1 ea c n l fun u' s2 I2 ru=>⟨v,H1,I2,ru,q⟩
theorem fO(ha:PE X o ta)(hv:PE X value tv)(hs:swapsWith value (some (.Attribute o f pos')) pos.line X.env=pure false):PS X (.Assign [.Attribute o f pos'] value pos) (sFld X.K ta tv f):=by
 intro pins s σ H D I h
 refine plainObj_wpAny_Assign_Attribute (thn (hv pins s σ H _ I h) fun u s1 ⟨y,H1,I1,ry,q⟩=>thn (ha pins s1 σ H1 _ I1 q) fun ov s2 ⟨x,H2,I2,rx,a,C,dx,fs,ex,ea,c,n,l,q2⟩=>?_) hs
 subst ex
 obtain rfl:ov=Value.ref a:=rx
 exact GH I2 ea c n l ry fun s3 I3=>⟨σ,_,I3,q2⟩
end
section
variable{X:Cx}{pins:List (Addr×Obj)}{σ:St}{H:Hp}{s:Shared}{A:Around}{E:Value->Shared->Prop}{Q:Value->Shared->Prop}{c:Value}{b:Bool}
end
end L2
namespace L2
open PySem PySem.Spec PyProof.Rows
structure Room(k:Nat)(A:Around):Prop where
 hd:A.handled=none
 dp:A.depth+3*k+5<recursionLimit
 un:A.units+16*k+200<cLine
theorem Room.mono{j k:Nat}{A:Around}(r:Room k A)(h:j<=k):Room j A:=⟨r.hd,by have:=r.dp;omega,by have:=r.un;omega⟩
theorem Room.deeper{k:Nat}{A:Around}(r:Room (k+1) A)(env:Env):Room k (A.deeper env) :=
 ⟨r.hd,by have:=r.dp;show A.depth+1+3*k+5<_;omega,by have:=r.un;show A.units+3+16*k+200<_;omega⟩
theorem Hu{A:Around}{C:Addr}{us:List Value}{kw:List (Str×Value)}:(A.under (.builtin "type.__call__" ⟨.ref C::us,kw⟩)).depth=A.depth+1:=by
 first | rfl | simp[Around.under,Code.weight,Code.isCreation,Code.isGuard,Code.isCaller,Code.frames,Code.isFrame,guardIds]
theorem Ht{A:Around}{C:Addr}{us:List Value}{kw:List (Str×Value)}:(A.under (.builtin "type.__call__" ⟨.ref C::us,kw⟩)).units=A.units+1:=by
 first | rfl | simp[Around.under,Code.cUnits,Code.frames,Code.isFrame]
theorem Room.make{k:Nat}{A:Around}(r:Room (k+1) A)(C:Addr)(us:List Value)(kw:List (Str×Value)):Room k (A.under (.builtin "type.__call__" ⟨.ref C::us,kw⟩)) :=
 ⟨r.hd,by have:=r.dp;rw[Hu];omega,by have:=r.un;rw[Ht];omega⟩
theorem Room.depth{k:Nat}{A:Around}(r:Room k A):A.depth<recursionLimit:=by have:=r.dp;omega
theorem Room.units{k:Nat}{A:Around}(r:Room k A):A.units+64<cLine:=by have:=r.un;omega
def tNil:TA:=fun _ H Q=>Q [] H
def bP(ta:TE)(tr:TA):TA:=fun σ H Q=>ta σ H fun x H1=>tr σ H1 fun xs H2=>Q (x::xs) H2
section
variable{X:Cx}{e:Expr}{es:List Expr}{te:TE}{t:TA}{pos:Pos}
theorem af:PA X [] tNil:=fun _ _ _ _ H Q I h=>Calls.spliced_nil ⟨[],H,I,.nil,h⟩
theorem aa(ha:PE X e te)(hr:PA X es t)(hs:starEach (e::es) X.env=(false,eval e X.env)::starEach es X.env:=by rfl):PA X (e::es) (bP te t):=by
 intro pos pins s σ H Q I h
 rw[hs]
 show wpAny _ _ (spliced ((false,eval e X.env)::backTo pos (starEach es X.env))) _ _ s
 refine Calls.spliced_cons (thn (ha pins s σ H _ I h) fun u s1 ⟨x,H1,I1,r1,q1⟩=>?_)
 exact thn (hr pos pins s1 σ H1 _ I1 q1) fun us s2 ⟨xs,H2,I2,r2,q2⟩=>⟨x::xs,H2,I2,.cons r1 r2,q2⟩
def tTup(t:TA):TE:=fun σ H Q=>t σ H fun xs H1=>xs.length<=sizeLine/\∀ p,H1 p=none->Q (.ref p) (upd H1 p (.tup xs))
def tLst(t:TA):TE:=fun σ H Q=>t σ H fun xs H1=>xs.length<=sizeLine/\∀ p,H1 p=none->Q (.ref p) (upd H1 p (.lst xs))
theorem eS{x1}(h:PA X es t):PE X (.Tuple es x1 pos) (tTup t):=by
 intro pins s σ H Q I hq
 refine wpAny_Tuple_spliced (thn (h pos pins s σ H _ I hq) fun us s1 ⟨xs,H1,I1,r,z,q⟩=>⟨by rw[← r.length];exact z,?_⟩)
 have hf:H1 s1.heap.objs.size=none:=I1.hok.fresh (P9 _)
 refine⟨.ref s1.heap.objs.size,upd H1 s1.heap.objs.size (.tup xs),I1.laid (t':=s1.toks) (fun b u e=>Heap.get?_push_of_some _ e) (P9 _) ?_,rfl,q _ hf⟩
 exact⟨z,us,r,⟨_,Heap.get?_push_size _ rfl,rfl,_,rfl⟩⟩
theorem bg(h:PA X es t):PE X (.List es pos) (tLst t):=by
 intro pins s σ H Q I hq
 refine wpAny_List_spliced (thn (h pos pins s σ H _ I hq) fun us s1 ⟨xs,H1,I1,r,z,q⟩=>⟨by rw[← r.length];exact z,?_⟩)
 have hf:H1 s1.heap.objs.size=none:=I1.hok.fresh (P9 _)
 refine⟨.ref s1.heap.objs.size,upd H1 s1.heap.objs.size (.lst xs),I1.laid (t':=s1.toks) (fun b u e=>Heap.get?_push_of_some _ e) (P9 _) ?_,rfl,q _ hf⟩
 exact⟨z,us,0,r,Heap.get?_push_size _ rfl⟩
end
abbrev Sp:=List V->Hp->VK->XK->Prop
abbrev CXT:=List Env->Hp->Shared->XK->Value->Shared->Prop
structure Env0(P:Program)(w:World)(K:P1)(mg:Str->Option Value)(base:Heap)(A:Around)(outer:List Env)(s:Shared)(H:Hp):Prop where
 frames:A.frames=some outer
 mod:Mod K mg base
 bs:∀ b o,base.get? b=some o->s.heap.get? b=some o/\H b=none
 bsz:base.objs.size<=s.heap.objs.size
 funs:s.heap.FunFrames base outer
 frf:∀ b∈frs outer,H b=none
 hok:HOk P w H s.heap
 bare:AllBare s.gens
def CE(outer:List Env)(P:Program)(w:World)(H:Hp)(s:Shared)(Q:VK)(u:Value)(s':Shared):Prop :=
 ∃ v H',s'.os=s.os/\AllBare s'.gens/\Un (frs outer) [] H H' s.heap s'.heap/\HOk P w H' s'.heap/\RelV v u/\Q v H'
def CR(CX:CXT)(outer:List Env)(P:Program)(w:World)(H:Hp)(s:Shared)(Q:VK)(E:XK)(r:Result)(s':Shared):Prop :=
 match r with
 |.ok (.ret u)=>CE outer P w H s Q u s'
 |.ok _=>False
 |.error e=>CX outer H s E e s'
structure FnOk(P:Program)(w:World)(K:P1)(mg:Str->Option Value)(base:Heap)(CX:CXT)(k:Nat)(f:Addr)(fd:FuncData)(ps:List Str)(sp:Sp):Prop where
 len:∀ vs H Q E,sp vs H Q E->vs.length=ps.length
 run:∀(A:Around)(outer:List Env)(s:Shared)(H:Hp)(args:Args)(us:List Value)(vs:List V)(Q:VK)(E:XK),Room k A->Env0 P w K mg base A outer s H->BindsTo s fd args (ps.zip us)->Vals vs us->sp vs H Q E ->
  codeAny (model P w) A (.call (.ref f) args) (CR CX outer P w H s Q E) s
theorem FnOk.mono{P:Program}{w:World}{K:P1}{mg:Str->Option Value}{base:Heap}{CX:CXT}{j k:Nat}{f:Addr}{fd:FuncData}{ps:List Str}{sp:Sp}(F:FnOk P w K mg base CX j f fd ps sp)(h:j<=k) :
  FnOk P w K mg base CX k f fd ps sp:=⟨F.len,fun A outer s H args us vs Q E hr=>F.run A outer s H args us vs Q E (hr.mono h)⟩
theorem Env0.make{P:Program}{w:World}{K:P1}{mg:Str->Option Value}{base:Heap}{A:Around}{outer:List Env}{s:Shared}{H:Hp}(e:Env0 P w K mg base A outer s H)(C:Addr)(us:List Value)(kw:List (Str×Value)) :
  Env0 P w K mg base (A.under (.builtin "type.__call__" ⟨.ref C::us,kw⟩)) outer s H:=⟨by first | exact e.frames | (simpa[Around.under,Code.envs,Code.isFrame,pushEnvs] using e.frames),e.mod,e.bs,e.bsz,e.funs,e.frf,e.hok,e.bare⟩
section
variable{X:Cx}{pins:List (Addr×Obj)}{σ:St}{H:Hp}{s s':Shared}
theorem Inv.env0(I:Inv X pins σ H s):Env0 X.prog X.w X.K X.mg X.base X.A X.stack s H :=
 ⟨I.ok.frames,I.ok.mod,I.bs,QG I.ok.bsz I.sz,I.stack,I.stkFree,I.hok,I.bare⟩
theorem Inv.after{Q:VK}{u:Value}(I:Inv X pins σ H s)(h:CE X.stack X.prog X.w H s Q u s'):EP X pins σ Q u s':=by
 obtain⟨v,H',os,bare,un,hok,r,q⟩:=h
 obtain⟨hh,g,d,t,os'⟩:=s'
 obtain rfl:os'=s.os:=os
 exact⟨v,H',I.call (h':=hh) (g':=g) (d':=d) (t':=t) (ch:=[]) un hok bare (fun b z=>absurd z (by simp)),r,q⟩
end
def tCall(sp:Sp)(dvs:List V)(E:XK)(t:TA):TE:=fun σ H Q=>t σ H fun vs H1=>sp (vs++dvs) H1 Q E
def tMeth(C:Addr)(m:Str)(sp:Sp)(dvs:List V)(E:XK)(ta:TE)(t:TA):TE:=fun σ H Q=>ta σ H fun x H1=>∃ a dx fs,x=.ref a/\H1 a=some (.ins C dx fs)/\fs.lookup m=none /\
 t σ H1 fun vs H2=>sp (x::(vs++dvs)) H2 Q E
def tMake(C:Addr)(sp:Sp)(dvs:List V)(E:XK)(t:TA):TE:=fun σ H Q=>t σ H fun vs H1=>∀ x dx,H1 x=none->H1 dx=none->dx≠x ->
 sp (.ref x::(vs++dvs)) (upd (upd H1 dx (.own x)) x (.ins C dx [])) (fun v H2=>v=.non/\Q (.ref x) H2) E
def gT(K:P1)(fd:FuncData)(ps:List Str)(ds:List Value):Prop :=
 ∀(s:Shared)(us:List Value),K.In s.heap->(us++ds).length=ps.length->BindsTo s fd ⟨us,[]⟩ (ps.zip (us++ds))
theorem gT.all{K:P1}{fd:FuncData}{ps:List Str}(h:∀ us:List Value,us.length=ps.length->bindArgs fd ⟨us,[]⟩=pure (ps.zip us)):gT K fd ps []:=fun s us _ hl=>by
 rw[Rl]at hl ⊢
 exact .of_eq (h us hl)
def wW(CX:CXT)(X:Cx)(E:XK):Prop:=∀(pins:List (Addr×Obj))(σ:St)(H:Hp)(s:Shared)(e:Value)(s':Shared),Inv X pins σ H s->CX X.stack H s E e s'->X.xe e s'
section
variable{X:Cx}{CX:CXT}{k:Nat}{f C:Addr}{fd:FuncData}{ps:List Str}{sp:Sp}{dvs:List V}{ds:List Value}{E:XK}{x m:Str}{p pos apos:Pos}{e o:Expr}{es:List Expr}{ta:TE}{t:TA}
theorem Nr{pins:List (Addr×Obj)}{σ:St}{H:Hp}{s:Shared}{Q:VK}{us:List Value}{vs:List V}(F:FnOk X.prog X.w X.K X.mg X.base CX k f fd ps sp)(hr:Room k X.A)(hb:gT X.K fd ps ds)(hd:Vals dvs ds)(hx:wW CX X E)
  (I:Inv X pins σ H s) (r:Vals vs us) (h:sp (vs++dvs) H Q E):wpAny (model X.prog X.w) X.A (call (.ref f) us) (EP X pins σ Q) X.xe s:=by
 have r2:Vals (vs++dvs) (us++ds):=r.append hd
 have hl:(us++ds).length=ps.length:=by rw[← r2.length];exact F.len _ _ _ _ h
 refine wpAny_call (codeAny_mono (F.run X.A X.stack s H ⟨us,[]⟩ (us++ds) (vs++dvs) Q E hr I.env0 (hb s us I.kIn hl) r2 h) fun r s' hq=>?_)
 cases r with
 |error e=>exact hx pins σ H s e s' I hq
 |ok fl =>
  cases fl with
  |ret u=>exact I.after hq
  |next=>exact False.elim hq
  |brk=>exact False.elim hq
  |cont=>exact False.elim hq
theorem ax(F:FnOk X.prog X.w X.K X.mg X.base CX k f fd ps sp)(hr:Room k X.A)(hg:Gl X x)(hm:X.mg x=some (.ref f))(hk:Qb X.K (.ref f)=true)(hb:gT X.K fd ps ds)(hd:Vals dvs ds)(hx:wW CX X E)
  (ha:PA X (e::es) t) (hdb:(x == ("__debug__" : Str))=false:=by decide) (he:starEach (e::es) X.env=(false,eval e X.env)::starEach es X.env:=by rfl) (hpl:(backTo pos (starEach es X.env)).any (·.1)=false:=by rfl) :
  PE X (.Call (.Name x p) (e::es) [] pos) (tCall sp dvs E t):=by
 intro pins s σ H Q I h
 refine wpAny_Call_Name_kw (mq I hg hm ?_ hdb)
 refine RT (h₀:=X.base) I.ok.mod.kin hk (thn (ha pos pins s σ H _ I h) fun us s1 ⟨vs,H1,I1,r,q⟩=>⟨I1.kIn,?_⟩) he hpl
 exact Nr F hr hb hd hx I1 r q
theorem gh{pl:Sem Bool}(he:PE X o ta)(c:Cls X.K C)(hm:Meth X.K C m f)(F:FnOk X.prog X.w X.K X.mg X.base CX k f fd ps sp)(hr:Room k X.A)(hb:gT X.K fd ps ds)(hd:Vals dvs ds)(hx:wW CX X E)
  (ht:eval (.Call (.Attribute o m apos) [] [] pos) X.env=(do
   let ov ← eval o X.env
   standAt apos.atName
   let (f,first) ← holding [ov] (getMethod ov m pl)
   callWith pos f first (backTo pos (starEach [] X.env)) (backToKw pos (keywordEach [] X.env))):=by rfl) :
  PE X (.Call (.Attribute o m apos) [] [] pos) (tMeth C m sp dvs E ta tNil):=by
 intro pins s σ H Q I h
 refine PySem.W.methodCall_KW (pl:=pl) (thn (he pins s σ H _ I h) fun u s1 ⟨x,H1,I1,rx,a,dx,fs,ex,ea,l,q⟩=>?_) ht
 subst ex
 obtain rfl:u=Value.ref a:=rx
 refine wG I1 ea c hm l ?_
 exact PySem.W.callWith_K0 (first:=[.ref a]) I1.kIn hm.kp (Nr (us:=[.ref a]) (vs:=[.ref a]) F hr hb hd hx I1 (.cons rfl .nil) q)
structure Mk(K:P1)(C f:Addr):Prop where
 makes:RS K C=true
 init:Qm K (.ref C) "__init__" = some (some (.ref f))
 fn:Rg K (.ref f)=true
 kp:Qb K (.ref C)=true
theorem Mj{pins:List (Addr×Obj)}{σ:St}{H:Hp}{s:Shared}{Q:VK}{us:List Value}{vs:List V}(M:Mk X.K C f)(F:FnOk X.prog X.w X.K X.mg X.base CX k f fd ps sp)(hr:Room (k+1) X.A)(hb:gT X.K fd ps ds)(hd:Vals dvs ds)
  (hx:wW CX X E) (I:Inv X pins σ H s) (r:Vals vs us)
  (h:∀ x dx,H x=none->H dx=none->dx≠x->sp (.ref x::(vs++dvs)) (upd (upd H dx (.own x)) x (.ins C dx [])) (fun v H2=>v=.non/\Q (.ref x) H2) E) :
  wpAny (model X.prog X.w) X.A (call (.ref C) us) (EP X pins σ Q) X.xe s:=by
 have hq:=h (s.heap.objs.size+1) s.heap.objs.size (I.hok.fresh (RF _)) (I.hok.fresh (P9 _)) (QC (RH _))
 have I2:=Inv.made (C:=C) I
 have r2:Vals (V.ref (s.heap.objs.size+1)::(vs++dvs)) (Value.ref (s.heap.objs.size+1)::(us++ds)):=.cons rfl (r.append hd)
 have hl:(Value.ref (s.heap.objs.size+1)::us++ds).length=ps.length:=by
  have e:=r2.length
  rw[F.len _ _ _ _ hq]at e
  exact e.symm
 refine wpAny_call (FW (f:=f) I.kIn M.makes M.init (beq_iff_eq.mp M.fn) (codeAny_mono (F.run _ X.stack _ _ ⟨Value.ref (s.heap.objs.size+1)::us,[]⟩ (Value.ref (s.heap.objs.size+1)::(us++ds)) _ _ E (hr.make C us [])
  (I2.env0.make C us []) (hb _ (Value.ref (s.heap.objs.size+1)::us) I2.kIn hl) r2 hq) fun r s' hq'=>?_))
 cases r with
 |error e=>exact hx pins σ _ _ e s' I2 hq'
 |ok fl =>
  cases fl with
  |ret u =>
   obtain⟨v,H',I3,rv,ev,q3⟩:=I2.after hq'
   subst ev
   exact⟨rv,⟨V.ref (s.heap.objs.size+1),H',I3,rfl,q3⟩⟩
  |next=>exact False.elim hq'
  |brk=>exact False.elim hq'
  |cont=>exact False.elim hq'
theorem oS(M:Mk X.K C f)(F:FnOk X.prog X.w X.K X.mg X.base CX k f fd ps sp)(hr:Room (k+1) X.A)(hg:Gl X x)(hm:X.mg x=some (.ref C))(hb:gT X.K fd ps ds)(hd:Vals dvs ds)(hx:wW CX X E)
  (ha:PA X (e::es) t) (hdb:(x == ("__debug__" : Str))=false:=by decide) (he:starEach (e::es) X.env=(false,eval e X.env)::starEach es X.env:=by rfl) (hpl:(backTo pos (starEach es X.env)).any (·.1)=false:=by rfl) :
  PE X (.Call (.Name x p) (e::es) [] pos) (tMake C sp dvs E t):=by
 intro pins s σ H Q I h
 refine wpAny_Call_Name_kw (mq I hg hm ?_ hdb)
 refine RT (h₀:=X.base) I.ok.mod.kin M.kp (thn (ha pos pins s σ H _ I h) fun us s1 ⟨vs,H1,I1,r,q⟩=>⟨I1.kIn,?_⟩) he hpl
 exact Mj M F hr hb hd hx I1 r q
end
section
variable{X:Cx}{CX:CXT}{k:Nat}{f C:Addr}{fd:FuncData}{ps ks:List Str}{sp:Sp}{E:XK}{x m:Str}{p pos apos kpos:Pos}{e o:Expr}{es:List Expr}{kws:List Keyword}{te ta:TE}{t tk:TA}{nm:Option Str}
variable{g:List Value->List Value->List Value}{gV:List V->List V->List V}
end
structure aH(N P:List Str)(sc:Scope):Prop where
 kind:sc.kind=.function
 co:sc.isCoroutine=false
 gen:sc.isGenerator=false
 nd:N.Nodup
 pre:N.take P.length=P
 par:∀ x∈P,sc.names.lookup x=some .local∨sc.names.lookup x=some .cell
 nofree:∀ y∈sc.names,y.2≠.free
theorem BS{kindOf:Str->Option NameKind}{x:Str}:∀{binds:List (Str×Value)}{m:Str->Option Value},(∀ v,(x,v)∉binds)->bindL kindOf binds m x=m x
 |[],_,_=>rfl
 | (n,v)::r,m,h=>by
  unfold bindL
  rw[BS fun w hw=>h w (Qe _ hw)]
  split
  ·have:x≠n:=by rintro rfl;exact h v Ql
   simp[this]
  ·rfl
theorem BV{kindOf:Str->Option NameKind}{x:Str}:∀{binds:List (Str×Value)}{m:Str->Option Value},(∀ v,(x,v)∉binds)->bindC kindOf binds m x=m x
 |[],_,_=>rfl
 | (n,v)::r,m,h=>by
  unfold bindC
  rw[BV fun w hw=>h w (Qe _ hw)]
  split
  ·rfl
  ·have:x≠n:=by rintro rfl;exact h v Ql
   simp[this]
theorem BU{kindOf:Str->Option NameKind}{x:Str}{v:Value}:∀{P:List Str}{vs:List Value}{i:Nat}{m:Str->Option Value},P.Nodup->P[i]?=some x->vs[i]?=some v->kindOf x=some .local ->
  bindL kindOf (P.zip vs) m x=some v
 |[],_,_,_,_,h,_,_=>by simp at h
 |_::_,[],_,_,_,_,h,_=>by simp at h
 |p::P,w::vs,0,m,nd,h1,h2,hk=>by
  simp at h1 h2;subst h1;subst h2
  show bindL kindOf ((p,w)::P.zip vs) m p=_
  unfold bindL
  rw[BS fun v hv=>(Qp.mp nd).1 (Tb hv).1,if_pos hk]
  simp
 |p::P,w::vs,i+1,m,nd,h1,h2,hk=>by
  show bindL kindOf ((p,w)::P.zip vs) m x=_
  unfold bindL
  exact BU (i:=i) (Qp.mp nd).2 (by simpa using h1) (by simpa using h2) hk
theorem BW{kindOf:Str->Option NameKind}{x:Str}{v:Value}:∀{P:List Str}{vs:List Value}{i:Nat}{m:Str->Option Value},P.Nodup->P[i]?=some x->vs[i]?=some v->kindOf x≠some .local ->
  bindC kindOf (P.zip vs) m x=some v
 |[],_,_,_,_,h,_,_=>by simp at h
 |_::_,[],_,_,_,_,h,_=>by simp at h
 |p::P,w::vs,0,m,nd,h1,h2,hk=>by
  simp at h1 h2;subst h1;subst h2
  show bindC kindOf ((p,w)::P.zip vs) m p=_
  unfold bindC
  rw[BV fun v hv=>(Qp.mp nd).1 (Tb hv).1,if_neg hk]
  simp
 |p::P,w::vs,i+1,m,nd,h1,h2,hk=>by
  show bindC kindOf ((p,w)::P.zip vs) m x=_
  unfold bindC
  exact BW (i:=i) (Qp.mp nd).2 (by simpa using h1) (by simpa using h2) hk
def start(N:List Str)(vs:List V):St:=vs.map some++Q0 (N.length-vs.length) none
def cxOf(CX:CXT)(P:Program)(w:World)(K:P1)(mg:Str->Option Value)(base:Heap)(N:List Str)(qual:Str)(scope:Scope)(f:Addr)(cd:Value)(A:Around)(outer:List Env)(s:Shared)(H:Hp)(E:XK):Cx where
 prog:=P
 w:=w
 K:=K
 mg:=mg
 base:=base
 A:=A.deeper (envOfC qual scope s.heap.objs.size f cd)
 N:=N
 s₀:=s
 H₀:=H
 env:=envOfC qual scope s.heap.objs.size f cd
 outer:=outer
 stack:=envOfC qual scope s.heap.objs.size f cd::outer
 ex:=[]
 calm:=true
 fn:=fun _=>true
 pn:=[]
 xe:=fun e s'=>wpAny (model P w) (A.deeper (envOfC qual scope s.heap.objs.size f cd)) (leaving (envOfC qual scope s.heap.objs.size f cd) e) (fun _ s''=>CX outer H s E e s'') (fun e' s''=>CX outer H s E e' s'') s'
theorem Ge{sc:Scope}{n:Nat}{x:Str}(h:sc.names.lookup x=some .cell):∃ c,(cellsFrom n sc.names []).lookup x=some c:=by
 have q:=PySem.W.cellsFrom_some sc.names n [] (.inl h)
 exact RP.mp q
theorem KI{CX:CXT}{P:Program}{w:World}{K:P1}{mg:Str->Option Value}{base:Heap}{N ps:List Str}{qual:Str}{scope:Scope}{f:Addr}{cd:Value}{A:Around}{outer:List Env}{s s1:Shared}{H:Hp}{E:XK}{us:List Value}{vs:List V}
  (S:aH N ps scope) (hd:A.handled=none) (e0:Env0 P w K mg base A outer s H) (hl:vs.length=ps.length) (r:Vals vs us)
  (x:InCallC s s.heap.objs.size (bindL (envOfC qual scope s.heap.objs.size f cd).kindOf (ps.zip us) fun _=>none) (cellsFrom (s.heap.objs.size+1) scope.names []) (bindC (envOfC qual scope s.heap.objs.size f cd).kindOf (ps.zip us) fun _=>none) s1) :
  Inv (cxOf CX P w K mg base N qual scope f cd A outer s H E) [] (start N vs) H s1:=by
 have hpl:ps.length<=N.length:=by have:=congrArg List.length S.pre;rw[QK]at this;omega
 obtain⟨h1,tk,rfl,hk⟩:=x.done
 have noA:∀ b:Addr,b∉(cxOf CX P w K mg base N qual scope f cd A outer s H E).ex:=fun b z=>absurd (show b∈([]:List Addr) from z) (by simp)
 refine⟨⟨e0.mod,S.kind,rfl,rfl,P9 _,fun y z c h1 h2=>?_,fun y hy=>?_,fun y c _ h=>?_,fun _=>hd,Around.frames_deeper e0.frames,.inr ⟨rfl,rfl⟩,fun b z=>absurd z (noA b),e0.bs,e0.bsz,fun b _ _=>noA b,fun b z=>absurd z (noA b),e0.funs,e0.frf⟩,
  rfl,e0.bare,Un.kept hk,⟨_,x.toInCall.ns,fun i y v h1 h2 h3=>?_⟩,fun y c h=>⟨_,x.cell y c h⟩,e0.hok.fresh (P9 _),fun y c h=>?_,fun p hp=>absurd (show p∈([]:List (Addr×Obj)) from hp) (by simp),e0.hok.kept hk,?_⟩
 ·exact name_of_addr x.apart (Q7 h1) (Q7 h2)
 ·have hy:scope.names.lookup y=some .cell∨scope.names.lookup y=some .free:=hy
  rcases hy with hy | hy
  ·exact Ge hy
  ·exact absurd rfl (S.nofree _ (Q7 hy))
 ·exact Rn (x.above y c (Q7 h))
 ·have hi:i<vs.length:=by
   unfold start at h2
   by_cases hi:i<vs.length
   ·exact hi
   ·rw[P4 (by simpa using hi)]at h2
    rw[RG]at h2
    split at h2<;>cases h2
  have ha:vs[i]?=some v:=by
   unfold start at h2
   rw[P6 (by simpa using hi),Qd]at h2
   cases e:vs[i]? with
   |none=>rw[e]at h2;cases h2
   |some a=>rw[e]at h2;cases h2;rfl
  obtain⟨u,hu,rv⟩:=r.get ha
  have hp:ps[i]?=some y:=by
   rw[← S.pre,List.getElem?_take_of_lt (by omega)];exact h1
  have ndP:ps.Nodup:=by rw[← S.pre];exact S.nd.sublist (List.take_sublist _ _)
  refine⟨u,rv,?_⟩
  rcases S.par y (P7 hp)with k | k
  ·exact .inl ⟨k,BU ndP hp hu k⟩
  ·obtain⟨c,e⟩:=Ge (n:=s.heap.objs.size+1) k
   refine .inr ⟨.inl k,c,e,?_⟩
   have q:=x.cell y c e
   rw[BW ndP hp hu (by show scope.names.lookup y≠_;rw[k];decide)]at q
   exact q
 ·exact e0.hok.fresh (Rn (x.above y c (Q7 h)))
 ·unfold start
  show _=N.length
  rw[P2,P5,List.length_replicate]
  omega
theorem fn_of{CX:CXT}{P:Program}{w:World}{K:P1}{mg:Str->Option Value}{base:Heap}{k:Nat}{f:Addr}{name qual:Str}{params:Arguments}{body:List Stmt}{scope:Scope}{dV kV doc pm cdv ct oc:Value}{an od:Option Addr}
  {osl:Array (Option Value)} {N ps:List Str} {sp:Sp} (lk:K.lookup f=some ⟨oc,od,.func (Qk name qual params body scope dV kV doc pm an cdv ct),osl⟩) (hcd:Qh K cdv qual=true) (S:aH N ps scope)
  (len:∀ vs H Q E,sp vs H Q E->vs.length=ps.length)
  (hbody:∀(A:Around)(outer:List Env)(s:Shared)(H:Hp)(vs:List V)(Q:VK)(E:XK),Room k (A.deeper (envOfC qual scope s.heap.objs.size f cdv))->sp vs H Q E ->
   ∃ t,PSs (cxOf CX P w K mg base N qual scope f cdv A outer s H E) body t/\t { nx:=fun _ H'=>Q .non H',rt:=Q } (start N vs) H) :
  FnOk P w K mg base CX (k+1) f (Qk name qual params body scope dV kV doc pm an cdv ct) ps sp:=by
 refine⟨len,fun A outer s H args us vs Q E hr e0 hb r hsp=>?_⟩
 have hl:=len _ _ _ _ hsp
 have KX:K.In s.heap:=e0.mod.kin.keeps fun b o e=>(e0.bs b o e).1
 have lim:s.heap.NoLimit:=e0.mod.nolimit.keeps fun b o e=>(e0.bs b o e).1
 have hkind:∀ y∈ps.zip us,scope.names.lookup y.1=some .local∨(scope.names.lookup y.1=some .cell/\((cellsFrom (s.heap.objs.size+1) scope.names []).lookup y.1).isSome=true):=fun⟨n,v⟩ hy=>by
  rcases S.par n (Tb hy).1 with q | q
  ·exact .inl q
  ·exact .inr ⟨q,PySem.W.cellsFrom_some _ _ _ (.inl q)⟩
 refine codeAny_call_function hr.depth (KX _ _ lk) rfl S.co S.gen rfl (PySem.W.codeRec_of KX hcd) (hb _ _ _ _ ?_)
 refine wpAny_newFunctionEnv_cells S.kind hkind fun env he s1 x=>?_
 subst he
 refine⟨lim.keeps x.toInCall.keep,codeAny_func ?_⟩
 obtain⟨t,ht,hq⟩:=hbody A outer s H vs Q E (hr.deeper _) hsp
 have I:Inv (cxOf CX P w K mg base N qual scope f cdv A outer s H E) [] (start N vs) H s1:=KI S hr.hd e0 hl r x
 refine wpAny_mono (ht [] s1 (start N vs) H _ I hq) (fun fl s' hs=>?_) fun e s' hs=>hs
 have fin:∀{σ':St}{H':Hp}{v:V}{u:Value},Inv (cxOf CX P w K mg base N qual scope f cdv A outer s H E) [] σ' H' s'->RelV v u->Q v H'->CE outer P w H s Q u s' :=
  fun{σ' H' v u} J rv q=>⟨v,H',J.os,J.bare,J.base,J.hok,rv,q⟩
 cases fl with
 |ret u =>
  obtain⟨v,σ',H',J,rv,q⟩:=hs
  exact fin J rv q
 |next =>
  obtain⟨σ',H',J,q⟩:=hs
  exact fin (v:=V.non) (u:=Value.none) J rfl q
 |brk =>
  obtain⟨_,_,_,q⟩:=hs
  exact False.elim q
 |cont =>
  obtain⟨_,_,_,q⟩:=hs
  exact False.elim q
end L2
namespace L2
open PySem PySem.Spec PyProof.Rows
section
variable{X:Cx}{x:Str}{p pos:Pos}{e:Expr}{es:List Expr}{t:TA}{id T:String}{r:List V->Hp->VK->Prop}
def tCB(r:List V->Hp->VK->Prop)(t:TA):TE:=fun σ H Q=>t σ H fun vs H1=>r vs H1 Q
theorem aA(hc:jy X (.builtin id) r)(hg:Gl X x)(hm:X.mg x=none)(hv:bootBuiltins x=some (.builtin id))(ha:PA X (e::es) t) (hn:x≠"__name__":=by decide) (hdb:(x == ("__debug__" : Str))=false:=by decide)
  (he:starEach (e::es) X.env=(false,eval e X.env)::starEach es X.env:=by rfl) (hpl:(backTo pos (starEach es X.env)).any (·.1)=false:=by rfl):PE X (.Call (.Name x p) (e::es) [] pos) (tCB r t):=by
 intro pins s σ H Q I h
 refine wpAny_Call_Name_kw (wD I hg hm hv ?_ hn hdb)
 exact PyProof.Rows.callWith_builtin1 (thn (ha pos pins s σ H _ I h) fun us s1 ⟨vs,H1,I1,r1,q1⟩=>hc pins s1 σ H1 vs us Q I1 r1 q1) he hpl
theorem aW(hc:jy X (.type T) r)(hg:Gl X x)(hm:X.mg x=none)(hv:bootBuiltins x=some (.type T))(ha:PA X (e::es) t) (hn:x≠"__name__":=by decide) (hdb:(x == ("__debug__" : Str))=false:=by decide)
  (he:starEach (e::es) X.env=(false,eval e X.env)::starEach es X.env:=by rfl) (hpl:(backTo pos (starEach es X.env)).any (·.1)=false:=by rfl):PE X (.Call (.Name x p) (e::es) [] pos) (tCB r t):=by
 intro pins s σ H Q I h
 refine wpAny_Call_Name_kw (wD I hg hm hv ?_ hn hdb)
 exact PyProof.Rows.callWith_type1 (thn (ha pos pins s σ H _ I h) fun us s1 ⟨vs,H1,I1,r1,q1⟩=>hc pins s1 σ H1 vs us Q I1 r1 q1) he hpl
end
end L2
namespace HT
open PySem PyProof.Rows
section
open PySem.SeqAt
open PySem.AutoSeq1 (wpAny_loadPart')
open PySem.MeetsSeq PySem.MeetsSeq2 PySem.MeetsSeq3
end
section
variable{prog:Program}{w:World}{A:Around}{E:Value->Shared->Prop}{s:Shared}
def sIx(n d:Nat):Option Int->Nat
 |none=>d
 |some v=>if v<0 then(v+(n:Int)).toNat else min v.toNat n
theorem sIx_none(n d:Nat):sIx n d none=d:=rfl
theorem sIx_nat(n d k:Nat):sIx n d (some (k:Int))=min k n:=by
 show(if(k:Int)<0 then((k:Int)+(n:Int)).toNat else min (k:Int).toNat n)=min k n
 rw[if_neg (by omega),Qy]
end
end HT
namespace L2
open PySem PySem.Spec PyProof.Rows
abbrev TO:=St->Hp->(Option Int->Hp->Prop)->Prop
def PO(X:Cx)(e:Option Expr)(t:TO):Prop :=
 ∀(pins:List (Addr×Obj))(s:Shared)(σ:St)(H:Hp)(Q:Option Int->Hp->Prop),Inv X pins σ H s->t σ H Q ->
  wpAny (model X.prog X.w) X.A (evalPart e X.env) (fun u s'=>∃ o H',Inv X pins σ H' s'/\IsPart u o/\Q o H') X.xe s
def Od:TO:=fun _ H Q=>Q none H
def tPart(t:TE):TO:=fun σ H Q=>t σ H fun x H1=>∃ i,x=.int i/\Q (some i) H1
section
variable{X:Cx}{e:Expr}{te:TE}{lo hi:Option Expr}{tl th:TO}{pos p2:Pos}
theorem l5:PO X none Od:=by
 intro pins s σ H Q I h
 rw[evalPart_none]
 exact wpAny_pure ⟨none,H,I,.none,h⟩
theorem iu(h:PE X e te):PO X (some e) (tPart te):=by
 intro pins s σ H Q I hw
 rw[evalPart_some]
 refine thn (h pins s σ H _ I hw) fun u s1 ⟨x,H1,I1,r1,q1⟩=>?_
 obtain⟨i,rfl,q⟩:=q1
 obtain⟨t,rfl⟩:=r1
 exact⟨some i,H1,I1,.int i t,q⟩
def SlR(X:Cx)(r:V->Option Int->Option Int->Hp->VK->Prop):Prop :=
 ∀(pins:List (Addr×Obj))(s:Shared)(σ:St)(H:Hp)(x:V)(v vl vu:Value)(lo hi:Option Int)(sl:Addr)(Q:VK),Inv X pins σ H s->RelV x v->s.heap.IsSliceOf sl vl vu .none->IsPart vl lo->IsPart vu hi->r x lo hi H Q ->
  ∃ T id,typeLookup (.type T) "__getitem__" = pure (some (.builtin id))/\s.TypeIs v T/\wpAny (model X.prog X.w) X.A (getItem v (.ref sl)) (EP X pins σ Q) X.xe s
def tSl(r:V->Option Int->Option Int->Hp->VK->Prop)(te:TE)(tl th:TO):TE:=fun σ H Q=>te σ H fun x H1=>tl σ H1 fun l H2=>th σ H2 fun u H3=>r x l u H3 Q
theorem gg{r:V->Option Int->Option Int->Hp->VK->Prop}(hr:SlR X r)(he:PE X e te)(hl:PO X lo tl)(hu:PO X hi th):PE X (.Subscript e (.Slice lo hi none p2) pos) (tSl r te tl th):=by
 intro pins s σ H Q I h
 refine Subscript_ (thn (he pins s σ H _ I h) fun v s1 ⟨x,H1,I1,r1,q1⟩=>?_)
 refine wpAny_Slice (thn (hl pins s1 σ H1 _ I1 q1) fun vl s2 ⟨l,H2,I2,pl,q2⟩=>thn (hu pins s2 σ H2 _ I2 q2) fun vu s3 ⟨u,H3,I3,pu,q3⟩=>?_)
 rw[evalPart_none]
 refine wpAny_pure ?_
 have I4:Inv X pins σ H3 { s3 with heap:=s3.heap.push { cls:=.type "slice",data:=.fields #[vl,vu,.none] } }:=I3.kept (t':=s3.toks) fun b ob q=>Heap.get?_push_of_some _ q
 obtain⟨T,id,hT,ht,hg⟩:=hr pins { s3 with heap:=s3.heap.push { cls:=.type "slice",data:=.fields #[vl,vu,.none] } } σ H3 x v vl vu l u s3.heap.objs.size Q I4 r1 (Heap.IsSliceOf.new ..) pl pu q3
 show wpAny (model X.prog X.w) X.A (subscriptTail e (.Slice lo hi none p2) v (.ref s3.heap.objs.size)) (EP X pins σ Q) X.xe { s3 with heap:=s3.heap.push { cls:=.type "slice",data:=.fields #[vl,vu,.none] } }
 exact tail_any (ops:=[.ref s3.heap.objs.size,v]) ht hT hg (by with_unfolding_all rfl)
def cutV(xs:List V)(lo hi:Option Int):List V:=(xs.drop (HT.sIx xs.length 0 lo)).take (HT.sIx xs.length xs.length hi-HT.sIx xs.length 0 lo)
theorem EG(xs:List V)(lo hi:Option Int):(cutV xs lo hi).length<=xs.length:=by
 unfold cutV
 rw[QK,Rx]
 omega
end
end L2
namespace L2
open PySem PySem.Spec PyProof.Rows
def ixN(n:Nat)(i:Int):Option Nat:=if 0<=i then(if i<n then some i.toNat else none) else if -(n:Int)<=i then some (i+n).toNat else none
def atI{α:Type}(xs:List α)(i:Int):Option α:=(ixN xs.length i).bind fun j=>xs[j]?
theorem KH{n:Nat}{i:Int}{j:Nat}(h:ixN n i=some j):seqIndex? i n=some j/\j<n/\-(n:Int)<=i/\i<n:=by
 unfold ixN at h
 by_cases h0:0<=i
 ·rw[if_pos h0]at h
  by_cases h1:i<n
  ·rw[if_pos h1]at h
   have e:i.toNat=j:=Qt h
   exact⟨by rw[seqIndex_of h0 h1,e],by omega,by omega,h1⟩
  ·rw[if_neg h1]at h;cases h
 ·rw[if_neg h0]at h
  by_cases h1 : -(n:Int)<=i
  ·rw[if_pos h1]at h
   have e:(i+n).toNat=j:=Qt h
   exact⟨by rw[seqIndex_neg (by omega) h1,e],by omega,h1,by omega⟩
  ·rw[if_neg h1]at h;cases h
theorem Ff{α:Type}{xs:List α}{i:Int}{v:α}(h:atI xs i=some v):∃ j,seqIndex? i xs.length=some j/\xs[j]?=some v/\j<xs.length/\-(xs.length:Int)<=i/\i<xs.length:=by
 unfold atI at h
 cases e:ixN xs.length i with
 |none=>rw[e]at h;cases h
 |some j =>
  rw[e]at h
  obtain⟨h1,h2,h3,h4⟩:=KH e
  exact⟨j,h1,h,h2,h3,h4⟩
theorem aQ{α:Type}{xs:List α}{j:Nat}{v:α}(h:xs[j]?=some v):atI xs (j:Int)=some v:=by
 have hj:j<xs.length:=(P0.mp h).1
 have e:ixN xs.length (j:Int)=some j:=by
  unfold ixN
  rw[if_pos (by omega),if_pos (by omega)];simp
 unfold atI;rw[e];exact h
theorem zf{α:Type}(xs:List α)(v:α):atI (xs++[v]) (-1)=some v:=by
 have hl:(xs++[v]).length=xs.length+1:=by simp
 have e:ixN (xs++[v]).length (-1)=some xs.length:=by
  unfold ixN
  rw[hl,if_neg (by decide),if_pos (by omega)]
  congr 1
  omega
 unfold atI
 rw[e]
 show(xs++[v])[xs.length]?=some v
 simp
def Fw(b:Expr):Prop:=∀ o i,subscripted b false o i=operate [o,i] (getItem o i)
def IxR(X:Cx)(r:R2):Prop :=
 ∀(value slice:Expr)(pins:List (Addr×Obj))(s:Shared)(σ:St)(H:Hp)(x y:V)(v u:Value)(Q:VK),Inv X pins σ H s->RelV x v->RelV y u->r x y H Q ->
  subscripted slice false v u=operate [v,u] (getItem v u)->wpAny (model X.prog X.w) X.A (subscriptTail value slice v u) (EP X pins σ Q) X.xe s
def MtR(X:Cx)(id:String)(r:V->List V->Hp->VK->Prop):Prop :=
 ∀(pins:List (Addr×Obj))(s:Shared)(σ:St)(H:Hp)(x:V)(xs:List V)(v:Value)(us:List Value)(Q:VK),Inv X pins σ H s->RelV x v->Vals xs us->r x xs H Q ->
  wpAny (model X.prog X.w) X.A (call (.builtin id) (v::us)) (EP X pins σ Q) X.xe s
section
variable{X:Cx}{a b:Expr}{ta tb:TE}{pos:Pos}
theorem aG{r:R2}(hr:IxR X r)(ha:PE X a ta)(hb:PE X b tb)(hs:Fw b):PE X (.Subscript a b pos) (tOp r ta tb):=by
 intro pins s σ H Q I h
 exact Subscript_ (binT ha hb I h fun v u s2 x y H2 I2 rx ry q=>hr a b pins s2 σ H2 x y v u Q I2 rx ry q (hs _ _))
def rIxL(K:P1):R2:=fun x y H Q=>∃ p xs i v,x=.ref p/\y=.int i/\SqL K H p xs/\atI xs i=some v/\Q v H
def rIxT(K:P1):R2:=fun x y H Q=>∃ p xs i v,x=.ref p/\y=.int i/\SqT K H p xs/\atI xs i=some v/\Q v H
def rIxS:R2:=fun x y H Q=>∃ z i c,x=.str z/\y=.int i/\z.length<=sizeLine/\atI z.cps.toList i=some c/\Q (.str ⟨#[c]⟩) H
theorem av:IxR X (rIxL X.K):=by
 intro value slice pins s σ H x y v u Q I rx ry h hs
 obtain⟨p,xs,i,z,rfl,rfl,hq,he,q⟩:=h
 cases rx
 obtain⟨t,rfl⟩:=ry
 obtain⟨its,r,pl,hz⟩:=I.list hq
 obtain⟨j,h1,h2,h3,h4,h5⟩:=Ff he
 obtain⟨w,ew,rw'⟩:=r.get h2
 have hl:=r.length
 have hn:=tj
 have fin:EP X pins σ Q w s:=⟨z,H,I,rw',q⟩
 by_cases h0:0<=i
 ·have hj:i.toNat=j:=by
   rw[seqIndex_of h0 h5]at h1
   exact Qt h1
  exact item_listR pl.isList h0 (by omega) (by rw[hj];simpa using ew) fin hs
 ·have hj:(i+(its.toArray.size:Int)).toNat=j:=by
   rw[seqIndex_neg (by omega) h4]at h1
   rw[Qq,← hl]
   exact Qt h1
  exact subscriptTail_builtinR (x:=w) pl.isList.typeIs slot_list_getitem.lookup
   (wpAny_getItem_list_neg (Q:=fun r s'=>r=w/\EP X pins σ Q r s') pl.isList (by omega) (by rw[Qq]<;>omega) (by omega) (by rw[hj];simpa using ew) ⟨rfl,fin⟩) hs
theorem a8:IxR X (rIxT X.K):=by
 intro value slice pins s σ H x y v u Q I rx ry h hs
 obtain⟨p,xs,i,z,rfl,rfl,hq,he,q⟩:=h
 cases rx
 obtain⟨t,rfl⟩:=ry
 obtain⟨its,r,pl,hz⟩:=I.tuple hq
 obtain⟨j,h1,h2,h3,h4,h5⟩:=Ff he
 obtain⟨w,ew,rw'⟩:=r.get h2
 have hl:=r.length
 have hn:=tj
 have fin:EP X pins σ Q w s:=⟨z,H,I,rw',q⟩
 exact subscriptTail_builtinR (x:=w) pl.typeIs slot_tuple_getitem.lookup
  (getItem_tuple (j:=j) (Q:=fun r s'=>r=w/\EP X pins σ Q r s') pl (by omega) (by omega) (by rw[Qq,← hl];exact h1) (by simpa using ew) ⟨rfl,fin⟩) hs
theorem NM:IxR X rIxS:=by
 intro value slice pins s σ H x y v u Q I rx ry h hs
 obtain⟨z,i,c,rfl,rfl,hz,he,q⟩:=h
 obtain⟨t,rfl⟩:=rx
 obtain⟨t',rfl⟩:=ry
 obtain⟨j,h1,h2,h3,h4,h5⟩:=Ff he
 have hl:z.cps.toList.length=z.length:=by simp[Str.length]
 rw[hl]at h1 h4 h5
 have hn:=tj
 exact tail_any (typeIs_str s z t) slot_str_getitem.lookup (getItem_str (c:=c) (by
  have e1:decide (i < -(2^63:Int))=false:=decide_eq_false (by omega)
  have e2:decide (i ≥ 2^63)=false:=decide_eq_false (by omega)
  rw[e1,e2,Tr]) (by rw[h1];simpa using h2) ⟨.str ⟨#[c]⟩,H,I.tok _,⟨_,rfl⟩,q⟩) hs
theorem Hs(its:List Value)(n j:Nat)(u:Value):Obj.mapSeq (·.setIfInBounds j u) { cls:=.type "list",data:=.seq its.toArray n }={ cls:=.type "list",data:=.seq (its.set j u).toArray n }:=by
 simp[Obj.mapSeq]
theorem Inv.lst{pins:List (Addr×Obj)}{σ:St}{H:Hp}{s:Shared}{p:Addr}{xs:List V}(I:Inv X pins σ H s)(h:H p=some (.lst xs)) :
  ∃(its:List Value)(n:Nat),Vals xs its/\s.heap.get? p=some { cls:=.type "list",data:=.seq its.toArray n }/\xs.length<=sizeLine:=by
 obtain⟨z,its,n,r,e⟩:=I.hok p _ h
 exact⟨its,n,r,e,z⟩
theorem Inv.lstUpd{pins:List (Addr×Obj)}{σ:St}{H:Hp}{s:Shared}{p:Addr}{xs ys:List V}{its its':List Value}{n n':Nat}{f:Obj->Obj}(I:Inv X pins σ H s)(h:H p=some (.lst xs))
  (ho:s.heap.get? p=some { cls:=.type "list",data:=.seq its.toArray n }) (hf:f { cls:=.type "list",data:=.seq its.toArray n }={ cls:=.type "list",data:=.seq its'.toArray n' }) (r:Vals ys its') (hz:ys.length<=sizeLine) (t:Nat) :
  Inv X pins σ (upd H p (.lst ys)) { s with heap:=s.heap.update p f,toks:=t }:=by
 have e:(s.heap.update p f).get? p=some { cls:=.type "list",data:=.seq its'.toArray n' }:=by
  rw[Heap.get?_update_self f ho (by rw[hf]<;>rfl),hf]
 refine I.write (x:=p) (e:=p) (by rw[h];trivial) (.inl rfl) (fun b u hb q=>(Heap.get?_update_other _ _ (Ne.symm hb)).trans q) ⟨_,e⟩ ?_
 exact⟨hz,its',n',r,e⟩
def rSetL:V->V->V->Hp->(Hp->Prop)->Prop:=fun o i v H Q=>∃ p xs k j,o=.ref p/\i=.int k/\H p=some (.lst xs)/\ixN xs.length k=some j/\Q (upd H p (.lst (xs.set j v)))
theorem kH:PSet X rSetL:=by
 intro pins s σ H o i v ov iv u Q I ro ri rv h
 obtain⟨p,xs,k,j,rfl,rfl,hp,hj,q⟩:=h
 cases ro
 obtain⟨t,rfl⟩:=ri
 obtain⟨its,n,r,ho,hz⟩:=I.lst hp
 obtain⟨h1,h2,h3,h4⟩:=KH hj
 have hl:=r.length
 have hn:=tj
 have I':Inv X pins σ (upd H p (.lst (xs.set j v))) { s with heap:=s.heap.update p (Obj.mapSeq (·.setIfInBounds j u)) } :=
  I.lstUpd hp ho (Hs its n j u) (r.set rv j) (by rw[QM];exact hz) s.toks
 by_cases h0:0<=k
 ·have hk:k.toNat=j:=by
   rw[seqIndex_of h0 h4]at h1
   exact Qt h1
  exact PySem.W.ki_setAt ho h0 (by omega) (by rw[Qq,← hl];exact h4) (by rw[hk];exact⟨_,I',q⟩)
 ·have hk:(k+(its.toArray.size:Int)).toNat=j:=by
   rw[seqIndex_neg (by omega) h3]at h1
   rw[Qq,← hl]
   exact Qt h1
  exact PySem.W.ki_setBack ho (by omega) (by rw[Qq,← hl];exact h3) (by omega) (by rw[hk];exact⟨_,I',q⟩)
theorem zB(lo hi:Option Int)(n:Nat):(sliceBounds lo hi none n).1=((HT.sIx n 0 lo:Nat):Int)/\(sliceBounds lo hi none n).2.1=((HT.sIx n n hi:Nat):Int)/\(sliceBounds lo hi none n).2.2=1:=by
 refine⟨?_,?_,rfl⟩
 ·cases lo with
  |none=>simp[sliceBounds,HT.sIx]
  |some i =>
   simp only[sliceBounds,HT.sIx,Option.getD_none,show(1:Int) > 0 by decide,if_true]
   by_cases h:i<0
   ·simp only[h,if_true]<;>omega
   ·simp only[h,if_false]<;>omega
 ·cases hi with
  |none=>simp[sliceBounds,HT.sIx]
  |some i =>
   simp only[sliceBounds,HT.sIx,Option.getD_none,show(1:Int) > 0 by decide,if_true]
   by_cases h:i<0
   ·simp only[h,if_true]<;>omega
   ·simp only[h,if_false]<;>omega
theorem xI(its:List Value)(lo hi:Option Int):slicePick its.toArray lo hi none=((its.drop (HT.sIx its.length 0 lo)).take (HT.sIx its.length its.length hi-HT.sIx its.length 0 lo)).toArray:=by
 obtain⟨h1,h2,h3⟩:=zB lo hi its.toArray.size
 unfold slicePick
 rw[h1,h2,h3]
 simp only[sliceRange_one,pick_run,Qq]<;>rfl
def rSlL(K:P1):V->Option Int->Option Int->Hp->VK->Prop:=fun x lo hi H Q=>∃ a xs,x=.ref a/\SqL K H a xs/\∀ p,H p=none->Q (.ref p) (upd H p (.lst (cutV xs lo hi)))
theorem lU:SlR X (rSlL X.K):=by
 intro pins s σ H x v vl vu lo hi sl Q I rx hs pl pu h
 obtain⟨a,xs,rfl,hx,q⟩:=h
 cases rx
 obtain⟨its,r,ht,hz⟩:=I.list hx
 have hlen:=r.length
 refine⟨"list",_,slot_list_getitem.lookup,ht.isList.typeIs,?_⟩
 refine wpAny_getItem_list_slice ht.isList hs pl pu .none (by simp) ?_ (by rw[Qq]<;>omega)
 rw[xI,← hlen]
 refine⟨.ref s.heap.objs.size,_,I.laid (t':=s.toks) (o:=.lst (cutV xs lo hi)) (fun b ob q=>Heap.get?_push_of_some _ q) (P9 _) ?_,rfl,q _ (I.hok.fresh (P9 _))⟩
 exact⟨QG (EG xs lo hi) hz,_,0,(r.drop (HT.sIx xs.length 0 lo)).take (HT.sIx xs.length xs.length hi-HT.sIx xs.length 0 lo),Heap.get?_push_size _ rfl⟩
def yH:V->Bool
 |.non=>true
 |.bl _=>true
 |.int _=>true
 |.str _=>true
 |_=>false
def eqV:V->V->Bool
 |.non,.non=>true
 |.bl a,.bl b=>a == b
 |.bl a,.int b=>(if a then 1 else 0) == b
 |.int a,.bl b=>a == (if b then 1 else 0)
 |.int a,.int b=>a == b
 |.str a,.str b=>a == b
 |_,_=>false
theorem eqAt_V{A:Around}{s:Shared}{y x:V}{u v:Value}(ry:RelV y u)(rx:RelV x v)(fy:yH y=true)(fx:yH x=true):SeqAt.EqAt A s u v (eqV y x):=by
 cases y with
 |non =>
  cases ry
  cases x with
  |non=>cases rx;exact SeqAt.EqAt.same _
  |bl b=>cases rx;exact SeqAt.EqAt.none_bool b
  |int b=>obtain⟨t,rfl⟩:=rx;exact SeqAt.EqAt.none_int b t
  |str b=>obtain⟨t,rfl⟩:=rx;exact SeqAt.EqAt.none_str b t
  |_=>exact absurd (show false=true from fx) Qw
 |bl a =>
  cases ry
  cases x with
  |non=>cases rx;exact SeqAt.EqAt.bool_none a
  |bl b=>cases rx;exact SeqAt.EqAt.bool_bool a b
  |int b=>obtain⟨t,rfl⟩:=rx;exact SeqAt.EqAt.bool_int a b t
  |str b=>obtain⟨t,rfl⟩:=rx;exact SeqAt.EqAt.bool_str a b t
  |_=>exact absurd (show false=true from fx) Qw
 |int a =>
  obtain⟨t',rfl⟩:=ry
  cases x with
  |non=>cases rx;exact SeqAt.EqAt.int_none a t'
  |bl b=>cases rx;exact SeqAt.EqAt.int_bool a t' b
  |int b=>obtain⟨t,rfl⟩:=rx;exact SeqAt.EqAt.int_int a t' b t
  |str b=>obtain⟨t,rfl⟩:=rx;exact SeqAt.EqAt.int_str a t' b t
  |_=>exact absurd (show false=true from fx) Qw
 |str a =>
  obtain⟨t',rfl⟩:=ry
  cases x with
  |non=>cases rx;exact SeqAt.EqAt.str_none a t'
  |bl b=>cases rx;exact SeqAt.EqAt.str_bool a t' b
  |int b=>obtain⟨t,rfl⟩:=rx;exact SeqAt.EqAt.str_int a t' b t
  |str b=>obtain⟨t,rfl⟩:=rx;exact SeqAt.EqAt.str_str a t' b t
  |_=>exact absurd (show false=true from fx) Qw
 |_=>exact absurd (show false=true from fy) Qw
def eqU(x:V)(u:Value):Bool:=match u with
 |.none=>eqV .non x
 |.bool b=>eqV (.bl b) x
 |.int i _=>eqV (.int i) x
 |.str z _=>eqV (.str z) x
 |_=>false
theorem NP{x y:V}{u:Value}(r:RelV y u)(f:yH y=true):eqU x u=eqV y x:=by
 cases y with
 |non=>cases r;rfl
 |bl b=>cases r;rfl
 |int i=>obtain⟨t,rfl⟩:=r;rfl
 |str z=>obtain⟨t,rfl⟩:=r;rfl
 |_=>exact absurd (show false=true from f) Qw
theorem Fg{x:V}:∀{xs:List V}{us:List Value},Vals xs us->xs.all yH=true->us.any (eqU x)=xs.any fun y=>eqV y x
 |_,_,.nil,_=>rfl
 |y::xs,u::us,.cons r t,f=>by
  rw[Sb,QT]at f
  rw[RA,RA,NP r f.1,Fg t f.2]
theorem ym{A:Around}{s:Shared}{x:V}{v:Value}(rx:RelV x v)(fx:yH x=true):∀{xs:List V}{us:List Value},Vals xs us->xs.all yH=true->∀ u∈us,SeqAt.EqAt A s u v (eqU x u)
 |_,_,.nil,_=>fun u hu=>by cases hu
 |y::xs,u::us,.cons r t,f=>fun u' hu=>by
  rw[Sb,QT]at f
  rcases P8.mp hu with rfl | hu
  ·rw[NP r f.1];exact eqAt_V r rx f.1 fx
  ·exact ym rx fx t f.2 u' hu
def inV(x:V)(xs:List V):Bool:=xs.any fun y=>eqV y x
def rIn(K:P1)(neg:Bool):R2:=fun x y H Q=>∃ p xs,y=.ref p/\(SqL K H p xs∨SqT K H p xs)/\yH x=true/\xs.all yH=true/\Q (.bl (if neg then !inV x xs else inV x xs)) H
theorem jE:OpR X (compareOp .In) (rIn X.K false):=by
 intro pins s σ H x y v u Q I rx ry h
 obtain⟨p,xs,rfl,hq,fx,fs,q⟩:=h
 cases ry
 rcases hq with hq | hq
 ·obtain⟨its,r,pl,hz⟩:=I.list hq
  refine SeqAt.in_listAt (eqU x) pl.isList (fun w hw=>ym rx fx r fs w (by simpa using hw)) ⟨.bl _,H,I,rfl,?_⟩
  rw[show its.toArray.any (eqU x)=its.any (eqU x) by simp,Fg r fs]
  exact q
 ·obtain⟨its,r,pl,hz⟩:=I.tuple hq
  refine SeqAt.in_tupleAt (eqU x) pl (fun w hw=>ym rx fx r fs w (by simpa using hw)) ⟨.bl _,H,I,rfl,?_⟩
  rw[show its.toArray.any (eqU x)=its.any (eqU x) by simp,Fg r fs]
  exact q
theorem aq:jy X (.builtin "len") (fun xs H Q=>∃ p ys,xs = [.ref p]/\(SqL X.K H p ys∨SqT X.K H p ys)/\Q (.int ys.length) H):=by
 intro pins s σ H xs us Q I r h
 obtain⟨p,ys,rfl,hq,q⟩:=h
 obtain⟨u,rfl,rx⟩:=qO r
 cases rx
 have hn:=tj
 rcases hq with hq | hq
 ·obtain⟨its,r',pl,hz⟩:=I.list hq
  have hlen:=r'.length
  exact Calls.call_len_list pl.isList (by simp only[Qq]<;>omega) ⟨.int ys.length,H,I.tok _,⟨s.toks+1,by rw[Qq,hlen]⟩,q⟩
 ·obtain⟨its,r',pl,hz⟩:=I.tuple hq
  have hlen:=r'.length
  exact len_tuple pl (by simp only[Qq]<;>omega) ⟨.int ys.length,H,I.tok _,⟨s.toks+1,by rw[Qq,hlen]⟩,q⟩
theorem kc:jy X (.builtin "len") (fun xs H Q=>∃ z,xs = [.str z]/\z.length<=sizeLine/\Q (.int z.length) H):=by
 intro pins s σ H xs us Q I r h
 obtain⟨z,rfl,hz,q⟩:=h
 obtain⟨u,rfl,t,rfl⟩:=qO r
 have hn:=tj
 exact len_str (by omega) ⟨.int z.length,H,I.tok _,⟨_,rfl⟩,q⟩
theorem bN:jy X (.type "list") (fun xs H Q=>∃ p ys,xs = [.ref p]/\(SqL X.K H p ys∨SqT X.K H p ys)/\∀ l,H l=none->Q (.ref l) (upd H l (.lst ys))):=by
 intro pins s σ H xs us Q I r h
 obtain⟨p,ys,rfl,hq,q⟩:=h
 obtain⟨u,rfl,rx⟩:=qO r
 cases rx
 have fin:∀(its:List Value),Vals ys its->ys.length<=sizeLine->∀(h':Heap)(c':Nat),(∀ b o',s.heap.get? b=some o'->h'.get? b=some o') ->
   h'.get? s.heap.objs.size=some { cls:=.type "list",dict:=none,data:=.seq its.toArray c',slots:=#[] }->EP X pins σ Q (.ref s.heap.objs.size) { s with heap:=h' }:=fun its r' hz h' c' kp e =>
  ⟨.ref s.heap.objs.size,_,I.laid (t':=s.toks) kp (P9 _) (show b5 X.prog X.w _ h' _ (.lst ys) from⟨hz,its,c',r',e⟩),rfl,q _ (I.hok.fresh (P9 _))⟩
 rcases hq with hq | hq
 ·obtain⟨its,r',pl,hz⟩:=I.list hq
  have hlen:=r'.length
  obtain⟨o,ho,hc,n,hd⟩:=pl.isList
  exact call_list_seq p (.inl rfl) ho hc hd (fun h' c' kp e=>fin its r' hz h' c' kp e) (by simp only[Qq]<;>omega)
 ·obtain⟨its,r',pl,hz⟩:=I.tuple hq
  have hlen:=r'.length
  obtain⟨o,ho,hc,n,hd⟩:=pl
  exact call_list_seq p (.inr rfl) ho hc hd (fun h' c' kp e=>fin its r' hz h' c' kp e) (by simp only[Qq]<;>omega)
def tyV(K:P1)(T:String)(x:V)(H:Hp):Prop:=match x with
 |.str _=>T = "str"
 |.int _=>T = "int"
 |.ref p=>(T = "list"/\∃ xs,SqL K H p xs)∨(T = "tuple"/\∃ o,K.lookup p=some o/\o.cls=.type "tuple"/\o.dict=none) ∨
   (T = "dict"/\((∃ kvs,H p=some (.dK kvs))∨∃ kvs,H p=some (.dT kvs)))∨(T = "set"/\∃ S n,H p=some (.set S n))
 |_=>False
theorem Nm{pins:List (Addr×Obj)}{σ:St}{H:Hp}{s:Shared}{T:String}{x:V}{v:Value}(I:Inv X pins σ H s)(r:RelV x v)(ty:tyV X.K T x H) :
  s.TypeIs v T/\∀ a,v=.ref a->∃ ob,s.heap.get? a=some ob/\ob.dict=none:=by
 cases x with
 |str z =>
  obtain⟨t,rfl⟩:=r
  cases (show T = "str" from ty)
  exact⟨typeIs_str s z t,fun _ e=>nomatch e⟩
 |int i =>
  obtain⟨t,rfl⟩:=r
  cases (show T = "int" from ty)
  exact⟨typeIs_int s i t,fun _ e=>nomatch e⟩
 |ref p =>
  cases r
  rcases ty with⟨rfl,xs,hq⟩ | ⟨rfl,o,hk,hc,hd⟩ | ⟨rfl,hk⟩ | ⟨rfl,S,n,hk⟩
  ·obtain⟨its,_,pl,_⟩:=I.list hq
   refine⟨pl.isList.typeIs,fun a e=>?_⟩
   cases e
   obtain⟨o,n,e,c,hd,_⟩:=pl
   exact⟨o,e,hd⟩
  ·refine⟨⟨o,I.kIn p o hk,hc⟩,fun a e=>?_⟩
   cases e
   exact⟨o,I.kIn _ o hk,hd⟩
  ·have z:∃ o,s.heap.get? p=some o/\o.ExactDict:=by
    rcases hk with⟨kvs,hk⟩ | ⟨kvs,hk⟩
    ·obtain⟨_,_,_,_,o,_,_,e,ex,_⟩:=I.hok p _ hk
     exact⟨o,e,ex⟩
    ·obtain⟨_,_,_,_,o,_,_,e,ex,_⟩:=I.hok p _ hk
     exact⟨o,e,ex⟩
   obtain⟨o,e,ex⟩:=z
   refine⟨⟨o,e,ex.1⟩,fun a e2=>?_⟩
   cases e2
   exact⟨o,e,ex.2.1⟩
  ·obtain⟨o,_,_,_,e,ex,_⟩:=I.hok p _ hk
   refine⟨⟨o,e,ex.1⟩,fun a e2=>?_⟩
   cases e2
   exact⟨o,e,ex.2.1⟩
 |_=>exact False.elim ty
def tBM0(K:P1)(T:String)(r:V->List V->Hp->VK->Prop)(to:TE):TE:=fun σ H Q=>to σ H fun x H1=>tyV K T x H1/\r x [] H1 Q
def tBM(K:P1)(T:String)(r:V->List V->Hp->VK->Prop)(to:TE)(t:TA):TE:=fun σ H Q=>to σ H fun x H1=>tyV K T x H1/\t σ H1 fun xs H2=>r x xs H2 Q
variable{o e:Expr}{es:List Expr}{to:TE}{t:TA}{name:Str}{apos cpos:Pos}{T id:String}{r:V->List V->Hp->VK->Prop}
theorem FK(pa:PlainAttrs T)(slot:Slot T name id) (hty:typeOf (.builtin id)=pure (.type "method_descriptor")) (hm:MtR X id r) (ho:PE X o to)
  (hbase:attributeBase o name X.env (eval o X.env)=eval o X.env:=by rfl) (hline:(apos.endLine == cpos.line)=true:=by rfl):PE X (.Call (.Attribute o name apos) [] [] cpos) (tBM0 X.K T r to):=by
 intro pins s σ H Q I h
 refine wpAny_Call_method0_late hbase hline (thn (ho pins s σ H _ I h) fun v s1 ⟨x,H1,I1,r1,ty,q1⟩=>?_)
 obtain⟨h1,h2⟩:=Nm I1 r1 ty
 exact⟨T,id,pa,slot,hty,h1,h2,Calls.callWith_builtin rfl (PySem.evalArgs_none (hm pins s1 σ H1 x [] v [] Q I1 r1 .nil q1))⟩
theorem bK(pa:PlainAttrs T)(slot:Slot T name id) (hty:typeOf (.builtin id)=pure (.type "method_descriptor")) (hm:MtR X id r) (ho:PE X o to) (ha:PA X (e::es) t)
  (hbase:attributeBase o name X.env (eval o X.env)=eval o X.env:=by rfl)
  (hfew:((backTo cpos (starEach (e::es) X.env)).all (fun x=>!x.1)&&(backToKw cpos (keywordEach [] X.env)).all (fun x=>x.1.isSome)
   && decide ((e::es).length+([]:List Keyword).length+(if([]:List Keyword).isEmpty then 0 else 1)<30))=true:=by rfl)
  (hline:(apos.endLine == cpos.line)=true:=by rfl) (hs:starEach (e::es) X.env=(false,eval e X.env)::starEach es X.env:=by rfl) (hplain:(backTo cpos (starEach es X.env)).any (·.1)=false:=by rfl) :
  PE X (.Call (.Attribute o name apos) (e::es) [] cpos) (tBM X.K T r to t):=by
 intro pins s σ H Q I h
 refine wpAny_Call_method_late hbase hfew hline rfl (thn (ho pins s σ H _ I h) fun v s1 ⟨x,H1,I1,r1,ty,q1⟩=>?_)
 obtain⟨h1,h2⟩:=Nm I1 r1 ty
 refine⟨T,id,pa,slot,hty,h1,h2,?_⟩
 have hA:=ha cpos pins s1 σ H1 _ I1 q1
 rw[hs]at hA ⊢
 refine Calls.callWith_builtin (by show(false||(backTo cpos (starEach es X.env)).any (·.1))=false;rw[hplain]<;>rfl) (Calls.evalArgs_plain ?_)
 exact thn hA fun us s2 ⟨vs,H2,I2,r2,q2⟩=>hm pins s2 σ H2 x vs v us Q I2 r1 r2 q2
end
end L2
namespace L2
open PySem PySem.Spec PyProof.Rows
def MtM(X:Cx)(id:String)(r:V->List V->Hp->VK->Prop):Prop :=
 ∀(pins:List (Addr×Obj))(s:Shared)(σ:St)(H:Hp)(x:V)(xs:List V)(v:Value)(us:List Value)(Q:VK),Inv X pins σ H s->RelV x v->Vals xs us->r x xs H Q ->
  wpAny (model X.prog X.w) X.A (call (.builtin id) (v::us)) (EP X pins σ Q) X.xe s
theorem Vals.one:∀{x:V}{us:List Value},Vals [x] us->∃ u,us = [u]/\RelV x u
 |_,_,.cons r .nil=>⟨_,rfl,r⟩
theorem Vals.two:∀{x y:V}{us:List Value},Vals [x,y] us->∃ u v,us = [u,v]/\RelV x u/\RelV y v
 |_,_,_,.cons r (.cons q .nil)=>⟨_,_,rfl,r,q⟩
theorem Vals.zero:∀{us:List Value},Vals [] us->us = []
 |_,.nil=>rfl
theorem Vals.dropLast{xs:List V}{us:List Value}(h:Vals xs us):Vals xs.dropLast us.dropLast:=by
 induction h with
 |nil=>exact .nil
 |cons r t ih =>
  cases t with
  |nil=>exact .nil
  |cons q t'=>exact .cons r ih
theorem HS{α:Type}(l:List α):l.eraseIdx (l.length-1)=l.dropLast:=by
 induction l with
 |nil=>rfl
 |cons a r ih =>
  cases r with
  |nil=>rfl
  |cons b r =>
   have e:(a::b::r).length-1=((b::r).length-1)+1:=by
    have h1:(a::b::r).length=r.length+2:=rfl
    have h2:(b::r).length=r.length+1:=rfl
    omega
   rw[e,List.eraseIdx_cons_succ,ih]
   all_goals rfl
section
variable{X:Cx}{pins:List (Addr×Obj)}{σ:St}{H:Hp}{s:Shared}{l b:Addr}{xs ys zs:List V}
theorem Inv.lset{its its':List Value}{n:Nat}{f:Array Value->Array Value}{t':Nat}(I:Inv X pins σ H s)(hH:H l=some (.lst xs))
  (e:s.heap.get? l=some { cls:=.type "list",data:=.seq its.toArray n }) (hf:f its.toArray=its'.toArray) (hv:Vals ys its') (hz:ys.length<=sizeLine) :
  Inv X pins σ (upd H l (.lst ys)) { s with heap:=s.heap.update l (Obj.mapSeq f),toks:=t' }:=by
 have q:=PySem.IsL.update e f
 rw[hf]at q
 refine I.write (x:=l) (e:=l) (by rw[hH];exact trivial) (.inl rfl) (fun b' u hb hu=>(Heap.get?_update_other s.heap (Obj.mapSeq f) (Ne.symm hb)).trans hu) ⟨_,q⟩ ?_
 exact⟨hz,its',_,hv,q⟩
theorem Inv.lnew{its:List Value}{t':Nat}(I:Inv X pins σ H s)(hv:Vals ys its)(hz:ys.length<=sizeLine) :
  Inv X pins σ (upd H s.heap.objs.size (.lst ys)) { s with heap:=s.heap.push { cls:=.type "list",data:=.seq its.toArray },toks:=t' } :=
 I.laid (fun _ _ q=>Heap.get?_push_of_some _ q) (P9 _) ⟨hz,its,0,hv,Heap.get?_push_size _ rfl⟩
theorem Inv.fresh(I:Inv X pins σ H s):H s.heap.objs.size=none:=I.hok.fresh (P9 _)
theorem Inv.lstM(I:Inv X pins σ H s)(hH:H l=some (.lst xs)):xs.length<=sizeLine/\∃(its:List Value)(n:Nat),Vals xs its/\xs.length=its.length/\s.heap.get? l=some { cls:=.type "list",data:=.seq its.toArray n }:=by
 obtain⟨z,its,n,r,e⟩:=I.hok l _ hH
 exact⟨z,its,n,r,r.length,e⟩
theorem MK{n:Nat}(h:n<=sizeLine):Builtin.List.listTooLong n=false:=by
 unfold Builtin.List.listTooLong
 exact decide_eq_false (by omega)
end
section
variable{X:Cx}
def OA:V->List V->Hp->VK->Prop:=fun x vs H Q=>∃ l xs y,x=.ref l/\vs = [y]/\H l=some (.lst xs)/\xs.length<sizeLine/\Q .non (upd H l (.lst (xs++[y])))
theorem aZ:MtM X "list.append" OA:=by
 intro pins s σ H x vs v us Q I rx rv h
 obtain⟨l,xs,y,rfl,rfl,hH,hz,q⟩:=h
 cases rx
 obtain⟨u,rfl,ru⟩:=rv.one
 obtain⟨z,its,n,r,hl,e⟩:=I.lstM hH
 refine call_meets F.slot_list_append ⟨_,e,rfl⟩ F.entry_list_append (F.args_list_append_2 _ _) (PySem.list_append l its.toArray n u (by rw[Qq];omega)) ⟨e,?_⟩
 refine⟨.non,_,I.lset (its':=its++[u]) hH e (by simp) (r.append (.cons ru .nil)) ?_,rfl,q⟩
 rw[P2,Qa]
 omega
def Oz:V->List V->Hp->VK->Prop:=fun x vs H Q=>∃ l b xs zs,x=.ref l/\vs = [.ref b]/\H l=some (.lst xs)/\H b=some (.lst zs)/\xs.length+zs.length<=sizeLine/\Q .non (upd H l (.lst (xs++zs)))
theorem AH:MtM X "list.extend" Oz:=by
 intro pins s σ H x vs v us Q I rx rv h
 obtain⟨l,b,xs,zs,rfl,rfl,hH,hB,hz,q⟩:=h
 cases rx
 obtain⟨u,rfl,ru⟩:=rv.one
 cases ru
 obtain⟨z,its,n,r,hl,e⟩:=I.lstM hH
 obtain⟨z2,its2,n2,r2,hl2,e2⟩:=I.lstM hB
 have hsz:its.toArray.size+its2.toArray.size<=sizeLine:=by rw[Qq,Qq];omega
 have hlong:¬ (!its.toArray.isEmpty&&Builtin.List.listTooLong (its.toArray.size+its2.toArray.size))=true:=by
  rw[MK hsz,Bool.and_false]
  exact Qw
 refine call_meets F.slot_list_extend ⟨_,e,rfl⟩ F.entry_list_extend (F.args_list_extend_2 _ _)
  (AutoSeq1.list_extend_list_list_0 l its.toArray n b its2.toArray n2 hlong (by rw[Qq];omega) (by omega)) ⟨e,e2,?_⟩
 refine⟨.non,_,I.lset (its':=its++its2) hH e (by simp) (r.append r2) ?_,rfl,q⟩
 rw[P2]
 omega
def rPop:V->List V->Hp->VK->Prop:=fun x vs H Q=>∃ l xs y,x=.ref l/\vs = []/\H l=some (.lst xs)/\xs[xs.length-1]?=some y/\Q y (upd H l (.lst xs.dropLast))
theorem FU:MtM X "list.pop" rPop:=by
 intro pins s σ H x vs v us Q I rx rv h
 obtain⟨l,xs,y,rfl,rfl,hH,hy,q⟩:=h
 cases rx
 have hus:=rv.zero
 subst hus
 obtain⟨z,its,n,r,hl,e⟩:=I.lstM hH
 obtain⟨u,hu,ru⟩:=r.get hy
 have hy':its.toArray[its.toArray.size-1]?=some u:=by
  show its.toArray[its.length-1]?=some u
  rw[← SM,← hl]
  exact hu
 refine call_meets F.slot_list_pop ⟨_,e,rfl⟩ F.entry_list_pop (F.args_list_pop_1 _) (MeetsSeq.list_pop_last l its.toArray n u hy' (by rw[Qq];omega)) ⟨e,?_⟩
 refine⟨y,_,I.lset (its':=its.dropLast) hH e ?_ r.dropLast ?_,ru,q⟩
 ·show its.toArray.eraseIdxIfInBounds (its.toArray.size-1)=its.dropLast.toArray
  rw[Qq,List.eraseIdxIfInBounds_toArray,HS]
 ·rw[List.length_dropLast]
  omega
def rCat:R2:=fun x y H Q=>∃ l b xs zs,x=.ref l/\y=.ref b/\H l=some (.lst xs)/\H b=some (.lst zs)/\xs.length+zs.length<=sizeLine/\∀ p,H p=none->Q (.ref p) (upd H p (.lst (xs++zs)))
theorem op_cat:OpR X (binaryOp .Add) rCat:=by
 intro pins s σ H x y v u Q I rx ry h
 obtain⟨l,b,xs,zs,rfl,rfl,hH,hB,hz,q⟩:=h
 cases rx
 cases ry
 obtain⟨z,its,n,r,hl,e⟩:=I.lstM hH
 obtain⟨z2,its2,n2,r2,hl2,e2⟩:=I.lstM hB
 refine PySem.P.add_list e e2 ?_ (by rw[Qq,Qq];omega)
 have ea:its.toArray++its2.toArray=(its++its2).toArray:=by simp
 rw[ea]
 exact⟨.ref _,_,I.lnew (t':=s.toks) (r.append r2) (by rw[P2];omega),rfl,q _ I.fresh⟩
end
section
variable{prog:Program}{w:World}{A:Around}{E:Value->Shared->Prop}{s:Shared}
end
section
variable{X:Cx}
end
end L2
namespace Att
open PySem PySem.W PySem.Calls PyProof.Rows
theorem tS{P:Params}{h:Heap}:∀(ns:List Int)(vs:List Value),WellAll P h vs (ns.map WData.int)->IntsAre vs ns:=by
 intro ns
 induction ns with
 |nil =>
  intro vs w
  rw[List.map_nil]at w
  cases w
  exact .nil
 |cons n ns ih =>
  intro vs w
  rw[QA]at w
  cases w with
  |cons a b =>
   cases a
   exact .cons _ _ (ih _ b)
theorem Jm{l:OpenLaw}{n:Nat}(hn:l.most=some n){P:Params}{h:Heap}{args:List WData}{vals:List Value}
  (hpre:l.row.toRowW.claim.pre args=true) (hwl:WellAll P h vals args) :
  ∃ a vs ns,vals = [Value.ref a]/\args = [WData.list (ns.map WData.int)]/\h.get? a=some { cls:=.type "list",data:=.seq vs.toArray }/\IntsAre vs ns/\ns.length<=n:=by
 have hsh:WShape.hasAll [] args [.list .int]=true:=(pre_splitW hpre).1
 have hc:l.pre.holds [] { args:=args }=true:=(pre_splitW hpre).2
 obtain⟨d,r,rfl,h1,h2⟩:=hasAllW_cons hsh
 obtain rfl:=hasAllW_nil h2
 obtain⟨xs,rfl,h3⟩:=hasW_list h1
 obtain⟨ns,rfl⟩:=items_int h3
 have hlen:ns.length<=n:=by
  unfold OpenLaw.pre at hc
  have h4:(WTm.not (.lt (.lit (.int (n:Int))) (.len (.arg 0)))).holds [] { args:=[.list (ns.map .int)] }=true:=by
   have h4:=(holds_andW hc).1
   rw[hn]at h4
   exact h4
  have h5:=condW_of h4 (w_not (w_lt w_lit (w_len_list (w_arg rfl))))
  rw[P5]at h5
  refine Nat.le_of_not_lt fun q=>?_
  have q':(n:Int)<((ns.length:Nat):Int):=by omega
  first
   | (rw[decide_eq_true q']at h5;exact absurd h5 (by decide))
   | (simp at h5;omega)
 cases hwl with
 |cons w1 w2 =>
  cases w2
  cases w1 with
  |list ho hall=>exact⟨_,_,ns,rfl,rfl,ho,tS ns _ hall,hlen⟩
theorem Jw(l:OpenLaw)(args:List WData):l.row.toRowW.claim.post args (.bool true) args=true :=
 postW_of (r:=l.row.toRowW) (X:=(true == true))
  (show WShape.has [] (.bool true) .bool=true by first | rfl | decide | simp[WShape.has,WShape.arms,WShape.armsAll])
  (show(WTm.eq .res (.lit (.bool true))).value [] { args:=args,res:=some (.bool true),after:=args }=some (.bool (true == true)) from w_eq_bool (w_res rfl) w_lit) rfl
theorem attach_call{l:OpenLaw}{n:Nat}{q:Program}{loose:List Str}{XP:(Str->Option Value)->Heap->Prop}{YP:World->Heap->Prop}{d:DefRec}
  (hn:l.most=some n) (hdf:d.params.defaults = [])
  (call:∀(w:World)(s₀ s₁:Shared)(mg mb:Str->Option Value)(fa:Addr)(o:Obj)(pm cd doc:Value)(a:Addr)(vs:List Value)(ns:List Int),
   Ground q loose [] XP w s₀ mg mb s₁.heap->YP w s₁.heap ->
   s₁.heap.get? fa=some o->o.data=.func (docDef d.name d.params d.body d.scope pm cd doc)->s₁.heap.CodeRec cd d.name->mg d.name=some (.ref fa) ->
   s₁.heap.get? a=some { cls:=.type "list",data:=.seq vs.toArray }->IntsAre vs ns->ns.length<=n->s₁.gens=#[] ->
   codeAny (model l.prog w) callerA (.call (.ref fa) ⟨[.ref a],[]⟩) (fun r s'=>r=.ok (.ret (.bool true))/\OldK s₁.heap s'.heap/\s'.os=s₁.os/\AllBare s'.gens) s₁) :
  WalkO q loose XP YP l.row.toRowW d [] (fun f vs=>PySem.call f vs):=by
 intro w s₀ s₁ mg mb G Y fa o pm cd doc dV kV ho hd hcd hD hmg hg args vals as hpre hlay hrd hwl hlo
 obtain rfl:dV=.none:=Dflts.none hD hdf
 obtain rfl:kV=.none:=Dflts.noKw hD
 obtain⟨a,vs,ns,rfl,rfl,hobj,hints,hlen⟩:=Jm hn hpre hwl
 refine enter_call (codeAny_mono (call w s₀ s₁ mg mb fa o pm cd doc a vs ns G Y ho (fd_plain hd) hcd hmg hobj hints hlen hg) fun r s' hq=>?_)
 obtain⟨rfl,h2,h3,h4⟩:=hq
 exact⟨.inl ⟨.bool true,.bool true,[],rfl,fun _=>rfl,.bool true,Jw l _,fun _=>⟨List.Pairwise.nil,fun _ hm=>(nomatch hm)⟩⟩,h2,h3,h4⟩
section
variable{prog:Program}{w:World}{A:Around}{E:Value->Shared->Prop}{s:Shared}{K:Frag}
end
end Att
namespace L2
open PySem PySem.Spec PyProof.Rows
theorem zw:∀{vs:List Value}{ns:List Int},IntsAre vs ns->Vals (ns.map V.int) vs
 |_,_,.nil=>.nil
 |_,_,.cons n t h=>.cons ⟨t,rfl⟩ (zw h)
def Only(H:Hp):Prop:=∀ b,H b=none∨∃ o xs,H b=some (.frz o (.lst xs))
theorem MP{P:Program}{w:World}{K:P1}{mg mb:Str->Option Value}{CX:CXT}{k:Nat}{fa a:Addr}{fd:FuncData}{x:Str}{sp:Sp}{s₁:Shared}{vs:List Value}{ns:List Int}
  (KX:K.In s₁.heap) (hns:s₁.heap.Ns mainGlobals mg) (hb:s₁.heap.Ns builtinsNs mb) (hbb:∀ x:Str,x≠"__name__"->mb x=bootBuiltins x) (hlim:s₁.heap.NoLimit) (hg:s₁.gens=#[])
  (ha:s₁.heap.get? a=some { cls:=.type "list",data:=.seq vs.toArray }) (hi:IntsAre vs ns) (hl:ns.length<=sizeLine) (hr:Room k callerA)
  (F:∀ base:Heap,K.In base->base.Ns mainGlobals mg->FnOk P w K mg base CX k fa fd [x] sp) (hbind:∀(s:Shared)(u:Value),BindsTo s fd ⟨[u],[]⟩ [(x,u)])
  (hsp:∀ H:Hp,Only H->SqL K H a (ns.map V.int)->sp [.ref a] H (fun v _=>v=.bl true) fun _ _ _=>False)
  (hCX:∀ H e s',CX [] H s₁ (fun _ _ _=>False) e s'->False) :
  codeAny (model P w) callerA (.call (.ref fa) ⟨[.ref a],[]⟩) (fun r s'=>r=.ok (.ret (.bool true))/\OldK s₁.heap s'.heap/\s'.os=s₁.os/\AllBare s'.gens) s₁:=by
 have rv:=zw hi
 have lenV:=hi.length
 have core:∀ H:Hp,Only H->SqL K H a (ns.map V.int)->HOk P w H s₁.heap->(∀ b,H b≠none->b=a)->(H a≠none->K.lookup a=none) ->
   codeAny (model P w) callerA (.call (.ref fa) ⟨[.ref a],[]⟩) (fun r s'=>r=.ok (.ret (.bool true))/\OldK s₁.heap s'.heap/\s'.os=s₁.os/\AllBare s'.gens) s₁:=by
  intro H hO hS hok hA hK
  have base_of:∀{b:Addr}{o:Obj},s₁.heap.get? b=some o->H b=none->(hidT s₁.heap H).get? b=some o:=fun e n=>MY e n
  have noA:∀{b:Addr}{o:Obj}{es:Array DictEntry}{ep:Nat},s₁.heap.get? b=some o->o.data=.dict es ep->H b=none:=fun{b o es ep} e d=>by
   cases q:H b with
   |none=>rfl
   |some u =>
    have e':b=a:=hA b (by rw[q];simp)
    subst e'
    rw[ha]at e;cases e
    have d':Data.seq vs.toArray _=Data.dict es ep:=d
    cases d'
  have nsK:∀{b:Addr}{m:Str->Option Value},s₁.heap.Ns b m->(hidT s₁.heap H).Ns b m:=fun{b m} ⟨o,es,ep,e,d,r⟩=>⟨o,es,ep,base_of e (noA e d),d,r⟩
  have hKb:K.In (hidT s₁.heap H):=fun b o e=>base_of (KX b o e) (by
   cases q:H b with
   |none=>rfl
   |some u =>
    have e':b=a:=hA b (by rw[q];simp)
    subst e'
    rw[hK (by rw[q];simp)]at e;cases e)
  have hM:Mod K mg (hidT s₁.heap H):=⟨hKb,nsK hns,⟨mb,nsK hb,hbb⟩,let ⟨mc,h1,h2⟩:=hlim;⟨mc,nsK h1,h2⟩⟩
  have e0:Env0 P w K mg (hidT s₁.heap H) callerA [] s₁ H:=⟨rfl,hM,fun b o e=>OW e,Nat.le_of_eq (KS _ _),trivial,fun b hb=>absurd (show b∈([]:List Addr) from hb) (by simp),hok,.of_eq hg⟩
  refine codeAny_mono ((F _ hKb (nsK hns)).run callerA [] s₁ H ⟨[.ref a],[]⟩ [.ref a] [.ref a] _ _ hr e0 (hbind s₁ (.ref a)) (.cons rfl .nil) (hsp H hO hS)) fun r s' h=>?_
  cases r with
  |error e=>exact(hCX H e s' h).elim
  |ok fl =>
   cases fl with
   |next=>exact False.elim h
   |brk=>exact False.elim h
   |cont=>exact False.elim h
   |ret u =>
    obtain⟨v,H',os,bare,un,hok',r',q⟩:=h
    have q':v=.bl true:=q
    subst q'
    obtain rfl:u=Value.bool true:=r'
    refine⟨rfl,OldK.of_keep fun b o e=>?_,os,bare⟩
    cases q:H b with
    |none=>exact un.keep b o e q (by intro z;exact absurd (show b∈([]:List Addr) from z) (by simp)) (by simp)
    |some u =>
     rcases hO b with z | ⟨ob,xs,z⟩
     ·rw[q]at z;cases z
     ·have z2:=un.frzs b ob _ z
      obtain⟨e1,_⟩:=hok b _ z
      obtain⟨e2,_⟩:=hok' b _ z2
      rw[e]at e1;cases e1
      exact e2
 cases hk:K.lookup a with
 |some o =>
  have e:=KX a o hk
  rw[ha]at e
  cases e
  refine core (fun _=>none) (fun _=>.inl rfl) (.inr ⟨_,vs.toArray,_,hk,rfl,rfl,rfl,by rw[Qq,lenV];exact hl,by simpa using rv⟩) (fun b u z=>by have z':(none:Option HO)=some u:=z;cases z') (fun b z=>absurd rfl z) fun z=>absurd rfl z
 |none =>
  refine core (fun b=>if b=a then some (.frz { cls:=.type "list",data:=.seq vs.toArray } (.lst (ns.map V.int))) else none) (fun b=>?_) (.inl (.inr ⟨{ cls:=.type "list",data:=.seq vs.toArray },if_pos rfl⟩)) (fun b u z=>?_) (fun b z=>?_) fun _=>hk
  ·by_cases hb:b=a
   ·exact .inr ⟨_,_,if_pos hb⟩
   ·exact .inl (if_neg hb)
  ·by_cases hb:b=a
   ·have z':=(if_pos hb).symm.trans z
    cases z'
    subst hb
    exact⟨ha,by rw[P5];exact hl,vs,_,rv,ha⟩
   ·have z':=(if_neg hb).symm.trans z
    cases z'
  ·by_cases hb:b=a
   ·exact hb
   ·exact absurd (if_neg hb) z
end L2
namespace L2
open PySem PySem.Spec PyProof.Rows
theorem walk_of{l:S9}{n k:Nat}{q:Program}{loose:List Str}{XP:(Str->Option Value)->Heap->Prop}{YP:World->Heap->Prop}{d:DefRec}{K:Params->P1}{CX:World->CXT}{sp:World->Sp}{x:Str}
  (hn:l.most=some n) (hn2:n<=sizeLine) (hdf:d.params.defaults = []) (hr:Room k callerA)
  (hY:∀(w:World)(h:Heap),YP w h->(K w.params).In h)
  (F:∀(w:World)(mg:Str->Option Value)(fa:Addr)(h:Heap),(K w.params).In h->h.Ns mainGlobals mg->mg d.name=some (.ref fa) ->
   ∃ fd:FuncData,(∀(s:Shared)(u:Value),BindsTo s fd ⟨[u],[]⟩ [(x,u)]) /\
    ∀ base:Heap,(K w.params).In base->base.Ns mainGlobals mg->FnOk l.prog w (K w.params) mg base (CX w) k fa fd [x] (sp w))
  (hsp:∀(w:World)(H:Hp)(a:Addr)(ns:List Int),ns.length<=n->Only H->SqL (K w.params) H a (ns.map V.int)->sp w [.ref a] H (fun v _=>v=.bl true) fun _ _ _=>False)
  (hCX:∀(w:World)(H:Hp)(s:Shared)(e:Value)(s':Shared),CX w [] H s (fun _ _ _=>False) e s'->False) :
  PySem.W.WalkO q loose XP YP l.row.toRowW d [] (fun f vs=>PySem.call f vs):=by
 refine Att.attach_call hn hdf fun w s₀ s₁ mg mb fa o pm cd doc a vs ns G Y ho hd hcd hmg hobj hints hlen hg=>?_
 have KX:=hY w _ Y
 obtain⟨fd,hb,hF⟩:=F w mg fa _ KX G.T.g hmg
 exact MP KX G.T.g G.T.b G.T.builtins G.T.nolimit hg hobj hints (QG hlen hn2) hr hF hb (fun H hO hS=>hsp w H a ns hlen hO hS) fun H e s'=>hCX w H s₁ e s'
end L2
namespace L2
open PySem PySem.Spec PyProof.Rows
def iW(s:Stmt)(j:Nat):Stmt:=match s with
 |.ClassDef _ _ _ body _ _ _ _ _ _ _=>body.getD j (.Pass ⟨0,0,0,0⟩)
 |_=>.Pass ⟨0,0,0,0⟩
def aF(s:Stmt):Arguments:=match s with
 |.FunctionDef _ a _ _ _ _ _ _ _ _=>a
 |_=>{ posonlyargs:=[],args:=[],vararg:=none,kwonlyargs:=[],kw_defaults:=[],kwarg:=none,defaults:=[] }
def aD(s:Stmt):List Stmt:=match s with
 |.FunctionDef _ _ b _ _ _ _ _ _ _=>b
 |_=>[]
def aj(s:Stmt):Scope:=match s with
 |.FunctionDef _ _ _ _ _ _ sc _ _ _=>sc
 |_=>{ kind:=.function,names:=[],isGenerator:=false,isCoroutine:=false }
abbrev CX0:CXT:=fun _ _ _ _ _ _=>False
abbrev E0:XK:=fun _ _ _=>False
theorem aN{X:Cx}:wW CX0 X E0:=fun _ _ _ _ _ _ _ h=>h.elim
structure Fun(K:P1)(x qual:Str)(st:Stmt)(f:Addr)(fd:FuncData):Prop where
 ex:∃(oc:Value)(od:Option Addr)(kV doc pm:Value)(an:Option Addr)(cdv ct:Value)(osl:Array (Option Value)),
  fd=Qk x qual (aF st) (aD st) (aj st) .none kV doc pm an cdv ct/\K.lookup f=some ⟨oc,od,.func fd,osl⟩/\Qh K cdv qual=true
 kp:Qb K (.ref f)=true
section
variable{P:Program}{w:World}{K:P1}{mg:Str->Option Value}{base:Heap}
theorem Fun.ok{x qual:Str}{st:Stmt}{f:Addr}{fd:FuncData}{N ps:List Str}{k:Nat}{sp:Sp}(F:Fun K x qual st f fd)(S:aH N ps (aj st))(len:∀ vs H Q E,sp vs H Q E->vs.length=ps.length)
  (hbody:∀(cdv:Value)(A:Around)(outer:List Env)(s:Shared)(H:Hp)(vs:List V)(Q:VK)(E:XK),Room k (A.deeper (envOfC qual (aj st) s.heap.objs.size f cdv))->sp vs H Q E ->
   ∃ t,PSs (cxOf CX0 P w K mg base N qual (aj st) f cdv A outer s H E).nox (aD st) t/\t { nx:=fun _ H'=>Q .non H',rt:=Q } (start N vs) H):FnOk P w K mg base CX0 (k+1) f fd ps sp:=by
 obtain⟨oc,od,kV,doc,pm,an,cdv,ct,osl,rfl,lk,hcd⟩:=F.ex
 refine fn_of lk hcd S len fun A outer s H vs Q E hr hsp=>?_
 obtain⟨t,h,q⟩:=hbody cdv A outer s H vs Q E hr hsp
 exact⟨t,h.nox,q⟩
theorem Fun.binds{x qual:Str}{st:Stmt}{f:Addr}{fd:FuncData}{ps:List Str}(F:Fun K x qual st f fd)
  (h:∀(kV doc pm:Value)(an:Option Addr)(cdv ct:Value)(us:List Value),us.length=ps.length->bindArgs (Qk x qual (aF st) (aD st) (aj st) .none kV doc pm an cdv ct) ⟨us,[]⟩=pure (ps.zip us)):gT K fd ps []:=by
 obtain⟨oc,od,kV,doc,pm,an,cdv,ct,osl,rfl,lk,hcd⟩:=F.ex
 exact .all (h kV doc pm an cdv ct)
theorem aR{x qual:Str}{st:Stmt}{f:Addr}{oc:Value}{od an:Option Addr}{osl:Array (Option Value)}{kV doc pm cdv ct:Value}(l:K.lookup f=some ⟨oc,od,.func (Qk x qual (aF st) (aD st) (aj st) .none kV doc pm an cdv ct),osl⟩)
  (c:Qh K cdv qual=true) (k:Qb K (.ref f)=true):Fun K x qual st f (Qk x qual (aF st) (aD st) (aj st) .none kV doc pm an cdv ct):=⟨⟨oc,od,kV,doc,pm,an,cdv,ct,osl,rfl,l,c⟩,k⟩
end
theorem hu_of{A:Around}{k:Nat}(hr:Room k A):A.units+1<cLine:=SW (Nat.add_le_add_left (by decide:1<=64) _) hr.units
theorem aI{n:Nat}(h:n<=1000):n<sizeLine:=SW h (by decide)
section
variable{X:Cx}
theorem pv(i:Nat){x:Str}{pos:Pos}(hN:X.N[i]?=some x:=by rfl)(hv:Vis X.env.scope x:=by first | exact Or.inl rfl | exact Or.inr (Or.inl rfl) | exact Or.inr (Or.inr rfl)) (hd:(x == ("__debug__" : Str))=false:=by decide)
  (hcd:(x == ("__classdict__" : Str))=false:=by decide):PE X (.Name x pos) (tVar i):=pe_var hN hv hd hcd
end
theorem iteF{A B:Prop}(h:B):if false=true then A else B:=by
 rw[if_neg Qw]
 exact h
theorem iteT{A B:Prop}(h:A):if true=true then A else B:=by
 rw[if_pos rfl]
 exact h
theorem ite2{c A B:Prop} [Decidable c] (h1:c->A) (h2:¬ c->B):if c then A else B:=by
 by_cases h:c
 ·rw[if_pos h]
  exact h1 h
 ·rw[if_neg h]
  exact h2 h
theorem iteNS{c A B:Prop} [Decidable c] (hc:c) (h:B):if(!decide c)=true then A else B:=by
 rw[decide_eq_true hc]
 exact iteF h
def Same(H H':Hp):Prop:=∀ b o,H b=some o->H' b=some o
theorem Same.trans{H H1 H2:Hp}(a:Same H H1)(b:Same H1 H2):Same H H2:=fun c o h=>b c o (a c o h)
theorem Same.seq{K:P1}{H H':Hp}{a:Addr}{xs:List V}(e:Same H H')(h:SqL K H a xs):SqL K H' a xs:=by
 rcases h with(h | ⟨o,h⟩) | h
 ·exact .inl (.inl (e _ _ h))
 ·exact .inl (.inr ⟨o,e _ _ h⟩)
 ·exact .inr h
end L2
set_option maxRecDepth 100000
set_option maxHeartbeats 4000000
namespace L2
open PySem PySem.Spec PyProof.Rows
end L2
namespace L2
open PySem PySem.Spec PyProof.Rows
section
variable(P:Program)(w:World)
end
section
variable{P:Program}{w:World}{H H':Hp}{h h':Heap}{a:Addr}{o:HO}
end
section
variable{P:Program}{w:World}{H:Hp}{h h':Heap}{x e:Addr}{o':HO}
end
section
variable{fs fs' ex ex':List Addr}{H H1 H2:Hp}{h h1 h2 h':Heap}{a x e:Addr}{o:HO}
end
end L2
namespace L2
open PySem PySem.Spec PyProof.Rows
section
variable{X:Cx}{pins:List (Addr×Obj)}{σ:List (Option V)}{H H':Hp}{s:Shared}{h':Heap}
end
end L2
namespace L2
open PySem PySem.Spec PyProof.Rows
section
variable{X:Cx}
variable{a b:Expr}{ta tb:TE}{pos:Pos}
variable{tA tB':TT}{rest:List Expr}
end
end L2
namespace L2
open PySem PySem.Spec PyProof.Rows
section
variable{X:Cx}{pins:List (Addr×Obj)}{σ:St}{H:Hp}{s:Shared}{a:Addr}{xs ys:List V}
end
section
variable{X:Cx}{pins:List (Addr×Obj)}{σ:St}{H:Hp}{s:Shared}{E:Value->Shared->Prop}
end
section
variable{X:Cx}{st:Stmt}{rest:List Stmt}{t u:TS}{e:Expr}{te:TE}{pos:Pos}
end
section
variable{X:Cx}{pos:Pos}
end
section
variable{X:Cx}{pos:Pos}
end
end L2
namespace L2
open PySem PySem.Spec PyProof.Rows
section
variable{X:Cx}{tg:Expr}
end
end L2
namespace L2
open PySem PySem.Spec PyProof.Rows
section
variable{X:Cx}{a b c:Expr}{ta tb tc:TE}{pos:Pos}
end
section
variable{X:Cx}{a b c:Expr}{ta tb tc:TE}{pos:Pos}
end
end L2
namespace L2
open PySem PySem.Spec PyProof.Rows
section
variable{prog:Program}{w:World}{A:Around}{E:Value->Shared->Prop}{s:Shared}{K:P1}{x dx C f:Addr}{mA:Str->Option Value}{name:Str}{v:Value}
end
section
variable{P:Program}{w:World}{H H':Hp}{h h':Heap}{a C dx:Addr}{fs fs':List (Str×V)}
end
section
variable{X:Cx}{pins:List (Addr×Obj)}{σ:St}{H:Hp}{s:Shared}{a C dx:Addr}{fs:List (Str×V)}{f:Str}{v:V}{A:Around}{E:Value->Shared->Prop}
end
section
variable{X:Cx}{o e value:Expr}{f:Str}{pos pos' tpos:Pos}{ta tv:TE}
end
section
variable{X:Cx}{pins:List (Addr×Obj)}{σ:St}{H:Hp}{s:Shared}{A:Around}{E:Value->Shared->Prop}{Q:Value->Shared->Prop}{c:Value}{b:Bool}
end
end L2
namespace L2
open PySem PySem.Spec PyProof.Rows
section
variable{X:Cx}{e:Expr}{es:List Expr}{te:TE}{t:TA}{pos:Pos}
end
section
variable{X:Cx}{pins:List (Addr×Obj)}{σ:St}{H:Hp}{s s':Shared}
end
section
variable{X:Cx}{CX:CXT}{k:Nat}{f C:Addr}{fd:FuncData}{ps:List Str}{sp:Sp}{dvs:List V}{ds:List Value}{E:XK}{x m:Str}{p pos apos:Pos}{e o:Expr}{es:List Expr}{ta:TE}{t:TA}
end
section
variable{X:Cx}{CX:CXT}{k:Nat}{f C:Addr}{fd:FuncData}{ps ks:List Str}{sp:Sp}{E:XK}{x m:Str}{p pos apos kpos:Pos}{e o:Expr}{es:List Expr}{kws:List Keyword}{te ta:TE}{t tk:TA}{nm:Option Str}
variable{g:List Value->List Value->List Value}{gV:List V->List V->List V}
end
end L2
namespace L2
open PySem PySem.Spec PyProof.Rows
section
variable{X:Cx}{x:Str}{p pos:Pos}{e:Expr}{es:List Expr}{t:TA}{id T:String}{r:List V->Hp->VK->Prop}
end
end L2
namespace L2
open PySem PySem.Spec PyProof.Rows
section
variable{κ:Type} [DecidableEq κ]
def valV(kvs:List (κ×V))(k:κ):Option V:=(kvs.find? fun kv=>decide (kv.1=k)).map (·.2)
def putK(kvs:List (κ×V))(k:κ)(v:V):List (κ×V) :=
 if(kvs.any fun kv=>decide (kv.1=k))=true then kvs.map (fun kv=>if kv.1=k then(kv.1,v) else kv) else kvs++[(k,v)]
theorem c5{p:κ×V}{r:List (κ×V)}{k:κ}(e:p.1=k):valV (p::r) k=some p.2:=by simp[valV,RZ,e]
theorem c6{p:κ×V}{r:List (κ×V)}{k:κ}(e:¬ p.1=k):valV (p::r) k=valV r k:=by simp[valV,RZ,e]
theorem rm(k:κ):∀ kvs:List (κ×V),(kvs.any fun kv=>decide (kv.1=k))=(valV kvs k).isSome
 |[]=>rfl
 |p::r=>by
  rw[RA]
  by_cases e:p.1=k
  ·simp only[c5 e,decide_eq_true e,Bool.true_or,Option.isSome_some]
  ·rw[c6 e,decide_eq_false e,Bool.false_or];exact rm k r
theorem Fy(k j:κ)(y:V):∀ kvs:List (κ×V),valV (kvs.map fun kv=>if kv.1=k then(kv.1,y) else kv) j=(valV kvs j).map fun x=>if j=k then y else x
 |[]=>rfl
 |p::r=>by
  have ih:=Fy k j y r
  rw[QA]
  by_cases h:p.1=k
  ·rw[if_pos h]
   by_cases e:p.1=j
   ·rw[c5 (p:=(p.1,y)) e,c5 e,SE,if_pos (e.symm.trans h)]
   ·rw[c6 (p:=(p.1,y)) e,c6 e,ih]
  ·rw[if_neg h]
   by_cases e:p.1=j
   ·rw[c5 (p:=p) e,c5 e,SE,if_neg (fun z=>h (e.trans z))]
   ·rw[c6 (p:=p) e,c6 e,ih]
theorem zx(k j:κ)(y:V):∀ kvs:List (κ×V),valV kvs k=none->valV (kvs++[(k,y)]) j=if j=k then some y else valV kvs j
 |[],_=>by
  by_cases e:k=j
  ·rw[if_pos e.symm];exact c5 (p:=(k,y)) e
  ·rw[if_neg (fun z=>e z.symm)];exact c6 (p:=(k,y)) e
 |p::r,hn=>by
  rw[S6]
  have hk:¬ p.1=k:=fun z=>by rw[c5 z]at hn;cases hn
  rw[c6 hk]at hn
  have ih:=zx k j y r hn
  by_cases e:p.1=j
  ·rw[c5 e,c5 e,if_neg (fun z=>hk (e.trans z))]
  ·rw[c6 e,c6 e,ih]
theorem xi(kvs:List (κ×V))(k j:κ)(y:V):valV (putK kvs k y) j=if j=k then some y else valV kvs j:=by
 unfold putK
 by_cases a:(kvs.any fun kv=>decide (kv.1=k))=true
 ·rw[if_pos a,Fy]
  rw[rm]at a
  by_cases e:j=k
  ·obtain⟨x,hx⟩:=RP.mp a
   rw[if_pos e,e,hx,SE,if_pos rfl]
  ·rw[if_neg e]
   cases valV kvs j with
   |none=>rfl
   |some x=>rw[SE,if_neg e]
 ·rw[if_neg a]
  refine zx k j y kvs ?_
  rw[rm]at a
  cases q:valV kvs k with
  |none=>rfl
  |some x=>rw[q]at a;exact(a rfl).elim
theorem iB(kvs:List (κ×V))(k:κ)(v:V):(putK kvs k v).length<=kvs.length+1:=by
 unfold putK
 split
 ·rw[P5];omega
 ·rw[P2,Qz,SI];omega
theorem RelO.isSome_eq{o:Option V}{u:Option Value}(r:RelO o u):o.isSome=u.isSome:=by
 cases o with
 |none=>cases u with
  |none=>rfl
  |some _=>exact(show False from r).elim
 |some _=>cases u with
  |none=>exact(show False from r).elim
  |some _=>rfl
theorem KV.val{kvs:List (κ×V)}{vs:List (κ×Value)}(r:KV kvs vs)(k:κ):RelO (valV kvs k) (valueAt vs k):=by
 unfold KV at r
 induction r with
 |nil=>exact True.intro
 | @cons p q ps qs h t ih =>
  obtain⟨h1,h2⟩:=h
  by_cases e:p.1=k
  ·have e':q.1=k:=h1.symm.trans e
   have b:valueAt (q::qs) k=some q.2:=by simp[valueAt,RZ,e']
   rw[c5 e,b];exact h2
  ·have e':¬ q.1=k:=fun z=>e (h1.trans z)
   have b:valueAt (q::qs) k=valueAt qs k:=by simp[valueAt,RZ,e']
   rw[c6 e,b];exact ih
theorem KV.any{kvs:List (κ×V)}{vs:List (κ×Value)}(r:KV kvs vs)(k:κ):(kvs.any fun kv=>decide (kv.1=k))=vs.any fun kv=>decide (kv.1=k):=by
 unfold KV at r
 induction r with
 |nil=>rfl
 |cons h t ih=>rw[RA,RA,ih,h.1]
theorem KV.repl{kvs:List (κ×V)}{vs:List (κ×Value)}(r:KV kvs vs)(k:κ){y:V}{u:Value}(ry:RelV y u) :
  KV (kvs.map fun kv=>if kv.1=k then(kv.1,y) else kv) (vs.map fun kv=>if kv.1=k then(kv.1,u) else kv):=by
 unfold KV at r ⊢
 induction r with
 |nil=>exact .nil
 | @cons p q ps qs h t ih =>
  rw[QA,QA]
  refine .cons ?_ ih
  obtain⟨h1,h2⟩:=h
  by_cases e:p.1=k
  ·rw[if_pos e,if_pos (h1.symm.trans e)];exact⟨h1,ry⟩
  ·rw[if_neg e,if_neg (fun z=>e (h1.trans z))];exact⟨h1,h2⟩
theorem KV.put{kvs:List (κ×V)}{vs:List (κ×Value)}(r:KV kvs vs)(k:κ){y:V}{u:Value}(ry:RelV y u):KV (putK kvs k y) (stored vs k u):=by
 unfold putK stored
 rw[r.any k]
 by_cases e:(vs.any fun kv=>decide (kv.1=k))=true
 ·rw[if_pos e,if_pos e];exact r.repl k ry
 ·rw[if_neg e,if_neg e];exact Paired.snoc r ⟨rfl,ry⟩
theorem KV.length{kvs:List (κ×V)}{vs:List (κ×Value)}(r:KV kvs vs):kvs.length=vs.length:=Paired.length r
end
theorem MU{P:Program}{w:World}{k:Key}{u:Value}(r:RelV (kV k) u):(dI P w).is k u=true:=by
 cases k with
 |inl i=>obtain⟨t,e⟩:=(show ∃ t,u=Value.int i t from r);subst e;exact DQ P w i t
 |inr x=>obtain⟨t,e⟩:=(show ∃ t,u=Value.str x t from r);subst e;exact DP P w x t
theorem Bb{P:Program}{w:World}:∀{ks:List Key}{us:List Value},Vals (ks.map kV) us->ItemsAre (dI P w) ks us
 |[],_,r=>by rw[List.map_nil]at r;cases r;exact .nil
 |k::ks,_,r=>by
  rw[QA]at r
  cases r with
  |cons h t=>exact .cons (MU h) (Bb t)
abbrev KT(H:Hp):List (List Key×V)->List (List Key×Addr×Value)->Prop:=Paired fun p q=>p.1=q.1/\H q.2.1=some (.tup (p.1.map kV))/\RelV p.2 q.2.2
theorem KT.val{H:Hp}{kvs:List (List Key×V)}{xs:List (List Key×Addr×Value)}(r:KT H kvs xs)(k:List Key):RelO (valV kvs k) ((atKey xs k).map (·.2)):=by
 induction r with
 |nil=>exact True.intro
 | @cons p q ps qs h t ih =>
  obtain⟨h1,_,h2⟩:=h
  by_cases e:p.1=k
  ·have e':q.1=k:=h1.symm.trans e
   have b:atKey (q::qs) k=some q.2:=by simp[atKey,RZ,e']
   rw[c5 e,b];exact h2
  ·have e':¬ q.1=k:=fun z=>e (h1.trans z)
   have b:atKey (q::qs) k=atKey qs k:=by simp[atKey,RZ,e']
   rw[c6 e,b];exact ih
theorem KT.repl{H:Hp}{kvs:List (List Key×V)}{xs:List (List Key×Addr×Value)}(r:KT H kvs xs)(k:List Key){y:V}{u:Value}(ry:RelV y u) :
  KT H (kvs.map fun kv=>if kv.1=k then(kv.1,y) else kv) (xs.map (putAt k u)):=by
 induction r with
 |nil=>exact .nil
 | @cons p q ps qs h t ih =>
  rw[QA,QA]
  refine .cons ?_ ih
  obtain⟨h1,h2,h3⟩:=h
  unfold putAt
  by_cases e:p.1=k
  ·rw[if_pos e,if_pos (h1.symm.trans e)];exact⟨h1,h2,ry⟩
  ·rw[if_neg e,if_neg (fun z=>e (h1.trans z))];exact⟨h1,h2,h3⟩
theorem KT.put{H:Hp}{kvs:List (List Key×V)}{xs:List (List Key×Addr×Value)}(r:KT H kvs xs)(k:List Key){b:Addr}{y:V}{u:Value}(hb:H b=some (.tup (k.map kV)))(ry:RelV y u) :
  KT H (putK kvs k y) (storedH xs k b u):=by
 have e:(kvs.any fun kv=>decide (kv.1=k))=(atKey xs k).isSome:=by
  rw[rm,(r.val k).isSome_eq,Option.isSome_map]
 unfold putK storedH
 rw[e]
 by_cases q:(atKey xs k).isSome=true
 ·rw[if_pos q,if_pos q];exact r.repl k ry
 ·rw[if_neg q,if_neg q];exact Paired.snoc r ⟨rfl,hb,ry⟩
theorem KT.keeps{H H':Hp}{kvs:List (List Key×V)}{xs:List (List Key×Addr×Value)}(r:KT H kvs xs)(ht:∀ b ys,H b=some (.tup ys)->H' b=some (.tup ys)):KT H' kvs xs :=
 Paired.mapP r fun _ _ z=>⟨z.1,ht _ _ z.2.1,z.2.2⟩
section
variable{P:Program}{w:World}{H:Hp}{h:Heap}{a:Addr}
theorem rd_of{u:HO}(ok:HOk P w H h)(e:Rd H a u):b5 P w H h a u:=e.ok ok
theorem M5{kvs:List (Key×V)}(ok:HOk P w H h)(e:Rd H a (.dK kvs)):kvs.length<=sizeLine/\(a == sysModules)=false/\∃ vs,KV kvs vs/\h.DictOf (dI P w) a vs :=
 show b5 P w H h a (.dK kvs) from rd_of ok e
theorem dk_of{kvs:List (Key×V)}(ok:HOk P w H h)(e:H a=some (.dK kvs)):kvs.length<=sizeLine/\(a == sysModules)=false/\∃ vs,KV kvs vs/\h.DictOf (dI P w) a vs:=M5 ok (.inl e)
theorem FZ{ks:List Key}(ok:HOk P w H h)(e:H a=some (.tup (ks.map kV))):(tupleKind (dI P w)).is h ks a:=by
 obtain⟨_,its,r,o,h1,h2,n,h3⟩:=(show b5 P w H h a (.tup (ks.map kV)) from ok a _ e)
 exact⟨o,its.toArray,n,h1,h2,h3,by simpa using Bb r⟩
theorem M3{kvs:List (List Key×V)}(ok:HOk P w H h)(e:Rd H a (.dT kvs)):kvs.length<=sizeLine/\(a == sysModules)=false /\
  ∃ xs,KT H kvs xs/\h.DictOfH (tupleKind (dI P w)) a xs:=by
 obtain⟨z,y,xs,r,o,es,ep,h1,h2,h3,h4,h5⟩:=(show b5 P w H h a (.dT kvs) from rd_of ok e)
 refine⟨z,y,xs,r,o,es,ep,h1,h2,h3,h4,fun x hx=>?_,h5⟩
 have all:∀{l:List (List Key×V)}{m:List (List Key×Addr×Value)},KT H l m->∀ x∈m,(tupleKind (dI P w)).is h x.1 x.2.1:=by
  intro l m q
  induction q with
  |nil=>intro x hx;exact nomatch hx
  | @cons p q ps qs hq t ih =>
   intro x hx
   rcases P8.mp hx with e | hx
   ·subst e
    exact FZ ok (by rw[← hq.1];exact hq.2.1)
   ·exact ih x hx
 exact all r x hx
theorem dt_of{kvs:List (List Key×V)}(ok:HOk P w H h)(e:H a=some (.dT kvs)):kvs.length<=sizeLine/\(a == sysModules)=false /\
  ∃ xs,KT H kvs xs/\h.DictOfH (tupleKind (dI P w)) a xs:=M3 ok (.inl e)
end
def DGet(H:Hp)(a:Addr)(y:V)(r:Option V):Prop :=
 (∃ kvs k,Rd H a (.dK kvs)/\y=kV k/\r=valV kvs k)∨∃ kvs k b,Rd H a (.dT kvs)/\y=.ref b/\H b=some (.tup (k.map kV))/\r=valV kvs k
def DPut(H:Hp)(a:Addr)(y v:V)(H':Hp):Prop :=
 (∃ kvs k,H a=some (.dK kvs)/\y=kV k/\kvs.length<sizeLine/\H'=upd H a (.dK (putK kvs k v))) ∨
 ∃ kvs k b,H a=some (.dT kvs)/\y=.ref b/\H b=some (.tup (k.map kV))/\kvs.length<sizeLine/\H'=upd H a (.dT (putK kvs k v))
theorem DGet.k{H:Hp}{a:Addr}{kvs:List (Key×V)}{k:Key}(e:H a=some (.dK kvs)):DGet H a (kV k) (valV kvs k):=.inl ⟨kvs,k,.inl e,rfl,rfl⟩
theorem DPut.k{H:Hp}{a:Addr}{kvs:List (Key×V)}{k:Key}{v:V}(e:H a=some (.dK kvs))(hl:kvs.length<sizeLine):DPut H a (kV k) v (upd H a (.dK (putK kvs k v))):=.inl ⟨kvs,k,e,rfl,hl,rfl⟩
section
variable{X:Cx}{pins:List (Addr×Obj)}{σ:St}{H:Hp}{s:Shared}{a:Addr}{y v:V}{u r:Value}{o:Option V}{A:Around}{E:Value->Shared->Prop}
theorem Inv.big(I:Inv X pins σ H s):sysModules<s.heap.objs.size:=by
 have h:mainGlobals<s.heap.objs.size:=(I.mod.glob.keeps I.bk).lt
 exact Nat.lt_trans (by decide) h
theorem Lf{Q:Value->Shared->Prop}(hu:A.units+1<cLine)(I:Inv X pins σ H s)(g:DGet H a y (some v))(ry:RelV y u)(h:∀ w' s',Inv X pins σ H s'->RelV v w'->Q w' s') :
  wpAny (model X.prog X.w) A (getItem (.ref a) u) Q E s:=by
 rcases g with⟨kvs,k,e,ey,l⟩ | ⟨kvs,k,b,e,ey,eb,l⟩
 ·subst ey
  obtain⟨z,hd,vs,rel,dd⟩:=M5 I.hok e
  obtain⟨w',hw,rw'⟩:=RelO.some_of (v:=v) (o:=valueAt vs k) (by rw[l];exact rel.val k)
  exact wpAny_getItem_of (MU ry) dd.mapOf hw (h w' _ (I.tok _) rw')
 ·subst ey
  cases (show u=Value.ref b from ry)
  obtain⟨z,hd,xs,rel,dd⟩:=M3 I.hok e
  obtain⟨w',hw,rw'⟩:=RelO.some_of (v:=v) (o:=(atKey xs k).map (·.2)) (by rw[l];exact rel.val k)
  obtain⟨p,hp,hp2⟩:=QJ.mp hw
  refine wpAny_getItem_heap (tupleKind_room_in1 hu) (FZ I.hok eb) dd hp ?_
  rw[hp2]
  exact h w' _ (I.tok _) rw'
theorem PH{Q:Value->Shared->Prop}(hu:A.units+1<cLine)(I:Inv X pins σ H s)(g:DGet H a y o)(ry:RelV y u)(h:∀ s',Inv X pins σ H s'->Q (.bool (!o.isSome)) s') :
  wpAny (model X.prog X.w) A (compareOp .NotIn u (.ref a)) Q E s:=by
 rcases g with⟨kvs,k,e,ey,l⟩ | ⟨kvs,k,b,e,ey,eb,l⟩
 ·subst ey
  obtain⟨z,hd,vs,rel,dd⟩:=M5 I.hok e
  refine wpAny_notIn_of (MU ry) hd dd.mapOf ?_
  rw[← (rel.val k).isSome_eq,← l]
  exact h _ (I.tok _)
 ·subst ey
  cases (show u=Value.ref b from ry)
  obtain⟨z,hd,xs,rel,dd⟩:=M3 I.hok e
  refine wpAny_notIn_heap (tupleKind_room_in1 hu) (FZ I.hok eb) hd dd ?_
  have q:=(rel.val k).isSome_eq
  rw[Option.isSome_map]at q
  rw[← q,← l]
  exact h _ (I.tok _)
theorem Ld{h':Heap}{t':Nat}{ob:HO}(I:Inv X pins σ H s)(mu:Mut (H a))(hs:Heap.SameBut a s.heap h')(he:∃ q,h'.get? a=some q)(new:b5 X.prog X.w (upd H a ob) h' a ob) :
  Inv X pins σ (upd H a ob) { s with heap:=h',toks:=t' } :=
 I.write (x:=a) (e:=a) mu (.inl rfl) (fun b q hb z=>(hs.2 b hb).trans z) he new
theorem dk_new{P:Program}{w:World}{H':Hp}{h':Heap}{kvs:List (Key×V)}{vs:List (Key×Value)}(z:kvs.length<=sizeLine)(hd:(a == sysModules)=false)(rel:KV kvs vs)(dd:h'.DictOf (dI P w) a vs) :
  b5 P w H' h' a (.dK kvs):=⟨z,hd,vs,rel,dd⟩
theorem Le{H':Hp}{Q:Unit->Shared->Prop}(hu:A.units+1<cLine)(I:Inv X pins σ H s)(g:DPut H a y v H')(ry:RelV y u)(rv:RelV v r)(h:∀ s',Inv X pins σ H' s'->Q () s') :
  wpAny (model X.prog X.w) A (setItem (.ref a) u r) Q E s:=by
 rcases g with⟨kvs,k,e,ey,l,eH⟩ | ⟨kvs,k,b,e,ey,eb,l,eH⟩
 ·subst ey eH
  obtain⟨z,hd,vs,rel,dd⟩:=dk_of I.hok e
  have hz:vs.length<=sizeLine:=by rw[← rel.length];exact z
  have hl:(putK kvs k v).length<=sizeLine:=by have:=iB kvs k v;omega
  refine wpAny_setItem_pairs (hsz:=hz) (MU ry) dd fun h' dd' hs=>h _ ?_
  have he:∃ q,h'.get? a=some q:=let ⟨q,_,_,hq,_⟩:=dd';⟨q,hq⟩
  exact Ld I (by rw[e];exact True.intro) hs he (dk_new hl hd (rel.put k rv) dd')
 ·subst ey eH
  cases (show u=Value.ref b from ry)
  obtain⟨z,hd,xs,rel,dd⟩:=dt_of I.hok e
  have hz:xs.length<=sizeLine:=by rw[← Paired.length rel];exact z
  have hl:(putK kvs k v).length<=sizeLine:=by have:=iB kvs k v;omega
  refine wpAny_setItem_heap (hsz:=hz) (tupleKind_room_in1 hu) (FZ I.hok eb) dd fun h' dd' hs=>h _ ?_
  obtain⟨q,es,ep,hq,h2,h3,h4,_,h5⟩:=dd'
  refine Ld I (by rw[e];exact True.intro) hs ⟨q,hq⟩ ⟨hl,hd,_,(rel.put k eb rv).keeps fun c ys ec=>?_,q,es,ep,hq,h2,h3,h4,h5⟩
  rw[ar (ne_of ec e (fun z=>nomatch z))]
  exact ec
end
section
variable{X:Cx}{pins:List (Addr×Obj)}{σ:St}{H:Hp}{s:Shared}{a:Addr}{kvs:List (Key×V)}{k:Key}{u:Value}{A:Around}{E:Value->Shared->Prop}
end
def NoSl(i:Expr):Prop:=∀ ov iv,subscripted i false ov iv=operate [ov,iv] (getItem ov iv)
theorem Of{prog:Program}{w:World}{A:Around}{E:Value->Shared->Prop}{s:Shared}{env:Env}{value slice:Expr}{pos:Pos}{T id:String}{Q:Value->Shared->Prop}
  (hl:typeLookup (.type T) "__getitem__" = pure (some (.builtin id))) (hs:NoSl slice)
  (h:wpAny (model prog w) A (eval value env) (fun o s₁=>wpAny (model prog w) A (eval slice env) (fun i s₂=>s₂.TypeIs o T/\wpAny (model prog w) A (getItem o i) Q E s₂) E s₁) E s) :
  wpAny (model prog w) A (eval (.Subscript value slice pos) env) Q E s:=by
 refine Subscript_ (wpAny_mono h (fun o s₁ h₁=>wpAny_mono h₁ (fun i s₂ h₂=>?_) fun _ _ x=>x) fun _ _ x=>x)
 obtain⟨hT,h₂⟩:=h₂
 unfold subscriptTail
 refine wpAny_bind ?_
 rw[getitemInPython_of_ne hT.not_modules]
 refine wpAny_bind (wpAny_specialOf hT hl ?_)
 have fin:wpAny (model prog w) A (subscripted slice false o i) (fun r s₃=>wpAny (model prog w) A (letTemporaryGo value o r >>= fun _=>pure r) Q E s₃) E s₂:=by
  rw[hs o i]
  exact wpAny_operating (wpAny_mono h₂ (fun r s₃ h₃=>wpAny_bind (wpAny_letTemporaryGo (wpAny_pure h₃))) fun _ _ x=>x)
 first
  |exact wpAny_pure (wpAny_bind fin)
  |exact wpAny_bind (wpAny_pure (wpAny_bind fin))
  |exact wpAny_bind fin
theorem Ex{X:Cx}{pins:List (Addr×Obj)}{σ:St}{H:Hp}{s:Shared}{a:Addr}{y:V}{o:Option V}(I:Inv X pins σ H s)(g:DGet H a y o):s.TypeIs (.ref a) "dict":=by
 rcases g with⟨kvs,k,e,_,_⟩ | ⟨kvs,k,b,e,_,_,_⟩
 ·obtain⟨_,_,vs,_,dd⟩:=M5 I.hok e
  exact dd.typeIs
 ·obtain⟨_,_,xs,_,dd⟩:=M3 I.hok e
  exact dd.typeIs
def tDGet(td ty:TE):TE:=fun σ H Q=>td σ H fun x H1=>ty σ H1 fun y H2=>∃ a v,x=.ref a/\DGet H2 a y (some v)/\Q v H2
def Oe(ty td:TE):TE:=fun σ H Q=>ty σ H fun y H1=>td σ H1 fun x H2=>∃ a o,x=.ref a/\DGet H2 a y o/\Q (.bl (!o.isSome)) H2
def sDPut(td ty tv:TE):TS:=fun D σ H=>tv σ H fun v H1=>td σ H1 fun x H2=>ty σ H2 fun y H3=>∃ a H4,x=.ref a/\DPut H3 a y v H4/\D.nx σ H4
section
variable{X:Cx}{o i e value:Expr}{pos pos' tpos:Pos}{td ty tv:TE}
theorem JE(hu:X.A.units+1<cLine)(ho:PE X o td)(hi:PE X i ty)(hs:NoSl i):PE X (.Subscript o i pos) (tDGet td ty):=by
 intro pins s σ H Q I h
 refine Of PySem.F.slot_dict_getitem.lookup hs (thn (ho pins s σ H _ I h) fun u s1 ⟨x,H1,I1,rx,q1⟩=>thn (hi pins s1 σ H1 _ I1 q1) fun iv s2 ⟨y,H2,I2,ry,a,v,ex,g,q2⟩=>?_)
 subst ex
 obtain rfl:u=Value.ref a:=rx
 exact⟨Ex I2 g,Lf hu I2 g ry fun w' s3 I3 rw'=>⟨v,H2,I3,rw',q2⟩⟩
theorem JF(hu:X.A.units+1<cLine)(hi:PE X i ty)(ho:PE X o td):PC X .NotIn i o (Oe ty td):=by
 intro pins s σ H Q I h
 refine thn (hi pins s σ H _ I h) fun iv s1 ⟨y,H1,I1,ry,q1⟩=>thn (ho pins s1 σ H1 _ I1 q1) fun u s2 ⟨x,H2,I2,rx,a,ov,ex,g,q2⟩=>?_
 subst ex
 obtain rfl:u=Value.ref a:=rx
 exact PH hu I2 g ry fun s3 I3=>⟨.bl (!ov.isSome),H2,I3,rfl,q2⟩
theorem Jv(hu:X.A.units+1<cLine)(ho:PE X o td)(hi:PE X i ty)(hv:PE X value tv)(hs:swapsWith value (some (.Subscript o i pos')) pos.line X.env=pure false) :
  PS X (.Assign [.Subscript o i pos'] value pos) (sDPut td ty tv):=by
 intro pins s σ H D I h
 refine wpAny_Assign_Subscript (thn (hv pins s σ H _ I h) fun r s1 ⟨v,H1,I1,rv,q1⟩=>thn (ho pins s1 σ H1 _ I1 q1) fun u s2 ⟨x,H2,I2,rx,q2⟩=>thn (hi pins s2 σ H2 _ I2 q2) fun iv s3 ⟨y,H3,I3,ry,a,H4,ex,g,q3⟩=>?_) hs
 subst ex
 obtain rfl:u=Value.ref a:=rx
 exact Le hu I3 g ry rv fun s4 I4=>⟨σ,H4,I4,q3⟩
end
theorem M6{P:Program}{w:World}{H:Hp}(h:Heap)(hb:sysModules<h.objs.size):b5 P w H (h.push { cls:=.type "dict",data:=.dict #[] }) h.objs.size (.dK []) :=
 ⟨Q6 _,beq_eq_false_iff_ne.mpr (Ne.symm (QC hb)),[],.nil,Heap.DictOf.new h⟩
def tDNewK:TE:=fun _ H Q=>∀ p,H p=none->Q (.ref p) (upd H p (.dK []))
section
variable{X:Cx}{pos:Pos}
theorem FJ:PE X (.Dict [] [] pos) tDNewK:=fun pins s σ H Q I h =>
 wpAny_Dict_empty ⟨.ref s.heap.objs.size,_,I.laid (a:=s.heap.objs.size) (o:=.dK []) (t':=s.toks) (fun _ _ q=>Heap.get?_push_of_some _ q) (P9 _) (M6 s.heap I.big),rfl,h _ (I.hok.fresh (P9 _))⟩
end
section
variable{X:Cx}{pins:List (Addr×Obj)}{σ:St}{H:Hp}{s:Shared}{a:Addr}{y d:V}{u r:Value}{o:Option V}{A:Around}{E:Value->Shared->Prop}
end
section
variable{X:Cx}{o e f:Expr}{apos cpos:Pos}{td ty tx:TE}
end
section
variable{X:Cx}{pins:List (Addr×Obj)}{σ:St}{H:Hp}{s:Shared}{a:Addr}{kvs:List (Key×V)}{A:Around}{E:Value->Shared->Prop}
end
section
variable{X:Cx}{pins:List (Addr×Obj)}{σ:St}{H:Hp}{s:Shared}{a:Addr}{y:V}{u:Value}{A:Around}{E:Value->Shared->Prop}
end
end L2
namespace Att
open PySem PySem.W PySem.Calls PyProof.Rows
section
variable{prog:Program}{w:World}{A:Around}{E:Value->Shared->Prop}{s:Shared}{K:Frag}
end
end Att
namespace L2
open PySem PySem.Spec PyProof.Rows
end L2
namespace L2
open PySem PySem.Spec PyProof.Rows
end L2
namespace L2
open PySem PySem.Spec PyProof.Rows
section
variable{P:Program}{w:World}{K:P1}{mg:Str->Option Value}{base:Heap}
end
section
variable{X:Cx}
end
section
variable{κ:Type} [DecidableEq κ]
end
end L2
namespace L2
open PySem PySem.Spec PyProof.Rows
def clOf(env:Env)(fr:List (Str×Nat)):List (Str×Addr):=fr.map fun p=>(p.1,(env.cells.lookup p.1).getD 0)
def frOf(fr:List (Str×Nat))(σ:St):St:=fr.map fun p=>(σ[p.2]?).join
def eU(X:Cx)(scope:Scope)(fr:List (Str×Nat))(x:Str)(C:Addr)(ex:List Addr)(s:Shared)(H:Hp):Cx where
 prog:=X.prog
 w:=X.w
 K:=X.K
 mg:=X.mg
 base:=X.base
 A:=X.A
 N:=x::fr.map (·.1)
 s₀:=s
 H₀:=H
 env:=compEnvC scope (clOf X.env fr) C X.env
 outer:=X.stack
 stack:=X.stack
 ex:=ex
 fn:=fun _=>false
 calm:=X.calm
 pn:=[]
 xe:=fun _ _=>False
structure cq(X:Cx)(scope:Scope)(fr:List (Str×Nat))(x:Str):Prop where
 clos:closureFor scope X.env=pure (clOf X.env fr)
 cell:∀ y∈scope.names,y.2≠.cell
 kind:scope.kind=.function
 names:∀ y∈scope.names,y.2=.local->scope.names.lookup y.1=some .local
 xl:scope.names.lookup x=some .local
 nd:(x::fr.map (·.1)).Nodup
 slot:∀ p∈fr,X.N[p.2]?=some p.1/\X.env.kindOf p.1=some .cell
 has:∀ y∈(relabel scope X.env).names,(y.2=.cell∨y.2=.free)->y.1∈fr.map (·.1)
 frk:∀ p∈fr,(relabel scope X.env).names.lookup p.1=some .cell
theorem cq.plain{X:Cx}{scope:Scope}{x:Str}(clos:closureFor scope X.env=pure [])(cell:∀ y∈scope.names,y.2≠.cell)(kind:scope.kind=.function)(names:∀ y∈scope.names,y.2=.local->scope.names.lookup y.1=some .local)
  (hx:scope.names.lookup x=some .local) (nf:∀ y∈scope.names,y.2≠.free):cq X scope [] x where
 clos:=clos
 cell:=cell
 kind:=kind
 names:=names
 xl:=hx
 nd:=by simp
 slot:=fun p hp=>nomatch hp
 has:=fun y hy hk=>by
  obtain⟨⟨n,k⟩,hz,e⟩:=Qv.mp (show y∈scope.names.map _ from hy)
  have h1:=nf _ hz
  have h2:=cell _ hz
  dsimp only at e h1 h2
  have hf:(k == NameKind.free)=false:=by simpa using h1
  rw[hf]at e
  simp only[SO,S1,if_false]at e
  subst e
  exact(hk.elim h2 h1).elim
 frk:=fun p hp=>nomatch hp
theorem cq.one{X:Cx}{scope:Scope}{x y:Str}{j:Nat}(clos:closureFor scope X.env=pure (clOf X.env [(y,j)]))(cell:∀ y∈scope.names,y.2≠.cell)(kind:scope.kind=.function)(names:∀ y∈scope.names,y.2=.local->scope.names.lookup y.1=some .local)
  (hx:scope.names.lookup x=some .local) (nd:([x,y]:List Str).Nodup) (hN:X.N[j]?=some y) (hk:X.env.kindOf y=some .cell) (nf:∀ z∈scope.names,z.2=.free->z.1=y) (hr:(relabel scope X.env).names.lookup y=some .cell):cq X scope [(y,j)] x where
 clos:=clos
 cell:=cell
 kind:=kind
 names:=names
 xl:=hx
 nd:=nd
 slot:=fun p hp=>by
  have e:p=(y,j):=by simpa using hp
  subst e
  exact⟨hN,hk⟩
 has:=fun z hz hk=>by
  obtain⟨⟨n,k⟩,hm,e⟩:=Qv.mp (show z∈scope.names.map _ from hz)
  have h2:=cell _ hm
  dsimp only at e h2
  have hn:z.1=n:=by rw[← e];split<;>rfl
  have hf:k=.free:=by
   by_cases q:k=.free
   ·exact q
   ·have hb:(k == NameKind.free)=false:=by simpa using q
    rw[hb]at e
    simp only[SO,S1,if_false]at e
    subst e
    exact(hk.elim h2 q).elim
  have:=nf _ hm hf
  rw[hn]
  simp[← this]
 frk:=fun p hp=>by
  have e:p=(y,j):=by simpa using hp
  subst e
  exact hr
theorem gz{env:Env}:∀{fr:List (Str×Nat)}{y:Str}{c:Addr},(clOf env fr).lookup y=some c->y∈fr.map (·.1)/\c=(env.cells.lookup y).getD 0
 |[],_,_,h=>by cases h
 |p::r,y,c,h=>by
  unfold clOf at h
  rw[QA,S4]at h
  cases e:y == p.1 with
  |true =>
   rw[e]at h
   have ey:y=p.1:=eq_of_beq e
   cases h
   exact⟨by rw[ey];exact Ql,by rw[ey]⟩
  |false =>
   rw[e]at h
   obtain⟨a,b⟩:=gz (env:=env) (fr:=r) h
   exact⟨Qe _ a,b⟩
theorem cg{env:Env}:∀{fr:List (Str×Nat)}{y:Str},y∈fr.map (·.1)->(clOf env fr).lookup y=some ((env.cells.lookup y).getD 0)
 |[],_,h=>by cases h
 |p::r,y,h=>by
  unfold clOf
  rw[QA,S4]
  cases e:y == p.1 with
  |true =>
   have ey:y=p.1:=eq_of_beq e
   rw[ey]
  |false =>
   have ny:y≠p.1:=fun z=>by rw[z]at e;simp at e
   rcases P8.mp h with z | z
   ·exact absurd z ny
   ·exact cg (env:=env) (fr:=r) z
section
variable{X:Cx}{pins:List (Addr×Obj)}{σ:St}{H:Hp}{s:Shared}{scope:Scope}{fr:List (Str×Nat)}{x:Str}
theorem cq.cells(O:cq X scope fr x)(I:Inv X pins σ H s){y:Str}{c:Addr}(h:(clOf X.env fr).lookup y=some c):X.env.cells.lookup y=some c:=by
 obtain⟨hm,e⟩:=gz h
 obtain⟨p,hp,ep⟩:=Qv.mp hm
 have k:=(O.slot p hp).2
 rw[ep]at k
 obtain⟨c',e'⟩:=I.ok.has y (.inl k)
 rw[e']at e
 rw[e',e]
 rfl
theorem MV{fp:List Addr}(O:cq X scope fr x)(I:Inv X pins σ H s)(hf:∀ b∈fp,FpOk X pins H b)(hfs:∀ b∈fp,b<s.heap.objs.size){g h':Heap}{tk:Nat}(hg:g=s.heap.push (LCg.lst []))
  (hk:∀ b o,g.get? b=some o->h'.get? b=some o) (hC:h'.Ns g.objs.size fun _=>none) :
  Inv (eU X scope fr x g.objs.size (s.heap.objs.size::fp) { s with heap:=g } H) (X.pn++pins++[(s.heap.objs.size,LCg.lst [])]) (none::frOf fr σ) H { s with heap:=h',toks:=tk }:=by
 have hsz:g.objs.size=s.heap.objs.size+1:=by rw[hg,Heap.size_push]
 have kp:∀ b o,s.heap.get? b=some o->g.get? b=some o:=fun b o e=>by rw[hg];exact Heap.get?_push_of_some _ e
 have hk0:∀ b o,s.heap.get? b=some o->h'.get? b=some o:=fun b o e=>hk b o (kp b o e)
 have hDo:h'.get? s.heap.objs.size=some (LCg.lst []):=hk _ _ (by rw[hg];exact Heap.get?_push_size _ rfl)
 have neC:∀ b,b<s.heap.objs.size->b≠g.objs.size:=fun b e=>by rw[hsz];exact QC (Sr e)
 have hDC:s.heap.objs.size≠g.objs.size:=by rw[hsz];exact QC (RH _)
 have hfr:H g.objs.size=none:=I.hok.fresh (by rw[hsz];exact RF _)
 have hfD:H s.heap.objs.size=none:=I.hok.fresh (P9 _)
 have cne:∀ y c,X.env.cells.lookup y=some c->c<s.heap.objs.size:=fun y c e=>by
  obtain⟨v,q⟩:=I.cell y c e
  exact q.lt
 have nst:∀ b,b≠X.env.locals->b∉X.fs->b∉frs X.stack:=fun b h1 h2 z=>(P8.mp (I.stkSub b z)).elim h1 h2
 have nstD:s.heap.objs.size∉frs X.stack:=nst _ (RQ I.lt) (I.nofs (P9 _))
 refine⟨⟨I.ok.mod,O.kind,I.ok.glob,I.ok.blt,P9 _,?_,?_,fun _ _ z _=>(by cases z),I.ok.hd,I.ok.frames,.inl rfl,?_,?_,?_,?_,?_,?_,I.stkFree⟩,rfl,I.bare,Un.kept hk,?_,?_,hfr,?_,?_,I.hok.kept hk0,?_⟩
 ·intro y z c h1 h2
  exact I.ok.inj y z c (O.cells I h1) (O.cells I h2)
 ·intro y hy
  have hm:y∈fr.map (·.1):=by
   rcases hy with hy | hy
   ·exact O.has (y,_) (Q7 hy) (.inl rfl)
   ·exact O.has (y,_) (Q7 hy) (.inr rfl)
  exact⟨_,cg hm⟩
 ·intro b hb
  rcases P8.mp hb with rfl | hb
  ·exact⟨hDC,fun y c e=>QC (cne y c (O.cells I e))⟩
  ·exact⟨neC b (hfs b hb),fun y c e=>(hf b hb).2.2.2.2.1 y c (O.cells I e)⟩
 ·intro b o e
  exact⟨kp b o (I.bs b o e).1,(I.bs b o e).2⟩
 ·show X.base.objs.size<=g.objs.size
  rw[hsz]
  exact Nat.le_succ_of_le (QG I.ok.bsz I.sz)
 ·intro b o e hb
  rcases P8.mp hb with z | hb
  ·have:=Heap.lt_size (I.bs b o e).1
   rw[z]at this
   exact Q3 _ this
  ·rcases(hf b hb).2.2.2.1 with z | z
   ·exact I.ok.noex b o e z
   ·exact absurd (QB (Heap.lt_size (I.ok.bs b o e).1) z) (Q3 _)
 ·intro b hb
  rcases P8.mp hb with z | hb
  ·rw[z];exact nstD
  ·exact nst b (hf b hb).2.1 (hf b hb).2.2.1
 ·exact(I.kept (h':=g) (t':=s.toks) kp).stack
 ·refine⟨_,hC,fun i y v e1 e2 e3=>?_⟩
  cases i with
  |zero=>cases e2
  |succ k =>
   have e1':(fr.map (·.1))[k]?=some y:=e1
   have e2':(frOf fr σ)[k]?=some (some v):=e2
   unfold frOf at e2'
   rw[Qd]at e1' e2'
   cases q:fr[k]? with
   |none=>rw[q]at e1';cases e1'
   |some p =>
    rw[q]at e1' e2'
    have ey:p.1=y:=Qt e1'
    have ev:(σ[p.2]?).join=some v:=Qt e2'
    have hp:p∈fr:=P7 q
    obtain⟨hN,hK⟩:=O.slot p hp
    have hkk:=O.frk p hp
    rw[ey]at hN hK hkk
    have ev':σ[p.2]?=some (some v):=by
     cases q2:σ[p.2]? with
     |none=>rw[q2]at ev;cases ev
     |some w=>rw[q2]at ev;exact congrArg some ev
    obtain⟨m,hn,hl⟩:=I.loc
    obtain⟨u,r,l⟩:=hl p.2 y v hN ev' (.inr (.inl hK))
    refine⟨u,r,?_⟩
    rcases l with⟨k1,_⟩ | ⟨_,c,ec,z⟩
    ·rw[hK]at k1;cases k1
    ·have hm:y∈fr.map (·.1):=by rw[← ey];exact Qv.mpr ⟨p,hp,rfl⟩
     have el:=cg (env:=X.env) hm
     rw[ec]at el
     exact .inr ⟨.inl hkk,c,el,by obtain⟨o,ho,hd⟩:=z;exact⟨o,hk0 _ _ ho,hd⟩⟩
 ·intro y c e
  obtain⟨v,o,ho,hd⟩:=I.cell y c (O.cells I e)
  exact⟨v,o,hk0 _ _ ho,hd⟩
 ·intro y c e
  exact I.freeC y c (O.cells I e)
 ·intro p hp
  rcases Qf.mp hp with hp | hp
  ·cases hp
  ·rcases Qf.mp hp with hp | hp
   ·obtain⟨e,n,ne,nf,d⟩:=I.pin p hp
    exact⟨hk0 _ _ e,n,neC _ (Heap.lt_size e),nst _ ne nf,d⟩
   ·have ep:p=(s.heap.objs.size,LCg.lst []):=by simpa using hp
    subst ep
    exact⟨hDo,hfD,hDC,nstD,fun v z=>by cases z⟩
 ·show(none::frOf fr σ).length=(x::fr.map (·.1)).length
  unfold frOf
  simp
theorem Bc{fp:List Addr}{g:Heap}{s':Shared}{H':Hp}{σ':St}{ys:List V}{us:List Value}(I:Inv X pins σ H s)(hf:∀ b∈fp,FpOk X pins H b)(hg:g=s.heap.push (LCg.lst []))
  (J:Inv (eU X scope fr x g.objs.size (s.heap.objs.size::fp) { s with heap:=g } H) (X.pn++pins++[(s.heap.objs.size,LCg.lst us)]) σ' H' s') (hv:Vals ys us) (hl:ys.length<=sizeLine) :
  Inv X pins σ (upd H' s.heap.objs.size (.lst ys)) s'/\H' s.heap.objs.size=none/\FpOk X pins (upd H' s.heap.objs.size (.lst ys)) g.objs.size/\∃ m,s'.heap.Ns g.objs.size m:=by
 have hsz:g.objs.size=s.heap.objs.size+1:=by rw[hg,Heap.size_push]
 have kp:∀ b o,s.heap.get? b=some o->g.get? b=some o:=fun b o e=>by rw[hg];exact Heap.get?_push_of_some _ e
 obtain⟨eD,nD,_,_,_⟩:=J.pin (s.heap.objs.size,LCg.lst us) (by simp)
 have hDC:g.objs.size≠s.heap.objs.size:=by rw[hsz];exact RQ (RH _)
 have nD':∀ b u,H' b=some u->b≠s.heap.objs.size:=fun b u e z=>by rw[z]at e;rw[e]at nD;cases nD
 have hx:∀ b o,s.heap.get? b=some o->b∉fp->b∉s.heap.objs.size::fp:=fun b o e hb z=>by
  rcases P8.mp z with z | z
  ·have:=Heap.lt_size e
   rw[z]at this
   exact Q3 _ this
  ·exact hb z
 have bU:Un (frs X.stack) (s.heap.objs.size::fp) H H' g s'.heap:=J.base
 have ltD:∀ b o,s.heap.get? b=some o->b≠s.heap.objs.size:=fun b o e=>QC (Heap.lt_size e)
 have un:Un (frs X.stack) fp H (upd H' s.heap.objs.size (.lst ys)) s.heap s'.heap:=by
  refine⟨fun b o e n hb he=>bU.keep b o (kp b o e) n hb (hx b o e he),fun b o e n hb he=>bU.slot b o (kp b o e) n hb (hx b o e he),fun b o e n he=>?_,fun b o e he=>bU.there b o (kp b o e) (hx b o e he),fun b xs e=>?_,fun b o u e=>?_,fun b ps e=>?_⟩
  ·rw[ar (ltD b o e)];exact bU.free b o (kp b o e) n (hx b o e he)
  ·have q:=bU.tups b xs e
   rw[ar (nD' b _ q)];exact q
  ·have q:=bU.frzs b o u e
   rw[ar (nD' b _ q)];exact q
  ·obtain⟨more,q⟩:=bU.tbls b ps e
   exact⟨more,by rw[ar (nD' b _ q)];exact q⟩
 have hok:HOk X.prog X.w (upd H' s.heap.objs.size (.lst ys)) s'.heap:=fun b u e=>by
  by_cases hb:b=s.heap.objs.size
  ·rw[hb,ag]at e
   cases e
   rw[hb]
   exact⟨hl,us,us.length,hv,eD⟩
  ·rw[ar hb]at e
   exact(J.hok b u e).stay (fun c v _ q=>q) (fun c q=>by rw[ar (nD' c _ q)];exact q) fun c xs q=>by rw[ar (nD' c _ q)];exact q
 have os:s'.os=s.os:=J.os
 refine⟨I.call' os un hok J.bare fun b hb=>⟨(hf b hb).2.2.2.1,(hf b hb).2.1,(hf b hb).2.2.2.2⟩,nD,?_,?_⟩
 ·refine I.fpOk (H':=upd H' s.heap.objs.size (.lst ys)) (b:=g.objs.size) (by rw[hsz];exact RF _) ?_
  rw[ar hDC]
  exact J.free
 ·obtain⟨m,hn,_⟩:=J.loc
  exact⟨m,hn⟩
end
def rS(te:TE)(fv:St)(J:It)(H1:Hp)(QQ:List V->Hp->Prop):Prop :=
 ∃ W:Nat->Nat->List V->Hp->Prop,(∃ m,W 0 m [] H1)/\∀ i m ys H,W i m ys H->ys.length<=sizeLine /\
  ((J.stop i H/\QQ ys H)∨(J.go i H/\∃ N:V->Hp->Prop,(∀ y H2,N y H2->∃ m',m'<m/\W (i+1) m' (ys++[y]) H2)/\∀ x H',J.yld i H x H'->te (some x::fv) H' N))
section
variable{X:Cx}{scope:Scope}{fr:List (Str×Nat)}{x:Str}{elt iter:Expr}{px pos:Pos}{te:TE}{wi:TI}
theorem BI{pins:List (Addr×Obj)}{σ:St}{H:Hp}{s:Shared}{E:Value->Shared->Prop}{it:Addr}{fp:List Addr}{tn:Nat->Heap->Prop}{J:It}{RR:Value->Addr->Result->Shared->Prop}{QQ:List V->Hp->Prop}(hc:X.calm=true)(O:cq X scope fr x)
  (he:∀ C ex s H,PE (eU X scope fr x C ex s H) elt te) (I:Inv X pins σ H s) (T:Turn X.prog X.w X.K (.Name x px) J fp it tn) (st:tn 0 s.heap) (hf:∀ b∈fp,FpOk X pins H b) (hq:rS te (frOf fr σ) J H QQ)
  (fin:∀ D C H4 ys s4 m,Inv X pins σ (upd H4 D (.lst ys)) s4->H4 D=none->FpOk X pins (upd H4 D (.lst ys)) C->s4.heap.Ns C m->QQ ys H4->RR (.ref D) C (.ok .next) s4) :
  wpAny (model X.prog X.w) X.A (newList []) (fun acc s₃=>wpAny (model X.prog X.w) X.A (newFunctionEnv scope X.env.globals (clOf X.env fr) [] X.env.qual none .none (some X.env)) (fun cenv s₄ =>
   codeAny (model X.prog X.w) X.A (.compStart (.ListComp elt [⟨.Name x px,iter,[],0⟩] scope pos) 0 (.ref it) acc { cenv with scope:=relabel scope X.env }) (RR acc cenv.locals) s₄) E s₃) E s:=by
 obtain⟨W,⟨m0,w0⟩,turn⟩:=hq
 have hfs:∀ b∈fp,b<s.heap.objs.size:=fun b hb=>by
  obtain⟨o,e,_⟩:=T.obj 0 s.heap st b hb
  exact Heap.lt_size e
 refine wpAny_newObj_type (wpAny_newFunctionEnv O.cell (by intro y hy;simp at hy) (fun h₁ hns₁ hsb₁=>?_) O.kind)
 dsimp only at hns₁ hsb₁ ⊢
 generalize hH2:s.heap.push { cls:=.type "list",dict:=none,data:=.seq ([]:List Value).toArray }=g at hns₁ hsb₁ ⊢
 have hg:g=s.heap.push (LCg.lst []):=hH2.symm
 have hsz:g.objs.size=s.heap.objs.size+1:=by rw[hg,Heap.size_push]
 have hk:∀ b o,g.get? b=some o->h₁.get? b=some o:=fun b o e=>hsb₁.extBut b o (QC (Heap.lt_size e)) (Heap.get?_push_of_some _ e)
 have kp:∀ b o,s.heap.get? b=some o->h₁.get? b=some o:=fun b o e=>hk b o (by rw[hg];exact Heap.get?_push_of_some _ e)
 have J0:=MV (h':=h₁) (tk:=s.toks+([]:List (Str×Value)).length) O I hf hfs hg hk hns₁
 have stat:∀{H':Hp}{us:List Value},(∀ b∈fp,H' b=none)->∀ b∈fp,FpOk (eU X scope fr x g.objs.size (s.heap.objs.size::fp) { s with heap:=g } H) (X.pn++pins++[(s.heap.objs.size,LCg.lst us)]) H' b:=fun{H' us} hn b hb=>by
  obtain⟨_,f1,f2,f3,f4,f5⟩:=hf b hb
  refine⟨hn b hb,?_,fun z=>(P8.mp (I.stkSub b z)).elim f1 f2,.inl (Qe _ hb),fun y c e=>f4 y c (O.cells I e),fun p hp=>?_⟩
  ·show b≠g.objs.size
   rw[hsz];exact QC (Sr (hfs b hb))
  ·rcases Qf.mp hp with hp | hp
   ·cases hp
   ·rcases Qf.mp hp with hp | hp
    ·exact f5 p hp
    ·have ep:p=(s.heap.objs.size,LCg.lst us):=by simpa using hp
     rw[ep]
     exact RQ (hfs b hb)
 have loop:codeAny (model X.prog X.w) X.A (.compLoop (.ListComp elt [⟨.Name x px,iter,[],0⟩] scope pos) 0 (.ref it) (.ref s.heap.objs.size) (compEnvC scope (clOf X.env fr) g.objs.size X.env))
   (RR (.ref s.heap.objs.size) g.objs.size) { s with heap:=h₁,toks:=s.toks+([]:List (Str×Value)).length }:=by
  refine codeAny_compLoop_tests (fun n s'=>∃ i ys us H',Inv (eU X scope fr x g.objs.size (s.heap.objs.size::fp) { s with heap:=g } H) (X.pn++pins++[(s.heap.objs.size,LCg.lst us)]) (none::frOf fr σ) H' s'/\Vals ys us/\tn i s'.heap/\(∀ b∈fp,H' b=none)/\W i n ys H') ?_ m0
   ⟨0,[],[],H,J0,.nil,T.keep 0 s.heap h₁ st fun b _ o e=>kp b o e,fun b hb=>(hf b hb).1,w0⟩
  rintro n s3 ⟨i,ys,us,H3,J3,hv,st3,fr3,w3⟩
  obtain⟨hlen,hh⟩:=turn i n ys H3 w3
  have none_err:∀{α:Type}{t:Sem α}{Q:α->Shared->Prop}{E':Value->Shared->Prop}{s:Shared},wpAny (model X.prog X.w) X.A t Q (fun _ _=>False) s->wpAny (model X.prog X.w) X.A t Q E' s:=fun h=>wpAny_mono h (fun _ _ q=>q) fun _ _ z=>z.elim
  rcases hh with⟨stop,qn⟩ | ⟨go,N,hN,step⟩
  ·refine none_err (thn (T.done (eU X scope fr x g.objs.size (s.heap.objs.size::fp) { s with heap:=g } H) rfl rfl rfl hc i _ s3 _ H3 _ J3 (stat fr3) st3 stop) fun r s4 ⟨hr,J4⟩=>?_)
   subst hr
   obtain⟨I4,nD,fC,m,hn⟩:=Bc I hf hg J4 hv hlen
   exact fin _ _ H3 ys s4 m I4 nD fC hn qn
  ·refine none_err (thn (T.item (eU X scope fr x g.objs.size (s.heap.objs.size::fp) { s with heap:=g } H) rfl rfl rfl hc i _ s3 _ H3 _ J3 (stat fr3) st3 go) fun r s4 ⟨u,hr,h4⟩=>?_)
   subst hr
   have h4':=wpAny_bind (f:=fun _=>assign (.Name x px) (compEnvC scope (clOf X.env fr) g.objs.size X.env) u) (thn h4 (Q':=fun _ s5=>wpAny (model X.prog X.w) X.A (assign (.Name x px) (compEnvC scope (clOf X.env fr) g.objs.size X.env) u) (fun _ s6=>∃(σ6:St)(H6:Hp)(v:V)(s5':Shared)(H5:Hp),Inv (eU X scope fr x g.objs.size (s.heap.objs.size::fp) { s with heap:=g } H) (X.pn++pins++[(s.heap.objs.size,LCg.lst us)]++Aa fp s5'.heap) σ6 H6 s6/\σ6=some v::frOf fr σ/\H6=H5/\J.yld i H3 v H5/\tn (i+1) s5'.heap) (fun _ _=>False) s5) fun _ s5 ⟨v,H5,J5,r5,y5,st5,fr5⟩=>by
    have J5':=J5.pinned (stat fr5) (T.obj _ _ st5)
    have hNd:(eU X scope fr x g.objs.size (s.heap.objs.size::fp) { s with heap:=g } H).N.Nodup:=O.nd
    have hxl:(eU X scope fr x g.objs.size (s.heap.objs.size::fp) { s with heap:=g } H).env.scope.names.lookup x=some .local:=lookup_relabel_local O.xl
    exact thn (aV (X:=eU X scope fr x g.objs.size (s.heap.objs.size::fp) { s with heap:=g } H) (i:=0) hNd rfl (.inl hxl) (.inr hxl) _ s5 _ H5 v u (fun σ6 H6=>σ6=some v::frOf fr σ/\H6=H5) J5' r5 ⟨rfl,rfl⟩) fun _ s6 ⟨σ6,H6,J6,e6,e7⟩=>⟨σ6,H6,v,s5,H5,J6,e6,e7,y5,st5⟩)
   refine none_err (thn h4' fun _ s6 ⟨σ6,H6,v,s5,H5,J6,e6,e7,y5,st5⟩=>?_)
   subst e6 e7
   refine wpAny_tests_nil ?_
   rw[if_pos rfl]
   refine none_err (thn (he _ _ _ _ _ s6 _ H6 _ J6 (step v H6 y5)) fun u7 s7 ⟨v7,H7,J7,r7,q7⟩=>?_)
   obtain⟨m',hm,w7⟩:=hN v7 H7 q7
   obtain⟨eD,nD,dC,dF,dd⟩:=J7.pin (s.heap.objs.size,LCg.lst us) (Qo _ (QF _ (Qo _ (by simp))))
   have hvl:=hv.length
   refine append_at (hsz:=by show us.toArray.size<=sizeLine;rw[Qq,← hvl];exact hlen) eD fun h8 hs8 hD8=>?_
   have pinD:∀ p∈X.pn++pins,p.1≠s.heap.objs.size:=fun p hp z=>by
    have:=Heap.lt_size (I.pin p hp).1
    rw[z]at this
    exact Q3 _ this
   have J7a:Inv (eU X scope fr x g.objs.size (s.heap.objs.size::fp) { s with heap:=g } H) (X.pn++pins) _ H7 s7:=J7.pins_of fun p hp=>J7.pin p (Qo _ (QF _ (QF _ hp)))
   have J8:Inv (eU X scope fr x g.objs.size (s.heap.objs.size::fp) { s with heap:=g } H) (X.pn++pins) _ H7 { s7 with heap:=h8 }:=J7a.turned (t':=s7.toks) (fun b o hb e=>(hs8.2 b hb).trans e) nD dC (.inl Ql) (fun y c e z=>by
    obtain⟨w',q⟩:=I.cell y c (O.cells I e)
    have:=q.lt
    rw[z]at this
    exact Q3 _ this) (fun p hp=>(Qf.mp hp).elim (fun z=>by cases z) (pinD p))
   have J9:Inv (eU X scope fr x g.objs.size (s.heap.objs.size::fp) { s with heap:=g } H) (X.pn++pins++[(s.heap.objs.size,LCg.lst (us++[u7]))]) _ H7 { s7 with heap:=h8 }:=J8.pins_of fun p hp=>by
    rcases Qf.mp hp with hp | hp
    ·exact J8.pin p (Qo _ hp)
    ·have ep:p=(s.heap.objs.size,LCg.lst (us++[u7])):=by simpa using hp
     subst ep
     exact⟨hD8.trans (congrArg some (LCg.lst_snoc us u7)),nD,dC,dF,fun v z=>by cases z⟩
   have J10:=J9.weak (σ':=none::frOf fr σ) rfl fun i v e=>by
    cases i with
    |zero=>cases e
    |succ k=>exact e
   have pinF:∀ b∈fp,∀ o,s5.heap.get? b=some o->s7.heap.get? b=some o/\H7 b=none:=fun b hb o e=>by
    obtain⟨q1,q2,_⟩:=J7.pin (b,o) (Qo _ (Qo _ (h7 hb e)))
    exact⟨q1,q2⟩
   refine⟨m',hm,i+1,ys++[v7],us++[u7],H7,J10,hv.append (.cons r7 .nil),T.keep _ _ _ st5 fun b hb o e=>(hs8.2 b (QC (hfs b hb))).trans (pinF b hb o e).1,fun b hb=>?_,w7⟩
   obtain⟨o,e,_⟩:=T.obj _ _ st5 b hb
   exact(pinF b hb o e).2
 exact codeAny_compStart_list loop (T.self X.A 0 _ _ _ (T.keep 0 s.heap h₁ st fun b _ o e=>kp b o e) loop)
def tComp(wi:TI)(te:TE)(fr:List (Str×Nat)):TE:=fun σ H Q=>wi σ H fun J H1=>rS te (frOf fr σ) J H1 fun ys H2=>∀ D,H2 D=none->Q (.ref D) (upd H2 D (.lst ys))
theorem iw(hc:X.calm=true)(O:cq X scope fr x)(hi:PI X (.Name x px) iter wi)(he:∀ C ex s H,PE (eU X scope fr x C ex s H) elt te)(hs:∀ x,foldedSetIterable iter X.env x=pure x:=by intro _;rfl) :
  PE X (.ListComp elt [⟨.Name x px,iter,[],0⟩] scope pos) (tComp wi te fr):=by
 intro pins s σ H Q I h
 rw[eval_ListComp]
 refine wpAny_comprehension_free (use:=none) rfl hs O.clos O.kind O.names (thn (hi pins s σ H _ I h) fun xv s1 h1=>thn h1 fun itv s2 h2=>?_)
 obtain⟨it,fp,tn,J,H2,e,I2,T,st2,f2,q2⟩:=h2
 subst e
 refine BI (RR:=fun acc C=>compPost (model X.prog X.w) X.A X.xe none (EP X pins σ Q) acc C) hc O he I2 T st2 f2 q2 ?_
 intro D C H4 ys s4 m I4 nD fC hn q4
 refine⟨m,hn,fun h' hs'=>?_⟩
 obtain⟨g0,g1,g2,g3,g4,g5⟩:=fC
 exact⟨.ref D,_,I4.turned (t':=s4.toks) (fun b o hb e=>(hs'.2 b hb).trans e) g0 g1 g3 g4 g5,rfl,q4 D nD⟩
def Mc(i:Nat)(wi:TI)(te:TE)(fr:List (Str×Nat)):TS:=fun D σ H=>wi σ H fun J H1=>rS te (frOf fr σ) J H1 fun ys H2=>∀ a,H2 a=none->D.nx (σ.set i (some (.ref a))) (upd H2 a (.lst ys))
theorem kL{i:Nat}{y:Str}{py spos:Pos}(hc:X.calm=true)(hN:X.N.Nodup)(hi':X.N[i]?=some y)(hy:X.env.scope.names.lookup y=some .local)(O:cq X scope fr x)(hi:PI X (.Name x px) iter wi)(he:∀ C ex s H,PE (eU X scope fr x C ex s H) elt te)
  (hsw:swapsWith (.ListComp elt [⟨.Name x px,iter,[],0⟩] scope pos) (some (.Name y py)) spos.line X.env=pure true:=by rfl) (hs:∀ x,foldedSetIterable iter X.env x=pure x:=by intro _;rfl) :
  PS X (.Assign [.Name y py] (.ListComp elt [⟨.Name x px,iter,[],0⟩] scope pos) spos) (Mc i wi te fr):=by
 intro pins s σ H D I h
 rw[exec_Assign_Name_used _ _ _ _ hsw]
 refine wpAny_bind (wpAny_standAt (wpAny_bind ?_))
 show wpAny _ X.A (do let _ ← comprehension (.ListComp elt [⟨.Name x px,iter,[],0⟩] scope pos) scope X.env _ (newList []) false (eval iter X.env) (some (assign (.Name y py) X.env))) _ _ s
 refine wpAny_bind (thn (wpAny_comprehension_free (use:=some (assign (.Name y py) X.env)) (Q:=fun _ s'=>SP X pins D .next s') rfl hs O.clos O.kind O.names (thn (hi pins s σ H _ I h) fun xv s1 h1=>thn h1 fun itv s2 h2=>?_)) fun _ s' hq=>wpAny_pure (wpAny_pure hq))
 obtain⟨it,fp,tn,J,H2,e,I2,T,st2,f2,q2⟩:=h2
 subst e
 refine BI (RR:=fun acc C=>compPost (model X.prog X.w) X.A X.xe (some (assign (.Name y py) X.env)) (fun _ s'=>SP X pins D .next s') acc C) hc O he I2 T st2 f2 q2 ?_
 intro a C H4 ys s4 m I4 nD fC hn q4
 obtain⟨g0,g1,g2,g3,g4,g5⟩:=fC
 obtain⟨oC,eC,hoC⟩:=LCg.ns_obj hn
 have I5:Inv X (pins++[(C,oC)]) σ (upd H4 a (.lst ys)) s4:=I4.pins_of fun p hp=>by
  rcases Qf.mp hp with hp | hp
  ·exact I4.pin p (Qo _ hp)
  ·have ep:p=(C,oC):=by simpa using hp
   subst ep
   obtain⟨es,epp,hd,_⟩:=hoC
   exact⟨eC,g0,g1,g2,fun v z=>by rw[hd]at z;cases z⟩
 show wpAny _ X.A (assign (.Name y py) X.env (.ref a)) _ _ _
 refine wpAny_assign_Name (nu I5 hN hi' (.inl hy) (v:=.ref a) rfl (fun s6 I6=>?_) (.inr hy))
 obtain⟨e6,_⟩:=I6.pin (C,oC) (Qo _ (Qo _ (by simp)))
 refine⟨m,hoC.ns e6,fun h' hs'=>?_⟩
 exact⟨_,_,I6.unpinned.turned (t':=s6.toks) (fun b o hb e=>(hs'.2 b hb).trans e) g0 g1 g3 g4 g5,q4 a nD⟩
end
theorem d8{K:P1}{a:Addr}{xs:List V}{te:TE}{fv:St}{H1:Hp}{QQ:List V->Hp->Prop}(Pv:Nat->List V->Hp->Prop)(hz:xs.length<=sizeLine)(h0:Pv 0 [] H1)(hl:∀ i ys H,i<=xs.length->Pv i ys H->SqL K H a xs)
  (hs:∀ i x ys H,xs[i]?=some x->Pv i ys H->te (some x::fv) H fun y H2=>Pv (i+1) (ys++[y]) H2) (hd:∀ ys H,ys.length=xs.length->Pv xs.length ys H->QQ ys H)
  : rS te fv (Itl K a) H1 QQ:=by
 refine⟨fun i m ys H=>m=xs.length-i/\i<=xs.length/\ys.length=i/\Pv i ys H,⟨xs.length,by simp,Q6 _,rfl,h0⟩,?_⟩
 rintro i m ys H ⟨rfl,hi,hy,p⟩
 have q:=hl i ys H hi p
 refine⟨by omega,?_⟩
 by_cases hlt:i<xs.length
 ·refine .inr ⟨⟨xs,xs[i],q,by simp[hlt]⟩,fun y H2=>Pv (i+1) (ys++[y]) H2,fun y H2 p2=>⟨xs.length-(i+1),by omega,rfl,hlt,by rw[P2,hy];rfl,p2⟩,fun x H' y=>?_⟩
  obtain⟨e,y⟩:=y
  subst e
  exact hs i x ys _ (y xs q) p
 ·have e:i=xs.length:=by omega
  subst e
  exact .inl ⟨⟨xs,q,P9 _⟩,hd ys H hy p⟩
theorem wI{lo:Int}{n:Nat}{te:TE}{fv:St}{H1:Hp}{QQ:List V->Hp->Prop}(Pv:Nat->List V->Hp->Prop)(hz:n<=sizeLine)(h0:Pv 0 [] H1)
  (hs:∀ i ys H,i<n->Pv i ys H->te (some (.int (lo+i))::fv) H fun y H2=>Pv (i+1) (ys++[y]) H2) (hd:∀ ys H,ys.length=n->Pv n ys H->QQ ys H)
  : rS te fv (Itr lo n) H1 QQ:=by
 refine⟨fun i m ys H=>m=n-i/\i<=n/\ys.length=i/\Pv i ys H,⟨n,by simp,Q6 _,rfl,h0⟩,?_⟩
 rintro i m ys H ⟨rfl,hi,hy,p⟩
 refine⟨by omega,?_⟩
 by_cases hlt:i<n
 ·refine .inr ⟨hlt,fun y H2=>Pv (i+1) (ys++[y]) H2,fun y H2 p2=>⟨n-(i+1),by omega,rfl,hlt,by rw[P2,hy];rfl,p2⟩,fun x H' y=>?_⟩
  obtain⟨e,y⟩:=y
  subst e y
  exact hs i ys _ hlt p
 ·have e:i=n:=by omega
  subst e
  exact .inl ⟨P9 _,hd ys H hy p⟩
end L2
namespace L2
open PySem PySem.Spec PyProof.Rows
theorem Gi:bootBuiltins "int" = some (.type "int"):=by decide +kernel
theorem jh:bootBuiltins "list" = some (.type "list"):=by decide +kernel
theorem aT:bootBuiltins "len" = some (.builtin "len"):=by decide +kernel
theorem Nd:bootBuiltins "range" = some (.type "range"):=by decide +kernel
theorem oi:bootBuiltins "isinstance" = some (.builtin "isinstance"):=by decide +kernel
theorem Lx:bootBuiltins "sorted" = some (.builtin "sorted"):=by decide +kernel
theorem BR:bootBuiltins "enumerate" = some (.type "enumerate"):=by decide +kernel
structure Cal(P:Program)(w:World)(K:P1)(mg:Str->Option Value)(base:Heap)(k:Nat)(x:Str)(ps:List Str)(sp:Sp)(f:Addr)(fd:FuncData):Prop where
 ok:FnOk P w K mg base CX0 k f fd ps sp
 bn:gT K fd ps []
 mg:mg x=some (.ref f)
 kp:Qb K (.ref f)=true
structure Mak(P:Program)(w:World)(K:P1)(mg:Str->Option Value)(base:Heap)(k:Nat)(x:Str)(ps:List Str)(sp:Sp)(C f:Addr)(fd:FuncData):Prop where
 mkc:Mk K C f
 ok:FnOk P w K mg base CX0 k f fd ps sp
 bn:gT K fd ps []
 mg:mg x=some (.ref C)
structure Met(P:Program)(w:World)(K:P1)(mg:Str->Option Value)(base:Heap)(k:Nat)(C:Addr)(m:Str)(ps:List Str)(sp:Sp)(f:Addr)(fd:FuncData):Prop where
 me:Meth K C m f
 ok:FnOk P w K mg base CX0 k f fd ps sp
 bn:gT K fd ps []
theorem jD{X:Cx}{sts:List Stmt}{t t2:TS}(h:PSs X sts t)(i:∀ D σ H,t2 D σ H->t D σ H):PSs X sts t2:=fun pins s σ H D I q=>h pins s σ H D I (i D σ H q)
section
variable{X:Cx}
end
inductive RdD(K:P1)(H:Hp):V->PyData->Prop where
 |non:RdD K H .non .none
 |bl (b:Bool):RdD K H (.bl b) (.bool b)
 |int (i:Int):RdD K H (.int i) (.int i)
 |lst {a:Addr} {xs:List V} {ds:List PyData} (h:SqL K H a xs) (hl:xs.length=ds.length) (r:∀(i:Nat)(x:V)(d:PyData),xs[i]?=some x->ds[i]?=some d->RdD K H x d):RdD K H (.ref a) (.list ds)
 |tup {a:Addr} {xs:List V} {ds:List PyData} (h:SqT K H a xs) (hl:xs.length=ds.length) (r:∀(i:Nat)(x:V)(d:PyData),xs[i]?=some x->ds[i]?=some d->RdD K H x d):RdD K H (.ref a) (.tuple ds)
theorem lY{h:Heap}:∀{xs:List V}{us:List Value}{ds:List PyData},Vals xs us->xs.length=ds.length->(∀(i:Nat) x d,xs[i]?=some x->ds[i]?=some d->∀ u,RelV x u->∃ as,Reads h u d as)->∃ as,ReadsAll h us ds as
 |_,_,[],.nil,_,_=>⟨_,.nil⟩
 |_,_,_::_,.nil,e,_=>by cases e
 |_,_,[],.cons _ _,e,_=>by cases e
 |_,_,d::ds,.cons r rr,e,k=>by
  obtain⟨a1,q1⟩:=k 0 _ d rfl rfl _ r
  obtain⟨a2,q2⟩:=lY rr (Nat.succ.inj e) fun i x d' e1 e2=>k (i+1) x d' e1 e2
  exact⟨_,.cons q1 q2⟩
section
variable{X:Cx}
theorem RdD.reads{pins:List (Addr×Obj)}{σ:St}{H:Hp}{s:Shared}(I:Inv X pins σ H s){x:V}{d:PyData}(r:RdD X.K H x d):∀ u,RelV x u->∃ as,Reads s.heap u d as:=by
 induction r with
 |non=>intro u hu;cases hu;exact⟨_,.none⟩
 |bl b=>intro u hu;cases hu;exact⟨_,.bool b⟩
 |int i=>intro u hu;obtain⟨t,rfl⟩:=hu;exact⟨_,.int i t⟩
 |lst h hl r ih =>
  intro u hu
  cases hu
  obtain⟨its,rv,p,_⟩:=I.list h
  obtain⟨as,q⟩:=lY (h:=s.heap) rv hl ih
  obtain⟨o,n,e,c,_,d⟩:=p
  exact⟨_,.list e c d (by simpa using q)⟩
 |tup h hl r ih =>
  intro u hu
  cases hu
  obtain⟨its,rv,p,_⟩:=I.tuple h
  obtain⟨as,q⟩:=lY (h:=s.heap) rv hl ih
  obtain⟨o,e,c,n,d⟩:=p
  exact⟨_,.tuple e c d (by simpa using q)⟩
def rSame(b:Bool)(K:P1):R2:=fun x y H Q=>∃ d,RdD K H x d/\RdD K H y d/\SeqAt.shaped d=true/\Q (.bl b) H
theorem op_neD(hu:X.A.units+64<cLine):OpR X (compareOp .NotEq) (rSame false X.K):=by
 intro pins s σ H x y v u Q I rx ry h
 obtain⟨d,r1,r2,hs,q⟩:=h
 obtain⟨as,q1⟩:=r1.reads I v rx
 obtain⟨bs,q2⟩:=r2.reads I u ry
 refine ne_dataH q1 q2 hs hs hu ?_
 rw[SeqAt.eqv_refl d (SeqAt.canLay_of_shaped hs)]
 exact⟨.bl false,H,I,rfl,q⟩
end
def Itr3(lo c:Int)(n:Nat):It:=⟨fun i _=>i<n,fun i H x H'=>H'=H/\x=.int (lo+i*c),fun i _=>n<=i⟩
theorem Cu{P:Program}{w:World}{K:P1}{tg:Expr}(it:Addr)(lo c:Int)(n:Nat):Turn P w K tg (Itr3 lo c n) [it] it (fun i h=>IsRangeIter h it (lo+(i:Nat)*c) ((n:Int)-(i:Nat)) c) where
 mem:=by simp
 obj:=fun i h st b hb=>by
  have e:b=it:=by simpa using hb
  subst e
  exact⟨_,st,fun v z=>by
   have z':Data.fields _=Data.cell v:=z
   cases z'⟩
 keep:=fun i h h' st k=>k it (by simp) _ st
 item:=by
  intro X hP hw hK hc i pins s σ H E I hf st hg
  subst hP hw hK
  obtain⟨f0,f1,f2,f3,f4,f5⟩:=hf it (by simp)
  have W:=Walks.range (prog:=X.prog) (w:=X.w) (I.ok.hd hc) it lo c n
  refine W.item i s _ _ hg st fun v h' tk hv st' kk=>?_
  obtain⟨t,rfl⟩:=hv
  have I1:Inv X pins σ H { s with heap:=h',toks:=tk }:=I.turned (fun b o hb e=>kk b o (by simpa using hb) e) f0 f1 f3 f4 f5
  exact⟨_,rfl,MZ (s:={ s with heap:=h',toks:=tk }) (n:="range_iterator") st' rfl rfl (by decide) ⟨.int (lo+i*c),H,I1,⟨t,rfl⟩,⟨rfl,rfl⟩,st',fun b hb=>(hf b hb).1⟩⟩
 done:=by
  intro X hP hw hK hc i pins s σ H E I hf st hg
  subst hP hw hK
  obtain⟨f0,f1,f2,f3,f4,f5⟩:=hf it (by simp)
  exact wpAny_pyNext_range_end (I.ok.hd hc) st (by have:n<=i:=hg;omega) fun h' eb=>⟨rfl,I.turned (t':=s.toks) (fun b o hb e=>eb b o hb e) f0 f1 f3 f4 f5⟩
 self:=fun _ _ _ _ _ st h=>wpAny_pyIter_rangeiter st h
section
variable{X:Cx}{tg:Expr}
end
theorem HR{lo c:Int}{n:Nat}{g:TG}{tb:TS}{D:Ends}{σ:St}{H:Hp}(Pv:Nat->St->Hp->Prop)(h0:Pv 0 σ H)
  (hs:∀ i σ H,i<n->Pv i σ H->g (.int (lo+i*c)) σ H fun σ2 H2=>tb { D with nx:=Pv (i+1),ct:=Pv (i+1),bk:=D.nx } σ2 H2) (hd:∀ σ H,Pv n σ H->D.nx σ H) :
  ∃ W:Nat->Nat->St->Hp->Prop,(∃ m,W 0 m σ H)/\∀ i m σ H,W i m σ H ->
   ((Itr3 lo c n).stop i H/\D.nx σ H)∨((Itr3 lo c n).go i H/\∃ N:St->Hp->Prop,(∀ σ' H',N σ' H'->∃ m',m'<m/\W (i+1) m' σ' H')/\∀ x H',(Itr3 lo c n).yld i H x H'->g x σ H' fun σ2 H2=>tb { D with nx:=N,ct:=N,bk:=D.nx } σ2 H2):=by
 refine⟨fun i m σ H=>m=n-i/\i<=n/\Pv i σ H,⟨n,by simp,Q6 _,h0⟩,?_⟩
 rintro i m σ H ⟨rfl,hi,p⟩
 by_cases hlt:i<n
 ·refine .inr ⟨hlt,Pv (i+1),fun σ' H' p'=>⟨n-(i+1),by omega,rfl,hlt,p'⟩,fun x H' y=>?_⟩
  obtain⟨e,y⟩:=y
  subst e y
  exact hs i σ _ hlt p
 ·have e:i=n:=by omega
  subst e
  exact .inl ⟨P9 _,hd σ H p⟩
end L2
namespace L2
open PySem PySem.Spec PyProof.Rows
section
variable{P:Program}{w:World}{H:Hp}{h:Heap}{a:Addr}{o:HO}
theorem b5.get(x:b5 P w H h a o):∃ ob,h.get? a=some ob:=by
 cases o with
 |lst xs=>obtain⟨_,_,_,_,e⟩:=x;exact⟨_,e⟩
 |tup xs=>obtain⟨_,_,_,ob,e,_⟩:=x;exact⟨_,e⟩
 |dK kvs=>obtain⟨_,_,_,_,o,_,_,e,_⟩:=x;exact⟨_,e⟩
 |dT kvs=>obtain⟨_,_,_,_,o,_,_,e,_⟩:=x;exact⟨_,e⟩
 |set S n=>obtain⟨o,_,_,_,e,_⟩:=x;exact⟨_,e⟩
 |ins C dx fs=>obtain⟨_,_,_,e,_⟩:=x;exact⟨_,e⟩
 |own y=>exact x
 |xd fs=>obtain⟨_,⟨_,_,_,e,_⟩,_⟩:=x;exact⟨_,e⟩
 |rng lo hi=>obtain⟨_,_,_,e⟩:=x;exact⟨_,e⟩
 |frz ob u=>exact⟨_,x.1⟩
 |tbl ps=>exact⟨_,(show h.get? a=some _ from x)⟩
 |met f y=>exact⟨_,(show h.get? a=some _ from x)⟩
 |ext φ=>exact x.2.1
theorem HOk.none_of(x:HOk P w H h)(e:h.get? a=none):H a=none:=by
 cases q:H a with
 |none=>rfl
 |some u =>
  obtain⟨ob,z⟩:=(x a u q).get
  rw[e]at z
  cases z
end
structure XOk(X:Cx)(pins:List (Addr×Obj))(H:Hp)(b:Addr):Prop where
 old:X.s₀.heap.get? b=none
 trk:H b=none
 nl:b≠X.env.locals
 nc:∀ x c,X.env.cells.lookup x=some c->c≠b
 np:∀ p∈X.pn++pins,p.1≠b
section
variable{X:Cx}{pins:List (Addr×Obj)}{σ:St}{H H':Hp}{s s':Shared}{b:Addr}
theorem Inv.xok(I:Inv X pins σ H s)(hx:X.ex = [])(e:s.heap.get? b=none)(n:H' b=none):XOk X pins H' b:=by
 refine⟨?_,n,fun z=>?_,fun x c q z=>?_,fun p hp z=>?_⟩
 ·cases q:X.s₀.heap.get? b with
  |none=>rfl
  |some o =>
   obtain⟨o',e'⟩:=I.base.there b o q (by rw[hx];simp)
   rw[e]at e'
   cases e'
 ·obtain⟨m,⟨o,_,_,ho,_⟩,_⟩:=I.loc
  rw[z,ho]at e
  cases e
 ·obtain⟨v,o,ho,_⟩:=I.cell x c q
  rw[z,e]at ho
  cases ho
 ·have:=(I.pin p hp).1
  rw[z,e]at this
  cases this
theorem Inv.xstep{h':Heap}{ch:List Addr}(I:Inv X pins σ H s)(hch:∀ b∈ch,XOk X pins H b)
  (keep:∀ b o,s.heap.get? b=some o->b∉ch->b∉frs X.stack->h'.get? b=some o)
  (slot:∀ b o,s.heap.get? b=some o->b∉ch->b∈frs X.stack->∃ sl,h'.get? b=some { o with slots:=sl }):Inv X pins σ H { s with heap:=h' }:=by
 have any:∀ b o,s.heap.get? b=some o->b∉ch->∃ sl,h'.get? b=some { o with slots:=sl }:=fun b o e hc=>by
  by_cases hb:b∈frs X.stack
  ·exact slot b o e hc hb
  ·exact⟨o.slots,keep b o e hc hb⟩
 have fsub:∀ b,b∈frs X.stack->b≠X.env.locals->b∈X.fs:=fun b hb n=>(P8.mp (I.stkSub b hb)).elim (fun z=>absurd z n) fun z=>z
 have neL:∀ b o,X.s₀.heap.get? b=some o->b≠X.env.locals:=fun b o e=>QC (QB (Heap.lt_size e) I.ok.above)
 have neC:∀ b o,X.s₀.heap.get? b=some o->b∉ch:=fun b o e hb=>by
  have:=(hch b hb).old
  rw[e]at this
  cases this
 have cellK:∀ x c,X.env.cells.lookup x=some c->∀ v,s.heap.IsCell c v->h'.IsCell c v:=fun x c e v ⟨o,ho,hd⟩=>by
  obtain⟨sl,q⟩:=any c o ho fun z=>(hch c z).nc x c e rfl
  exact⟨_,q,hd⟩
 refine⟨I.ok,I.os,I.bare,⟨fun b o e n hb hx=>?_,fun b o e n hb hx=>?_,I.base.free,fun b o e hx=>?_,I.base.tups,I.base.frzs,I.base.tbls⟩,?_,fun x c e=>?_,I.free,I.freeC,fun p hp=>?_,fun b u e=>?_,I.len⟩
 ·exact keep b o (I.base.keep b o e n hb hx) (neC b o e) fun z=>hb (fsub b z (neL b o e))
 ·obtain⟨sl,e1⟩:=I.base.slot b o e n hb hx
  obtain⟨sl',e2⟩:=any b _ e1 (neC b o e)
  exact⟨sl',e2⟩
 ·obtain⟨o',e1⟩:=I.base.there b o e hx
  obtain⟨sl,e2⟩:=any b _ e1 (neC b o e)
  exact⟨_,e2⟩
 ·obtain⟨m,⟨o,es,ep,ho,r⟩,hl⟩:=I.loc
  obtain⟨sl,e2⟩:=any _ o ho fun z=>(hch _ z).nl rfl
  refine⟨m,⟨_,es,ep,e2,r⟩,fun i x v e1 e2 e3=>?_⟩
  obtain⟨u,r,l⟩:=hl i x v e1 e2 e3
  refine⟨u,r,?_⟩
  rcases l with l | ⟨k,c,e,z⟩
  ·exact .inl l
  ·exact .inr ⟨k,c,e,cellK x c e _ z⟩
 ·obtain⟨v,z⟩:=I.cell x c e
  exact⟨v,cellK x c e v z⟩
 ·obtain⟨e,n,ne,nf,d⟩:=I.pin p hp
  exact⟨keep p.1 p.2 e (fun z=>(hch p.1 z).np p hp rfl) fun z=>nf (fsub p.1 z ne),n,ne,nf,d⟩
 ·have nof:∀ c u',H c=some u'->c∉ch/\c∉frs X.stack:=fun c u' q=>⟨fun z=>(by rw[(hch c z).trk]at q;exact nomatch q),fun z=>(by rw[I.stkFree c z]at q;exact nomatch q)⟩
  refine(I.hok b u e).stay (fun c v hc q=>?_) (fun _ q=>q) fun _ _ q=>q
  rcases hc with z | z
  ·rw[z]at q ⊢
   exact keep b v q (nof b u e).1 (nof b u e).2
  ·exact keep c v q (nof c _ z).1 (nof c _ z).2
theorem Inv.xtrack{a:Addr}{o:HO}(I:Inv X pins σ H s)(f:XOk X pins H a)(new:b5 X.prog X.w (upd H a o) s.heap a o):Inv X pins σ (upd H a o) s:=by
 have ne:∀ b u,H b=some u->b≠a:=fun b u e=>aB e f.trk
 have nb:∀ b u,s.heap.get? b=some u->b≠a->H b=none->upd H a o b=none:=fun b u _ n q=>by rw[ar n];exact q
 refine⟨I.ok,I.os,I.bare,⟨I.base.keep,I.base.slot,fun b ob e n hx=>?_,I.base.there,fun b xs e=>?_,fun b ob xs e=>?_,fun b ps e=>?_⟩,I.loc,I.cell,?_,fun x c e=>?_,fun p hp=>?_,fun b u e=>?_,I.len⟩
 ·rw[ar (fun z=>by rw[z,f.old]at e;cases e)]
  exact I.base.free b ob e n hx
 ·have:=I.base.tups b xs e
  rw[ar (ne _ _ this)]
  exact this
 ·have:=I.base.frzs b ob xs e
  rw[ar (ne _ _ this)]
  exact this
 ·obtain⟨m,q⟩:=I.base.tbls b ps e
  exact⟨m,by rw[ar (ne _ _ q)];exact q⟩
 ·rw[ar (Ne.symm f.nl)]
  exact I.free
 ·rw[ar (f.nc x c e)]
  exact I.freeC x c e
 ·obtain⟨e,n,r⟩:=I.pin p hp
  exact⟨e,by rw[ar (f.np p hp)];exact n,r⟩
 ·by_cases hb:b=a
  ·rw[hb,ag]at e
   cases e
   rw[hb]
   exact new
  ·rw[ar hb]at e
   exact(I.hok b u e).stay (fun c v _ q=>q) (fun c q=>by rw[ar (ne c _ q)];exact q) fun c xs q=>by rw[ar (ne c _ q)];exact q
end
def Trc(h:Heap)(x:Addr)(C:Value)(T:Addr):Prop :=
 ∃ oe vs a0 oT ts,h.get? x=some oe/\oe.cls=C/\vs[0]?=some a0/\oe.data=.fields vs/\vs[1]?=some (.ref T)/\T≠x/\h.get? T=some oT/\oT.data=.fields ts/\ts[3]?=some .none
def Xnw(h:Heap)(x:Addr)(C:Value):Prop:=∃ oe vs a0,h.get? x=some oe/\oe.cls=C/\oe.data=.fields vs/\vs[0]?=some a0/\vs[1]?=some .none
def XA(X:Cx)(pins:List (Addr×Obj))(H:Hp)(s:Shared)(x:Addr)(C:Value):Prop:=XOk X pins H x/\(Xnw s.heap x C∨∃ T,XOk X pins H T/\Trc s.heap x C T)
section
variable{X:Cx}{pins:List (Addr×Obj)}{σ:St}{H:Hp}{s:Shared}{x:Addr}{C:Value}{E:Value->Shared->Prop}
abbrev hidX(X:Cx)(h:Heap)(ch:List Addr):Heap:=PySem.W.hideAll h (ch++frs X.stack)
theorem Inv.hidF(I:Inv X pins σ H s)(ch:List Addr):s.heap.FunFrames (hidX X s.heap ch) X.stack :=
 PySem.W.funFrames_hide I.stack fun env he a hf=>Qo _ (SX.mpr ⟨env,he,hf⟩)
theorem F4(ch:List Addr)(h:Heap):(hidX X h ch).StaysIn h:=fun _ _ e=>PySem.W.of_hideAll _ e
theorem iX{ch:List Addr}{h:Heap}{b:Addr}(hb:b∈ch):(hidX X h ch).get? b=none:=PySem.W.hideAll_none _ (QF _ hb)
theorem Inv.left{h':Heap}{ch:List Addr}{a0:Value}(I:Inv X pins σ H s)(hx:X.ex = [])(hch:∀ b∈ch,XOk X pins H b)(k:(hidX X s.heap ch).StaysIn h')(t:h'.TracedW (hidX X s.heap ch) x C a0)(u:s.heap.UpToSlots h') :
  Inv X pins σ H { s with heap:=h' }/\∃ T,XOk X pins H T/\Trc h' x C T:=by
 have fr:∀ b o,s.heap.get? b=some o->b∈frs X.stack->∃ sl,h'.get? b=some { o with slots:=sl }:=fun b o e hb=>by
  obtain⟨_,o',ho,hd⟩:=I.stack.mem hb
  rw[e]at ho
  cases ho
  exact u b o e hd
 refine⟨I.xstep hch (fun b o e n1 n2=>k b o (SR _ e fun z=>(Qf.mp z).elim n1 n2)) fun b o e _ hb=>fr b o e hb,?_⟩
 obtain⟨oe,vs,T,oT,ts,he,⟨hcls,h0⟩,hd,h1,hnT,hTe,hT,hdT,h3⟩:=t
 refine⟨T,?_,oe,vs,a0,oT,ts,he,hcls,h0,hd,h1,hTe,hT,hdT,h3⟩
 cases q:s.heap.get? T with
 |none=>exact I.xok hx q (I.hok.none_of q)
 |some o =>
  by_cases z:T∈ch
  ·exact hch T z
  ·by_cases z2:T∈frs X.stack
   ·obtain⟨_,o',ho,hd'⟩:=I.stack.mem z2
    obtain⟨sl,e⟩:=fr T o q z2
    rw[hT]at e
    cases e
    rw[q]at ho
    cases ho
    exact absurd hdT (hd' ts)
   ·have:=SR (ch++frs X.stack) q fun z3=>(Qf.mp z3).elim z z2
    rw[hnT]at this
    cases this
theorem Inv.leave{Q:Unit->Shared->Prop}(I:Inv X pins σ H s)(hx:X.ex = [])(hst:X.stack=X.env::X.outer)(hfr:X.env.frame=some X.env.locals)(xa:XA X pins H s x C)
  (h:∀ h' T,Inv X pins σ H { s with heap:=h' }->XOk X pins H x->XOk X pins H T->Trc h' x C T->Q () { s with heap:=h' }):wpAny (model X.prog X.w) X.A (leaving X.env (.ref x)) Q E s:=by
 obtain⟨x1,x2⟩:=xa
 have frm:X.A.frames=some (X.env::X.outer):=by rw[← hst];exact I.ok.frames
 rcases x2 with⟨oe,vs,a0,he,hc,hd,h0,h1⟩ | ⟨T,xT,oe,vs,a0,oT,ts,he,hc,h0,hd,h1,hTe,hT,hdT,h3⟩
 ·have hch:∀ b∈[x],XOk X pins H b:=fun b hb=>by
   have e:b=x:=by simpa using hb
   rw[e]
   exact x1
  refine wpAny_leaving_firstW (base:=hidX X s.heap [x]) frm (hst▸I.hidF [x]) hfr he (F4 _ _) (iX (by simp)) hd h1 h0 fun h' L=>?_
  obtain⟨k1,_,k3,k4⟩:=L
  obtain⟨I',T,xT,tr⟩:=I.left hx hch k1 k3 k4
  rw[hc]at tr
  exact h h' T I' x1 xT tr
 ·have hch:∀ b∈[x,T],XOk X pins H b:=fun b hb=>by
   rcases P8.mp hb with e | hb
   ·rw[e]
    exact x1
   ·have e:b=T:=by simpa using hb
    rw[e]
    exact xT
  refine wpAny_leaving_nextW (base:=hidX X s.heap [x,T]) frm (hst▸I.hidF [x,T]) hfr ⟨oe,vs,T,oT,ts,he,⟨hc,h0⟩,hd,h1,iX (by simp),hTe,hT,hdT,h3⟩ (F4 _ _) (iX (by simp)) fun h' L=>?_
  obtain⟨k1,_,k3,k4⟩:=L
  obtain⟨I',T',xT',tr⟩:=I.left hx hch k1 k3 k4
  exact h h' T' I' x1 xT' tr
end
section
variable{X:Cx}{k:Nat}{f C:Addr}{fd:FuncData}{ps:List Str}{sp:Sp}{dvs:List V}{ds:List Value}{W:WK}{x m:Str}{p pos apos:Pos}{e o:Expr}{es:List Expr}{ta:TE}{t:TA}
end
end L2
namespace L2
open PySem PySem.Spec PyProof.Rows
abbrev veM:List Value:=[.type "ValueError",.type "Exception",.type "BaseException",.type "object"]
abbrev ExC(K:P1)(C:Addr):Prop:=SV K C veM "ValueError.__new__" = true
theorem Eu{K:P1}{C:Addr}{h:Heap}(e:ExC K C)(X:K.In h):∃ bm N nm qn bs hdct sn sub ab col dd k0 k1 k2 k3 k5 mN,h.get? C=some (excClassObj nm qn C N bs bm hdct sn sub ab col dd k0 k1 k2 k3 k5 "ValueError.__new__")/\h.Ns N mN/\mN "__init__" = none/\OwnTail h veM bm/\∀ B b,QR K C B=some b->(Value.ref C::bm).contains B=b:=by
 have z:=e
 unfold ExC SV at z
 split at z
 ·rename_i ddx cdx slx hobj
  split at z
  ·rename_i Cx bmx y0 y1 y2 y3 nx y5 hmro hslots
   have zz:=z
   simp only[QT,beq_iff_eq,Bool.not_eq_true']at zz
   obtain⟨⟨⟨⟨⟨eC,eN⟩,edel⟩,etail⟩,ens⟩,einit⟩:=zz
   subst eC
   subst eN
   obtain⟨l⟩:=slx
   have hl:l = [y0,y1,y2,y3,some (.builtin "ValueError.__new__"),y5]:=hslots
   subst hl
   obtain⟨nm,bs,mro,ns,qn,hd,sn,sub,ab,col,del⟩:=cdx
   have hmro':mro=.ref Cx::bmx:=hmro
   have hdel':del=false:=edel
   subst hmro' hdel'
   refine⟨bmx,ns,nm,qn,bs,hd,sn,sub,ab,col,ddx,y0,y1,y2,y3,y5,_,X _ _ hobj,.of_isNs (PySem.W.isNs_of_in X ens),PySem.W.nsMap_none_of_in X ens einit,PySem.W.tail_of_in X etail,fun B b hB=>?_⟩
   unfold QR To at hB
   rw[hobj]at hB
   simpa using hB
  ·cases z
 ·cases z
section
variable{X:Cx}{pins:List (Addr×Obj)}{σ:St}{H:Hp}{s:Shared}{x:Addr}{C:Value}
def Cx.marked(X:Cx)(v:Value):Cx:={ X with A:=X.A.mark (some v),calm:=false,xe:=fun _ _=>False }
theorem Inv.marked(I:Inv X pins σ H s)(v:Value):Inv (X.marked v) pins σ H s :=
 ⟨⟨I.ok.mod,I.ok.kind,I.ok.glob,I.ok.blt,I.ok.above,I.ok.inj,I.ok.has,I.ok.cab,fun z=>(by cases z),I.ok.frames,I.ok.stk,I.ok.exf,I.ok.bs,I.ok.bsz,I.ok.noex,I.ok.exfs,I.ok.funs,I.ok.frf⟩,I.os,I.bare,I.base,I.loc,I.cell,I.free,I.freeC,I.pin,I.hok,I.len⟩
theorem Inv.unmarked{hd:X.calm=true->X.A.handled=none}{fr:X.A.frames=some X.stack}{v:Value}(I:Inv (X.marked v) pins σ H s):Inv X pins σ H s :=
 ⟨⟨I.ok.mod,I.ok.kind,I.ok.glob,I.ok.blt,I.ok.above,I.ok.inj,I.ok.has,I.ok.cab,hd,fr,I.ok.stk,I.ok.exf,I.ok.bs,I.ok.bsz,I.ok.noex,I.ok.exfs,I.ok.funs,I.ok.frf⟩,I.os,I.bare,I.base,I.loc,I.cell,I.free,I.freeC,I.pin,I.hok,I.len⟩
theorem Inv.gone{i:Nat}{n:Str}{h':Heap}{tk:Nat}{m:Str->Option Value}{v:Option Value}(I:Inv X pins σ H s)(hN:X.N.Nodup)(hi:X.N[i]?=some n)(hm:s.heap.Ns X.env.locals m/\∀ (i:Nat) (x:Str) (v:V),X.N[i]?=some x->σ[i]?=some (some v)->Vis X.env.scope x->∃ u,RelV v u/\Look X.env s.heap m x u)
  (hn:h'.Ns X.env.locals (fun y=>if y=n then v else m y)) (hs:Heap.SameBut X.env.locals s.heap h'):Inv X pins (σ.set i none) H { s with heap:=h',toks:=tk }:=by
 have lo:∀ b o,X.s₀.heap.get? b=some o->b≠X.env.locals:=fun b o e=>QC (QB (Heap.lt_size e) I.ok.above)
 obtain⟨oL,_,_,hoL,_⟩:=id hm.1
 refine⟨I.ok,I.os,I.bare,⟨fun b o e n1 hb hx=>(hs.2 b (lo b o e)).trans (I.base.keep b o e n1 hb hx),fun b o e n1 hb hx=>?_,I.base.free,fun b o e hx=>?_,I.base.tups,I.base.frzs,I.base.tbls⟩,⟨_,hn,fun j y w' e1 e2 e3=>?_⟩,fun y c e=>?_,I.free,I.freeC,fun p hp=>?_,fun b u e=>?_,by simpa using I.len⟩
 ·obtain⟨sl,q⟩:=I.base.slot b o e n1 hb hx
  exact⟨sl,(hs.2 b (lo b o e)).trans q⟩
 ·obtain⟨o',q⟩:=I.base.there b o e hx
  exact⟨o',(hs.2 b (lo b o e)).trans q⟩
 ·by_cases hj:j=i
  ·subst hj
   rw[QU]at e2
   split at e2
   ·split at e2<;>cases e2
   ·rename_i z;exact absurd rfl z
  ·rw[Rf (Ne.symm hj)]at e2
   obtain⟨u',r',l'⟩:=hm.2 j y w' e1 e2 e3
   refine⟨u',r',?_⟩
   rcases l' with⟨kk,e⟩ | ⟨kk,c,e,z⟩
   ·refine .inl ⟨kk,?_⟩
    have ny:y≠n:=fun q=>hj (yj hN e1 (q▸hi))
    show(if y=n then v else m y)=some u'
    rw[if_neg ny];exact e
   ·exact .inr ⟨kk,c,e,z.sameBut hs (I.cne y c e)⟩
 ·obtain⟨w2,z⟩:=I.cell y c e
  exact⟨w2,z.sameBut hs (I.cne y c e)⟩
 ·obtain⟨e,n1,ne,nf,d⟩:=I.pin p hp
  exact⟨(hs.2 p.1 ne).trans e,n1,ne,nf,d⟩
 ·refine(I.hok b u e).stay (fun c v2 hc q=>(hs.2 c fun z=>?_).trans q) (fun _ q=>q) fun _ _ q=>q
  have fr:=I.free
  rcases hc with y | y
  ·rw[← y,z,fr]at e;cases e
  ·rw[z,fr]at y;cases y
end
section
variable{M:Model}{A:Around}{E:Value->Shared->Prop}{h:Heap}{g:Array GenState}{d:Drawn}{t:Nat}{os:OsState}
end
def Cx.tried(X:Cx)(pins:List (Addr×Obj))(E:Value->Shared->Prop):Cx:={ X with pn:=X.pn++pins,xe:=E }
section
variable{X:Cx}{pins pins':List (Addr×Obj)}{σ:St}{H:Hp}{s:Shared}{E:Value->Shared->Prop}{b:Addr}
theorem Inv.tried(I:Inv X pins σ H s):Inv (X.tried pins E) [] σ H s :=
 ⟨⟨I.ok.mod,I.ok.kind,I.ok.glob,I.ok.blt,I.ok.above,I.ok.inj,I.ok.has,I.ok.cab,I.ok.hd,I.ok.frames,I.ok.stk,I.ok.exf,I.ok.bs,I.ok.bsz,I.ok.noex,I.ok.exfs,I.ok.funs,I.ok.frf⟩,I.os,I.bare,I.base,I.loc,I.cell,I.free,I.freeC,fun p hp=>I.pin p (by rw[Rl]at hp;exact hp),I.hok,I.len⟩
theorem Inv.untried(I:Inv (X.tried pins E) pins' σ H s):Inv X pins σ H s :=
 ⟨⟨I.ok.mod,I.ok.kind,I.ok.glob,I.ok.blt,I.ok.above,I.ok.inj,I.ok.has,I.ok.cab,I.ok.hd,I.ok.frames,I.ok.stk,I.ok.exf,I.ok.bs,I.ok.bsz,I.ok.noex,I.ok.exfs,I.ok.funs,I.ok.frf⟩,I.os,I.bare,I.base,I.loc,I.cell,I.free,I.freeC,fun p hp=>I.pin p (QF _ hp),I.hok,I.len⟩
theorem XOk.untried(x:XOk (X.tried pins E) pins' H b):XOk X pins H b:=⟨x.old,x.trk,x.nl,x.nc,fun p hp=>x.np p (QF _ hp)⟩
theorem SP.untried{D:Ends}{f:Flow}(h:SP (X.tried pins E) [] D f s):SP X pins D f s:=by
 cases f with
 |next=>obtain⟨σ',H',I,q⟩:=h;exact⟨σ',H',I.untried,q⟩
 |brk=>obtain⟨σ',H',I,q⟩:=h;exact⟨σ',H',I.untried,q⟩
 |cont=>obtain⟨σ',H',I,q⟩:=h;exact⟨σ',H',I.untried,q⟩
 |ret u=>obtain⟨v,σ',H',I,r,q⟩:=h;exact⟨v,σ',H',I.untried,r,q⟩
end
section
variable{X:Cx}{k:Nat}{f:Addr}{fd:FuncData}{ps:List Str}{sp:Sp}{dvs:List V}{ds:List Value}{W:WK}{x:Str}{p pos:Pos}{e:Expr}{es:List Expr}{t:TA}
end
end L2
namespace L2
open PySem PySem.Spec PyProof.Rows
end L2
namespace L2
open PySem PySem.Spec PyProof.Rows
section
variable{prog:Program}{w:World}{A:Around}{E:Value->Shared->Prop}{s:Shared}
end
end L2
namespace L2
open PySem PySem.Spec PyProof.Rows
section
variable{prog:Program}{w:World}{A:Around}{E:Value->Shared->Prop}{s:Shared}
end
section
variable{X:Cx}
end
end L2
namespace L2
open PySem PySem.Spec PyProof.Rows
section
variable{X:Cx}
end
end L2
namespace L2
open PySem PySem.Spec PyProof.Rows
theorem Inv.turnedL{X:Cx}{pins:List (Addr×Obj)}{σ:St}{H:Hp}{s:Shared}{h':Heap}{t':Nat}{fp:List Addr}(I:Inv X pins σ H s)(k:∀ b o,b∉fp->s.heap.get? b=some o->h'.get? b=some o)(hf:∀ b∈fp,FpOk X pins H b):Inv X pins σ H { s with heap:=h',toks:=t' }:=by
 have nit:∀ b u,H b=some u->b∉fp:=fun b u e z=>by rw[(hf b z).1]at e;cases e
 refine I.step (g':=s.gens) (d':=s.drawn) (ch:=fp) (fun b hb=>?_) (fun b o _ _ hc e _=>k b o hc e) (fun b o _ _ hc e _=>⟨o.slots,k b o hc e⟩) (fun _ _ _ _ n=>n)
  (fun b o hc e=>⟨o,k b o hc e⟩) (fun _ _ e=>e) (fun _ _ _ e=>e) (fun b ps e=>⟨#[],by rw[e];simp⟩) (fun m hm=>?_) (fun b u e=>?_) I.bare
 ·obtain⟨f0,f1,f2,f3,f4,f5⟩:=hf b hb
  exact⟨f3,f1,f4,f5⟩
 ·obtain⟨o,es,ep,ho,r⟩:=hm
  exact⟨o,es,ep,k _ o (fun z=>(hf _ z).2.1 rfl) ho,r⟩
 ·refine(I.hok b u e).stay (fun c v hc q=>k c v ?_ q) (fun _ q=>q) fun _ _ q=>q
  rcases hc with z | z
  ·rw[z];exact nit b u e
  ·exact nit c _ z
def Ite(K:P1)(a:Addr):It :=
 ⟨fun i H=>∃ xs x,SqL K H a xs/\xs[i]?=some x,fun i H v H'=>∃ T x,H T=none/\v=.ref T/\H'=upd H T (.tup [.int (i:Int),x])/\∀ xs,SqL K H a xs->xs[i]?=some x,fun i H=>∃ xs,SqL K H a xs/\xs.length<=i⟩
theorem IW{P:Program}{w:World}{K:P1}{es:List Expr}{k:Nat}{pos:Pos}(a e it:Addr)(hei:e≠it):Turn P w K (.Tuple es k pos) (Ite K a) [e,it] e (fun i h=>(∃ old,IsEnum h e it ((i:Nat):Int) old)/\h.IsListIter it a i) where
 mem:=by simp
 obj:=fun i h st b hb=>by
  obtain⟨⟨old,he⟩,o,e2,c,d⟩:=st
  rcases P8.mp hb with rfl | hb
  ·exact⟨_,he,fun v z=>by
    have z':Data.fields _=Data.cell v:=z
    cases z'⟩
  ·have e3:b=it:=by simpa using hb
   subst e3
   exact⟨o,e2,fun v z=>by rw[d]at z;cases z⟩
 keep:=fun i h h' st kk=>by
  obtain⟨⟨old,he⟩,hit⟩:=st
  exact⟨⟨old,kk e (by simp) _ he⟩,hit.at fun o q=>kk it (by simp) o q⟩
 item:=by
  intro X hP hw hK hc i pins s σ H E I hf st hg
  subst hP hw hK
  obtain⟨xs,x,hq,hx⟩:=hg
  obtain⟨its,rv,p,hz⟩:=I.list hq
  obtain⟨u,hu,ru⟩:=rv.get hx
  obtain⟨⟨old,he⟩,hit⟩:=st
  refine wpAny_pyNext_enum_item he hit p.isList (x:=u) (by simpa using hu) hei fun h' ho hit' hT hsz hk=>?_
  refine⟨_,rfl,?_⟩
  refine wpAny_letOwnedTupleGo_enum ho fun h2 he2 hs2=>?_
  have hs2':Heap.SameBut e h' h2:=hs2
  have hel:e<s.heap.objs.size:=Heap.lt_size he
  have hil:it<s.heap.objs.size:=by obtain⟨_,q,_⟩:=hit;exact Heap.lt_size q
  have hfr:H s.heap.objs.size=none:=I.hok.fresh (P9 _)
  have I0:Inv X pins σ (upd H s.heap.objs.size (.tup [.int (i:Int),x])) { s with heap:=s.heap.push { cls:=.type "tuple",data:=.seq #[.int (i:Int) s.toks,u] },toks:=s.toks+1 } :=
   I.laid (t':=s.toks+1) (fun b u e=>Heap.get?_push_of_some _ e) (P9 _) ⟨by show 2<=sizeLine;decide,[.int (i:Int) s.toks,u],.cons ⟨_,rfl⟩ (.cons ru .nil),⟨_,Heap.get?_push_size _ rfl,rfl,_,rfl⟩⟩
  have hfb:∀ b∈[e,it],b<s.heap.objs.size:=fun b hb=>by
   rcases P8.mp hb with rfl | hb
   ·exact hel
   ·have e3:b=it:=by simpa using hb
    rw[e3];exact hil
  have hn:∀ b∈[e,it],upd H s.heap.objs.size (.tup [.int (i:Int),x]) b=none:=fun b hb=>by
   rw[ar (QC (hfb b hb))]
   exact(hf b hb).1
  have I2:Inv X pins σ (upd H s.heap.objs.size (.tup [.int (i:Int),x])) { s with heap:=h2,toks:=s.toks+1 }:=Inv.turnedL (s:={ s with heap:=s.heap.push { cls:=.type "tuple",data:=.seq #[.int (i:Int) s.toks,u] },toks:=s.toks+1 }) (h':=h2) I0 (t':=s.toks+1) (fp:=[e,it]) (fun b o hb q=>by
   have nb:b≠e:=fun z=>hb (by simp[z])
   have nb2:b≠it:=fun z=>hb (by simp[z])
   refine(hs2'.2 b nb).trans ?_
   rcases Heap.get?_push_cases q with⟨z1,z2⟩ | q
   ·rw[z1,z2];exact hT
   ·exact hk b o nb nb2 q) fun b hb=>⟨hn b hb,(hf b hb).2⟩
  refine⟨.ref s.heap.objs.size,_,I2,rfl,⟨s.heap.objs.size,x,hfr,rfl,rfl,fun ys hy=>by rw[I.list_inj hy hq];exact hx⟩,?_,hn⟩
  refine⟨⟨u,?_⟩,hit'.at fun o q=>(hs2'.2 it (Ne.symm hei)).trans q⟩
  have e4:(((i+1:Nat):Nat):Int)=(i:Int)+1:=by omega
  rw[e4]
  exact he2
 done:=by
  intro X hP hw hK hc i pins s σ H E I hf st hg
  subst hP hw hK
  obtain⟨xs,hq,hx⟩:=hg
  obtain⟨its,rv,p,hz⟩:=I.list hq
  obtain⟨⟨old,he⟩,hit⟩:=st
  have hl:=rv.length
  obtain⟨f0,f1,f2,f3,f4,f5⟩:=hf it (by simp)
  exact wpAny_pyNext_enum_end (I.ok.hd hc) he hit p.isList (by simp;omega) fun h' eb=>⟨rfl,I.turned (t':=s.toks) (fun b o hb e=>eb b o hb e) f0 f1 f3 f4 f5⟩
 self:=fun _ _ _ _ _ st h=>by
  obtain⟨⟨old,he⟩,_⟩:=st
  exact wpAny_pyIter_enum he h
section
variable{X:Cx}
def iEnum(K:P1)(ta:TA):TI:=fun σ H R=>ta σ H fun vs H1=>∃ a,vs = [.ref a]/\(∃ xs,SqL K H1 a xs)/\R (Ite K a) H1
theorem Dh{l:Expr}{ta:TA}{es:List Expr}{k:Nat}{tp p pos:Pos} (hg:Gl X "enumerate") (hm:X.mg "enumerate" = none) (ha:PA X [l] ta) (hs:starEach [l] X.env = [(false,eval l X.env)]:=by rfl) :
  PI X (.Tuple es k tp) (.Call (.Name "enumerate" p) [l] [] pos) (iEnum X.K ta):=by
 intro pins s σ H R I h
 refine Call_ (wD I hg hm BR (PyProof.Rows.callWith_type1 (thn (ha pos pins s σ H _ I h) fun us s1 ⟨vs,H1,I1,r1,q1⟩=>?_) hs rfl))
 obtain⟨a,e,⟨xs,hq⟩,q⟩:=q1
 subst e
 obtain⟨u,rfl,ru⟩:=qO r1
 cases ru
 obtain⟨its,rv,p,hz⟩:=I1.list hq
 refine call_enumerate_list p.isList fun h' he hit hsz hk=>?_
 refine wpAny_pyIter_enum he ?_
 refine⟨s1.heap.objs.size+1,[s1.heap.objs.size+1,s1.heap.objs.size],_,_,H1,rfl,I1.kept (t':=s1.toks) hk,IW a _ _ (Nat.succ_ne_self _),⟨⟨_,he⟩,hit⟩,fun b hb=>?_,q⟩
 have hb':s1.heap.objs.size<=b:=by
  rcases P8.mp hb with rfl | hb
  ·exact RF _
  ·have e3:b=s1.heap.objs.size:=by simpa using hb
   rw[e3];exact P9 _
 exact I1.fpOk hb' (I1.hok.fresh hb')
end
theorem F5{K:P1}{a:Addr}{xs:List V}{g:TG}{tb:TS}{D:Ends}{σ:St}{H:Hp}(Pv:Nat->St->Hp->Prop)(h0:Pv 0 σ H)(hl:∀ i σ H,i<=xs.length->Pv i σ H->SqL K H a xs)
  (hs:∀ i x σ H T,xs[i]?=some x->Pv i σ H->H T=none->g (.ref T) σ (upd H T (.tup [.int (i:Int),x])) fun σ2 H2=>tb { D with nx:=Pv (i+1),ct:=Pv (i+1),bk:=D.nx } σ2 H2) (hd:∀ σ H,Pv xs.length σ H->D.nx σ H) :
  ∃ W:Nat->Nat->St->Hp->Prop,(∃ m,W 0 m σ H)/\∀ i m σ H,W i m σ H ->
   ((Ite K a).stop i H/\D.nx σ H)∨((Ite K a).go i H/\∃ N:St->Hp->Prop,(∀ σ' H',N σ' H'->∃ m',m'<m/\W (i+1) m' σ' H')/\∀ x H',(Ite K a).yld i H x H'->g x σ H' fun σ2 H2=>tb { D with nx:=N,ct:=N,bk:=D.nx } σ2 H2):=by
 refine⟨fun i m σ H=>m=xs.length-i/\i<=xs.length/\Pv i σ H,⟨xs.length,by simp,Q6 _,h0⟩,?_⟩
 rintro i m σ H ⟨rfl,hi,p⟩
 have q:=hl i σ H hi p
 by_cases hlt:i<xs.length
 ·refine .inr ⟨⟨xs,xs[i],q,by simp[hlt]⟩,Pv (i+1),fun σ' H' p'=>⟨xs.length-(i+1),by omega,rfl,hlt,p'⟩,fun v H' y=>?_⟩
  obtain⟨T,x,hT,rfl,rfl,y⟩:=y
  exact hs i x σ _ T (y xs q) p hT
 ·have e:i=xs.length:=by omega
  subst e
  exact .inl ⟨⟨xs,q,P9 _⟩,hd σ H p⟩
end L2
namespace L2
open PySem PySem.Spec PyProof.Rows
section
variable{X:Cx}
end
theorem pD{n j:Nat}(h:j<n):ixN n (j:Int)=some j:=by
 unfold ixN
 rw[if_pos (by omega),if_pos (by omega)]
 rfl
end L2
namespace L2
open PySem PySem.Spec PyProof.Rows
theorem ka:∀{ds:List PyData},(∀ d∈ds,d.canLay0=true)->PyData.canLayAll0 ds=true
 |[],_=>by simp[PyData.canLayAll0]
 |d::ds,h=>by
  rw[PyData.canLayAll0,h d (by simp),ka fun x hx=>h x (by simp[hx])]
  rfl
theorem mL{n:Nat}:∀{ds:List PyData},(∀ d∈ds,d.depth<=n)->PyData.depthAll ds<=n
 |[],_=>by simp[PyData.depthAll]
 |d::ds,h=>by
  have h1:=h d (by simp)
  have h2:=mL (ds:=ds) fun x hx=>h x (Qe _ hx)
  rw[PyData.depthAll]
  omega
theorem sj{ds:List PyData}(h:∀ d∈ds,d.canLay0=true/\d.depth<=10):SeqAt.shaped (.list ds)=true:=by
 have h1:=ka fun d hd=>(h d hd).1
 have h2:=mL fun d hd=>(h d hd).2
 have h3:PyData.depth (.list ds)<=64:=by simp only[PyData.depth];omega
 show(PyData.canLay0 (.list ds)&&decide (PyData.depth (.list ds)<=64))=true
 rw[QT]
 exact⟨by simp only[PyData.canLay0];exact h1,decide_eq_true h3⟩
end L2
namespace L2
open PySem PySem.Spec PyProof.Rows
def cxG(X:Cx)(scope:Scope)(fr:List (Str×Nat))(xs:List Str)(C:Addr)(ex:List Addr)(s:Shared)(H:Hp):Cx where
 prog:=X.prog
 w:=X.w
 K:=X.K
 mg:=X.mg
 base:=X.base
 A:=X.A
 N:=xs++fr.map (·.1)
 s₀:=s
 H₀:=H
 env:=compEnvC scope (clOf X.env fr) C X.env
 outer:=X.stack
 stack:=X.stack
 ex:=ex
 fn:=fun _=>false
 calm:=X.calm
 pn:=[]
 xe:=fun _ _=>False
structure wj(X:Cx)(scope:Scope)(fr:List (Str×Nat))(xs:List Str):Prop where
 clos:closureFor scope X.env=pure (clOf X.env fr)
 cell:∀ y∈scope.names,y.2≠.cell
 kind:scope.kind=.function
 names:∀ y∈scope.names,y.2=.local->scope.names.lookup y.1=some .local
 slot:∀ p∈fr,X.N[p.2]?=some p.1/\X.env.kindOf p.1=some .cell
 has:∀ y∈(relabel scope X.env).names,(y.2=.cell∨y.2=.free)->y.1∈fr.map (·.1)
 frk:∀ p∈fr,(relabel scope X.env).names.lookup p.1=some .cell
theorem wj.of{X:Cx}{scope:Scope}{fr:List (Str×Nat)}{xs:List Str}(clos:closureFor scope X.env=pure (clOf X.env fr))(cell:∀ y∈scope.names,y.2≠.cell)(kind:scope.kind=.function)(names:∀ y∈scope.names,y.2=.local->scope.names.lookup y.1=some .local)
  (slot:∀ p∈fr,X.N[p.2]?=some p.1/\X.env.kindOf p.1=some .cell) (nf:∀ z∈scope.names,z.2=.free->z.1∈fr.map (·.1)) (frk:∀ p∈fr,(relabel scope X.env).names.lookup p.1=some .cell):wj X scope fr xs where
 clos:=clos
 cell:=cell
 kind:=kind
 names:=names
 slot:=slot
 has:=fun z hz hk=>by
  obtain⟨⟨n,k⟩,hm,e⟩:=Qv.mp (show z∈scope.names.map _ from hz)
  have h2:=cell _ hm
  dsimp only at e h2
  have hn:z.1=n:=by rw[← e];split<;>rfl
  have hf:k=.free:=by
   by_cases q:k=.free
   ·exact q
   ·have hb:(k == NameKind.free)=false:=by simpa using q
    rw[hb]at e
    simp only[SO,S1,if_false]at e
    subst e
    exact(hk.elim h2 q).elim
  have:=nf _ hm hf
  rw[hn]
  exact this
 frk:=frk
abbrev nons(xs:List Str):St:=Q0 xs.length none
section
variable{X:Cx}{pins:List (Addr×Obj)}{σ:St}{H:Hp}{s:Shared}{scope:Scope}{fr:List (Str×Nat)}{xs:List Str}
theorem wj.cells(O:wj X scope fr xs)(I:Inv X pins σ H s){y:Str}{c:Addr}(h:(clOf X.env fr).lookup y=some c):X.env.cells.lookup y=some c:=by
 obtain⟨hm,e⟩:=gz h
 obtain⟨p,hp,ep⟩:=Qv.mp hm
 have k:=(O.slot p hp).2
 rw[ep]at k
 obtain⟨c',e'⟩:=I.ok.has y (.inl k)
 rw[e']at e
 rw[e',e]
 rfl
theorem KJ{fp:List Addr}(O:wj X scope fr xs)(I:Inv X pins σ H s)(hf:∀ b∈fp,FpOk X pins H b)(hfs:∀ b∈fp,b<s.heap.objs.size){g h':Heap}{tk:Nat}(hg:g=s.heap.push (LCg.lst []))
  (hk:∀ b o,g.get? b=some o->h'.get? b=some o) (hC:h'.Ns g.objs.size fun _=>none) :
  Inv (cxG X scope fr xs g.objs.size (s.heap.objs.size::fp) { s with heap:=g } H) (X.pn++pins++[(s.heap.objs.size,LCg.lst [])]) (nons xs++frOf fr σ) H { s with heap:=h',toks:=tk }:=by
 have hsz:g.objs.size=s.heap.objs.size+1:=by rw[hg,Heap.size_push]
 have kp:∀ b o,s.heap.get? b=some o->g.get? b=some o:=fun b o e=>by rw[hg];exact Heap.get?_push_of_some _ e
 have hk0:∀ b o,s.heap.get? b=some o->h'.get? b=some o:=fun b o e=>hk b o (kp b o e)
 have hDo:h'.get? s.heap.objs.size=some (LCg.lst []):=hk _ _ (by rw[hg];exact Heap.get?_push_size _ rfl)
 have neC:∀ b,b<s.heap.objs.size->b≠g.objs.size:=fun b e=>by rw[hsz];exact QC (Sr e)
 have hDC:s.heap.objs.size≠g.objs.size:=by rw[hsz];exact QC (RH _)
 have hfr:H g.objs.size=none:=I.hok.fresh (by rw[hsz];exact RF _)
 have hfD:H s.heap.objs.size=none:=I.hok.fresh (P9 _)
 have cne:∀ y c,X.env.cells.lookup y=some c->c<s.heap.objs.size:=fun y c e=>by
  obtain⟨v,q⟩:=I.cell y c e
  exact q.lt
 have nst:∀ b,b≠X.env.locals->b∉X.fs->b∉frs X.stack:=fun b h1 h2 z=>(P8.mp (I.stkSub b z)).elim h1 h2
 have nstD:s.heap.objs.size∉frs X.stack:=nst _ (RQ I.lt) (I.nofs (P9 _))
 refine⟨⟨I.ok.mod,O.kind,I.ok.glob,I.ok.blt,P9 _,?_,?_,fun _ _ z _=>(by cases z),I.ok.hd,I.ok.frames,.inl rfl,?_,?_,?_,?_,?_,?_,I.stkFree⟩,rfl,I.bare,Un.kept hk,?_,?_,hfr,?_,?_,I.hok.kept hk0,?_⟩
 ·intro y z c h1 h2
  exact I.ok.inj y z c (O.cells I h1) (O.cells I h2)
 ·intro y hy
  have hm:y∈fr.map (·.1):=by
   rcases hy with hy | hy
   ·exact O.has (y,_) (Q7 hy) (.inl rfl)
   ·exact O.has (y,_) (Q7 hy) (.inr rfl)
  exact⟨_,cg hm⟩
 ·intro b hb
  rcases P8.mp hb with rfl | hb
  ·exact⟨hDC,fun y c e=>QC (cne y c (O.cells I e))⟩
  ·exact⟨neC b (hfs b hb),fun y c e=>(hf b hb).2.2.2.2.1 y c (O.cells I e)⟩
 ·intro b o e
  exact⟨kp b o (I.bs b o e).1,(I.bs b o e).2⟩
 ·show X.base.objs.size<=g.objs.size
  rw[hsz]
  exact Nat.le_succ_of_le (QG I.ok.bsz I.sz)
 ·intro b o e hb
  rcases P8.mp hb with z | hb
  ·have:=Heap.lt_size (I.bs b o e).1
   rw[z]at this
   exact Q3 _ this
  ·rcases(hf b hb).2.2.2.1 with z | z
   ·exact I.ok.noex b o e z
   ·exact absurd (QB (Heap.lt_size (I.ok.bs b o e).1) z) (Q3 _)
 ·intro b hb
  rcases P8.mp hb with z | hb
  ·rw[z];exact nstD
  ·exact nst b (hf b hb).2.1 (hf b hb).2.2.1
 ·exact(I.kept (h':=g) (t':=s.toks) kp).stack
 ·refine⟨_,hC,fun i y v e1 e2 e3=>?_⟩
  have e1a:(xs++fr.map (·.1))[i]?=some y:=e1
  by_cases hi:i<xs.length
  ·rw[P6 (by simpa using hi)]at e2
   rw[RG,if_pos hi]at e2
   cases e2
  ·have e1':(fr.map (·.1))[i-xs.length]?=some y:=by
    rw[P4 (by omega)]at e1a
    exact e1a
   have e2':(frOf fr σ)[i-xs.length]?=some (some v):=by
    rw[P4 (by simp;omega)]at e2
    simpa using e2
   generalize i-xs.length=k at e1' e2'
   unfold frOf at e2'
   rw[Qd]at e1' e2'
   cases q:fr[k]? with
   |none=>rw[q]at e1';cases e1'
   |some p =>
    rw[q]at e1' e2'
    have ey:p.1=y:=Qt e1'
    have ev:(σ[p.2]?).join=some v:=Qt e2'
    have hp:p∈fr:=P7 q
    obtain⟨hN,hK⟩:=O.slot p hp
    have hkk:=O.frk p hp
    rw[ey]at hN hK hkk
    have ev':σ[p.2]?=some (some v):=by
     cases q2:σ[p.2]? with
     |none=>rw[q2]at ev;cases ev
     |some w=>rw[q2]at ev;exact congrArg some ev
    obtain⟨m,hn,hl⟩:=I.loc
    obtain⟨u,r,l⟩:=hl p.2 y v hN ev' (.inr (.inl hK))
    refine⟨u,r,?_⟩
    rcases l with⟨k1,_⟩ | ⟨_,c,ec,z⟩
    ·rw[hK]at k1;cases k1
    ·have hm:y∈fr.map (·.1):=by rw[← ey];exact Qv.mpr ⟨p,hp,rfl⟩
     have el:=cg (env:=X.env) hm
     rw[ec]at el
     exact .inr ⟨.inl hkk,c,el,by obtain⟨o,ho,hd⟩:=z;exact⟨o,hk0 _ _ ho,hd⟩⟩
 ·intro y c e
  obtain⟨v,o,ho,hd⟩:=I.cell y c (O.cells I e)
  exact⟨v,o,hk0 _ _ ho,hd⟩
 ·intro y c e
  exact I.freeC y c (O.cells I e)
 ·intro p hp
  rcases Qf.mp hp with hp | hp
  ·cases hp
  ·rcases Qf.mp hp with hp | hp
   ·obtain⟨e,n,ne,nf,d⟩:=I.pin p hp
    exact⟨hk0 _ _ e,n,neC _ (Heap.lt_size e),nst _ ne nf,d⟩
   ·have ep:p=(s.heap.objs.size,LCg.lst []):=by simpa using hp
    subst ep
    exact⟨hDo,hfD,hDC,nstD,fun v z=>by cases z⟩
 ·show(nons xs++frOf fr σ).length=(xs++fr.map (·.1)).length
  unfold frOf
  simp
theorem yE{fp:List Addr}{g:Heap}{s':Shared}{H':Hp}{σ':St}{ys:List V}{us:List Value}(I:Inv X pins σ H s)(hf:∀ b∈fp,FpOk X pins H b)(hg:g=s.heap.push (LCg.lst []))
  (J:Inv (cxG X scope fr xs g.objs.size (s.heap.objs.size::fp) { s with heap:=g } H) (X.pn++pins++[(s.heap.objs.size,LCg.lst us)]) σ' H' s') (hv:Vals ys us) (hl:ys.length<=sizeLine) :
  Inv X pins σ (upd H' s.heap.objs.size (.lst ys)) s'/\H' s.heap.objs.size=none/\FpOk X pins (upd H' s.heap.objs.size (.lst ys)) g.objs.size/\∃ m,s'.heap.Ns g.objs.size m:=by
 have hsz:g.objs.size=s.heap.objs.size+1:=by rw[hg,Heap.size_push]
 have kp:∀ b o,s.heap.get? b=some o->g.get? b=some o:=fun b o e=>by rw[hg];exact Heap.get?_push_of_some _ e
 obtain⟨eD,nD,_,_,_⟩:=J.pin (s.heap.objs.size,LCg.lst us) (by simp)
 have hDC:g.objs.size≠s.heap.objs.size:=by rw[hsz];exact RQ (RH _)
 have nD':∀ b u,H' b=some u->b≠s.heap.objs.size:=fun b u e z=>by rw[z]at e;rw[e]at nD;cases nD
 have hx:∀ b o,s.heap.get? b=some o->b∉fp->b∉s.heap.objs.size::fp:=fun b o e hb z=>by
  rcases P8.mp z with z | z
  ·have:=Heap.lt_size e
   rw[z]at this
   exact Q3 _ this
  ·exact hb z
 have bU:Un (frs X.stack) (s.heap.objs.size::fp) H H' g s'.heap:=J.base
 have ltD:∀ b o,s.heap.get? b=some o->b≠s.heap.objs.size:=fun b o e=>QC (Heap.lt_size e)
 have un:Un (frs X.stack) fp H (upd H' s.heap.objs.size (.lst ys)) s.heap s'.heap:=by
  refine⟨fun b o e n hb he=>bU.keep b o (kp b o e) n hb (hx b o e he),fun b o e n hb he=>bU.slot b o (kp b o e) n hb (hx b o e he),fun b o e n he=>?_,fun b o e he=>bU.there b o (kp b o e) (hx b o e he),fun b xs e=>?_,fun b o u e=>?_,fun b ps e=>?_⟩
  ·rw[ar (ltD b o e)];exact bU.free b o (kp b o e) n (hx b o e he)
  ·have q:=bU.tups b xs e
   rw[ar (nD' b _ q)];exact q
  ·have q:=bU.frzs b o u e
   rw[ar (nD' b _ q)];exact q
  ·obtain⟨more,q⟩:=bU.tbls b ps e
   exact⟨more,by rw[ar (nD' b _ q)];exact q⟩
 have hok:HOk X.prog X.w (upd H' s.heap.objs.size (.lst ys)) s'.heap:=fun b u e=>by
  by_cases hb:b=s.heap.objs.size
  ·rw[hb,ag]at e
   cases e
   rw[hb]
   exact⟨hl,us,us.length,hv,eD⟩
  ·rw[ar hb]at e
   exact(J.hok b u e).stay (fun c v _ q=>q) (fun c q=>by rw[ar (nD' c _ q)];exact q) fun c xs q=>by rw[ar (nD' c _ q)];exact q
 have os:s'.os=s.os:=J.os
 refine⟨I.call' os un hok J.bare fun b hb=>⟨(hf b hb).2.2.2.1,(hf b hb).2.1,(hf b hb).2.2.2.2⟩,nD,?_,?_⟩
 ·refine I.fpOk (H':=upd H' s.heap.objs.size (.lst ys)) (b:=g.objs.size) (by rw[hsz];exact RF _) ?_
  rw[ar hDC]
  exact J.free
 ·obtain⟨m,hn,_⟩:=J.loc
  exact⟨m,hn⟩
end
def PTs(X:Cx)(ifs:List Expr)(t:TT):Prop :=
 ∀(pins:List (Addr×Obj))(s:Shared)(σ:St)(H:Hp)(Q:Bool->Hp->Prop),Inv X pins σ H s->t σ H Q ->
  wpAny (model X.prog X.w) X.A (forIn ifs true fun c r=>if r=true then do let ok ← isTrue c X.env (eval c X.env);pure (ForInStep.yield ok) else pure (ForInStep.yield r)) (fun b s'=>∃ H',Inv X pins σ H' s'/\Q b H') X.xe s
def tYes:TT:=fun _ H Q=>Q true H
theorem C1{X:Cx}:PTs X [] tYes:=fun _ _ _ H _ I h=>wpAny_tests_nil ⟨H,I,h⟩
section
variable{prog:Program}{w:World}{A:Around}{s:Shared}
theorem Lk{elt target iter:Expr}{ifs:List Expr}{scope:Scope}{pos:Pos}{it acc:Value}{env:Env}{R:Result->Shared->Prop}(I:Nat->Shared->Prop)
  (turn:∀ n s,I n s->wpAny (model prog w) A (pyNext it) (fun r s₁=>match r with
   |none=>R (.ok .next) s₁
   |some v=>wpAny (model prog w) A (letOwnedTupleGo target it v) (fun _ s₀=>wpAny (model prog w) A (assign target env v) (fun _ s₂ =>
     wpAny (model prog w) A (forIn ifs true fun c r=>if r=true then do let ok ← isTrue c env (eval c env);pure (ForInStep.yield ok) else pure (ForInStep.yield r)) (fun ok s₃=>if ok=true then wpAny (model prog w) A (eval elt env) (fun x s₄ =>
      wpAny (model prog w) A (call (.builtin "list.append") [acc,x]) (fun _ s₅=>∃ m,m<n/\I m s₅) (notedBy (model prog w) A env fun e s'=>R (.error e) s') s₄) (notedBy (model prog w) A env fun e s'=>R (.error e) s') s₃
      else ∃ m,m<n/\I m s₃) (notedBy (model prog w) A env fun e s'=>R (.error e) s') s₂)
     (notedBy (model prog w) A env fun e s'=>R (.error e) s') s₀) (notedBy (model prog w) A env fun e s'=>R (.error e) s') s₁) (notedBy (model prog w) A env fun e s'=>R (.error e) s') s)
  (n:Nat) (h:I n s):codeAny (model prog w) A (.compLoop (.ListComp elt [⟨target,iter,ifs,0⟩] scope pos) 0 it acc env) R s:=by
 refine codeAny_loop rfl I (fun n s hI=>?_) n h
 show wpAny _ A ((compTurn (.ListComp elt [⟨target,iter,ifs,0⟩] scope pos) 0 it acc env).onRaise (fun x=>do noteFrame x env;theTreesLotGoes x)) _ _ s
 refine wpAny_noted ?_
 rw[compTurn_list]
 refine wpAny_bind (wpAny_standAt (wpAny_bind (wpAny_mono (turn n s hI) (fun r s₁ h₁=>?_) fun _ _ h'=>h')))
 cases r with
 |none=>exact wpAny_pure h₁
 |some v =>
  refine wpAny_bind (wpAny_mono h₁ (fun _ s₀ h₀'=>?_) fun _ _ h'=>h')
  refine wpAny_bind (wpAny_mono h₀' (fun _ s₂ h₂=>?_) fun _ _ h'=>h')
  refine wpAny_bind (wpAny_mono h₂ (fun okb s₃ h₃=>?_) fun _ _ h'=>h')
  cases okb with
  |false=>exact wpAny_pure ⟨rfl,h₃⟩
  |true=>exact wpAny_bind (wpAny_bind (wpAny_mono h₃ (fun x s₄ h₄=>wpAny_bind (wpAny_mono h₄ (fun _ s₅ h₅=>wpAny_pure (wpAny_pure ⟨rfl,h₅⟩)) fun _ _ h'=>h')) fun _ _ h'=>h'))
end
def FA(g:TG)(tt:TT)(te:TE)(n:Nat)(fv:St)(J:It)(H1:Hp)(QQ:List V->Hp->Prop):Prop :=
 ∃ W:Nat->Nat->List V->Hp->Prop,(∃ m,W 0 m [] H1)/\∀ i m ys H,W i m ys H->ys.length<=sizeLine /\
  ((J.stop i H/\QQ ys H)∨(J.go i H/\∃ N:List V->Hp->Prop,(∀ zs H2,N zs H2->∃ m',m'<m/\W (i+1) m' zs H2) /\
   ∀ x H',J.yld i H x H'->g x (Q0 n none++fv) H' fun σ2 H2=>σ2.drop n=fv/\tt σ2 H2 fun b H3=>if b=true then te σ2 H3 (fun y H4=>N (ys++[y]) H4) else N ys H3))
section
variable{X:Cx}{scope:Scope}{fr:List (Str×Nat)}{xs:List Str}{elt iter tg:Expr}{ifs:List Expr}{pos:Pos}{te:TE}{tt:TT}{tgt:TG}{wi:TI}
theorem Im{pins:List (Addr×Obj)}{σ:St}{H:Hp}{s:Shared}{E:Value->Shared->Prop}{it:Addr}{fp:List Addr}{tn:Nat->Heap->Prop}{J:It}{RR:Value->Addr->Result->Shared->Prop}{QQ:List V->Hp->Prop}(hc:X.calm=true)(O:wj X scope fr xs)
  (hg0:∀ C ex s H,PG (cxG X scope fr xs C ex s H) tg tgt) (ht:∀ C ex s H,PTs (cxG X scope fr xs C ex s H) ifs tt) (he:∀ C ex s H,PE (cxG X scope fr xs C ex s H) elt te) (I:Inv X pins σ H s) (T:Turn X.prog X.w X.K tg J fp it tn) (st:tn 0 s.heap) (hf:∀ b∈fp,FpOk X pins H b) (hq:FA tgt tt te xs.length (frOf fr σ) J H QQ)
  (fin:∀ D C H4 ys s4 m,Inv X pins σ (upd H4 D (.lst ys)) s4->H4 D=none->FpOk X pins (upd H4 D (.lst ys)) C->s4.heap.Ns C m->QQ ys H4->RR (.ref D) C (.ok .next) s4) :
  wpAny (model X.prog X.w) X.A (newList []) (fun acc s₃=>wpAny (model X.prog X.w) X.A (newFunctionEnv scope X.env.globals (clOf X.env fr) [] X.env.qual none .none (some X.env)) (fun cenv s₄ =>
   codeAny (model X.prog X.w) X.A (.compStart (.ListComp elt [⟨tg,iter,ifs,0⟩] scope pos) 0 (.ref it) acc { cenv with scope:=relabel scope X.env }) (RR acc cenv.locals) s₄) E s₃) E s:=by
 obtain⟨W,⟨m0,w0⟩,turn⟩:=hq
 have hfs:∀ b∈fp,b<s.heap.objs.size:=fun b hb=>by
  obtain⟨o,e,_⟩:=T.obj 0 s.heap st b hb
  exact Heap.lt_size e
 refine wpAny_newObj_type (wpAny_newFunctionEnv O.cell (by intro y hy;simp at hy) (fun h₁ hns₁ hsb₁=>?_) O.kind)
 dsimp only at hns₁ hsb₁ ⊢
 generalize hH2:s.heap.push { cls:=.type "list",dict:=none,data:=.seq ([]:List Value).toArray }=g at hns₁ hsb₁ ⊢
 have hg:g=s.heap.push (LCg.lst []):=hH2.symm
 have hsz:g.objs.size=s.heap.objs.size+1:=by rw[hg,Heap.size_push]
 have hk:∀ b o,g.get? b=some o->h₁.get? b=some o:=fun b o e=>hsb₁.extBut b o (QC (Heap.lt_size e)) (Heap.get?_push_of_some _ e)
 have kp:∀ b o,s.heap.get? b=some o->h₁.get? b=some o:=fun b o e=>hk b o (by rw[hg];exact Heap.get?_push_of_some _ e)
 have J0:=KJ (h':=h₁) (tk:=s.toks+([]:List (Str×Value)).length) O I hf hfs hg hk hns₁
 have stat:∀{H':Hp}{us:List Value},(∀ b∈fp,H' b=none)->∀ b∈fp,FpOk (cxG X scope fr xs g.objs.size (s.heap.objs.size::fp) { s with heap:=g } H) (X.pn++pins++[(s.heap.objs.size,LCg.lst us)]) H' b:=fun{H' us} hn b hb=>by
  obtain⟨_,f1,f2,f3,f4,f5⟩:=hf b hb
  refine⟨hn b hb,?_,fun z=>(P8.mp (I.stkSub b z)).elim f1 f2,.inl (Qe _ hb),fun y c e=>f4 y c (O.cells I e),fun p hp=>?_⟩
  ·show b≠g.objs.size
   rw[hsz];exact QC (Sr (hfs b hb))
  ·rcases Qf.mp hp with hp | hp
   ·cases hp
   ·rcases Qf.mp hp with hp | hp
    ·exact f5 p hp
    ·have ep:p=(s.heap.objs.size,LCg.lst us):=by simpa using hp
     rw[ep]
     exact RQ (hfs b hb)
 have loop:codeAny (model X.prog X.w) X.A (.compLoop (.ListComp elt [⟨tg,iter,ifs,0⟩] scope pos) 0 (.ref it) (.ref s.heap.objs.size) (compEnvC scope (clOf X.env fr) g.objs.size X.env))
   (RR (.ref s.heap.objs.size) g.objs.size) { s with heap:=h₁,toks:=s.toks+([]:List (Str×Value)).length }:=by
  refine Lk (fun n s'=>∃ i ys us H',Inv (cxG X scope fr xs g.objs.size (s.heap.objs.size::fp) { s with heap:=g } H) (X.pn++pins++[(s.heap.objs.size,LCg.lst us)]) (nons xs++frOf fr σ) H' s'/\Vals ys us/\tn i s'.heap/\(∀ b∈fp,H' b=none)/\W i n ys H') ?_ m0
   ⟨0,[],[],H,J0,.nil,T.keep 0 s.heap h₁ st fun b _ o e=>kp b o e,fun b hb=>(hf b hb).1,w0⟩
  rintro n s3 ⟨i,ys,us,H3,J3,hv,st3,fr3,w3⟩
  obtain⟨hlen,hh⟩:=turn i n ys H3 w3
  have none_err:∀{α:Type}{t:Sem α}{Q:α->Shared->Prop}{E':Value->Shared->Prop}{s:Shared},wpAny (model X.prog X.w) X.A t Q (fun _ _=>False) s->wpAny (model X.prog X.w) X.A t Q E' s:=fun h=>wpAny_mono h (fun _ _ q=>q) fun _ _ z=>z.elim
  have weakN:∀{σ6:St},σ6.length=(nons xs++frOf fr σ).length->σ6.drop xs.length=frOf fr σ->∀(i:Nat) v,(nons xs++frOf fr σ)[i]?=some (some v)->σ6[i]?=some (some v):=fun{σ6} hl6 e6 i v e=>by
   by_cases hi:i<xs.length
   ·rw[P6 (by simpa using hi),RG,if_pos hi]at e
    cases e
   ·rw[P4 (by simp;omega),← e6,Sf]at e
    have:xs.length+(i-(nons xs).length)=i:=by simp;omega
    rw[this]at e
    exact e
  rcases hh with⟨stop,qn⟩ | ⟨go,N,hN,step⟩
  ·refine none_err (thn (T.done (cxG X scope fr xs g.objs.size (s.heap.objs.size::fp) { s with heap:=g } H) rfl rfl rfl hc i _ s3 _ H3 _ J3 (stat fr3) st3 stop) fun r s4 ⟨hr,J4⟩=>?_)
   subst hr
   obtain⟨I4,nD,fC,m,hn⟩:=yE I hf hg J4 hv hlen
   exact fin _ _ H3 ys s4 m I4 nD fC hn qn
  ·refine none_err (thn (T.item (cxG X scope fr xs g.objs.size (s.heap.objs.size::fp) { s with heap:=g } H) rfl rfl rfl hc i _ s3 _ H3 _ J3 (stat fr3) st3 go) fun r s4 ⟨u,hr,h4⟩=>?_)
   subst hr
   refine none_err (thn h4 fun _ s5 ⟨v,H5,J5,r5,y5,st5,fr5⟩=>?_)
   have J5':=J5.pinned (stat fr5) (T.obj _ _ st5)
   refine none_err (thn (hg0 _ _ _ _ _ s5 _ H5 v u _ J5' r5 (step v H5 y5)) fun _ s6 ⟨σ6,H6,J6,e6,q6⟩=>?_)
   refine none_err (thn (ht _ _ _ _ _ s6 σ6 H6 _ J6 q6) fun b s6' ⟨H6',J6',q6'⟩=>?_)
   have hl6:σ6.length=(nons xs++frOf fr σ).length:=J6.len.trans J3.len.symm
   cases b with
   |false =>
    rw[if_neg Qw]at q6' ⊢
    obtain⟨m',hm,w7⟩:=hN ys H6' q6'
    have pinF:∀ b∈fp,∀ o,s5.heap.get? b=some o->s6'.heap.get? b=some o/\H6' b=none:=fun b hb o e=>by
     obtain⟨q1,q2,_⟩:=J6'.pin (b,o) (Qo _ (Qo _ (h7 hb e)))
     exact⟨q1,q2⟩
    refine⟨m',hm,i+1,ys,us,H6',J6'.unpinned.weak (σ':=nons xs++frOf fr σ) hl6.symm (weakN hl6 e6),hv,T.keep _ _ _ st5 fun b hb o e=>(pinF b hb o e).1,fun b hb=>?_,w7⟩
    obtain⟨o,e,_⟩:=T.obj _ _ st5 b hb
    exact(pinF b hb o e).2
   |true =>
    rw[if_pos rfl]at q6' ⊢
    refine none_err (thn (he _ _ _ _ _ s6' _ H6' _ J6' q6') fun u7 s7 ⟨v7,H7,J7,r7,q7⟩=>?_)
    obtain⟨m',hm,w7⟩:=hN _ H7 q7
    obtain⟨eD,nD,dC,dF,dd⟩:=J7.pin (s.heap.objs.size,LCg.lst us) (Qo _ (QF _ (Qo _ (by simp))))
    have hvl:=hv.length
    refine append_at (hsz:=by show us.toArray.size<=sizeLine;rw[Qq,← hvl];exact hlen) eD fun h8 hs8 hD8=>?_
    have pinD:∀ p∈X.pn++pins,p.1≠s.heap.objs.size:=fun p hp z=>by
     have:=Heap.lt_size (I.pin p hp).1
     rw[z]at this
     exact Q3 _ this
    have J7a:Inv (cxG X scope fr xs g.objs.size (s.heap.objs.size::fp) { s with heap:=g } H) (X.pn++pins) _ H7 s7:=J7.pins_of fun p hp=>J7.pin p (Qo _ (QF _ (QF _ hp)))
    have J8:Inv (cxG X scope fr xs g.objs.size (s.heap.objs.size::fp) { s with heap:=g } H) (X.pn++pins) _ H7 { s7 with heap:=h8 }:=J7a.turned (t':=s7.toks) (fun b o hb e=>(hs8.2 b hb).trans e) nD dC (.inl Ql) (fun y c e z=>by
     obtain⟨w',q⟩:=I.cell y c (O.cells I e)
     have:=q.lt
     rw[z]at this
     exact Q3 _ this) (fun p hp=>(Qf.mp hp).elim (fun z=>by cases z) (pinD p))
    have J9:Inv (cxG X scope fr xs g.objs.size (s.heap.objs.size::fp) { s with heap:=g } H) (X.pn++pins++[(s.heap.objs.size,LCg.lst (us++[u7]))]) _ H7 { s7 with heap:=h8 }:=J8.pins_of fun p hp=>by
     rcases Qf.mp hp with hp | hp
     ·exact J8.pin p (Qo _ hp)
     ·have ep:p=(s.heap.objs.size,LCg.lst (us++[u7])):=by simpa using hp
      subst ep
      exact⟨hD8.trans (congrArg some (LCg.lst_snoc us u7)),nD,dC,dF,fun v z=>by cases z⟩
    have J10:=J9.weak (σ':=nons xs++frOf fr σ) hl6.symm (weakN hl6 e6)
    have pinF:∀ b∈fp,∀ o,s5.heap.get? b=some o->s7.heap.get? b=some o/\H7 b=none:=fun b hb o e=>by
     obtain⟨q1,q2,_⟩:=J7.pin (b,o) (Qo _ (Qo _ (h7 hb e)))
     exact⟨q1,q2⟩
    refine⟨m',hm,i+1,ys++[v7],us++[u7],H7,J10,hv.append (.cons r7 .nil),T.keep _ _ _ st5 fun b hb o e=>(hs8.2 b (QC (hfs b hb))).trans (pinF b hb o e).1,fun b hb=>?_,w7⟩
    obtain⟨o,e,_⟩:=T.obj _ _ st5 b hb
    exact(pinF b hb o e).2
 exact codeAny_compStart_list loop (T.self X.A 0 _ _ _ (T.keep 0 s.heap h₁ st fun b _ o e=>kp b o e) loop)
def tCompE(wi:TI)(g:TG)(tt:TT)(te:TE)(n:Nat)(fr:List (Str×Nat)):TE:=fun σ H Q=>wi σ H fun J H1=>FA g tt te n (frOf fr σ) J H1 fun ys H2=>∀ D,H2 D=none->Q (.ref D) (upd H2 D (.lst ys))
theorem x4(hc:X.calm=true)(O:wj X scope fr xs)(hi:PI X tg iter wi)(hg0:∀ C ex s H,PG (cxG X scope fr xs C ex s H) tg tgt)(ht:∀ C ex s H,PTs (cxG X scope fr xs C ex s H) ifs tt)(he:∀ C ex s H,PE (cxG X scope fr xs C ex s H) elt te)(hs:∀ x,foldedSetIterable iter X.env x=pure x:=by intro _;rfl) :
  PE X (.ListComp elt [⟨tg,iter,ifs,0⟩] scope pos) (tCompE wi tgt tt te xs.length fr):=by
 intro pins s σ H Q I h
 rw[eval_ListComp]
 refine wpAny_comprehension_free (use:=none) rfl hs O.clos O.kind O.names (thn (hi pins s σ H _ I h) fun xv s1 h1=>thn h1 fun itv s2 h2=>?_)
 obtain⟨it,fp,tn,J,H2,e,I2,T,st2,f2,q2⟩:=h2
 subst e
 refine Im (RR:=fun acc C=>compPost (model X.prog X.w) X.A X.xe none (EP X pins σ Q) acc C) hc O hg0 ht he I2 T st2 f2 q2 ?_
 intro D C H4 ys s4 m I4 nD fC hn q4
 refine⟨m,hn,fun h' hs'=>?_⟩
 obtain⟨g0,g1,g2,g3,g4,g5⟩:=fC
 exact⟨.ref D,_,I4.turned (t':=s4.toks) (fun b o hb e=>(hs'.2 b hb).trans e) g0 g1 g3 g4 g5,rfl,q4 D nD⟩
end
theorem wJ{K:P1}{a:Addr}{xs:List V}{g:TG}{tt:TT}{te:TE}{n:Nat}{fv:St}{H1:Hp}{QQ:List V->Hp->Prop}(Pv:Nat->List V->Hp->Prop)(hz:xs.length<=sizeLine)(h0:Pv 0 [] H1)(hl:∀ i ys H,i<=xs.length->Pv i ys H->SqL K H a xs)
  (hs:∀ i x ys H,xs[i]?=some x->Pv i ys H->g x (Q0 n none++fv) H fun σ2 H2=>σ2.drop n=fv/\tt σ2 H2 fun b H3=>if b=true then te σ2 H3 (fun y H4=>Pv (i+1) (ys++[y]) H4) else Pv (i+1) ys H3) (hd:∀ ys H,Pv xs.length ys H->QQ ys H) (hy:∀ i ys H,Pv i ys H->ys.length<=i)
  : FA g tt te n fv (Itl K a) H1 QQ:=by
 refine⟨fun i m ys H=>m=xs.length-i/\i<=xs.length/\Pv i ys H,⟨xs.length,by simp,Q6 _,h0⟩,?_⟩
 rintro i m ys H ⟨rfl,hi,p⟩
 have q:=hl i ys H hi p
 have hyl:=hy i ys H p
 refine⟨by omega,?_⟩
 by_cases hlt:i<xs.length
 ·refine .inr ⟨⟨xs,xs[i],q,by simp[hlt]⟩,fun zs H2=>Pv (i+1) zs H2,fun zs H2 p2=>⟨xs.length-(i+1),by omega,rfl,hlt,p2⟩,fun x H' y=>?_⟩
  obtain⟨e,y⟩:=y
  subst e
  exact hs i x ys _ (y xs q) p
 ·have e:i=xs.length:=by omega
  subst e
  exact .inl ⟨⟨xs,q,P9 _⟩,hd ys H p⟩
theorem Io{K:P1}{a:Addr}{xs:List V}{g:TG}{tt:TT}{te:TE}{n:Nat}{fv:St}{H1:Hp}{QQ:List V->Hp->Prop}(Pv:Nat->List V->Hp->Prop)(hz:xs.length<=sizeLine)(h0:Pv 0 [] H1)(hl:∀ i ys H,i<=xs.length->Pv i ys H->SqL K H a xs)
  (hs:∀ i x ys H T,xs[i]?=some x->Pv i ys H->H T=none->g (.ref T) (Q0 n none++fv) (upd H T (.tup [.int (i:Int),x])) fun σ2 H2=>σ2.drop n=fv/\tt σ2 H2 fun b H3=>if b=true then te σ2 H3 (fun y H4=>Pv (i+1) (ys++[y]) H4) else Pv (i+1) ys H3) (hd:∀ ys H,Pv xs.length ys H->QQ ys H) (hy:∀ i ys H,Pv i ys H->ys.length<=i)
  : FA g tt te n fv (Ite K a) H1 QQ:=by
 refine⟨fun i m ys H=>m=xs.length-i/\i<=xs.length/\Pv i ys H,⟨xs.length,by simp,Q6 _,h0⟩,?_⟩
 rintro i m ys H ⟨rfl,hi,p⟩
 have q:=hl i ys H hi p
 have hyl:=hy i ys H p
 refine⟨by omega,?_⟩
 by_cases hlt:i<xs.length
 ·refine .inr ⟨⟨xs,xs[i],q,by simp[hlt]⟩,fun zs H2=>Pv (i+1) zs H2,fun zs H2 p2=>⟨xs.length-(i+1),by omega,rfl,hlt,p2⟩,fun v H' y=>?_⟩
  obtain⟨T,x,hT,rfl,rfl,y⟩:=y
  exact hs i x ys _ T (y xs q) p hT
 ·have e:i=xs.length:=by omega
  subst e
  exact .inl ⟨⟨xs,q,P9 _⟩,hd ys H p⟩
end L2
namespace L2
open PySem PySem.Spec PyProof.Rows
section
variable{X:Cx}{K:P1}{pos:Pos}
theorem F3(h:X.K=K):IxR X (rIxL K):=h▸av
theorem Dl{es:List Expr}{k:Nat}{t:TGs}{n:Nat}(hK:X.K=K)(hc:X.calm=true)(h:PGs X es t)(hn:(assignEach es X.env).length=n:=by rfl)(hst:(assignEach es X.env).findIdx? (·.1)=none:=by rfl):PG X (.Tuple es k pos) (gTup K n t):=hK▸FH hc h hn hst
theorem wV(h:X.K=K):jy X (.type "list") (fun xs H Q=>∃ p ys,xs = [.ref p]/\(SqL K H p ys∨SqT K H p ys)/\∀ l,H l=none->Q (.ref l) (upd H l (.lst ys))):=h▸bN
theorem JD{e:Expr}{f:Str}{ta:TE}(h:X.K=K)(he:PE X e ta)(hb:attributeBase e f X.env (eval e X.env)=eval e X.env):PE X (.Attribute e f pos) (tFld K ta f):=h▸bh he hb
end
end L2
namespace L2
open PySem PySem.Spec PyProof.Rows
section
variable{X:Cx}
def Oy:V->List V->Hp->VK->Prop:=fun x vs H Q=>∃ l xs k y,x=.ref l/\vs = [.int k,y]/\H l=some (.lst xs)/\0<=k/\k<=xs.length/\xs.length<sizeLine/\Q .non (upd H l (.lst (xs.take k.toNat++y::xs.drop k.toNat)))
theorem sX:MtM X "list.insert" Oy:=by
 intro pins s σ H x vs v us Q I rx rv h
 obtain⟨l,xs,k,y,rfl,rfl,hH,h0,hk,hz,q⟩:=h
 cases rx
 obtain⟨u1,u2,rfl,r1,r2⟩:=rv.two
 obtain⟨t,rfl⟩:=r1
 obtain⟨z,its,n,r,hl,e⟩:=I.lstM hH
 have hn:=tj
 have hfit:¬ (!Builtin.List.listFitsIndex k)=true:=by
  rw[fitsIndex_both (by omega) (by omega)]
  exact Qw
 refine call_meets F.slot_list_insert ⟨_,e,rfl⟩ F.entry_list_insert (F.args_list_insert_3 _ _ _) (AutoListH.list_insert_list_int_val_1 l its.toArray n k t u2 hfit (by rw[Qq];omega)) ⟨e,?_⟩
 refine⟨.non,_,I.lset (its':=its.take k.toNat++u2::its.drop k.toNat) hH e ?_ ((r.take _).append (.cons r2 (r.drop _))) ?_,rfl,q⟩
 ·dsimp only
  rw[if_neg (by omega),Qq,RW (by omega)]
  simp
  exact Rr (by rw[Rx];omega)
 ·rw[P2,Qz,QK,Rx]
  omega
theorem yF:∀{ns:List Int}{us:List Value},Vals (ns.map V.int) us->IntsAre us ns
 |[],_,.nil=>.nil
 |n::ns,_,.cons r rr=>by
  obtain⟨t,rfl⟩:=r
  exact .cons n t (yF rr)
end
end L2
namespace L2
open PySem PySem.Spec PyProof.Rows
theorem rQ:∀{ps:List Nat},(∀ p∈ps,p<1000)->PyData.weightAll ((ps.map fun(p:Nat)=>((p:Nat):Int)).map PyData.int)<=12*ps.length
 |[],_=>by simp[PyData.weightAll]
 |p::ps,h=>by
  have ih:=rQ (ps:=ps) fun x hx=>h x (Qe _ hx)
  have hp:=h p (by simp)
  have hw:PyData.weight (.int (p:Int))<=11:=by
   rw[PyData.weight]
   split
   ·exact Q6 _
   ·rename_i z
    have z':p≠0:=fun e=>z (by rw[e];rfl)
    have e:((p:Int)).natAbs=p:=rfl
    rw[e]
    have:=(Nat.log2_lt z').mpr (show p<2^10 by omega)
    omega
  rw[QA,QA,PyData.weightAll,Qz]
  omega
theorem MO{ps:List Nat}(h:∀ p∈ps,p<1000)(hl:ps.length<=1000):PyData.layable0 (.list ((ps.map fun(p:Nat)=>((p:Nat):Int)).map PyData.int))=true:=by
 have h1:=PySem.W.shaped_ints (ps.map fun(p:Nat)=>((p:Nat):Int))
 have h2:=rQ h
 have h3:PyData.weight (.list ((ps.map fun(p:Nat)=>((p:Nat):Int)).map PyData.int))<=2^20:=by
  rw[PyData.weight];omega +splitDisjunctions
 unfold PyData.layable0
 unfold SeqAt.shaped at h1
 rw[h1,decide_eq_true h3]
 rfl
section
variable{X:Cx}
def rIndex(K:P1):V->List V->Hp->VK->Prop:=fun x vs H Q=>∃(l:Addr)(ps:List Nat)(k:Nat),x=.ref l/\vs = [.int (k:Int)]/\SqL K H l (ps.map fun(p:Nat)=>V.int (p:Int))/\(∀ p∈ps,p<1000)/\ps.length<=1000/\k∈ps/\Q (.int ((ps.idxOf k:Nat):Int)) H
theorem MX{ps:List Nat}{k:Nat}:(ps.map fun(p:Nat)=>((p:Nat):Int)).idxOf (k:Int)=ps.idxOf k:=by
 induction ps with
 |nil=>rfl
 |cons p ps ih =>
  rw[QA,List.idxOf_cons,List.idxOf_cons,ih]
  have e:(((p:Nat):Int) == (k:Int))=(p == k):=by
   by_cases h:p=k
   ·subst h;simp
   ·have h2:¬ (p:Int)=(k:Int):=fun z=>h (by omega)
    rw[beq_eq_false_iff_ne.mpr h,beq_eq_false_iff_ne.mpr h2]
  rw[e]
theorem rF:MtM X "list.index" (rIndex X.K):=by
 intro pins s σ H x vs v us Q I rx rv h
 obtain⟨l,ps,k,rfl,rfl,hq,hs,hl,hk,q⟩:=h
 cases rx
 obtain⟨u,rfl,ru⟩:=rv.one
 obtain⟨t,rfl⟩:=ru
 have e:(ps.map fun(p:Nat)=>V.int (p:Int))=(ps.map fun(p:Nat)=>((p:Nat):Int)).map V.int:=by rw[Ra];rfl
 rw[e]at hq
 obtain⟨its,r,pl,hz⟩:=I.list hq
 refine index_list_ints pl.isList (yF r) (MO hs hl) (Qv.mpr ⟨k,hk,rfl⟩) ?_
 rw[MX]
 exact⟨.int _,H,I.tok _,⟨_,rfl⟩,q⟩
theorem Nx(hu:X.A.units+64<cLine):OpR X (compareOp .Eq) (fun x y H Q=>∃ d1 d2,RdD X.K H x d1/\RdD X.K H y d2/\SeqAt.shaped d1=true/\SeqAt.shaped d2=true/\Q (.bl (PyData.eqv d1 d2)) H):=by
 intro pins s σ H x y v u Q I rx ry h
 obtain⟨d1,d2,r1,r2,h1,h2,q⟩:=h
 obtain⟨as,q1⟩:=r1.reads I v rx
 obtain⟨bs,q2⟩:=r2.reads I u ry
 exact eq_dataH q1 q2 h1 h2 hu ⟨.bl _,H,I,rfl,q⟩
end
end L2
namespace L2
open PySem PySem.Spec PyProof.Rows
theorem IT:∀{us:List Value}{ns:List Int},IntsAre us ns->Vals (ns.map V.int) us
 |_,_,.nil=>.nil
 |_,_,.cons _ t r=>.cons ⟨t,rfl⟩ (IT r)
section
variable{X:Cx}
def Jt(K:P1):List V->Hp->VK->Prop:=fun xs H Q=>∃(p:Addr)(ns:List Int),xs = [.ref p]/\SqL K H p (ns.map V.int)/\ns.length<64/\∀(l:Addr)(out:List Int),H l=none->out.Perm ns->out.Pairwise (·<=·)->Q (.ref l) (upd H l (.lst (out.map V.int)))
theorem ES:jy X (.builtin "sorted") (Jt X.K):=by
 intro pins s σ H xs us Q I r h
 obtain⟨p,ns,rfl,hq,h64,q⟩:=h
 obtain⟨u,rfl,ru⟩:=qO r
 cases ru
 obtain⟨its,rv,pl,hz⟩:=I.list hq
 have hi:=yF rv
 have hl:=rv.length
 rw[P5]at hl
 refine sorted_ints pl.isList hi (by omega) fun out ns' a1 a2 a3=>?_
 obtain⟨e,he⟩:=sortedAll_at s.heap its out
 refine⟨.ref (s.heap.objs.size+1),_,I.laid (t':=s.toks) (fun _ _=>sortedAll_old) (RF _) (show b5 X.prog X.w _ _ _ (.lst (ns'.map V.int)) from⟨?_,out.toList,e,IT a1,?_⟩),rfl,q _ ns' (I.hok.fresh (RF _)) a2 a3⟩
 ·rw[P5,a2.length_eq]
  exact Rn (aI (by omega))
 ·exact he
theorem BQ{K:P1}(h:X.K=K):jy X (.builtin "sorted") (Jt K):=h▸ES
end
theorem ER{lo c:Int}{n:Nat}{te:TE}{fv:St}{H1:Hp}{QQ:List V->Hp->Prop}(Pv:Nat->List V->Hp->Prop)(hz:n<=sizeLine)(h0:Pv 0 [] H1)
  (hs:∀ i ys H,i<n->Pv i ys H->te (some (.int (lo+i*c))::fv) H fun y H2=>Pv (i+1) (ys++[y]) H2) (hd:∀ ys H,ys.length=n->Pv n ys H->QQ ys H)
  : rS te fv (Itr3 lo c n) H1 QQ:=by
 refine⟨fun i m ys H=>m=n-i/\i<=n/\ys.length=i/\Pv i ys H,⟨n,by simp,Q6 _,rfl,h0⟩,?_⟩
 rintro i m ys H ⟨rfl,hi,hy,p⟩
 refine⟨by omega,?_⟩
 by_cases hlt:i<n
 ·refine .inr ⟨hlt,fun y H2=>Pv (i+1) (ys++[y]) H2,fun y H2 p2=>⟨n-(i+1),by omega,rfl,hlt,by rw[P2,hy];rfl,p2⟩,fun x H' y=>?_⟩
  obtain⟨e,y⟩:=y
  subst e y
  exact hs i ys _ hlt p
 ·have e:i=n:=by omega
  subst e
  exact .inl ⟨P9 _,hd ys H hy p⟩
end L2
namespace L2
open PySem PySem.Spec PyProof.Rows
section
variable{X:Cx}{tg:Expr}
def iRngL(ta:TA):TI:=fun σ H R=>ta σ H fun vs H1=>∃(lo m c:Int)(n:Nat),vs = [.int lo,.int m,.int c]/\0<=lo/\lo<1000/\-1000<m/\m<2^61/\(0<c/\c<1000)/\Builtin.Range.rangeSize lo m c=(n:Int)/\R (Itr3 lo c n) H1
theorem Mf{lo m c:Int}(h0:0<=lo)(h00:lo<1000)(h1 : -1000<m)(h2:m<2^61)(h3:0<c/\c<1000):Builtin.Range.small lo m c=true:=by
 obtain⟨h3,h4⟩:=h3
 have hs:0<=Builtin.Range.rangeSize lo m c/\Builtin.Range.rangeSize lo m c<=2^61:=by
  unfold Builtin.Range.rangeSize
  rw[if_pos h3]
  by_cases h:lo<m
  ·rw[if_pos h]
   have q1:0<=(m-lo-1)/c:=Int.ediv_nonneg (by omega) (by omega)
   have q2:(m-lo-1)/c<=(m-lo-1):=Int.ediv_le_self _ (by omega)
   omega
  ·rw[if_neg h];omega
 unfold Builtin.Range.small Builtin.Range.rangeFitsLong
 simp only[gt_iff_lt,h3,if_true]
 simp
 omega
theorem Ab{a b c:Expr}{ta:TA}{p pos:Pos} (hg:Gl X "range") (hm:X.mg "range" = none) (ha:PA X [a,b,c] ta) (hs:starEach [a,b,c] X.env=(false,eval a X.env)::starEach [b,c] X.env:=by rfl) (hs2:(backTo pos (starEach [b,c] X.env)).any (·.1)=false:=by rfl) :
  PI X tg (.Call (.Name "range" p) [a,b,c] [] pos) (iRngL ta):=by
 intro pins s σ H R I h
 refine Call_ (wD I hg hm Nd (PyProof.Rows.callWith_type1 (thn (ha pos pins s σ H _ I h) fun us s1 ⟨vs,H1,I1,r1,q1⟩=>?_) hs hs2))
 obtain⟨lo,m,c,n,e,h0,h00,h1,h2,h3,hn,q⟩:=q1
 subst e
 cases r1 with
 |cons r rr =>
  cases rr with
  |cons r' rr =>
   cases rr with
   |cons r'' rr =>
    cases rr
    obtain⟨t,rfl⟩:=r
    obtain⟨t',rfl⟩:=r'
    obtain⟨t'',rfl⟩:=r''
    refine call_range_3 (by have:=h3.1;omega) ?_ (Or.inl (PyProof.noPylong_small (by have:=h3.1;have:=h3.2;omega)))
    refine wpAny_pyIter_range (IsRange.new ..) (Mf h0 h00 h1 h2 h3) ?_
    have I2:Inv X pins σ H1 { s1 with heap:=s1.heap.push { cls:=.type "range",data:=.fields #[.int lo t,.int m t',.int c t''] },toks:=s1.toks }:=I1.kept fun b o e=>Heap.get?_push_of_some _ e
    refine⟨(s1.heap.push { cls:=.type "range",data:=.fields #[.int lo t,.int m t',.int c t''] }).objs.size,[(s1.heap.push { cls:=.type "range",data:=.fields #[.int lo t,.int m t',.int c t''] }).objs.size],_,_,H1,rfl,
     I2.kept (t':=s1.toks) fun b o e=>Heap.get?_push_of_some _ e,Cu _ lo c n,?_,fun b hb=>?_,q⟩
    ·have e1:lo+((0:Nat):Int)*c=lo:=by simp
     have e2:((n:Nat):Int)-((0:Nat):Int)=Builtin.Range.rangeSize lo m c:=by rw[hn];simp
     show IsRangeIter _ _ (lo+((0:Nat):Int)*c) ((n:Int)-((0:Nat):Int)) c
     rw[e1,e2]
     exact Heap.get?_push_size _ rfl
    ·have e:b=(s1.heap.push { cls:=.type "range",data:=.fields #[.int lo t,.int m t',.int c t''] }).objs.size:=by simpa using hb
     subst e
     exact I2.fpOk (P9 _) (I2.hok.fresh (P9 _))
end
end L2
namespace L2
open PySem PySem.Spec PyProof.Rows
theorem bt_min:bootBuiltins "min" = some (.builtin "min"):=by decide +kernel
section
variable{X:Cx}
def rCatS(K:P1):R2:=fun x y H Q=>∃ l b xs zs,x=.ref l/\y=.ref b/\SqL K H l xs/\SqL K H b zs/\xs.length+zs.length<=sizeLine/\∀ p,H p=none->Q (.ref p) (upd H p (.lst (xs++zs)))
theorem JJ:OpR X (binaryOp .Add) (rCatS X.K):=by
 intro pins s σ H x y v u Q I rx ry h
 obtain⟨l,b,xs,zs,rfl,rfl,hH,hB,hz,q⟩:=h
 cases rx
 cases ry
 obtain⟨its,r,pl,_⟩:=I.list hH
 obtain⟨its2,r2,pl2,_⟩:=I.list hB
 obtain⟨⟨cls,dd,data,sl⟩,ho,hc,n,hd⟩:=pl.isList
 obtain⟨⟨cls2,dd2,data2,sl2⟩,ho2,hc2,n2,hd2⟩:=pl2.isList
 simp only at hc hd hc2 hd2
 subst hc hd hc2 hd2
 have ea:its.toArray++its2.toArray=(its++its2).toArray:=by simp
 have e1:=r.length
 have e2:=r2.length
 refine concat_meets ⟨_,ho,rfl⟩ ⟨_,ho2,rfl⟩ noFill_list_add seq_list_add PySem.F.slot_list_add PySem.F.entry_list_add (PySem.F.args_list_add_2 _ _) (list_addW l b its.toArray its2.toArray n n2 dd dd2 sl sl2 (by rw[Qq,Qq];omega)) ⟨ho,ho2,?_⟩
 rw[ea]
 exact⟨.ref _,_,I.lnew (t':=s.toks) (r.append r2) (by rw[P2];omega),rfl,q _ I.fresh⟩
end
end L2
namespace L2
open PySem PySem.Spec PyProof.Rows
theorem yesT{σ:St}{H:Hp}{A B:Hp->Prop}(h:A H):tYes σ H fun b H3=>if b=true then A H3 else B H3 :=
 show(if true=true then A H else B H) from iteT (B:=B H) h
section
variable{X:Cx}
end
section
variable{X:Cx}
end
end L2
namespace L2
open PySem PySem.Spec PyProof.Rows
end L2
namespace L2
open PySem PySem.Spec PyProof.Rows
section
variable{X:Cx}
theorem tZ:∀(a b:List Int),PyData.eqvAll (a.map PyData.int) (b.map PyData.int)=decide (a=b)
 |[],[]=>by simp[PyData.eqvAll]
 |[],y::b=>by simp[PyData.eqvAll]
 |x::a,[]=>by simp[PyData.eqvAll]
 |x::a,y::b=>by
  rw[QA,QA]
  simp only[PyData.eqvAll,PyData.eqv,tZ a b]
  by_cases h:x=y
  ·by_cases h2:a=b
   ·simp[h,h2]
   ·simp[h,h2]
  ·simp[h]
theorem F9(a b:List Int):PyData.eqv (.list (a.map PyData.int)) (.list (b.map PyData.int))=decide (a=b):=by
 rw[← tZ]
 simp only[PyData.eqv]
end
section
variable{X:Cx}{tg:Expr}
end
section
variable{P:Program}{w:World}{K:P1}{mg:Str->Option Value}{base:Heap}
end
end L2
namespace PyProof.Rows
open PySem
local macro_rules | `(tactic| walk_at "gallop") => do
 let n:=Lean.mkIdent (Lean.mkPrivateNameCore `PySem.Builtin.List.W1All `PySem.Builtin.gallop)
 `(tactic| delta $n)
local macro_rules | `(tactic| walk_at "st") => `(tactic| try dsimp -zeta -zetaHave only)
local macro_rules | `(tactic| walk_at "l4") => `(tactic| (extract_lets -underBinder +onlyGivenNames a b; subst a b))
variable{prog:Program}{w:World}{A:Around}{E:Value->Shared->Prop}{s:Shared}
end PyProof.Rows
namespace PyProof.Rows
open PySem
local macro_rules | `(tactic| walk_at "setG") => do
 let n:=Lean.mkIdent (Lean.mkPrivateNameCore `PySem.Builtin.List.W1All `PySem.Builtin.setMinGallop)
 `(tactic| delta $n)
local macro_rules | `(tactic| walk_at "mergeLo") => do
 let n:=Lean.mkIdent (Lean.mkPrivateNameCore `PySem.Builtin.List.W1All `PySem.Builtin.mergeLo)
 `(tactic| delta $n)
local macro_rules | `(tactic| walk_at "st") => `(tactic| try dsimp -zeta -zetaHave only)
local macro_rules | `(tactic| walk_at "l3") => `(tactic| (extract_lets -underBinder +onlyGivenNames a b c; subst a b c))
local macro_rules | `(tactic| walk_at "l11") => `(tactic| (extract_lets -underBinder +onlyGivenNames a b c d e f g h i j k; subst a b c d e f g h i j k; dsimp -zeta -zetaHave only))
variable{prog:Program}{w:World}{A:Around}{E:Value->Shared->Prop}{s:Shared}
end PyProof.Rows
namespace PyProof.Rows
open PySem
local macro_rules | `(tactic| walk_at "mergeHi") => do
 let n:=Lean.mkIdent (Lean.mkPrivateNameCore `PySem.Builtin.List.W1All `PySem.Builtin.mergeHi)
 `(tactic| delta $n)
local macro_rules | `(tactic| walk_at "st") => `(tactic| try dsimp -zeta -zetaHave only)
local macro_rules | `(tactic| walk_at "l3") => `(tactic| (extract_lets -underBinder +onlyGivenNames a b c; subst a b c))
local macro_rules | `(tactic| walk_at "l11") => `(tactic| (extract_lets -underBinder +onlyGivenNames a b c d e f g h i j k; subst a b c d e f g h i j k; dsimp -zeta -zetaHave only))
variable{prog:Program}{w:World}{A:Around}{E:Value->Shared->Prop}{s:Shared}
end PyProof.Rows
namespace PyProof.Rows
open PySem
local macro_rules | `(tactic| walk_at "countRun") => do
 let n:=Lean.mkIdent (Lean.mkPrivateNameCore `PySem.Builtin.List.W1All `PySem.Builtin.countRun)
 `(tactic| delta $n)
local macro_rules | `(tactic| walk_at "binarySort") => do
 let n:=Lean.mkIdent (Lean.mkPrivateNameCore `PySem.Builtin.List.W1All `PySem.Builtin.binarySort)
 `(tactic| delta $n)
local macro_rules | `(tactic| walk_at "st") => `(tactic| try dsimp -zeta -zetaHave only)
local macro_rules | `(tactic| walk_at "l3") => `(tactic| (extract_lets -underBinder +onlyGivenNames a b c; subst a b c))
local macro_rules | `(tactic| walk_at "l11") => `(tactic| (extract_lets -underBinder +onlyGivenNames a b c d e f g h i j k; subst a b c d e f g h i j k; dsimp -zeta -zetaHave only))
local macro_rules | `(tactic| walk_at "l1") => `(tactic| (extract_lets -underBinder +onlyGivenNames a; subst a; try dsimp -zeta -zetaHave only))
local macro_rules | `(tactic| walk_at "l2") => `(tactic| (extract_lets -underBinder +onlyGivenNames a b; subst a b; try dsimp -zeta -zetaHave only))
local macro_rules | `(tactic| walk_at "l4") => `(tactic| (extract_lets -underBinder +onlyGivenNames a b c d; subst a b c d; try dsimp -zeta -zetaHave only))
variable{prog:Program}{w:World}{A:Around}{E:Value->Shared->Prop}{s:Shared}
end PyProof.Rows
namespace PyProof.Rows
open PySem
local macro_rules | `(tactic| walk_at "mergeAt") => do
 let n:=Lean.mkIdent (Lean.mkPrivateNameCore `PySem.Builtin.List.W1All `PySem.Builtin.mergeAt)
 `(tactic| delta $n)
local macro_rules | `(tactic| walk_at "st") => `(tactic| try dsimp -zeta -zetaHave only)
local macro_rules | `(tactic| walk_at "l3") => `(tactic| (extract_lets -underBinder +onlyGivenNames a b c; subst a b c))
local macro_rules | `(tactic| walk_at "l11") => `(tactic| (extract_lets -underBinder +onlyGivenNames a b c d e f g h i j k; subst a b c d e f g h i j k; dsimp -zeta -zetaHave only))
local macro_rules | `(tactic| walk_at "l1") => `(tactic| (extract_lets -underBinder +onlyGivenNames a; subst a; try dsimp -zeta -zetaHave only))
local macro_rules | `(tactic| walk_at "l2") => `(tactic| (extract_lets -underBinder +onlyGivenNames a b; subst a b; try dsimp -zeta -zetaHave only))
local macro_rules | `(tactic| walk_at "l4") => `(tactic| (extract_lets -underBinder +onlyGivenNames a b c d; subst a b c d; try dsimp -zeta -zetaHave only))
variable{prog:Program}{w:World}{A:Around}{E:Value->Shared->Prop}{s:Shared}
end PyProof.Rows
namespace PyProof.Rows
open PySem
local macro_rules | `(tactic| walk_at "sortRuns") => do
 let n:=Lean.mkIdent (Lean.mkPrivateNameCore `PySem.Builtin.List.W1All `PySem.Builtin.sortRuns)
 `(tactic| delta $n)
local macro_rules | `(tactic| walk_at "st") => `(tactic| try dsimp -zeta -zetaHave only)
local macro_rules | `(tactic| walk_at "l3") => `(tactic| (extract_lets -underBinder +onlyGivenNames a b c; subst a b c))
local macro_rules | `(tactic| walk_at "l11") => `(tactic| (extract_lets -underBinder +onlyGivenNames a b c d e f g h i j k; subst a b c d e f g h i j k; dsimp -zeta -zetaHave only))
local macro_rules | `(tactic| walk_at "l1") => `(tactic| (extract_lets -underBinder +onlyGivenNames a; subst a; try dsimp -zeta -zetaHave only))
local macro_rules | `(tactic| walk_at "l2") => `(tactic| (extract_lets -underBinder +onlyGivenNames a b; subst a b; try dsimp -zeta -zetaHave only))
local macro_rules | `(tactic| walk_at "l4") => `(tactic| (extract_lets -underBinder +onlyGivenNames a b c d; subst a b c d; try dsimp -zeta -zetaHave only))
variable{prog:Program}{w:World}{A:Around}{E:Value->Shared->Prop}{s:Shared}
end PyProof.Rows
namespace PyProof.Rows
open PySem
variable{prog:Program}{w:World}{A:Around}{E:Value->Shared->Prop}{s:Shared}
end PyProof.Rows
namespace L2
open PySem PySem.Spec PyProof.Rows
section
variable{X:Cx}
end
end L2
namespace L2
open PySem PySem.Spec PyProof.Rows
section
variable{X:Cx}
end
end L2
namespace L2
open PySem PySem.Spec PyProof.Rows
section
variable{prog:Program}{w:World}{A:Around}{E:Value->Shared->Prop}{s:Shared}{z TI TO i1 i2 l1 l2:Addr}{f0:Value}{f1:Bool}
end
section
variable{X:Cx}
end
end L2
namespace L2
open PySem PySem.Spec PyProof.Rows
section
variable{X:Cx}
theorem bt_all:bootBuiltins "all" = some (.builtin "all"):=by decide +kernel
end
end L2
namespace L2
open PySem PySem.Spec PyProof.Rows
section
variable{prog:Program}{w:World}{A:Around}{E:Value->Shared->Prop}{s:Shared}{d:Addr}
end
section
variable{X:Cx}{pins:List (Addr×Obj)}{σ:St}{H:Hp}{s:Shared}{d:Addr}{u:HO}{o:Obj}
end
section
variable{X:Cx}
end
end L2
namespace L2
open PySem PySem.Spec PyProof.Rows
section
open PySem.W
end
section
open PySem.W
variable{prog:Program}{w:World}{A:Around}{E:Value->Shared->Prop}{s:Shared}
end
section
variable{X:Cx}
end
section
variable{X:Cx}
def rAllB(K:P1):List V->Hp->VK->Prop:=fun xs H Q=>∃(p:Addr)(bs:List Bool),xs = [.ref p]/\SqL K H p (bs.map V.bl)/\Q (.bl (bs.all id)) H
theorem Ls(hc:X.calm=true):jy X (.builtin "all") (rAllB X.K):=by
 intro pins s σ H xs us Q I r h
 obtain⟨p,bs,rfl,hq,q⟩:=h
 obtain⟨u,rfl,ru⟩:=qO r
 cases ru
 obtain⟨its,rv,pl,hz⟩:=I.list hq
 have hln:=rv.length
 rw[P5]at hln
 have hlt:p<s.heap.objs.size:=by obtain⟨_,_,q,_⟩:=pl;exact Heap.lt_size q
 refine call_all_walk (wpAny_pyIter_list pl.isList ?_)
 refine⟨s.heap.objs.size,[s.heap.objs.size,p],[s.heap.objs.size],its.toArray.size,_,_,fun i=>bs.getD i true,rfl,Walks.list (A:=X.A.in1) (I.ok.hd hc) _ p (QC hlt) its.toArray,⟨⟨_,Heap.get?_push_size _ rfl,rfl,rfl⟩,pl.isList.push _⟩,fun i v s' Q' E' hP hQ=>?_,fun h' tk hk=>?_⟩
 ·have hv:its[i]?=some v:=by simpa using hP
  have hi:i<bs.length:=by have:=(P0.mp hv).1;omega
  obtain⟨w,hw,rw'⟩:=rv.get (i:=i) (x:=.bl bs[i]) (by rw[Qd,PZ hi];rfl)
  rw[hv]at hw
  cases hw
  cases rw'
  replace hQ:Q' (bs.getD i true) s':=hQ
  rw[show bs.getD i true=bs[i] by rw[Qi,PZ hi];rfl]at hQ
  exact wpAny_truthy_bool hQ
 ·have ea:((QW its.toArray.size).all fun i=>bs.getD i true)=bs.all id:=by
   rw[Qq,← hln,Rp,QX,QX]
   constructor
   ·intro h b hb
    obtain⟨i,hi,rfl⟩:=Sd hb
    have:=h i (RI.mpr hi)
    rw[Qi,PZ hi]at this
    exact this
   ·intro h i hi
    have hi':=RI.mp hi
    rw[Qi,PZ hi']
    exact h _ (QO hi')
  rw[ea]
  refine⟨.bl _,H,I.kept (t':=tk) (fun b o e=>hk b o (fun hm=>?_) (Heap.get?_push_of_some _ e)),rfl,q⟩
  rw[QP.mp hm]at e
  exact Q3 _ (Heap.lt_size e)
end
end L2
namespace L2
open PySem PySem.Spec PyProof.Rows
section
variable{prog:Program}{w:World}{K:Type} [DecidableEq K] {knd:KeyKind prog w K} {A:Around} {E:Value->Shared->Prop} {s:Shared}
end
section
variable{X:Cx}{o e f:Expr}{apos cpos:Pos}{td ty tx:TE}
end
section
variable{X:Cx}
end
section
variable{prog:Program}{w:World}{A:Around}{E:Value->Shared->Prop}{s:Shared}{T:String}{r d:Addr}{n:Nat}{P:Nat->Value->Prop}{OK:Heap->Prop}
end
section
variable{X:Cx}
end
section
variable{prog:Program}{w:World}{A:Around}{E:Value->Shared->Prop}{s:Shared}
end
section
variable{X:Cx}
end
end L2
namespace L2
open PySem PySem.Spec PyProof.Rows
section
variable{prog:Program}{w:World}{A:Around}{E:Value->Shared->Prop}{s:Shared}
end
section
variable{X:Cx}{pins:List (Addr×Obj)}{σ:St}{H:Hp}{s:Shared}{h':Heap}{T:Addr}{ps more:Array Value}{t':Nat}
end
end L2
namespace L2
open PySem PySem.Spec PyProof.Rows
section
variable{X:Cx}
theorem Lq:jy X (.type "str") (fun xs H Q=>(∃ i:Int,xs = [.int i]/\i.natAbs.log2<1920/\Q (.str (toString i)) H)∨∃ z:Str,xs = [.str z]/\Q (.str z) H):=by
 intro pins s σ H xs us Q I r h
 rcases h with⟨i,rfl,hl,q⟩ | ⟨z,rfl,q⟩
 ·obtain⟨u,rfl,ru⟩:=qO r
  obtain⟨t,rfl⟩:=ru
  exact P.str_of_int hl ⟨.str _,H,I.tok _,⟨_,rfl⟩,q⟩
 ·obtain⟨u,rfl,ru⟩:=qO r
  obtain⟨t,rfl⟩:=ru
  exact P.str_of_str ⟨.str _,H,I,⟨_,rfl⟩,q⟩
theorem IY:∀{ws:List Str}{us:List Value},Vals (ws.map V.str) us->∃ l:List (Str×Tok),us=strValues l/\l.map (·.1)=ws
 |[],_,.nil=>⟨[],rfl,rfl⟩
 |w::ws,_,.cons r rr=>by
  obtain⟨t,rfl⟩:=(show ∃ t,_=Value.str w t from r)
  obtain⟨l,rfl,e⟩:=IY rr
  exact⟨(w,t)::l,rfl,by rw[QA,e]⟩
def rJoin(K:P1):V->List V->Hp->VK->Prop:=fun x xs H Q=>∃(sep:Str)(a:Addr)(ws:List Str),x=.str sep/\xs = [.ref a]/\SqL K H a (ws.map V.str)/\(ws.map (·.length)).sum+ws.length*sep.length<=1000000/\Q (.str (Str.join sep ws)) H
theorem o5:MtM X "str.join" (rJoin X.K):=by
 intro pins s σ H x vs v us Q I rx rv h
 obtain⟨sep,a,ws,rfl,rfl,hq,hl,q⟩:=h
 obtain⟨t,rfl⟩:=rx
 obtain⟨u,rfl,ru⟩:=rv.one
 cases ru
 obtain⟨its,r,pl,hz⟩:=I.list hq
 obtain⟨l,rfl,e⟩:=IY r
 have tl:Builtin.Str.tooLong ((l.map (·.1)).toArray.foldl (·+·.length+sep.length) 0)=false:=by
  rw[e,StrLaws.joinTotal]
  unfold Builtin.Str.tooLong
  have:(1000000:Nat)<=sizeLine:=by decide
  exact decide_eq_false (by omega)
 refine call_meets Rk (typeIs_str _ _ _) PySem.F.entry_str_join (PySem.F.args_str_join_2 _ _) (meets_str_join_list sep t a l tl) ⟨pl.isList,?_⟩
 have fin:(Made.str (Builtin.Str.glued sep (l.map (·.1)))).post (fun v s'=>EP X pins σ Q v s') s:=⟨joinFit_length tl,.str (Builtin.Str.glued sep (l.map (·.1))),H,I.tok _,⟨_,rfl⟩,by rw[StrLaws.glued_eq_join,e];exact q⟩
 match l,fin,e with
 |[],fin,_=>exact fin
 |[p],_,e=>exact⟨.str p.1,H,I,⟨_,rfl⟩,by subst e;exact q⟩
 |_::_::_,fin,_=>exact fin
def rSplit:V->List V->Hp->VK->Prop:=fun x xs H Q=>∃(z y:Str),x=.str z/\xs = [.str y]/\y.length=1/\z.length<=1000000/\∀ l:Addr,H l=none->Q (.ref l) (upd H l (.lst ((Txt.split z y).map V.str)))
theorem nj:∀(ws:List Str)(n:Nat),Vals (ws.map V.str) (strsFrom n ws)
 |[],_=>.nil
 |w::ws,n=>.cons ⟨_,rfl⟩ (nj ws (n+1))
theorem rE:MtM X "str.split" rSplit:=by
 intro pins s σ H x vs v us Q I rx rv h
 obtain⟨z,y,rfl,rfl,y1,zl,q⟩:=h
 obtain⟨t,rfl⟩:=rx
 obtain⟨u,rfl,ru⟩:=rv.one
 obtain⟨t',rfl⟩:=ru
 have hn:=split_le z y
 have zs:z.length<=sizeLine:=QG zl (by decide)
 have ps:∀ ws:List Str,ws.length<=z.length+2->(ws.map V.str).length<=sizeLine:=fun ws h=>by rw[P5];exact QG h (QG (Nat.add_le_add_right zl 2) (by decide))
 by_cases c1:(decide (z.length<y.length)||decide (Builtin.Str.strKind z<Builtin.Str.strKind y))=true
 ·have e:Txt.split z y = [z]:=by unfold Txt.split;rw[if_pos c1]
  rw[e]at q
  refine call_meets Rh (typeIs_str _ _ _) Sw (Sq _ _) (meets_str_split_cannot_occur z y t t' c1) ?_
  exact⟨.ref _,_,I.laid (t':=s.toks) (fun b o e=>Heap.get?_push_of_some _ e) (P9 _) (show b5 X.prog X.w _ _ _ (.lst [V.str z]) from⟨by show 1<=sizeLine;decide,[Value.str z t],0,.cons ⟨t,rfl⟩ .nil,Heap.get?_push_size _ rfl⟩),rfl,q _ (I.hok.fresh (P9 _))⟩
 ·have c1':(decide (z.length<y.length)||decide (Builtin.Str.strKind z<Builtin.Str.strKind y))=false:=by simpa using c1
  have y0:(y.length == 0)=false:=by rw[y1];rfl
  by_cases c2:(Builtin.Str.occurrences z y 0 z.length (z.length+1)).isEmpty=true
  ·have e:Txt.split z y = [z]:=by unfold Txt.split;rw[if_neg c1,if_pos c2]
   rw[e]at q
   refine call_meets Rh (typeIs_str _ _ _) Sw (Sq _ _) (meets_str_split_not_found z y t t' c1' y0 c2) ?_
   exact⟨.ref _,_,I.laid (t':=s.toks) (fun b o e=>Heap.get?_push_of_some _ e) (P9 _) (show b5 X.prog X.w _ _ _ (.lst [V.str z]) from⟨by show 1<=sizeLine;decide,[Value.str z t],0,.cons ⟨t,rfl⟩ .nil,Heap.get?_push_size _ rfl⟩),rfl,q _ (I.hok.fresh (P9 _))⟩
  ·have c2':(Builtin.Str.occurrences z y 0 z.length (z.length+1)).isEmpty=false:=by simpa using c2
   have e:Txt.split z y=Builtin.Str.partsBetween z (Builtin.Str.occurrences z y 0 z.length (z.length+1)) y.length:=by unfold Txt.split;rw[if_neg c1,if_neg c2]
   rw[e]at q hn
   refine call_meets Rh (typeIs_str _ _ _) Sw (Sq _ _) (meets_str_split_sep z y t t' c1' y0 c2' zs (QG hn (QG (Nat.add_le_add_right zl 2) (by decide)))) ?_
   exact⟨.ref _,_,I.laid (fun b o e=>Heap.get?_push_of_some _ e) (P9 _) (show b5 X.prog X.w _ _ _ (.lst ((Builtin.Str.partsBetween z (Builtin.Str.occurrences z y 0 z.length (z.length+1)) y.length).map V.str)) from⟨ps _ hn,_,0,nj _ _,Heap.get?_push_size _ rfl⟩),rfl,q _ (I.hok.fresh (P9 _))⟩
theorem BO:jy X (.type "int") (fun xs H Q=>∃(z:Str)(n:Int),xs = [.str z]/\PySem.intText? z=some n/\z.length<=640/\Q (.int n) H):=by
 intro pins s σ H xs us Q I r h
 obtain⟨z,n,rfl,hn,hl,q⟩:=h
 obtain⟨u,rfl,ru⟩:=qO r
 obtain⟨t,rfl⟩:=ru
 exact PySem.W.KIN.call_text hn hl ⟨.int n,H,I.tok _,⟨_,rfl⟩,q⟩
def Its(x:Str):It:=⟨fun i _=>i<x.cps.size,fun i H v H'=>H'=H/\∃ c,x.cps[i]?=some c/\v=.str ⟨#[c]⟩,fun i _=>x.cps.size<=i⟩
theorem L9{P:Program}{w:World}{K:P1}{tg:Expr}(it:Addr)(x:Str)(t:Tok):Turn P w K tg (Its x) [it] it (fun i h=>h.IsStrIter it "str_ascii_iterator" x t i) where
 mem:=by simp
 obj:=fun i h st b hb=>by
  have e:b=it:=by simpa using hb
  subst e
  obtain⟨o,e,c,d⟩:=st
  exact⟨o,e,fun v z=>by rw[d]at z;cases z⟩
 keep:=fun i h h' st k=>let ⟨o,e,r⟩:=st;⟨o,k it (by simp) o e,r⟩
 item:=by
  intro X hP hw hK hc i pins s σ H E I hf st hg
  subst hP hw hK
  obtain⟨f0,f1,f2,f3,f4,f5⟩:=hf it (by simp)
  have hi:i<x.cps.size:=hg
  refine wpAny_pyNext_ascii_item st (c:=x.cps[i]) (by simp[hi]) fun h' st' sb=>?_
  have I1:Inv X pins σ H { s with heap:=h',toks:=s.toks+1 }:=I.turned (fun b o hb e=>(sb.2 b hb).trans e) f0 f1 f3 f4 f5
  obtain⟨o,e,c,d⟩:=id st'
  exact⟨_,rfl,MZ (s:={ s with heap:=h',toks:=s.toks+1 }) e c d (by decide) ⟨.str ⟨#[x.cps[i]]⟩,H,I1,⟨_,rfl⟩,⟨rfl,_,by simp[hi],rfl⟩,st',fun b hb=>(hf b hb).1⟩⟩
 done:=by
  intro X hP hw hK hc i pins s σ H E I hf st hg
  subst hP hw hK
  obtain⟨f0,f1,f2,f3,f4,f5⟩:=hf it (by simp)
  exact wpAny_pyNext_ascii_end (I.ok.hd hc) st (by have:x.cps.size<=i:=hg;simp;omega) fun h' eb=>⟨rfl,I.turned (t':=s.toks) (fun b o hb e=>eb b o hb e) f0 f1 f3 f4 f5⟩
 self:=fun _ _ _ _ _ st h=>wpAny_pyIter_striter_ascii st h
def iStr(tl:TE):TI:=fun σ H R=>tl σ H fun v H1=>∃ x:Str,v=.str x/\x.cps.all (· < 128)=true/\R (Its x) H1
theorem Nu{tg l:Expr}{tl:TE}(hl:PE X l tl):PI X tg l (iStr tl):=by
 intro pins s σ H R I h
 refine thn (hl pins s σ H _ I h) fun v s1 ⟨x,H1,I1,r1,q1⟩=>?_
 obtain⟨z,rfl,ha,q⟩:=q1
 obtain⟨t,rfl⟩:=r1
 refine wpAny_pyIter_ascii ha ?_
 refine⟨s1.heap.objs.size,[s1.heap.objs.size],_,_,H1,rfl,I1.kept (t':=s1.toks) fun b o e=>Heap.get?_push_of_some _ e,L9 _ z t,⟨_,Heap.get?_push_size _ rfl,rfl,rfl⟩,fun b hb=>?_,q⟩
 have e:b=s1.heap.objs.size:=by simpa using hb
 subst e
 exact I1.fpOk (P9 _) (I1.hok.fresh (P9 _))
theorem Nc{x:Str}{te:TE}{fv:St}{H1:Hp}{QQ:List V->Hp->Prop}(Pv:Nat->List V->Hp->Prop)(hz:x.cps.size<=sizeLine)(h0:Pv 0 [] H1)
  (hs:∀ i c ys H,x.cps[i]?=some c->Pv i ys H->te (some (.str ⟨#[c]⟩)::fv) H fun y H2=>Pv (i+1) (ys++[y]) H2) (hd:∀ ys H,ys.length=x.cps.size->Pv x.cps.size ys H->QQ ys H)
  : rS te fv (Its x) H1 QQ:=by
 refine⟨fun i m ys H=>m=x.cps.size-i/\i<=x.cps.size/\ys.length=i/\Pv i ys H,⟨x.cps.size,by simp,Q6 _,rfl,h0⟩,?_⟩
 rintro i m ys H ⟨rfl,hi,hy,p⟩
 refine⟨by omega,?_⟩
 by_cases hlt:i<x.cps.size
 ·refine .inr ⟨hlt,fun y H2=>Pv (i+1) (ys++[y]) H2,fun y H2 p2=>⟨x.cps.size-(i+1),by omega,rfl,hlt,by rw[P2,hy];rfl,p2⟩,fun v H' y=>?_⟩
  obtain⟨rfl,c,hc,rfl⟩:=y
  exact hs i c ys _ hc p
 ·have e:i=x.cps.size:=by omega
  subst e
  exact .inl ⟨P9 _,hd ys H hy p⟩
end
end L2
namespace L2
open PySem PySem.Spec PyProof.Rows
section
variable{prog:Program}{w:World}{A:Around}{E:Value->Shared->Prop}{s:Shared}
end
section
variable{X:Cx}
end
end L2
namespace L2
open PySem PySem.Spec PyProof.Rows
section
variable{X:Cx}
theorem FN{v:Value}{o:Option Int}(h:IsPart v o):∃ l:Option (Int×Tok),v=partValue l/\l.map (·.1)=o:=by
 cases h with
 |none=>exact⟨none,rfl,rfl⟩
 |int i t=>exact⟨some (i,t),rfl,rfl⟩
def rSlS:V->Option Int->Option Int->Hp->VK->Prop:=fun x lo hi H Q=>∃ z:Str,x=.str z/\z.length<=sizeLine/\Q (.str (Txt.slice z lo hi)) H
theorem sl_str:SlR X rSlS:=by
 intro pins s σ H x v vl vu lo hi sl Q I rx hs pl pu h
 obtain⟨z,rfl,hz,q⟩:=h
 obtain⟨t,rfl⟩:=rx
 obtain⟨l,rfl,rfl⟩:=FN pl
 obtain⟨u,rfl,rfl⟩:=FN pu
 refine⟨"str",_,PySem.F.slot_str_getitem.lookup,typeIs_str _ _ _,wpAny_getItem_str_slice (l:=l) (u:=u) (st:=none) hs rfl ?_⟩
 exact post_val_or_str ⟨QG (Txt.slice_le z _ _) hz,fun t' k=>⟨.str _,H,I.tok _,⟨_,rfl⟩,q⟩⟩
theorem FF(a:Array Nat):∀(n:Nat)(b:Array Nat),((Q0 n a).foldl (·++·) b).size=b.size+n*a.size
 |0,b=>by simp
 |n+1,b=>by
  rw[List.replicate_succ,List.foldl_cons,FF a n,Array.size_append,Nat.succ_mul]
  omega
theorem wC:OpR X (binaryOp .Mult) (fun x y H Q=>∃(z:Str)(n:Nat),x=.str z/\y=.int (n:Int)/\1<n/\z.length≠0/\z.length*n<=1000000/\Q (.str ⟨(Q0 n z.cps).foldl (·++·) #[]⟩) H):=by
 intro pins s σ H x y v u Q I rx ry h
 obtain⟨z,n,rfl,rfl,n1,z0,hz,q⟩:=h
 obtain⟨t,rfl⟩:=rx
 obtain⟨t',rfl⟩:=ry
 have nl:n<=1000000:=QG (Nat.le_mul_of_pos_left n (Nat.pos_of_ne_zero z0)) hz
 have zl:z.length<=1000000:=QG (Nat.le_mul_of_pos_right _ (by omega)) hz
 have c1:((n:Int) == 1||z.length == 0)=false:=by
  rw[Bool.or_eq_false_iff]
  exact⟨by simp;omega,by simpa using z0⟩
 refine P.mul_str (by simp;omega) (fun _ _=>?_) (fun _ _=>?_) ?_
 ·have:(1000000:Int)<=(2^63-1)/(n:Int):=Int.le_ediv_of_mul_le (by omega) (by omega)
  omega
 ·unfold Builtin.Str.tooLong
  have:(1000000:Nat)<=sizeLine:=by decide
  rw[Qy]
  exact decide_eq_false (by omega)
 ·rw[if_neg (by omega),c1,if_neg (by decide),Qy]
  refine⟨?_,.str _,H,I.tok _,⟨_,rfl⟩,q⟩
  show((Q0 n z.cps).foldl (·++·) #[]).size<=_
  rw[FF]
  have:(1000000:Nat)<=sizeLine:=by decide
  have e:n*z.cps.size=z.length*n:=Nat.mul_comm _ _
  show 0+n*z.cps.size<=_
  omega
end
theorem Pp{x:Str}{g:TG}{tb:TS}{D:Ends}{σ:St}{H:Hp}(Pv:Nat->St->Hp->Prop)(h0:Pv 0 σ H)
  (hs:∀ i c σ H,x.cps[i]?=some c->Pv i σ H->g (.str ⟨#[c]⟩) σ H fun σ2 H2=>tb { D with nx:=Pv (i+1),ct:=Pv (i+1),bk:=D.nx } σ2 H2) (hd:∀ σ H,Pv x.cps.size σ H->D.nx σ H) :
  ∃ W:Nat->Nat->St->Hp->Prop,(∃ m,W 0 m σ H)/\∀ i m σ H,W i m σ H ->
   ((Its x).stop i H/\D.nx σ H)∨((Its x).go i H/\∃ N:St->Hp->Prop,(∀ σ' H',N σ' H'->∃ m',m'<m/\W (i+1) m' σ' H')/\∀ v H',(Its x).yld i H v H'->g v σ H' fun σ2 H2=>tb { D with nx:=N,ct:=N,bk:=D.nx } σ2 H2):=by
 refine⟨fun i m σ H=>m=x.cps.size-i/\i<=x.cps.size/\Pv i σ H,⟨x.cps.size,by simp,Q6 _,h0⟩,?_⟩
 rintro i m σ H ⟨rfl,hi,p⟩
 by_cases hlt:i<x.cps.size
 ·refine .inr ⟨hlt,Pv (i+1),fun σ' H' p'=>⟨x.cps.size-(i+1),by omega,rfl,hlt,p'⟩,fun v H' y=>?_⟩
  obtain⟨rfl,c,hc,rfl⟩:=y
  exact hs i c σ _ hc p
 ·have e:i=x.cps.size:=by omega
  subst e
  exact .inl ⟨P9 _,hd σ H p⟩
end L2
namespace L2
open PySem PySem.Spec PyProof.Rows
section
variable{X:Cx}
def rPart:V->List V->Hp->VK->Prop:=fun x xs H Q=>∃(z y:Str),x=.str z/\xs = [.str y]/\y.length=1/\z.length<=1000000/\∀ l:Addr,H l=none->Q (.ref l) (upd H l (.tup [.str (Txt.partition z y).1,.str (Txt.partition z y).2.1,.str (Txt.partition z y).2.2]))
theorem AG:MtM X "str.partition" rPart:=by
 intro pins s σ H x vs v us Q I rx rv h
 obtain⟨z,y,rfl,rfl,y1,zl,q⟩:=h
 obtain⟨t,rfl⟩:=rx
 obtain⟨u,rfl,ru⟩:=rv.one
 obtain⟨t',rfl⟩:=ru
 have y0:(y.length == 0)=false:=by rw[y1];rfl
 have zs:z.length<=sizeLine:=QG zl (by decide)
 refine call_meets Te (typeIs_str _ _ _) PySem.F.entry_str_partition (PySem.F.args_str_partition_2 _ _) (meets_str_partition z y t t' y0 zs) ?_
 unfold Txt.partition at q
 revert q
 cases Builtin.Str.occurrences z y 0 z.length 1 with
 |nil =>
  intro q
  have o:b5 X.prog X.w (upd H s.heap.objs.size (.tup [V.str z,V.str Str.empty,V.str Str.empty])) (s.heap.push { cls:=.type "tuple",data:=.seq [Value.str z t,Value.str Str.empty s.toks,Value.str Str.empty s.toks].toArray }) s.heap.objs.size (.tup [V.str z,V.str Str.empty,V.str Str.empty]):=⟨by show 3<=sizeLine;decide,_,.cons ⟨_,rfl⟩ (.cons ⟨_,rfl⟩ (.cons ⟨_,rfl⟩ .nil)),_,Heap.get?_push_size _ rfl,rfl,0,rfl⟩
  exact⟨.ref _,_,I.laid (fun b o e=>Heap.get?_push_of_some _ e) (P9 _) o,rfl,q _ (I.hok.fresh (P9 _))⟩
 |cons i r =>
  intro q
  have o:b5 X.prog X.w (upd H s.heap.objs.size (.tup [V.str (Builtin.Str.strSub z 0 i),V.str y,V.str (Builtin.Str.strSub z (i+y.length) z.length)])) (s.heap.push { cls:=.type "tuple",data:=.seq [Value.str (Builtin.Str.strSub z 0 i) s.toks,Value.str y t',Value.str (Builtin.Str.strSub z (i+y.length) z.length) (s.toks+1)].toArray }) s.heap.objs.size (.tup [V.str (Builtin.Str.strSub z 0 i),V.str y,V.str (Builtin.Str.strSub z (i+y.length) z.length)]):=⟨by show 3<=sizeLine;decide,_,.cons ⟨_,rfl⟩ (.cons ⟨_,rfl⟩ (.cons ⟨_,rfl⟩ .nil)),_,Heap.get?_push_size _ rfl,rfl,0,rfl⟩
  exact⟨.ref _,_,I.laid (fun b o e=>Heap.get?_push_of_some _ e) (P9 _) o,rfl,q _ (I.hok.fresh (P9 _))⟩
end
theorem LM{x:Str}{c i:Nat}:StrLaws.At x ⟨#[c]⟩ x.length i↔x.cps.toList[i]?=some c:=by
 have e:(x.cps.extract i (i+1)).toList=x.cps.toList[i]?.toList:=by
  rw[Array.toList_extract]
  show(x.cps.toList.drop i).take (i+1-i)=_
  rw[Sx,List.take_one,List.head?_drop]
 have k:StrLaws.At x ⟨#[c]⟩ x.length i↔i+1<=x.cps.size/\(x.cps.extract i (i+1) == #[c])=true:=Iff.rfl
 rw[k,beq_iff_eq,← S7,e]
 cases h:x.cps.toList[i]? with
 |none=>simp
 |some d =>
  have:=(P0.mp h).1
  rw[Rq]at this
  simp
  omega
theorem FP{c:Nat}{a r:List Nat}{x:Str}(hc:c∉a)(hx:x.cps.toList=a++c::r):(Txt.partition x ⟨#[c]⟩).1=⟨a.toArray⟩:=by
 have ha:StrLaws.At x ⟨#[c]⟩ x.length a.length:=LM.mpr (by rw[hx,P4 (P9 _),Qu];rfl)
 unfold Txt.partition
 rcases StrLaws.occ_head x ⟨#[c]⟩ 1 (P9 _) with⟨_,n⟩ | ⟨i,r',e,h1,h2⟩
 ·exact absurd ha (n _)
 ·rw[e]
  have ei:i=a.length:=by
   rcases Nat.lt_trichotomy i a.length with z | z | z
   ·have q:=LM.mp h1
    rw[hx,P6 z]at q
    exact absurd (P7 q) hc
   ·exact z
   ·exact absurd ha (h2 _ z)
  subst ei
  show Builtin.Str.strSub x 0 a.length=_
  refine Str.ext' (S7.mp ?_)
  show(x.cps.extract 0 a.length).toList=a.toArray.toList
  rw[Array.toList_extract]
  show(x.cps.toList.drop 0).take (a.length-0)=_
  rw[hx]
  simp
theorem FO{c:Nat}{x:Str}(hc:c∉x.cps.toList):(Txt.partition x ⟨#[c]⟩).1=x:=by
 unfold Txt.partition
 rcases StrLaws.occ_head x ⟨#[c]⟩ 1 (P9 _) with⟨e,_⟩ | ⟨i,r',e,h1,_⟩
 ·rw[e]
 ·exact absurd (P7 (LM.mp h1)) hc
end L2
namespace L2
open PySem PySem.Spec PyProof.Rows PySem.Calls Builtin Builtin.ObjectAttr Builtin.Getset_descriptor
def lI(x D:Addr)(h:Heap):Prop:=∃ o,h.get? x=some o/\o.cls=.ref D
theorem lI.type{x D:Addr}{h:Heap}(M:Model)(I:lI x D h):Sa M h (typeOf (.ref x)) (.ref D):=by
 obtain⟨o,a,b⟩:=I
 exact b▸(PySem.W.Looks.ld a).andThen .now
structure ErC(K:P1)(D:Addr):Prop where
 ga:Qm K (.ref D) "__getattribute__" = some (some (.builtin "BaseException.__getattribute__"))
 gt:Qm K (.ref D) "__getattr__" = some none
 hb:QR K D (.type "BaseException")=some true
 hd:Q5 K D=true
 ha:Qm K (.ref D) "__class__" = some (some (.builtin "object.__class__"))
 hn:PySem.W.specialIn K (.builtin "object.__class__") "__get__" = some (some (.builtin "getset_descriptor.__get__"))
 tk:PySem.W.takesIn K (.builtin "object.__class__")=some true
 hm:QR K D (.type "object")=some true
section
variable{prog:Program}{w:World}{A:Around}{E:Value->Shared->Prop}{s:Shared}{K:P1}{x D:Addr}
theorem Pa{M:Model}{h:Heap}(X:K.In h)(e:ErC K D):Sa M h (find (.ref x) (.ref D) "__class__") (.bind (.builtin "getset_descriptor.__get__") (.builtin "object.__class__")):=by
 have L1:=Rc (M:=M) X e.ha
 have L2:=PySem.W.looks_specialIn (M:=M) X e.hn
 have L3:=PySem.W.looks_takesIn (M:=M) X e.tk
 refine L1.andThen (L2.andThen ?_)
 exact(show Sa M h (dataDescriptor? (some (.builtin "object.__class__")) (some (.builtin "getset_descriptor.__get__"))) (some (.builtin "getset_descriptor.__get__",.builtin "object.__class__")) from L3.andThen .now).andThen (PySem.W.Looks.tag .now)
theorem kd_get{R:Except Value Flow->Shared->Prop}{tp:Value}(X:K.In s.heap)(I:lI x D s.heap)(e:ErC K D)
  (h:R (.ok (.ret (.ref D))) s):codeAny (model prog w) A (.call (.builtin "getset_descriptor.__get__") ⟨[.builtin "object.__class__",.ref x,tp],[]⟩) R s:=by
 obtain⟨hh,g,dr,t,os⟩:=s
 have L0:=I.type (model prog w)
 have L1:=RD (M:=model prog w) X e.hm
 refine codeAny_call_builtin PySem.W.KF.slot_gs.plain PySem.W.KF.entry_gs (PySem.W.KF.slot_gs.check _ _ _ _ _ _ _ _ PySem.W.KF.type_class (PySem.W.KF.args_gs _ _ _) ?_)
 unfold Builtin.«getset_descriptor.__get__» descrGet
 rw[PySem.W.dga_obj]
 refine wpAny_bind (wpAny_pure ?_)
 unfold descrGetter descrCheckInstance descrNameAndClass isInstance
 simp only[PySem.W.KF.owner_class]
 repeat lk
 refine⟨Code.quiet_builtin _ (by decide +kernel),codeAny_builtin PySem.W.KF.entry_class ?_⟩
 unfold Builtin.«object.__class__» shownTypeOf
 repeat lk
 exact h
theorem F0{M:Model}{nameV:Value}{Q:Unit->Shared->Prop}(X:K.In s.heap)(I:lI x D s.heap)(e:ErC K D)(hq:Q () s):wpAny M A (checkBuiltinCall "BaseException.__getattribute__" ⟨[.ref x,nameV],[]⟩) Q E s:=by
 obtain⟨hh,g,d,t,os⟩:=s
 have hk:builtinKind "BaseException.__getattribute__" = some .slot:=by decide +kernel
 have hsplit:splitId "BaseException.__getattribute__" = some ("BaseException","__getattribute__"):=by decide +kernel
 have ha:=F.args_bexc_ga (.ref x) nameV
 have L0:=I.type M
 have L1:=RD (M:=M) X e.hb
 have LI:Sa M hh (isInstance (.ref x) (.type "BaseException")) true:=L0.andThen L1
 simp only[checkBuiltinCall,hk,hsplit]
 refine wpAny_bind (LI.at ?_)
 repeat (first | assumption | wp_step)
theorem MQ{tk:Tok}{Q:Fin->Shared->Prop}(X:K.In s.heap)(I:lI x D s.heap)(e:ErC K D)(h:Q (.done (.ret (.ref D))) s):wpAny (model prog w) A (Builtin.«object.__getattribute__» ⟨[.ref x,.str "__class__" tk],[]⟩) Q E s:=by
 obtain⟨hh,g,d,t,os⟩:=s
 have L0:=I.type (model prog w)
 have L2:=Pa (x:=x) (M:=model prog w) X e
 unfold Builtin.«object.__getattribute__»
 repeat (first | assumption | with_reducible refine L0.at ?_ | with_reducible refine L2.at ?_ | with_reducible refine wpAny_call (kd_get (K:=K) X I e ?_) | wp_step)
theorem MR{Q:Option Value->Shared->Prop}(X:K.In s.heap)(I:lI x D s.heap)(e:ErC K D)(h:Q (some (.ref D)) { s with toks:=s.toks+1 }):wpAny (model prog w) A (getAttr? (.ref x) "__class__") Q E s:=by
 obtain⟨hh,g,d,t,os⟩:=s
 have L0:=I.type (model prog w)
 have L1:=Rc (M:=model prog w) X e.ga
 have L3:=Rc (M:=model prog w) X e.gt
 have f3:=F.excAttr_ValueError.ga.bind (.ref x)
 unfold getAttr? getAttrBy? getAttrBy
 refine wpAny_bind (wpAny_mkText (wpAny_bind (wpAny_attempt (wpAny_holding (wpAny_bind (L0.at (wpAny_bind (L1.at ?_))))))))
 show wpAny _ _ (getAttrByItsOwn _ _ _ _ _ _) _ _ _
 unfold getAttrByItsOwn
 refine wpAny_bind (show wpAny _ _ (typeLookup _ _) _ _ _ from L3.at ?_)
 refine wpAny_bind (wpAny_attempt (wpAny_holding ?_))
 show wpAny _ _ (boundAndCalled _ _ _) _ _ _
 unfold boundAndCalled
 rw[f3]
 refine wpAny_bind (wpAny_pure ?_)
 refine wpAny_call (codeAny_call_builtin F.excAttr_ValueError.ga.plain F.entry_bexc_ga (F0 (s:=⟨hh,g,d,t+1,os⟩) X I e (MQ (s:=⟨hh,g,d,t+1,os⟩) X I e ?_)))
 exact wpAny_mono (PySem.W.handed_on rfl (Q:=fun v s'=>v=.ref D/\s'=⟨hh,g,d,t+1,os⟩) ⟨rfl,rfl⟩) (fun v s'' hv=>by obtain⟨rfl,rfl⟩:=hv;exact wpAny_pure h) (fun _ _ z=>z)
theorem FY(e:ErC K D):PySem.W.KitX K (.ref x) (.ref D) (lI x D) where
 ty:=fun M _ _ I=>I.type M
 it:=fun _ _ X _=>by
  obtain⟨cdD,hcD,_⟩:=SA e.hd
  unfold To at hcD
  split at hcD
  ·rename_i c' d' cd' sl' ho
   intro A' Q' E' s' k q
   unfold isType loadHead
   exact wpAny_bind (wpAny_loadPart (k _ _ (X _ _ ho)) (wpAny_pure q))
  ·cases hcD
 ne:=fun h tp dd its n sl X htp=>by
  obtain⟨cdD,hcD,_⟩:=SA e.hd
  refine Bool.eq_false_iff.mpr fun q=>?_
  have e:D=tp:=Value.ref.inj (beq_iff_eq.mp q)
  subst e
  unfold To at hcD
  split at hcD
  ·rename_i c' d' cd' sl' ho
   have z:=(X _ _ ho).symm.trans htp
   cases z
  ·cases hcD
 ca:=fun X I k=>MR X I e k
end
end L2
namespace L2
open PySem PySem.Spec PyProof.Rows
structure DK(h h':Heap):Prop where
 le:h.objs.size<=h'.objs.size
 d:∀(e:Addr)(o':Obj),e<h.objs.size->h'.get? e=some o'->∃ o,h.get? e=some o/\o'.dict=o.dict
theorem DK.rfl'(h:Heap):DK h h:=⟨P9 _,fun _ o' _ q=>⟨o',q,rfl⟩⟩
theorem DK.trans{a b c:Heap}(x:DK a b)(y:DK b c):DK a c:=⟨QG x.le y.le,fun e o' he q=>by
 obtain⟨o1,q1,d1⟩:=y.d e o' (QB he x.le) q
 obtain⟨o,q0,d0⟩:=x.d e o1 he q1
 exact⟨o,q0,d1.trans d0⟩⟩
theorem DK.upd{h:Heap}{a:Addr}{f:Obj->Obj}(ha:(h.get? a).isSome)(hf:∀ o,(f o).dict=o.dict):DK h (h.update a f):=by
 refine⟨Nat.le_of_eq (Heap.size_update ..).symm,fun e o' he q=>?_⟩
 by_cases z:a=e
 ·subst z
  obtain⟨o,q0⟩:=RP.mp ha
  obtain⟨q1,_⟩:=Heap.get?_some_iff.mp q
  obtain⟨q2,_⟩:=Heap.get?_some_iff.mp q0
  refine⟨o,q0,?_⟩
  cases h
  simp only[Heap.update,Array.getElem?_modify,if_true]at q1
  simp only at q2
  rw[q2]at q1
  cases q1
  exact hf o
 ·rw[Heap.get?_update_other _ _ z]at q
  exact⟨o',q,rfl⟩
theorem DK.psh(h:Heap)(o:Obj):DK h (h.push o):=by
 refine⟨by rw[Heap.size_push];exact RF _,fun e o' he q=>?_⟩
 rw[Heap.get?_push_ne _ _ _ (QC he)]at q
 exact⟨o',q,rfl⟩
def aY{α:Type}:Sem α->Prop
 |.pure _=>True
 |.raise _=>True
 |.unsupported _=>True
 |.finish _=>True
 |.rule _ k=>aY (k ())
 |.at _ k=>aY (k ())
 |.load _ _ k=>∀ o,aY (k o)
 |.update _ _ f k=>(∀ o,(f o).dict=o.dict)/\aY (k ())
 |.alloc _ k=>∀ a,aY (k a)
 |.loadIfAlive _ k=>∀ o,aY (k o)
 |.point _ k=>aY (k ())
 |.register _ _=>True
 |.fresh k=>∀ t,aY (k t)
 |.ask k=>∀ t,aY (k t)
 |.choose _ _ k=>∀ t,aY (k t)
 |.os _ _ k=>∀ t,aY (k t)
 |.call _ _ _ _ _=>False
 |.handled _ k=>∀ t,aY (k t)
 |.newGen _ k=>∀ t,aY (k t)
 |.genState _ k=>∀ t,aY (k t)
 |.resume _ _ _ _=>False
 |.yield _ _ _ _=>True
 |.stack k=>∀ t,aY (k t)
 |.fork _ _=>True
 |.thread k=>∀ t,aY (k t)
 |.await _ _ _ _ _=>True
theorem aY.bind{α β:Type}{m:Sem α}{f:α->Sem β}(hm:aY m)(hf:∀ a,aY (f a)):aY (m >>= f):=by
 show aY (m.bind f)
 induction m with
 |pure a=>exact hf a
 |raise e=>exact True.intro
 |unsupported w=>exact True.intro
 |finish e=>exact True.intro
 |rule t k ih=>exact ih () hm
 | «at» p k ih=>exact ih () hm
 |load a p k ih=>exact fun o=>ih o (hm o)
 |update a p g k ih=>exact⟨hm.1,ih () hm.2⟩
 |alloc o k ih=>exact fun a=>ih a (hm a)
 |loadIfAlive a k ih=>exact fun o=>ih o (hm o)
 |point l k ih=>exact ih () hm
 |register a k ih=>exact True.intro
 |fresh k ih=>exact fun o=>ih o (hm o)
 |ask k ih=>exact fun o=>ih o (hm o)
 |choose s n k ih=>exact fun o=>ih o (hm o)
 |os q l k ih=>exact fun o=>ih o (hm o)
 |call c h g l k ih=>exact hm.elim
 |handled o k ih=>exact fun o=>ih o (hm o)
 |newGen c k ih=>exact fun o=>ih o (hm o)
 |genState g k ih=>exact fun o=>ih o (hm o)
 |resume g r l k ih=>exact hm.elim
 |yield v g l k ih=>exact True.intro
 |stack k ih=>exact fun o=>ih o (hm o)
 |fork c k ih=>exact True.intro
 |thread k ih=>exact fun o=>ih o (hm o)
 |await a t d l k ih=>exact True.intro
theorem M4{α:Type}{M:Model}{Γ:PySem.Ctx}(m:Sem α)(hm:aY m)(Q:α->Pos->Shared->Prop)(E:Value->Pos->Shared->Prop)(p:Pos)(s:Shared)(h:Sem.wp M Γ m Q E p s) :
  Sem.wp M Γ m (fun a p' s'=>Q a p' s'/\DK s.heap s'.heap) (fun e p' s'=>E e p' s'/\DK s.heap s'.heap) p s:=by
 have go:∀{m:Sem α}{p:Pos}{s s1:Shared},DK s.heap s1.heap->Sem.wp M Γ m (fun a p' s'=>Q a p' s'/\DK s1.heap s'.heap) (fun e p' s'=>E e p' s'/\DK s1.heap s'.heap) p s1->Sem.wp M Γ m (fun a p' s'=>Q a p' s'/\DK s.heap s'.heap) (fun e p' s'=>E e p' s'/\DK s.heap s'.heap) p s1 :=
  fun{m p s s1} d z=>Sem.wp_mono M Γ m (fun a p' s' q=>⟨q.1,d.trans q.2⟩) (fun a p' s' q=>⟨q.1,d.trans q.2⟩) p s1 z
 induction m generalizing p s with
 |pure a=>rw[Sem.wp]at h ⊢;exact⟨h,DK.rfl' _⟩
 |raise e=>rw[Sem.wp]at h ⊢;exact⟨h,DK.rfl' _⟩
 |unsupported w=>rw[Sem.wp]at h;exact h.elim
 |finish e=>rw[Sem.wp]at h;exact h.elim
 |rule t k ih=>rw[Sem.wp]at h ⊢;exact ih () hm p s h
 | «at» p' k ih=>rw[Sem.wp]at h ⊢;exact ih () hm p' s h
 |load a pt k ih=>rw[Sem.wp]at h ⊢;obtain⟨o,e,h⟩:=h;exact⟨o,e,ih o (hm o) p s h⟩
 |update a pt g k ih=>rw[Sem.wp]at h ⊢;exact⟨h.1,go (DK.upd h.1 hm.1) (ih () hm.2 p _ h.2)⟩
 |alloc o k ih=>rw[Sem.wp]at h ⊢;exact go (DK.psh _ _) (ih _ (hm _) p _ h)
 |loadIfAlive a k ih=>rw[Sem.wp]at h ⊢;exact ih _ (hm _) p s h
 |point l k ih=>rw[Sem.wp]at h ⊢;exact ih () hm p s h
 |register a k ih=>rw[Sem.wp]at h;exact h.elim
 |fresh k ih=>rw[Sem.wp]at h ⊢;exact ih _ (hm _) p _ h
 |ask k ih=>rw[Sem.wp]at h ⊢;exact ih _ (hm _) p s h
 |choose sr n k ih=>rw[Sem.wp]at h ⊢;exact⟨h.1,ih _ (hm _) p _ h.2⟩
 |os q l k ih=>rw[Sem.wp]at h ⊢;exact ih _ (hm _) p _ h
 |call c hh g l k ih=>exact hm.elim
 |handled o k ih=>rw[Sem.wp]at h ⊢;exact ih _ (hm _) p s h
 |newGen c k ih=>rw[Sem.wp]at h ⊢;exact ih _ (hm _) p _ h
 |genState g k ih=>rw[Sem.wp]at h ⊢;obtain⟨o,e,h⟩:=h;exact⟨o,e,ih _ (hm _) p s h⟩
 |resume g r l k ih=>exact hm.elim
 |yield v g l k ih=>rw[Sem.wp]at h;exact h.elim
 |stack k ih=>rw[Sem.wp]at h ⊢;exact ih _ (hm _) p s h
 |fork c k ih=>rw[Sem.wp]at h;exact h.elim
 |thread k ih=>rw[Sem.wp]at h ⊢;exact ih _ (hm _) p s h
 |await a t d l k ih=>rw[Sem.wp]at h;exact h.elim
theorem ij{α:Type}{M:Model}{A:Around}{m:Sem α}(hm:aY m){Q:α->Shared->Prop}{E:Value->Shared->Prop}{s:Shared}(h:wpAny M A m Q E s):wpAny M A m (fun a s'=>Q a s'/\DK s.heap s'.heap) (fun e s'=>E e s'/\DK s.heap s'.heap) s :=
 fun Γ p hΓ=>M4 m hm _ _ p s (h Γ p hΓ)
theorem bc{α:Type}(a:α):aY (pure a:Sem α):=True.intro
theorem Bh{α:Type}(w:String):aY (PySem.unsupported w:Sem α):=True.intro
theorem dg{α:Type}{c:Prop} [Decidable c] {a b:Sem α} (ha:aY a) (hb:aY b):aY (if c then a else b):=by split<;>assumption
theorem pG(a:Addr):aY (load a):=fun _=>True.intro
theorem mK:aY stack:=fun _=>True.intro
theorem vH(v:Value):aY (fieldsOf v):=by
 unfold fieldsOf
 cases v with
 |ref a =>
  refine aY.bind (pG a) fun o=>?_
  cases o.data<;>exact True.intro
 |_=>exact True.intro
theorem i9(v:Value)(i:Nat):aY (field v i):=by
 unfold field
 refine aY.bind (vH v) fun vs=>?_
 cases vs[i]?<;>exact True.intro
theorem gI(v:Value)(i:Nat)(x:Value):aY (setField v i x):=by
 unfold setField
 cases v with
 |ref a =>
  show aY (updateField a i x)
  unfold updateField
  refine aY.bind (pG a) fun o=>?_
  cases o.data with
  |fields vs =>
   refine dg ?_ (Bh _)
   refine⟨fun o=>?_,True.intro⟩
   unfold Obj.mapFields
   split<;>rfl
  |_=>exact True.intro
 |_=>exact True.intro
theorem ck(e:Value)(f:Option Addr):aY (setFlight e f):=by
 unfold setFlight
 refine aY.bind (i9 e 1) fun tb=>?_
 exact dg (gI _ _ _) (bc _)
theorem t5:∀ l:List Env,aY (readyFrames l)
 |[]=>True.intro
 |env::outer=>by
  unfold readyFrames
  cases env.frame with
  |none=>exact True.intro
  |some f =>
   refine aY.bind (pG f) fun o=>?_
   refine dg (bc _) ?_
   refine aY.bind ?_ fun i=>aY.bind ?_ fun b=>aY.bind ⟨fun o=>rfl,True.intro⟩ fun _=>t5 outer
   ·unfold behindIsImport
    refine dg (bc _) (dg (bc _) (aY.bind (i9 _ _) fun _=>bc _))
   ·unfold keptBack
    cases outer with
    |nil=>exact dg (bc _) (aY.bind (by unfold underTheClaimsCaller;exact aY.bind mK fun _=>bc _) fun _=>bc _)
    |cons c r=>exact bc _
theorem yK(env:Env):aY (Tn env):=by
 unfold Tn frameObject frameEnvs
 refine aY.bind (aY.bind mK fun _=>bc _) fun l=>aY.bind ?_ fun o=>?_
 ·cases (l.dropWhile fun x=>x.frame != env.frame) with
  |nil=>exact bc _
  |cons e r=>exact aY.bind (t5 _) fun _=>bc _
 ·cases o<;>exact True.intro
theorem Ew(f:Addr)(b:Bool):aY (entryPlaceOf f b):=by
 unfold entryPlaceOf
 refine aY.bind mK fun acts=>?_
 split<;>exact True.intro
theorem fV(e:Value)(env:Env):aY (noteFrame e env):=by
 unfold noteFrame
 cases env.frame with
 |none=>exact True.intro
 |some f =>
  refine aY.bind (i9 _ _) fun head=>?_
  have last:aY (do
    let a ← Tn env
    let pl ← entryPlaceOf f (head != .none)
    let b ← EntryCells.newEntry head a .none (rawInt f) .none pl
    setField e 1 b):=by
   refine aY.bind (yK env) fun a=>aY.bind (Ew _ _) fun pl=>aY.bind ?_ fun b=>gI _ _ _
   unfold EntryCells.newEntry newFields newObj
   dsimp only
   have nw:∀ d:Data,aY (newObjAsIs (.type "traceback") d):=fun d=>aY.bind (fun _=>True.intro) fun _=>bc _
   exact dg (aY.bind (Bh _) fun _=>nw _) (nw _)
  refine dg (aY.bind (i9 _ _) fun z=>dg (bc _) (aY.bind (gI _ _ _) fun _=>last)) last
theorem yJ(env:Env)(e:Value):aY (leaving env e):=aY.bind (fV e env) fun _=>ck e none
end L2
namespace L2
open PySem PySem.Spec PyProof.Rows
def Xd(h:Heap)(x:Addr)(d:Option Addr):Prop:=∃ oe,h.get? x=some oe/\oe.dict=d
theorem Xd.dk{h h':Heap}{x:Addr}{d:Option Addr}(z:Xd h x d)(k:DK h h')(ex:∃ o,h'.get? x=some o):Xd h' x d:=by
 obtain⟨oe,e,hd⟩:=z
 obtain⟨o',e'⟩:=ex
 obtain⟨o,e2,d2⟩:=k.d x o' (Heap.lt_size e) e'
 rw[e]at e2
 cases e2
 exact⟨o',e',d2.trans hd⟩
theorem Trc.there{h:Heap}{x T:Addr}{C:Value}(t:Trc h x C T):∃ o,h.get? x=some o:=by
 obtain⟨oe,_,_,_,_,he,_⟩:=t
 exact⟨oe,he⟩
def CXd(P:Program)(w:World):CXT:=fun outer H s E e s'=>∃(x:Addr)(C:Value)(T:Addr)(H':Hp)(d:Option Addr),e=.ref x/\s'.os=s.os/\AllBare s'.gens/\Un (frs outer) [] H H' s.heap s'.heap/\HOk P w H' s'.heap /\
 s.heap.get? x=none/\s.heap.get? T=none/\H' x=none/\H' T=none/\Trc s'.heap x C T/\Xd s'.heap x d/\E C d H'
abbrev WKD:=Value->Option Addr->St->Hp->Prop
def WshD(X:Cx)(W:WKD):Prop:=∀(pins:List (Addr×Obj))(σ:St)(H:Hp)(s:Shared)(x:Addr)(C:Value)(d:Option Addr),Inv X pins σ H s->XA X pins H s x C->Xd s.heap x d->W C d σ H->X.xe (.ref x) s
theorem bE{P:Program}{w:World}{K:P1}{mg:Str->Option Value}{base:Heap}{N:List Str}{qual:Str}{scope:Scope}{f:Addr}{cd:Value}{A:Around}{outer:List Env}{s₀:Shared}{H₀:Hp}{E:XK} :
  WshD (cxOf (CXd P w) P w K mg base N qual scope f cd A outer s₀ H₀ E) (fun C d _ H=>E C d H):=fun pins σ H s x C d I xa z hE=>by
 show wpAny (model P w) (A.deeper (envOfC qual scope s₀.heap.objs.size f cd)) (leaving (envOfC qual scope s₀.heap.objs.size f cd) (.ref x)) _ _ s
 refine wpAny_mono (ij (yJ _ _) (Inv.leave (Q:=fun _ s'=>∃ h' T,s'={ s with heap:=h' }/\Inv (cxOf (CXd P w) P w K mg base N qual scope f cd A outer s₀ H₀ E) pins σ H { s with heap:=h' }/\XOk (cxOf (CXd P w) P w K mg base N qual scope f cd A outer s₀ H₀ E) pins H x/\XOk (cxOf (CXd P w) P w K mg base N qual scope f cd A outer s₀ H₀ E) pins H T/\Trc h' x C T) (E:=fun _ _=>False) I rfl rfl rfl xa fun h' T I' x1 xT tr=>⟨h',T,rfl,I',x1,xT,tr⟩)) ?_ (fun _ _ q=>q.1.elim)
 rintro _ s' ⟨⟨h',T,rfl,I',x1,xT,tr⟩,dk⟩
 exact⟨x,C,T,H,d,rfl,I'.os,I'.bare,I'.base,I'.hok,x1.old,xT.old,x1.trk,xT.trk,tr,z.dk dk tr.there,hE⟩
structure CalD(P:Program)(w:World)(K:P1)(mg:Str->Option Value)(base:Heap)(k:Nat)(x:Str)(ps:List Str)(sp:Sp)(f:Addr)(fd:FuncData):Prop where
 ok:FnOk P w K mg base (CXd P w) k f fd ps sp
 bn:gT K fd ps []
 mg:mg x=some (.ref f)
 kp:Qb K (.ref f)=true
theorem Fun.okD{P:Program}{w:World}{K:P1}{mg:Str->Option Value}{base:Heap}{x qual:Str}{st:Stmt}{f:Addr}{fd:FuncData}{N ps:List Str}{k:Nat}{sp:Sp}(F:Fun K x qual st f fd)(S:aH N ps (aj st))(len:∀ vs H Q E,sp vs H Q E->vs.length=ps.length)
  (hbody:∀(cdv:Value)(A:Around)(outer:List Env)(s:Shared)(H:Hp)(vs:List V)(Q:VK)(E:XK),Room k (A.deeper (envOfC qual (aj st) s.heap.objs.size f cdv))->sp vs H Q E ->
   ∃ t,PSs (cxOf (CXd P w) P w K mg base N qual (aj st) f cdv A outer s H E) (aD st) t/\t { nx:=fun _ H'=>Q .non H',rt:=Q } (start N vs) H):FnOk P w K mg base (CXd P w) (k+1) f fd ps sp:=by
 obtain⟨oc,od,kV,doc,pm,an,cdv,ct,osl,rfl,lk,hcd⟩:=F.ex
 exact fn_of lk hcd S len fun A outer s H vs Q E hr hsp=>hbody cdv A outer s H vs Q E hr hsp
section
variable{X:Cx}{k:Nat}{f C:Addr}{fd:FuncData}{ps:List Str}{sp:Sp}{dvs:List V}{ds:List Value}{W:WKD}{x m:Str}{p pos apos:Pos}{e o:Expr}{es:List Expr}{ta:TE}{t:TA}
theorem WshD.of{pins:List (Addr×Obj)}{σ:St}{H:Hp}{s s':Shared}{v:Value}(ws:WshD X W)(hx:X.ex = [])(I:Inv X pins σ H s)(h:CXd X.prog X.w X.stack H s (fun C d H'=>W C d σ H') v s'):X.xe v s':=by
 obtain⟨x,C,T,H',d,rfl,os,bare,un,hok,nx,nT,tx,tT,tr,z,q⟩:=h
 have I':Inv X pins σ H' s':=I.call' os un hok bare fun b z=>absurd z (by simp)
 exact ws pins σ H' s' x C d I' ⟨I.xok hx nx tx,.inr ⟨T,I.xok hx nT tT,tr⟩⟩ z q
theorem Ow{pins:List (Addr×Obj)}{σ:St}{H:Hp}{s:Shared}{Q:VK}{us:List Value}{vs:List V}(F:FnOk X.prog X.w X.K X.mg X.base (CXd X.prog X.w) k f fd ps sp)(hr:Room k X.A)(hb:gT X.K fd ps ds)(hd:Vals dvs ds)(ws:WshD X W)(hx:X.ex = [])
  (I:Inv X pins σ H s) (r:Vals vs us) (h:sp (vs++dvs) H Q (fun C d H'=>W C d σ H')):wpAny (model X.prog X.w) X.A (call (.ref f) us) (EP X pins σ Q) X.xe s:=by
 have r2:Vals (vs++dvs) (us++ds):=r.append hd
 have hl:(us++ds).length=ps.length:=by rw[← r2.length];exact F.len _ _ _ _ h
 refine wpAny_call (codeAny_mono (F.run X.A X.stack s H ⟨us,[]⟩ (us++ds) (vs++dvs) Q _ hr I.env0 (hb s us I.kIn hl) r2 h) fun r s' hq=>?_)
 cases r with
 |error e=>exact ws.of hx I hq
 |ok fl =>
  cases fl with
  |ret u=>exact I.after hq
  |next=>exact False.elim hq
  |brk=>exact False.elim hq
  |cont=>exact False.elim hq
def tCallD(sp:Sp)(dvs:List V)(W:WKD)(t:TA):TE:=fun σ H Q=>t σ H fun vs H1=>sp (vs++dvs) H1 Q fun C d H'=>W C d σ H'
theorem dc(F:FnOk X.prog X.w X.K X.mg X.base (CXd X.prog X.w) k f fd ps sp)(hr:Room k X.A)(hg:Gl X x)(hm:X.mg x=some (.ref f))(hk:Qb X.K (.ref f)=true)(hb:gT X.K fd ps ds)(hd:Vals dvs ds)(ws:WshD X W)(hx:X.ex = [])
  (ha:PA X (e::es) t) (hdb:(x == ("__debug__" : Str))=false:=by decide) (he:starEach (e::es) X.env=(false,eval e X.env)::starEach es X.env:=by rfl) (hpl:(backTo pos (starEach es X.env)).any (·.1)=false:=by rfl) :
  PE X (.Call (.Name x p) (e::es) [] pos) (tCallD sp dvs W t):=by
 intro pins s σ H Q I h
 refine wpAny_Call_Name_kw (mq I hg hm ?_ hdb)
 refine RT (h₀:=X.base) I.ok.mod.kin hk (thn (ha pos pins s σ H _ I h) fun us s1 ⟨vs,H1,I1,r,q⟩=>⟨I1.kIn,?_⟩) he hpl
 exact Ow F hr hb hd ws hx I1 r q
end
def Oc(C:Addr)(W:WKD)(t:TA):TS:=fun _ σ H=>t σ H fun vs H1=>vs.length<=sizeLine/\W (.ref C) none σ H1
theorem hV{X:Cx}{x:Str}{C:Addr}{e:Expr}{es:List Expr}{t:TA}{W:WKD}{np cpos pos:Pos}(ec:ExC X.K C)(hm:X.mg x=some (.ref C))(hg:Gl X x)(ws:WshD X W)(hx:X.ex = [])(hc:X.calm=true)(ha:PA X (e::es) t)
  (he:starEach (e::es) X.env=(false,eval e X.env)::starEach es X.env:=by rfl) (hpl:(backTo cpos (starEach es X.env)).any (·.1)=false:=by rfl) (hdb:(x == ("__debug__" : Str))=false:=by decide) :
  PS X (.Raise (some (.Call (.Name x np) (e::es) [] cpos)) none pos) (Oc C W t):=by
 intro pins s σ H D I h
 obtain⟨tl,N,nm,qn,bs,hdct,sn,sub,ab,col,dd,k0,k1,k2,k3,k5,mN,hC,hN,hni,T,_⟩:=Eu ec I.ok.mod.kin
 have hpl2:(backTo cpos (starEach (e::es) X.env)).any (·.1)=false:=by
  rw[he]
  show(false||(backTo cpos (starEach es X.env)).any (·.1))=false
  rw[hpl];rfl
 refine wpAny_Raise_call_subT (C:=C) (nm:=nm) (q:=qn) (N:=N) (bs:=bs) (bm:=tl) (hdct:=hdct) (sn:=sn) (sub:=sub) (ab:=ab) (col:=col) (dd:=dd) (k0:=k0) (k1:=k1) (k2:=k2) (k3:=k3) (k5:=k5) RO (mN:=mN) (T.hasType RO.hasBase) (I.ok.hd hc) hpl2 hni (mq I hg hm ⟨rfl,?_⟩ hdb)
 have z:=ha cpos pins s σ H _ I h
 rw[he]at z ⊢
 refine Calls.evalArgs_plain (wpAny_mono z (fun us s2 zz=>?_) fun _ _ y=>y)
 obtain⟨vs,H1,I2,r,hz,q⟩:=zz
 refine⟨rfl,by rw[← r.length];exact hz,I2.bk _ _ hC,hN.keeps I2.bk,T.keeps I2.bk,fun h' e' hme=>?_⟩
 obtain⟨t0,ht0,_,_⟩:=hme.there
 have I3:Inv X pins σ H1 { s2 with heap:=h' }:=I2.kept (t':=s2.toks) hme.keeps
 exact ws pins σ H1 _ e' (.ref C) none I3 ⟨I2.xok hx hme.new (I2.hok.none_of hme.new),.inl ⟨_,_,_,ht0,rfl,rfl,rfl,rfl⟩⟩ ⟨_,ht0,rfl⟩ q
def IL(X:Cx)(W:WKD):Prop:=∀(pins:List (Addr×Obj))(σ:St)(H:Hp)(s:Shared)(x T:Addr)(C:Value)(d:Option Addr),Inv X pins σ H s->XOk X pins H x->XOk X pins H T->Trc s.heap x C T->Xd s.heap x d->W C d σ H->X.xe (.ref x) s
section
variable{X:Cx}{k:Nat}{f:Addr}{fd:FuncData}{ps:List Str}{sp:Sp}{dvs:List V}{ds:List Value}{W:WKD}{x:Str}{p pos:Pos}{e:Expr}{es:List Expr}{t:TA}
end
section
variable{M:Model}{A:Around}{E:Value->Shared->Prop}{h:Heap}{g:Array GenState}{d:Drawn}{t:Nat}{os:OsState}
theorem Pt{C D:Addr}{nm2 qn2:Str}{N2:Addr}{bs2 bm2:List Value}{hdct2:Bool}{sn2:List Str}{sub2:List Value}{ab2:Bool}{col2:Option Bool}{dd2:Option Addr}{j0 j1 j2 j3 j5:Option Value}{id2:String}{x:Addr}{ob:Obj}{Q:Bool->Shared->Prop}
  (hD:h.get? D=some (excClassObj nm2 qn2 D N2 bs2 bm2 hdct2 sn2 sub2 ab2 col2 dd2 j0 j1 j2 j3 j5 id2)) (hob:h.get? x=some ob) (hcl:ob.cls=.ref C)
  (hDB:(Value.ref D::bm2).contains (.type "BaseException")=true) (lk:Sa M h (isSubtype (.ref C) (.ref D)) true) (hq:Q true ⟨h,g,d,t,os⟩):wpAny M A (excMatches (.ref x) (.ref D)) Q E ⟨h,g,d,t,os⟩:=by
 have ntup:=tc_notTuple
 unfold excMatches
 repeat (first | (with_reducible refine wpAny_loadPart_at hob ?_;rw[hcl]) | with_reducible refine wpAny_loadPart_at hD ?_ | (with_reducible refine wpAny_isSubtype_exc hD ?_;rw[hDB]) | with_reducible refine lk.at ?_ | wp_step)
 exact hq
end
def excD(x C:Addr)(d:Option Addr):HO:=.ext fun h=>∃ o,h.get? x=some o/\o.cls=.ref C/\o.dict=d/\Sj o=true
def Oa(ie:Nat)(Cs:Addr->Prop)(tb:WKD->TS)(ts:TS):TS:=fun Ds σ H=>tb (fun C d σ1 H1=>∃ c,C=.ref c/\Cs c/\∀ x,H1 x=none->ts { nx:=fun σ2 H2=>Ds.nx (σ2.set ie none) H2,rt:=fun _ _=>False } (σ1.set ie (some (.ref x))) (upd H1 x (excD x c d))) Ds σ H
theorem Ju{X:Cx}{body:List Stmt}{b0:Stmt}{suite:List Stmt}{dn en:Str}{np hpos pos:Pos}{D:Addr}{ie:Nat}{Cs:Addr->Prop}{tb:WKD->TS}{ts:TS}(hx:X.ex = [])(hst:X.stack=X.env::X.outer)(hfr:X.env.frame=some X.env.locals)(hN:X.N.Nodup)(hi:X.N[ie]?=some en)(hl:X.env.kindOf en=some .local)
  (hgD:Gl X dn) (hmD:X.mg dn=some (.ref D)) (eD:ExC X.K D) (hCs:∀ c,Cs c->QR X.K c (.ref D)=some true)
  (hb:∀ pins XE W,IL (X.tried pins XE) W->PSs (X.tried pins XE) body (tb W)) (hs:∀ v,PSs (X.marked v) (b0::suite) ts) (hdb:(dn == ("__debug__" : Str))=false:=by decide) :
  PS X (.Try body [.ExceptHandler (some (.Name dn np)) (some en) (b0::suite) hpos] [] [] pos) (Oa ie Cs tb ts):=by
 intro pins s σ H Ds I h
 refine wpAny_Try_except ?_
 refine wpAny_mono (hb pins (fun e s₁=>wpAny (model X.prog X.w) X.A (noteFrame e X.env) (fun _ s₂=>wpAny (model X.prog X.w) X.A (setFlight e none) (fun _ s₃=>wpAny (model X.prog X.w) X.A (handleBy e X.env [.ExceptHandler (some (.Name dn np)) (some en) (b0::suite) hpos]) (SP X pins Ds) X.xe s₃) X.xe s₂) X.xe s₁) _ ?_ [] s σ H Ds I.tried h) (fun f s1 q=>?_) fun _ _ z=>z
 ·intro pins' σ1 H1 s1 x T C d I1 xx xT tr zd hw
  obtain⟨c,rfl,hc,hts⟩:=hw
  have I2:Inv X pins σ1 H1 s1:=I1.untried
  have x2:XOk X pins H1 x:=xx.untried
  have T2:XOk X pins H1 T:=xT.untried
  have frm:X.A.frames=some (X.env::X.outer):=by rw[← hst];exact I2.ok.frames
  have fly:∀{h:Heap}{T:Addr},Inv X pins σ1 H1 { s1 with heap:=h }->Trc h x (.ref c) T->∃ a0,Heap.FlyingW (hidX X h [x,T]) (X.env::X.outer) x (.ref c) a0 h:=fun{h T} J tr=>by
   obtain⟨oe,vs,a0,oT,ts,he,hcl,h0,hd,h1,hTe,hT,hdT,h3⟩:=tr
   exact⟨a0,F4 _ _,iX (by simp),hst▸J.hidF [x,T],⟨oe,vs,T,oT,ts,he,⟨hcl,h0⟩,hd,h1,iX (by simp),hTe,hT,hdT,h3⟩⟩
  have two:∀{T:Addr},XOk X pins H1 T->∀ b∈[x,T],XOk X pins H1 b:=fun{T} hT b hb=>by
   rcases P8.mp hb with e | hb
   ·rw[e];exact x2
   ·have e:b=T:=by simpa using hb
    rw[e];exact hT
  obtain⟨a0,fl⟩:=fly (h:=s1.heap) I2 tr
  refine wpAny_mono (ij (fV _ _) (wpAny_looks_onW (Q:=fun _ s'=>∃ h4,s'={ s1 with heap:=h4 }/\Heap.HeldW (hidX X s1.heap [x,T]) (X.env::X.outer) x (.ref c) a0 X.env.locals h4/\s1.heap.UpToSlots h4) (E:=fun _ _=>False) frm hfr fl fun h4 a b=>⟨h4,rfl,a,b⟩)) ?_ (fun _ _ q=>q.1.elim)
  rintro _ s4 ⟨⟨h4,rfl,held4,up4⟩,dk4⟩
  refine wpAny_mono (ij (ck _ _) (wpAny_landsW (Q:=fun _ s'=>∃ h5,s'={ s1 with heap:=h5 }/\Heap.FlyingW (hidX X s1.heap [x,T]) (X.env::X.outer) x (.ref c) a0 h5/\h4.UpToSlots h5) (E:=fun _ _=>False) held4 fun h5 a b=>⟨h5,rfl,a,b⟩)) ?_ (fun _ _ q=>q.1.elim)
  rintro _ s5 ⟨⟨h5,rfl,fl5,up5⟩,dk5⟩
  obtain⟨I5,T5,xT5,tr5⟩:=I2.left hx (two T2) fl5.1 fl5.2.2.2 (up4.trans up5)
  have z5:Xd h5 x d:=zd.dk (DK.trans (b:=h4) dk4 dk5) tr5.there
  refine wpAny_handleBy_cons (codeAny_handlers_test (Calls.Name_function_global I5.ok.kind hgD (Calls.loadGlobal_global (by rw[I5.ok.glob];exact I5.mod.glob.keeps I5.bk) hmD ?_) hdb)) (by intro q;cases q)
  obtain⟨_,_,_,_,_,_,_,_,_,_,_,_,_,_,_,_,_,hD,_,_,TD,_⟩:=Eu eD I5.kIn
  have hDB:=TD.hasType (X:="BaseException") (b:=true) rfl
  obtain⟨ob,_,_,_,_,hob,hcl,_⟩:=id tr5
  refine Pt hD hob hcl (by rw[RJ,hDB,Si]) (RD I5.kIn (hCs c hc)) ?_
  refine codeAny_handlers_suite_as ?_
  obtain⟨a5,fl5'⟩:=fly I5 tr5
  refine wpAny_mono (ij (ck _ _) (lands_againW (Q:=fun _ s'=>∃ h6,s'={ s1 with heap:=h6 }/\Heap.FlyingW (hidX X h5 [x,T5]) (X.env::X.outer) x (.ref c) a5 h6/\h5.UpToSlots h6) (E:=fun _ _=>False) (s:={ s1 with heap:=h5 }) fl5' fun h6 a b=>⟨h6,rfl,a,b⟩)) ?_ (fun _ _ q=>q.1.elim)
  rintro _ s6 ⟨⟨h6,rfl,fl6,up6⟩,dk6⟩
  obtain⟨I6,T6,xT6,tr6⟩:=I5.left hx (two xT5) fl6.1 fl6.2.2.2 up6
  have z6:Xd h6 x d:=z5.dk dk6 tr6.there
  obtain⟨oe,vs6,_,_,_,he,hcl6,_,hd6,_⟩:=id tr6
  have hnc:Sj oe=true:=by unfold Sj;rw[hd6]
  have hdd:oe.dict=d:=by
   obtain⟨o2,e2,d2⟩:=z6
   rw[he]at e2
   cases e2
   exact d2
  have I7:=I6.xtrack (o:=excD x c d) x2 ⟨⟨oe,he,hcl6,hdd,hnc⟩,⟨oe,he⟩,fun h1 h2 ⟨o,z1,z2⟩ kk=>⟨o,kk o z1,z2⟩⟩
  refine nu I7 hN hi (.inl hl) (v:=.ref x) rfl (fun s8 I8=>?_) (.inr hl)
  refine wpAny_mono (hs (.ref x) pins s8 _ _ _ (I8.marked _) (hts x x2.trk)) (fun f s9 q9=>?_) fun _ _ z=>z.elim
  cases f with
  |next =>
   obtain⟨σ9,H9,I9,q9⟩:=q9
   have I9':Inv X pins σ9 H9 s9:=Inv.unmarked (hd:=I2.ok.hd) (fr:=I2.ok.frames) I9
   obtain⟨m,hm⟩:=I9'.loc
   refine wpAny_nameGoes_keeps hl hm.1 (by rw[I9'.ok.kind];rfl) fun h' v hn hss=>?_
   exact⟨_,_,I9'.gone hN hi hm hn hss,q9⟩
  |brk=>obtain⟨_,_,_,z⟩:=q9;exact z.elim
  |cont=>obtain⟨_,_,_,z⟩:=q9;exact z.elim
  |ret u=>obtain⟨_,_,_,_,_,z⟩:=q9;exact z.elim
 ·have q':=SP.untried q
  cases f with
  |next=>exact wpAny_execs_nil q'
  |brk=>exact q'
  |cont=>exact q'
  |ret u=>exact q'
end L2
namespace L2
open PySem PySem.Spec PyProof.Rows PySem.Calls Builtin Builtin.ObjectAttr
def wH(K:P1)(C fI:Addr):Bool:=match K.lookup C with
 |some ⟨.type "type",_,.cls cd,sl⟩=>(match cd.mro,sl.toList with
  |.ref C'::bm,[_,_,_,_,some (.builtin n),_]=>C' == C&&n == "ValueError.__new__"&&!cd.hasDel&&PySem.W.tailIn K veM bm&&PySem.W.nsOkIn K cd.ns&&Qc K cd.ns "__init__" == some (some (.ref fI))
  |_,_=>false)
 |_=>false
theorem Hr{K:P1}{h:Heap}{N:Addr}{mg:Str->Option Value}{n:Str}{v:Value}(X:K.In h)(G:h.Ns N mg)(e:Qc K N n=some (some v)):mg n=some v:=by
 obtain⟨o,es,ep,ho,hd,_,hf⟩:=G
 unfold Qc at e
 split at e
 ·rename_i c d es' n' sl q
  have:=X _ _ q
  rw[ho]at this
  cases this
  cases hd
  split at e
  ·rename_i en he
   cases e
   rw[← hf]
   unfold nsFind findBy
   rw[← Array.find?_toList,he]
   rfl
  ·split at e<;>cases e
 ·cases e
theorem rM{K:P1}{C fI:Addr}{h:Heap}(e:wH K C fI=true)(X:K.In h):∃ bm N nm qn bs hdct sn sub ab col dd k0 k1 k2 k3 k5 mN,h.get? C=some (excClassObj nm qn C N bs bm hdct sn sub ab col dd k0 k1 k2 k3 k5 "ValueError.__new__")/\h.Ns N mN/\mN "__init__" = some (.ref fI)/\OwnTail h veM bm:=by
 have z:=e
 unfold wH at z
 split at z
 ·rename_i ddx cdx slx hobj
  split at z
  ·rename_i Cx bmx y0 y1 y2 y3 nx y5 hmro hslots
   have zz:=z
   simp only[QT,beq_iff_eq,Bool.not_eq_true']at zz
   obtain⟨⟨⟨⟨⟨eC,eN⟩,edel⟩,etail⟩,ens⟩,einit⟩:=zz
   subst eC
   subst eN
   obtain⟨l⟩:=slx
   have hl:l = [y0,y1,y2,y3,some (.builtin "ValueError.__new__"),y5]:=hslots
   subst hl
   obtain⟨nm,bs,mro,ns,qn,hd,sn,sub,ab,col,del⟩:=cdx
   have hmro':mro=.ref Cx::bmx:=hmro
   have hdel':del=false:=edel
   subst hmro' hdel'
   have N:=PySem.W.isNs_of_in X ens
   refine⟨bmx,ns,nm,qn,bs,hd,sn,sub,ab,col,ddx,y0,y1,y2,y3,y5,_,X _ _ hobj,.of_isNs N,?_,PySem.W.tail_of_in X etail⟩
   exact Hr X (.of_isNs N) einit
  ·cases z
 ·cases z
section
variable{prog:Program}{w:World}{A:Around}{E:Value->Shared->Prop}{h:Heap}{g:Array GenState}{d:Drawn}{t:Nat}{os:OsState}
variable{nm q:Str}{C N:Addr}{bs bm bmB:List Value}{hdct:Bool}{sn:List Str}{sub:List Value}{ab:Bool}{col:Option Bool}{dd:Option Addr}{k0 k1 k2 k3 k5:Option Value}{B newId initId:String}
theorem uY(F:ExcBaseFacts B newId initId bmB)(T:OwnTail h bmB bm){mN:Str->Option Value}{rest:List Value}{fI:Addr}{oI:Obj}{Q:Fin->Shared->Prop}
  (hC:h.get? C=some (excClassObj nm q C N bs bm hdct sn sub ab col dd k0 k1 k2 k3 k5 newId)) (hn:h.Ns N mN) (hi:mN "__init__" = some (.ref fI))
  (hfI:h.get? fI=some oI) (hfc:oI.cls=.type "function")
  (hq:∀ h' e,Heap.MadeExcOf h h' e (.ref C) rest ->
   wpAny (model prog w) A (call (.ref fI) (.ref e::rest)) (fun r s'=>r=.none/\Q (.done (.ret (.ref e))) s') E ⟨h',g,d,t,os⟩) (hrest:rest.length<=sizeLine) :
  wpAny (model prog w) A (Builtin.«type.__call__» ⟨.ref C::rest,[]⟩) Q E ⟨h,g,d,t,os⟩:=by
 repeat (first | with_reducible refine wpAny_loadPart_at hC ?_ | with_reducible refine wpAny_madeBy_exc hC ?_ | wp_step)
 refine codeAny_call_builtin_code (Code.quiet_builtin _ F.quiet) (wpAny_check_new_subT F T hC ?_)
 refine codeAny_exc_new_subT F T hC ?_ hrest
 show wpAny _ _ _ _ _ _
 have hC₁:=Heap.get?_push_of_some { cls:=.ref C,data:=.fields #[.ref h.objs.size,.none,.none,.none,.bool false,.none] }
  (Heap.get?_push_of_some { cls:=.type "tuple",data:=.seq rest.toArray } hC)
 have hfI₁:=Heap.get?_push_of_some { cls:=.ref C,data:=.fields #[.ref h.objs.size,.none,.none,.none,.bool false,.none] }
  (Heap.get?_push_of_some { cls:=.type "tuple",data:=.seq rest.toArray } hfI)
 have hn₁:((h.push { cls:=.type "tuple",data:=.seq rest.toArray }).push { cls:=.ref C,data:=.fields #[.ref h.objs.size,.none,.none,.none,.bool false,.none] }).Ns N mN :=
  let ⟨o,es,ep,e,r⟩:=hn;⟨o,es,ep,Heap.get?_push_of_some _ (Heap.get?_push_of_some _ e),r⟩
 have hget:((h.push { cls:=.type "tuple",data:=.seq rest.toArray }).push
   { cls:=.ref C,data:=.fields #[.ref h.objs.size,.none,.none,.none,.bool false,.none] }).get? (h.objs.size+1)=some
   { cls:=.ref C,data:=.fields #[.ref h.objs.size,.none,.none,.none,.bool false,.none] }:=by heap_get
 have T₁:=T.keeps (h':=(h.push { cls:=.type "tuple",data:=.seq rest.toArray }).push { cls:=.ref C,data:=.fields #[.ref h.objs.size,.none,.none,.none,.bool false,.none] })
  fun b o e=>Heap.get?_push_of_some _ (Heap.get?_push_of_some _ e)
 have hcC:(Value.ref C::bm).contains (.ref C)=true:=by simp
 unfold isInstance
 repeat (first | with_reducible refine wpAny_loadPart_at hget ?_ | (with_reducible refine wpAny_isSubtype_exc hC₁ ?_;rw[hcC]) | wp_step)
 show wpAny _ _ (typeLookup (.ref C) _) _ _ _
 refine wpAny_typeLookup_tail hC₁ hn₁ T₁ F.mroIs F.init.lookup ?_
 rw[hi]
 refine wpAny_holding (wpAny_bind ?_)
 unfold bindSpecial
 refine wpAny_bind (wpAny_typeOf (T:="function") ⟨_,hfI₁,hfc⟩ ?_)
 rw[if_pos (by decide)]
 refine wpAny_pure (wpAny_bind (wpAny_mono (hq _ (h.objs.size+1) ⟨fun b o hb=>Heap.get?_push_of_some _ (Heap.get?_push_of_some _ hb),Heap.get?_none_of_le (RF _),h.objs.size,hget,Heap.get?_none_of_le (P9 _),?_⟩) (fun r s' hr=>?_) fun _ _ x=>x))
 ·exact Heap.get?_push_of_some _ (Heap.get?_push_at rfl rfl)
 ·obtain⟨rfl,hQ⟩:=hr
  wp_walk
  exact hQ
theorem Ir(F:ExcBaseFacts B newId initId bmB)(T:OwnTail h bmB bm){mN:Str->Option Value}{rest:List Value}{fI:Addr}{oI:Obj}{Q:Value->Shared->Prop}
  (hC:h.get? C=some (excClassObj nm q C N bs bm hdct sn sub ab col dd k0 k1 k2 k3 k5 newId)) (hn:h.Ns N mN) (hi:mN "__init__" = some (.ref fI))
  (hfI:h.get? fI=some oI) (hfc:oI.cls=.type "function")
  (hq:∀ h' e,Heap.MadeExcOf h h' e (.ref C) rest ->
   wpAny (model prog w) (A.under (.builtin "type.__call__" ⟨.ref C::rest,[]⟩)) (call (.ref fI) (.ref e::rest)) (fun r s'=>r=.none/\Q (.ref e) s') E ⟨h',g,d,t,os⟩) (hrest:rest.length<=sizeLine) :
  wpAny (model prog w) A (call (.ref C) rest) Q E ⟨h,g,d,t,os⟩:=by
 have f1:=tc_lookup
 have f2:=tc_bind (.ref C)
 have hT:(⟨h,g,d,t,os⟩:Shared).TypeIs (.ref C) "type":=⟨_,hC,rfl⟩
 refine wpAny_call (codeAny_of_tree ?_)
 show wpAny _ _ (callAny (.ref C) _) _ _ _
 repeat (any_goals (first | assumption | with_reducible refine wpAny_loadPart_at hC ?_ | wp_step))
 refine⟨rfl,?_⟩
 refine codeAny_call_builtin_at (Code.quiet_builtin _ (by decide +kernel)) entry_typeCall (wpAny_check_type_call_sub hC (uY F T hC hn hi hfI hfc (fun h' e hm=>?_) hrest))
 exact hq h' e hm
theorem oM{M:Model}{env:Env}{s:Shared}{x:Sem Value}{Q:Flow->Shared->Prop} (hbase:bm.contains (.type "BaseException")=true) (hh:A.handled=none)
  (h:wpAny M A x (fun v s₁=>∃ e oe,v=.ref e/\s₁.heap.get? C=some (excClassObj nm q C N bs bm hdct sn sub ab col dd k0 k1 k2 k3 k5 newId) /\
   s₁.heap.get? e=some oe/\oe.cls=.ref C/\(∃ vs,oe.data=.fields vs/\vs[1]?=some .none)/\E (.ref e) s₁) E s) :
  wpAny M A (raiseStmt env (some x) none) Q E s:=by
 have hcB:(Value.ref C::bm).contains (.type "BaseException")=true:=by rw[RJ,hbase,Si]
 unfold raiseStmt
 refine wpAny_bind (wpAny_mono h (fun v s₁ h₁=>?_) fun _ _ x=>x)
 obtain⟨e,oe,rfl,hC,he,hcl,⟨vs,hdt,hv1⟩,hE⟩:=h₁
 obtain⟨hp,g,d,tk,os⟩:=s₁
 obtain⟨oc,odd,odt,osl⟩:=oe
 cases hcl
 cases hdt
 repeat (first | with_reducible refine wpAny_loadPart_at he ?_ | with_reducible refine wpAny_loadPart_at hC ?_ | (with_reducible refine wpAny_isSubtype_exc hC ?_;rw[hcB]) | wp_step)
 rw[hv1]
 refine wpAny_pure ?_
 rw[if_neg (by decide)]
 exact wpAny_pure (wpAny_raiseNew_none hh hE)
end
def excN(x C:Addr)(d:Option Addr):HO:=.ext fun h=>∃ o vs a0,h.get? x=some o/\o.cls=.ref C/\o.dict=d/\o.data=.fields vs/\vs[0]?=some a0/\vs[1]?=some .none
theorem K4{P:Program}{w:World}{H:Hp}{h:Heap}{x C:Addr}{d:Option Addr}(e:∃ o vs a0,h.get? x=some o/\o.cls=.ref C/\o.dict=d/\o.data=.fields vs/\vs[0]?=some a0/\vs[1]?=some .none):b5 P w H h x (excN x C d):=by
 refine⟨e,let ⟨o,_,_,q,_⟩:=e;⟨o,q⟩,fun h1 h2 ⟨o,vs,a0,q,r⟩ k=>⟨o,vs,a0,k o q,r⟩⟩
theorem Cv{h:Heap}{tl:List Value}(T:OwnTail h veM tl)(self:Value):refuseLoop self "__setattr__" tl=pure ():=by
 induction T with
 |base=>exact PySem.F.store_ValueError.passes self
 |own _ _ _ _ ih=>rw[refuseLoop_ref,ih]
structure ErS(K:P1)(C fI:Addr)(f:Str):Prop where
 ei:wH K C fI=true
 sa:Qm K (.ref C) "__setattr__" = some (some (.builtin "object.__setattr__"))
 na:Qm K (.ref C) f=some none
 hd:Q5 K C=true
section
variable{prog:Program}{w:World}{A:Around}{E:Value->Shared->Prop}{s:Shared}{K:P1}{x C fI:Addr}{name:Str}{v:Value}
theorem GJ{M:Model}{nameV:Value}{Q:Unit->Shared->Prop}(X:K.In s.heap)(I:lI x C s.heap)(e:wH K C fI=true)(hq:Q () s):wpAny M A (checkBuiltinCall "object.__setattr__" ⟨[.ref x,nameV,v],[]⟩) Q E s:=by
 obtain⟨hh,g,d,t,os⟩:=s
 obtain⟨bm,N,nm,qn,bs,hdct,sn,sub,ab,col,dd,k0,k1,k2,k3,k5,mN,hC,hN,hi,T⟩:=rM e X
 have SF:=Ti
 have ha:=SF.args (.ref x) nameV v
 obtain⟨o,hx,hc⟩:=I
 have hcB:(Value.ref C::bm).contains (.type "object")=true:=by rw[RJ,T.hasType (X:="object") (b:=true) rfl,Si]
 simp only[checkBuiltinCall,SF.kind,SF.split]
 refine wpAny_bind ?_
 ·unfold isInstance
  repeat (first | (with_reducible refine wpAny_loadPart_at hx ?_;rw[hc]) | (with_reducible refine wpAny_isSubtype_exc hC ?_;rw[hcB]) | wp_step)
  exact hq
theorem setE{Q:Unit->Shared->Prop}{o:Obj}(X:K.In s.heap)(hx:s.heap.get? x=some o)(hc:o.cls=.ref C)(hdn:o.dict=none)(hnc:∀ c,o.data≠.cls c)(e:ErS K C fI name)
  (hq:∀ h' tk',h'.get? x=some { o with dict:=some s.heap.objs.size }->h'.Ns1 s.heap.objs.size (fun y=>if y=name then some v else none)->(∀ b ob,b≠x->s.heap.get? b=some ob->h'.get? b=some ob)->Q () { s with heap:=h',toks:=tk' }) :
  wpAny (model prog w) A (setAttr (.ref x) name v) Q E s:=by
 obtain⟨h,g,d,t,os⟩:=s
 have I:lI x C h:=⟨o,hx,hc⟩
 obtain⟨bm,N,nm,qn,bs,hdct,sn,sub,ab,col,dd,k0,k1,k2,k3,k5,mN,hC,hN,hi,T⟩:=rM e.ei X
 have L0:=I.type (model prog w)
 have L1:=Rc (M:=model prog w) X e.sa
 have L2:=Rc (M:=model prog w) X e.na
 have SF:=Ti
 have hpass:=Cv T (.ref x)
 obtain⟨cd,hcl,hhd⟩:=SA e.hd
 have L3:=PySem.W.looks_clsIn (M:=model prog w) X hcl
 refine wpAny_bind (wpAny_mkText (wpAny_bind (wpAny_bind (wpAny_bind (L0 _ _ _ _ (fun _ _ e=>e) (L1 _ _ _ _ (fun _ _ e=>e) (wpAny_holding ?_)))))))
 rw[SF.slot.bind]
 refine wpAny_bind (wpAny_pure (wpAny_bind (wpAny_call (codeAny_call_builtin SF.slot.plain SF.entry (GJ (s:=⟨h,g,d,t+1,os⟩) X I e.ei ?_)))))
 unfold Builtin.«object.__setattr__»
 repeat (first | rw[refuse_eq] | (rw[refuseLoop_ref,hpass]) | with_reducible refine L0.at ?_ | with_reducible refine wpAny_mroOf_exc hC ?_ | with_reducible refine L2.at ?_ | wp_step)
 obtain⟨oc,odd,odt,osl⟩:=o
 have hc':oc=.ref C:=hc
 have hdn':odd=none:=hdn
 subst hc' hdn'
 dsimp only
 refine wpAny_bind (L3.at ?_)
 rw[hhd]
 have hx₁:(h.push { cls:=.type "dict",data:=.dict #[] }).get? x=some ⟨.ref C,none,odt,osl⟩:=Heap.get?_push_of_some _ hx
 have hxs:x≠h.objs.size:=QC (Heap.lt_size hx)
 rw[if_neg (by decide)]
 dsimp only
 rw[if_neg (by simp[typeHasDict])]
 have go:∀(Q':Option Addr->Shared->Prop)(E':Value->Shared->Prop),Q' (some h.objs.size) ⟨(h.push { cls:=.type "dict",data:=.dict #[] }).update x fun o=>{ cls:=o.cls,dict:=some h.objs.size,data:=o.data,slots:=o.slots },g,d,t+1,os⟩ ->
   wpAny (model prog w) A.in1 (do
    let d ← alloc { cls:=Value.type "dict",data:=Data.dict #[] }
    update x fun o=>{ cls:=o.cls,dict:=some d,data:=o.data,slots:=o.slots }
    dictMade (.ref C) x d) Q' E' ⟨h,g,d,t+1,os⟩:=fun Q' E' hq'=>wpAny_bind (wpAny_alloc' (wpAny_bind (wpAny_update' hx₁ (wpAny_pure hq'))))
 have hgd:((h.push { cls:=.type "dict",data:=.dict #[] }).update x fun o=>{ cls:=o.cls,dict:=some h.objs.size,data:=o.data,slots:=o.slots }).get? h.objs.size
   = some { cls:=.type "dict",data:=.dict #[] } :=
  (Heap.get?_update_ne _ _ _ _ hxs.symm).trans (Heap.get?_push_at rfl rfl)
 have hnd:((h.push { cls:=.type "dict",data:=.dict #[] }).update x fun o=>{ cls:=o.cls,dict:=some h.objs.size,data:=o.data,slots:=o.slots }).Ns h.objs.size (fun _=>none) :=
  ⟨_,#[],_,hgd,rfl,fun e he=>absurd he (by simp),fun _=>rfl⟩
 have fin:∀{E'},wpAny (model prog w) A.in1 (storeInDict h.objs.size (.str name t) name v)
   (fun fin s'=>match fin with | .done (.ret _)=>Q () s' | _=>False) E' ⟨(h.push { cls:=.type "dict",data:=.dict #[] }).update x fun o=>{ cls:=o.cls,dict:=some h.objs.size,data:=o.data,slots:=o.slots },g,d,t+1,os⟩:=by
  intro E'
  unfold storeInDict newKeyGuard
  refine wpAny_bind (wpAny_pure (wpAny_bind (wpAny_nsSet1 (Heap.Ns1.of_empty hnd) fun h' hn' hs=>?_)))
  obtain⟨oD,esD,epD,hoD,hdD,hcD⟩:=hn'.count (Within.cons name v Within.nil)
  refine wpAny_bind (wpAny_lookBehind hoD (by rw[hdD];exact pastItsLine_dict (QG hcD (by rw[Qz,SI,sizeLine_eq];omega))) ?_)
  refine wpAny_pure (hq h' _ ?_ hn' fun b ob hbx hb=>?_)
  ·refine(hs.2 x hxs).trans (Heap.get?_update_self _ hx₁ ?_)
   have hfr:=(Heap.get?_some_iff.mp hx).2
   cases odt<;>first | rfl | exact hfr
  ·exact(hs.2 b (QC (Heap.lt_size hb))).trans ((Heap.get?_update_ne _ _ _ _ hbx).trans (Heap.get?_push_of_some _ hb))
 have big:∀{E'},wpAny (model prog w) A.in1 (do
    let d ← alloc { cls:=Value.type "dict",data:=Data.dict #[] }
    update x fun o=>{ cls:=o.cls,dict:=some d,data:=o.data,slots:=o.slots }
    dictMade (.ref C) x d) (fun a s'=>a=some h.objs.size/\s'=⟨(h.push { cls:=.type "dict",data:=.dict #[] }).update x fun o=>{ cls:=o.cls,dict:=some h.objs.size,data:=o.data,slots:=o.slots },g,d,t+1,os⟩) E' ⟨h,g,d,t+1,os⟩:=go _ _ ⟨rfl,rfl⟩
 cases odt with
 |cls c=>exact absurd rfl (hnc c)
 |_ =>
  refine wpAny_mono big (fun a s' z=>?_) fun _ _ z=>z
  obtain⟨rfl,rfl⟩:=z
  refine wpAny_mono fin (fun f s' z=>?_) fun _ _ z=>z
  rcases f with(_ | _ | _ | _) | _<;>first | exact wpAny_pure (wpAny_pure z) | exact z.elim
end
section
variable{X:Cx}{pins:List (Addr×Obj)}{σ:St}{H:Hp}{s:Shared}{A:Around}{E:Value->Shared->Prop}{a C fI:Addr}{f:Str}
theorem CO{y:V}{u:Value}{Q:Unit->Shared->Prop}(I:Inv X pins σ H s)(hx:X.ex = [])(e:H a=some (excN a C none))(es:ErS X.K C fI f)(ry:RelV y u)
  (h:∀ s' d,H d=none->d≠a->Inv X pins σ (upd (upd H a (excN a C (some d))) d (.xd [(f,y)])) s'->Q () s'):wpAny (model X.prog X.w) A (setAttr (.ref a) f u) Q E s:=by
 obtain⟨⟨o,vs,a0,ho,hc,hd,hdt,h0,h1⟩,_,_⟩:=(show b5 X.prog X.w H s.heap a (excN a C none) from I.hok a _ e)
 refine setE I.kIn ho hc hd (fun c z=>by rw[hdt]at z;cases z) es fun h' tk' q1 q2 q3=>?_
 have dn:H s.heap.objs.size=none:=I.hok.fresh (P9 _)
 have dne:s.heap.objs.size≠a:=RQ (Heap.lt_size ho)
 have I1:Inv X pins σ (upd H a (excN a C (some s.heap.objs.size))) { s with heap:=h',toks:=tk' }:=I.write (x:=a) (e:=a) (by rw[e];exact True.intro) (.inl rfl) (fun b u n q=>q3 b u n q) ⟨_,q1⟩ (K4 ⟨_,vs,a0,q1,hc,rfl,hdt,h0,h1⟩)
 refine h _ _ dn dne (I1.xtrack (I.xok hx (Heap.get?_none_of_le (P9 _)) (by rw[ar dne];exact dn)) ⟨_,q2,fun g=>?_⟩)
 show RelO ([(f,y)].lookup g) (if g=f then some u else none)
 by_cases q:g=f
 ·subst q
  rw[if_pos rfl]
  simp only[RM,beq_self_eq_true]
  exact ry
 ·rw[if_neg q]
  have hb:(g == f)=false:=beq_eq_false_iff_ne.mpr q
  simp only[RM,hb]
  exact True.intro
def del(H:Hp)(x:Addr):Hp:=fun b=>if b=x then none else H b
theorem yM{x:Addr}:del H x x=none:=if_pos rfl
theorem nY{x b:Addr}(h:b≠x):del H x b=H b:=if_neg h
theorem Inv.untrk{φ:Heap->Prop}{x:Addr}(I:Inv X pins σ H s)(e:H x=some (.ext φ)):Inv X pins σ (del H x) s:=by
 have ne:∀{b:Addr}{u:HO},H b=some u->(∀ φ,u≠.ext φ)->b≠x:=fun{b u} q n z=>by
  rw[z,e]at q
  cases q
  exact n φ rfl
 refine I.step (h':=s.heap) (g':=s.gens) (t':=s.toks) (d':=s.drawn) (ch:=[]) (fun _ z=>nomatch z) (fun b o _ _ _ q _=>q) (fun b o _ _ _ q _=>⟨o.slots,q⟩) (fun b o _ _ n=>?_) (fun b o _ q=>⟨o,q⟩)
  (fun b xs q=>?_) (fun b o u q=>?_) (fun b ps q=>⟨#[],?_⟩) (fun m hm=>hm) (fun b u q=>?_) I.bare
 ·by_cases z:b=x
  ·rw[z];exact yM
  ·rw[nY z];exact n
 ·rw[nY (ne q fun _ z=>by cases z)];exact q
 ·rw[nY (ne q fun _ z=>by cases z)];exact q
 ·rw[nY (ne q fun _ z=>by cases z),q];simp
 ·by_cases z:b=x
  ·rw[z,yM]at q;cases q
  ·rw[nY z]at q
   refine(I.hok b u q).stay (fun c v _ q=>q) (fun c q=>?_) fun c xs q=>?_
   ·rw[nY (ne q fun _ z=>by cases z)];exact q
   ·rw[nY (ne q fun _ z=>by cases z)];exact q
def sFldE(K:P1)(fI:Addr)(ta tv:TE)(f:Str):TS:=fun D σ H=>tv σ H fun y H1=>ta σ H1 fun x H2=>∃ a C,x=.ref a/\H2 a=some (excN a C none)/\ErS K C fI f/\∀ d,H2 d=none->d≠a->D.nx σ (upd (upd H2 a (excN a C (some d))) d (.xd [(f,y)]))
theorem OC{o value:Expr}{ta tv:TE}{pos pos':Pos}(hx:X.ex = [])(ha:PE X o ta)(hv:PE X value tv)(hs:swapsWith value (some (.Attribute o f pos')) pos.line X.env=pure false):PS X (.Assign [.Attribute o f pos'] value pos) (sFldE X.K fI ta tv f):=by
 intro pins s σ H D I h
 refine plainObj_wpAny_Assign_Attribute (thn (hv pins s σ H _ I h) fun u s1 ⟨y,H1,I1,ry,q⟩=>thn (ha pins s1 σ H1 _ I1 q) fun ov s2 ⟨x,H2,I2,rx,a,C,ex,ea,es,q2⟩=>?_) hs
 subst ex
 obtain rfl:ov=Value.ref a:=rx
 exact CO I2 hx ea es ry fun s3 d dn dne I3=>⟨σ,_,I3,q2 d dn dne⟩
theorem getE{b:Bool}{od o:Obj}{v:Value}{Q:Value->Shared->Prop}(XX:X.K.In s.heap)(J:PySem.W.InstAt s.heap a o C (some od))(ec:ErC X.K C)(na:Qm X.K (.ref C) f=some none)(hl:Sk f od=some (some v))(hv:S3 v=true)
  (h:Q v { s with toks:=s.toks+1 }):wpAny (model X.prog X.w) A (getAttr (.ref a) f b) Q E s:=by
 obtain⟨hh,g,d,t,os⟩:=s
 have I:lI a C hh:=⟨o,J.at_,J.cls⟩
 have L0:=I.type (model X.prog X.w)
 have L1:=Rc (M:=model X.prog X.w) XX ec.ga
 have L3:=Rc (M:=model X.prog X.w) XX ec.gt
 have LF:=PySem.W.looks_find (M:=model X.prog X.w) XX J (PySem.W.findObj_own ec.hd na rfl hl)
 have f3:=F.excAttr_ValueError.ga.bind (.ref a)
 unfold getAttr getAttrBy
 refine wpAny_bind (wpAny_mkText (wpAny_holding (wpAny_bind (L0.at (wpAny_bind (L1.at ?_))))))
 show wpAny _ _ (getAttrByItsOwn _ _ _ _ _ _) _ _ _
 unfold getAttrByItsOwn
 refine wpAny_bind (show wpAny _ _ (typeLookup _ _) _ _ _ from L3.at ?_)
 refine wpAny_bind (wpAny_attempt (wpAny_holding ?_))
 have hcg:callGetattribute (.ref a) (.str f t) (.builtin "BaseException.__getattribute__") b=boundAndCalled (.builtin "BaseException.__getattribute__") (.ref a) (.str f t):=by cases b<;>rfl
 show wpAny _ _ (callGetattribute _ _ _ _) _ _ _
 rw[hcg]
 unfold boundAndCalled
 rw[f3]
 refine wpAny_bind (wpAny_pure ?_)
 refine wpAny_call (codeAny_call_builtin F.excAttr_ValueError.ga.plain F.entry_bexc_ga (F0 (s:=⟨hh,g,d,t+1,os⟩) XX I ec ?_))
 unfold Builtin.«object.__getattribute__»
 repeat (first | assumption | with_reducible refine L0.at ?_ | with_reducible refine LF.at ?_ | wp_step)
 exact PySem.W.handed_on hv h
theorem Ep{b:Bool}{v:V}{d:Addr}{fs:List (Str×V)}{Q:Value->Shared->Prop}(I:Inv X pins σ H s)(e:H a=some (excD a C (some d)))(ec:ErC X.K C)(na:Qm X.K (.ref C) f=some none)(ed:H d=some (.xd fs))(l:fs.lookup f=some v)
  (h:∀ u s',Inv X pins σ H s'->RelV v u->Q u s'):wpAny (model X.prog X.w) A (getAttr (.ref a) f b) Q E s:=by
 obtain⟨⟨o,ho,hc,hd,hn⟩,_,_⟩:=(show b5 X.prog X.w H s.heap a (excD a C (some d)) from I.hok a _ e)
 obtain⟨mA,N1,r⟩:=(show b5 X.prog X.w H s.heap d (.xd fs) from I.hok d _ ed)
 obtain⟨u,hu,ru⟩:=RelO.some_of (v:=v) (o:=mA f) (by rw[← l];exact r f)
 obtain⟨od,hod,hl⟩:=AM N1
 refine getE (o:=o) (od:=od) I.kIn ⟨ho,hc,hn,by rw[hd];exact hod⟩ ec na (by rw[hl,hu]) (Be ru) (h u _ (I.tok _) ru)
def tFldE(K:P1)(ta:TE)(f:Str):TE:=fun σ H Q=>ta σ H fun x H1=>∃ a C d fs v,x=.ref a/\H1 a=some (excD a C (some d))/\ErC K C/\Qm K (.ref C) f=some none/\H1 d=some (.xd fs)/\fs.lookup f=some v/\Q v H1
theorem OH{e:Expr}{ta:TE}{pos:Pos}(he:PE X e ta)(hb:attributeBase e f X.env (eval e X.env)=eval e X.env):PE X (.Attribute e f pos) (tFldE X.K ta f):=by
 intro pins s σ H Q I h
 refine LL hb (thn (he pins s σ H _ I h) fun u s1 ⟨x,H1,I1,rx,a,C,d,fs,v,ex,ea,ec,na,ed,l,q⟩=>?_)
 subst ex
 obtain rfl:u=Value.ref a:=rx
 exact Ep I1 ea ec na ed l fun u' s2 I2 ru=>⟨v,H1,I2,ru,q⟩
end
section
variable{prog:Program}{w:World}{A:Around}{E:Value->Shared->Prop}{s:Shared}{env:Env}
variable{nm q:Str}{C N:Addr}{bs bm bmB:List Value}{hdct:Bool}{sn:List Str}{sub:List Value}{ab:Bool}{col:Option Bool}{dd:Option Addr}{k0 k1 k2 k3 k5:Option Value}{B newId initId:String}
theorem su(F:ExcBaseFacts B newId initId bmB){mN:Str->Option Value}{fI:Addr}{x:Str}{np cpos pos:Pos}{args:List Expr}{Q:Flow->Shared->Prop}
  (hbase:bm.contains (.type "BaseException")=true) (hh:A.handled=none) (hplain:(backTo cpos (starEach args env)).any (·.1)=false) (hi:mN "__init__" = some (.ref fI))
  (h:wpAny (model prog w) A (eval (.Name x np) env) (fun f s₁=>f=.ref C/\wpAny (model prog w) A (evalArgs (.ref C) true (backTo cpos (starEach args env)) [])
   (fun a s₂=>a.kw = []/\a.pos.length<=sizeLine/\s₂.heap.get? C=some (excClassObj nm q C N bs bm hdct sn sub ab col dd k0 k1 k2 k3 k5 newId)/\s₂.heap.Ns N mN/\OwnTail s₂.heap bmB bm/\(∃ oI,s₂.heap.get? fI=some oI/\oI.cls=.type "function") /\
    ∀ h' e,Heap.MadeExcOf s₂.heap h' e (.ref C) a.pos->wpAny (model prog w) (A.under (.builtin "type.__call__" ⟨.ref C::a.pos,[]⟩)) (call (.ref fI) (.ref e::a.pos)) (fun r s'=>r=.none/\∃ oe,s'.heap.get? C=some (excClassObj nm q C N bs bm hdct sn sub ab col dd k0 k1 k2 k3 k5 newId) /\
     s'.heap.get? e=some oe/\oe.cls=.ref C/\(∃ vs,oe.data=.fields vs/\vs[1]?=some .none)/\E (.ref e) s') E { s₂ with heap:=h' }) E s₁) E s) :
  wpAny (model prog w) A (exec (.Raise (some (.Call (.Name x np) args [] cpos)) none pos) env) Q E s:=by
 rw[arm_exec_Raise]
 first
  |refine wpAny_bind (wpAny_standAt (oM (C:=C) (nm:=nm) (q:=q) (N:=N) (bs:=bs) (bm:=bm) (hdct:=hdct) (sn:=sn) (sub:=sub) (ab:=ab) (col:=col) (dd:=dd) (k0:=k0) (k1:=k1) (k2:=k2) (k3:=k3) (k5:=k5) (newId:=newId) hbase hh (wpAny_bind (wpAny_mono (wpAny_Call_ofName (wpAny_mono h (fun f s₁ h₁=>?_) fun _ _ x=>x)) (fun v s₃ h₃=>wpAny_bind (wpAny_standAt (wpAny_pure h₃))) fun _ _ x=>x))))
  | (simp only[evalOpt,Option.map];refine wpAny_bind (wpAny_standAt (oM (C:=C) (nm:=nm) (q:=q) (N:=N) (bs:=bs) (bm:=bm) (hdct:=hdct) (sn:=sn) (sub:=sub) (ab:=ab) (col:=col) (dd:=dd) (k0:=k0) (k1:=k1) (k2:=k2) (k3:=k3) (k5:=k5) (newId:=newId) hbase hh (wpAny_bind (wpAny_mono (wpAny_Call_ofName (wpAny_mono h (fun f s₁ h₁=>?_) fun _ _ x=>x)) (fun v s₃ h₃=>wpAny_bind (wpAny_standAt (wpAny_pure h₃))) fun _ _ x=>x)))))
  | (refine wpAny_bind (wpAny_standAt (oM (C:=C) (nm:=nm) (q:=q) (N:=N) (bs:=bs) (bm:=bm) (hdct:=hdct) (sn:=sn) (sub:=sub) (ab:=ab) (col:=col) (dd:=dd) (k0:=k0) (k1:=k1) (k2:=k2) (k3:=k3) (k5:=k5) (newId:=newId) hbase hh ?_));refine wpAny_bind (wpAny_mono (wpAny_Call_ofName (wpAny_mono h (fun f s₁ h₁=>?_) fun _ _ x=>x)) (fun v s₃ h₃=>wpAny_bind (wpAny_standAt (wpAny_pure h₃))) fun _ _ x=>x))
 obtain⟨rfl,h₁⟩:=h₁
 unfold callWith
 refine wpAny_bind (wpAny_holding (wpAny_mono h₁ (fun a s₂ h₂=>wpAny_bind (wpAny_standAt ?_)) fun _ _ x=>x))
 obtain⟨apos,akw⟩:=a
 obtain⟨hkw,hlen,hC,hn,T,⟨oI,hfI,hfc⟩,h₂⟩:=h₂
 obtain rfl:akw = []:=hkw
 obtain⟨hp,g,d,tk,os⟩:=s₂
 simp only[hplain]
 refine wpAny_bind (wpAny_keeperOf_exc hC ?_)
 refine wpAny_bind (Ir F T hC hn hi hfI hfc (fun h' e hm=>wpAny_mono (h₂ h' e hm) (fun r s' hr=>?_) fun _ _ z=>z) hlen)
 obtain⟨rfl,oe,a1,a2,a3,a4,a5⟩:=hr
 exact⟨rfl,wpAny_bind (wpAny_holding (wpAny_point (wpAny_pure ⟨e,oe,rfl,a1,a2,a3,a4,a5⟩)))⟩
end
def Ob(C:Addr)(sp:Sp)(W:WKD)(t:TA):TS:=fun _ σ H=>t σ H fun vs H1=>vs.length<=sizeLine/\∀ x,H1 x=none->sp (.ref x::vs) (upd H1 x (excN x C none)) (fun v H2=>v=.non/\∃ d,H2 x=some (excN x C d)/\W (.ref C) d σ (del H2 x)) E0
theorem sv{X:Cx}{k:Nat}{x f:Str}{C fI:Addr}{fd:FuncData}{ps:List Str}{sp:Sp}{e:Expr}{es:List Expr}{t:TA}{W:WKD}{np cpos pos:Pos}(er:ErS X.K C fI f)(hfn:Rg X.K (.ref fI)=true)(F:FnOk X.prog X.w X.K X.mg X.base CX0 k fI fd ps sp)(hb:gT X.K fd ps [])(hr:Room (k+1) X.A)
  (hm:X.mg x=some (.ref C)) (hg:Gl X x) (ws:WshD X W) (hx:X.ex = []) (hc:X.calm=true) (ha:PA X (e::es) t)
  (he:starEach (e::es) X.env=(false,eval e X.env)::starEach es X.env:=by rfl) (hpl:(backTo cpos (starEach es X.env)).any (·.1)=false:=by rfl) (hdb:(x == ("__debug__" : Str))=false:=by decide) :
  PS X (.Raise (some (.Call (.Name x np) (e::es) [] cpos)) none pos) (Ob C sp W t):=by
 intro pins s σ H D I h
 obtain⟨tl,N,nm,qn,bs,hdct,sn,sub,ab,col,dd,k0,k1,k2,k3,k5,mN,hC,hN,hi,T⟩:=rM er.ei I.ok.mod.kin
 have hpl2:(backTo cpos (starEach (e::es) X.env)).any (·.1)=false:=by
  rw[he]
  show(false||(backTo cpos (starEach es X.env)).any (·.1))=false
  rw[hpl];rfl
 obtain⟨oI,hoI,hcI⟩:=QJ.mp (show PySem.W.typeIn X.K (.ref fI)=some (.type "function") from beq_iff_eq.mp hfn)
 refine su (C:=C) (nm:=nm) (q:=qn) (N:=N) (bs:=bs) (bm:=tl) (hdct:=hdct) (sn:=sn) (sub:=sub) (ab:=ab) (col:=col) (dd:=dd) (k0:=k0) (k1:=k1) (k2:=k2) (k3:=k3) (k5:=k5) RO (mN:=mN) (T.hasType RO.hasBase) (I.ok.hd hc) hpl2 hi (mq I hg hm ⟨rfl,?_⟩ hdb)
 have z:=ha cpos pins s σ H _ I h
 rw[he]at z ⊢
 refine Calls.evalArgs_plain (wpAny_mono z (fun us s2 zz=>?_) fun _ _ y=>y)
 obtain⟨vs,H1,I2,r,hz,q⟩:=zz
 refine⟨rfl,by rw[← r.length];exact hz,I2.bk _ _ hC,hN.keeps I2.bk,T.keeps I2.bk,⟨oI,I2.kIn _ _ hoI,hcI⟩,fun h' e' hme=>?_⟩
 obtain⟨t0,ht0,_,_⟩:=hme.there
 have I3:Inv X pins σ H1 { s2 with heap:=h' }:=I2.kept (t':=s2.toks) hme.keeps
 have xn:H1 e'=none:=I2.hok.none_of hme.new
 have xo:XOk X pins H1 e':=I2.xok hx hme.new xn
 have I4:Inv X pins σ (upd H1 e' (excN e' C none)) { s2 with heap:=h' }:=I3.xtrack xo (K4 ⟨_,_,_,ht0,rfl,rfl,rfl,rfl,rfl⟩)
 have hq:=q e' xn
 have r2:Vals (V.ref e'::vs) (Value.ref e'::us):=.cons rfl r
 have hl:(Value.ref e'::us++[]).length=ps.length:=by
  have e:=r2.length
  rw[F.len _ _ _ _ hq]at e
  rw[Rl]
  exact e.symm
 have hbb:=hb { s2 with heap:=h' } (Value.ref e'::us) I4.kIn hl
 rw[Rl]at hbb
 refine wpAny_call (codeAny_mono (F.run _ X.stack _ _ ⟨Value.ref e'::us,[]⟩ (Value.ref e'::us) _ _ _ (hr.make C us []) (I4.env0.make C us []) hbb r2 hq) fun r s' hq'=>?_)
 cases r with
 |error e=>exact(aN (X:=X) pins σ _ _ e s' I4 hq')
 |ok fl =>
  cases fl with
  |ret u =>
   obtain⟨v,H',I5,rv,ev,d,hxd,w5⟩:=I4.after hq'
   subst ev
   obtain⟨⟨o,vs2,a0,ho,hcl,hdd,hdt,h0,h1⟩,_,_⟩:=(show b5 X.prog X.w H' s'.heap e' (excN e' C d) from I5.hok e' _ hxd)
   refine⟨rv,o,I5.bk _ _ hC,ho,hcl,⟨vs2,hdt,h1⟩,?_⟩
   exact ws pins σ (del H' e') s' e' (.ref C) d (I5.untrk hxd) ⟨⟨xo.old,yM,xo.nl,xo.nc,xo.np⟩,.inl ⟨o,vs2,a0,ho,hcl,hdt,h0,h1⟩⟩ ⟨o,ho,hdd⟩ w5
  |next=>exact False.elim hq'
  |brk=>exact False.elim hq'
  |cont=>exact False.elim hq'
theorem Lr{X:Cx}:jy X (.builtin "isinstance") (fun xs H Q=>∃ x c dx d b,xs = [.ref x,.ref d]/\H x=some (excD x c dx)/\ErC X.K c/\Rb X.K (.ref c) (.ref d)=some b/\Q (.bl b) H):=by
 intro pins s σ H xs us Q I r h
 obtain⟨x,c,dx,d,b,rfl,hx,ec,ek,q⟩:=h
 obtain⟨v1,v2,rfl,r1,r2⟩:=N8 r
 cases r1
 cases r2
 obtain⟨⟨o,p1,p2,_⟩,_,_⟩:=(show b5 X.prog X.w H s.heap x (excD x c dx) from I.hok x _ hx)
 exact PySem.W.kia_one (FY ec) I.kIn ⟨o,p1,p2⟩ ek (fun z=>nomatch z) fun tk=>⟨.bl b,H,I.tok tk,rfl,q⟩
theorem Ip{X:Cx}:jy X (.builtin "isinstance") (fun xs H Q=>∃ x c dx T b,xs = [.ref x,.ty T]/\H x=some (excD x c dx)/\ErC X.K c/\Rb X.K (.ref c) (.type T)=some b/\Q (.bl b) H):=by
 intro pins s σ H xs us Q I r h
 obtain⟨x,c,dx,T,b,rfl,hx,ec,ek,q⟩:=h
 obtain⟨v1,v2,rfl,r1,r2⟩:=N8 r
 cases r1
 cases r2
 obtain⟨⟨o,p1,p2,_⟩,_,_⟩:=(show b5 X.prog X.w H s.heap x (excD x c dx) from I.hok x _ hx)
 exact PySem.W.kia_one (FY ec) I.kIn ⟨o,p1,p2⟩ ek (fun z=>nomatch z) fun tk=>⟨.bl b,H,I.tok tk,rfl,q⟩
end L2
namespace L2
open PySem PySem.Spec PyProof.Rows
end L2
namespace L2
open PySem PySem.Spec PyProof.Rows
def PnX(X:Cx):Prop:=∀ b∈X.ex,∃ o,(b,o)∈X.pn
section
variable{X:Cx}{pins:List (Addr×Obj)}{σ:St}{H H':Hp}{s s':Shared}{b:Addr}
theorem Inv.xokP(I:Inv X pins σ H s)(hx:PnX X)(e:s.heap.get? b=none)(n:H' b=none):XOk X pins H' b:=by
 refine⟨?_,n,fun z=>?_,fun x c q z=>?_,fun p hp z=>?_⟩
 ·cases q:X.s₀.heap.get? b with
  |none=>rfl
  |some o =>
   obtain⟨o',e'⟩:=I.base.there b o q fun z=>by
    obtain⟨o1,h1⟩:=hx b z
    have:=(I.pin (b,o1) (QF _ h1)).1
    rw[e]at this
    cases this
   rw[e]at e'
   cases e'
 ·obtain⟨m,⟨o,_,_,ho,_⟩,_⟩:=I.loc
  rw[z,ho]at e
  cases e
 ·obtain⟨v,o,ho,_⟩:=I.cell x c q
  rw[z,e]at ho
  cases ho
 ·have:=(I.pin p hp).1
  rw[z,e]at this
  cases this
end
section
variable{M:Model}{A:Around}{E:Value->Shared->Prop}{s:Shared}
end
section
variable{X:Cx}{pins:List (Addr×Obj)}{σ:St}{H:Hp}{s:Shared}{x T:Addr}{C:Value}{E:Value->Shared->Prop}
end
section
variable{X:Cx}{k:Nat}{f:Addr}{fd:FuncData}{ps:List Str}{sp:Sp}{dvs:List V}{ds:List Value}{W:WKD}{x:Str}{p pos:Pos}{e:Expr}{es:List Expr}{t:TA}
end
section
variable{X:Cx}{pins:List (Addr×Obj)}{σ:St}{H:Hp}{s:Shared}{x T L:Addr}{C:Value}{d:Option Addr}{R:Value->Shared->Prop}{fenv cenv:Env}{outer:List Env}
end
section
variable{X:Cx}{scope:Scope}{fr:List (Str×Nat)}{xs:List Str}{elt iter tg:Expr}{ifs:List Expr}{pos:Pos}{tt:TT}{tgt:TG}{wi:TI}
end
end L2
namespace L2
open PySem PySem.Spec PyProof.Rows
theorem LZ{X:Cx}{W:WKD}(ws:WshD X W):IL X W:=fun pins σ H s x T C d I x1 xT tr z hw=>ws pins σ H s x C d I ⟨x1,.inr ⟨T,xT,tr⟩⟩ z hw
theorem C5{X:Cx}(h:X.ex = []):PnX X:=fun b hb=>by rw[h]at hb;cases hb
section
variable{X:Cx}{k:Nat}{f C:Addr}{fd:FuncData}{ps:List Str}{sp:Sp}{dvs:List V}{ds:List Value}{W:WKD}{x m:Str}{p pos apos:Pos}{e o:Expr}{es:List Expr}{ta:TE}{t:TA}
theorem Ox{pins:List (Addr×Obj)}{σ:St}{H:Hp}{s:Shared}{Q:VK}{us:List Value}{vs:List V}(F:FnOk X.prog X.w X.K X.mg X.base (CXd X.prog X.w) k f fd ps sp)(hr:Room k X.A)(hb:gT X.K fd ps ds)(hd:Vals dvs ds)(ws:IL X W)(hx:PnX X)
  (I:Inv X pins σ H s) (r:Vals vs us) (h:sp (vs++dvs) H Q (fun C d H'=>W C d σ H')):wpAny (model X.prog X.w) X.A (call (.ref f) us) (EP X pins σ Q) X.xe s:=by
 have r2:Vals (vs++dvs) (us++ds):=r.append hd
 have hl:(us++ds).length=ps.length:=by rw[← r2.length];exact F.len _ _ _ _ h
 refine wpAny_call (codeAny_mono (F.run X.A X.stack s H ⟨us,[]⟩ (us++ds) (vs++dvs) Q _ hr I.env0 (hb s us I.kIn hl) r2 h) fun r s' hq=>?_)
 cases r with
 |error e =>
  obtain⟨x,C,T,H',d,rfl,os,bare,un,hok,nx,nT,tx,tT,tr,z,q'⟩:=hq
  have I':Inv X pins σ H' s':=I.call' os un hok bare fun b z=>absurd z (by simp)
  exact ws pins σ H' s' x T C d I' (I.xokP hx nx tx) (I.xokP hx nT tT) tr z q'
 |ok fl =>
  cases fl with
  |ret u=>exact I.after hq
  |next=>exact False.elim hq
  |brk=>exact False.elim hq
  |cont=>exact False.elim hq
def tMethD(C:Addr)(m:Str)(sp:Sp)(dvs:List V)(W:WKD)(ta:TE)(t:TA):TE:=fun σ H Q=>ta σ H fun x H1=>∃ a dx fs,x=.ref a/\H1 a=some (.ins C dx fs)/\fs.lookup m=none /\
 t σ H1 fun vs H2=>sp (x::(vs++dvs)) H2 Q fun C d H'=>W C d σ H'
theorem Mo{pl:Sem Bool}(he:PE X o ta)(c:Cls X.K C)(hm:Meth X.K C m f)(F:FnOk X.prog X.w X.K X.mg X.base (CXd X.prog X.w) k f fd ps sp)(hr:Room k X.A)(hb:gT X.K fd ps ds)(hd:Vals dvs ds)(ws:IL X W)(hx:PnX X)(ha:PA X (e::es) t)
  (hst:starEach (e::es) X.env=(false,eval e X.env)::starEach es X.env:=by rfl) (hpl:(backTo pos (starEach es X.env)).any (·.1)=false:=by rfl)
  (ht:eval (.Call (.Attribute o m apos) (e::es) [] pos) X.env=(do
   let ov ← eval o X.env
   standAt apos.atName
   let (f,first) ← holding [ov] (getMethod ov m pl)
   callWith pos f first (backTo pos (starEach (e::es) X.env)) (backToKw pos (keywordEach [] X.env))):=by rfl) :
  PE X (.Call (.Attribute o m apos) (e::es) [] pos) (tMethD C m sp dvs W ta t):=by
 intro pins s σ H Q I h
 refine PySem.W.methodCall_KW (pl:=pl) (thn (he pins s σ H _ I h) fun u s1 ⟨x,H1,I1,rx,a,dx,fs,ex,ea,l,q⟩=>?_) ht
 subst ex
 obtain rfl:u=Value.ref a:=rx
 refine wG I1 ea c hm l ?_
 refine RT (first:=[.ref a]) (h₀:=X.base) I.ok.mod.kin hm.kp (thn (ha pos pins s1 σ H1 _ I1 q) fun us s2 ⟨vs,H2,I2,r,q2⟩=>⟨I2.kIn,?_⟩) hst hpl
 exact Ox (us:=.ref a::us) (vs:=.ref a::vs) F hr hb hd ws hx I2 (.cons rfl r) q2
def tMakeD(C:Addr)(sp:Sp)(dvs:List V)(W:WKD)(t:TA):TE:=fun σ H Q=>t σ H fun vs H1=>∀ x dx,H1 x=none->H1 dx=none->dx≠x ->
 sp (.ref x::(vs++dvs)) (upd (upd H1 dx (.own x)) x (.ins C dx [])) (fun v H2=>v=.non/\Q (.ref x) H2) fun C d H'=>W C d σ H'
theorem FI(M:Mk X.K C f)(F:FnOk X.prog X.w X.K X.mg X.base (CXd X.prog X.w) k f fd ps sp)(hr:Room (k+1) X.A)(hg:Gl X x)(hm:X.mg x=some (.ref C))(hb:gT X.K fd ps ds)(hd:Vals dvs ds)(ws:IL X W)(hx:PnX X)
  (ha:PA X (e::es) t) (hdb:(x == ("__debug__" : Str))=false:=by decide) (he:starEach (e::es) X.env=(false,eval e X.env)::starEach es X.env:=by rfl) (hpl:(backTo pos (starEach es X.env)).any (·.1)=false:=by rfl) :
  PE X (.Call (.Name x p) (e::es) [] pos) (tMakeD C sp dvs W t):=by
 intro pins s σ H Q I h
 refine wpAny_Call_Name_kw (mq I hg hm ?_ hdb)
 refine RT (h₀:=X.base) I.ok.mod.kin M.kp (thn (ha pos pins s σ H _ I h) fun us s1 ⟨vs,H1,I1,r,q⟩=>⟨I1.kIn,?_⟩) he hpl
 have hq:=q (s1.heap.objs.size+1) s1.heap.objs.size (I1.hok.fresh (RF _)) (I1.hok.fresh (P9 _)) (QC (RH _))
 have I2:=Inv.made (C:=C) I1
 have r2:Vals (V.ref (s1.heap.objs.size+1)::(vs++dvs)) (Value.ref (s1.heap.objs.size+1)::(us++ds)):=.cons rfl (r.append hd)
 have hl:(Value.ref (s1.heap.objs.size+1)::us++ds).length=ps.length:=by
  have e:=r2.length
  rw[F.len _ _ _ _ hq]at e
  exact e.symm
 refine wpAny_call (FW (f:=f) I1.kIn M.makes M.init (beq_iff_eq.mp M.fn) (codeAny_mono (F.run _ X.stack _ _ ⟨Value.ref (s1.heap.objs.size+1)::us,[]⟩ (Value.ref (s1.heap.objs.size+1)::(us++ds)) _ _ _ (hr.make C us [])
  (I2.env0.make C us []) (hb _ (Value.ref (s1.heap.objs.size+1)::us) I2.kIn hl) r2 hq) fun r s' hq'=>?_))
 cases r with
 |error e =>
  obtain⟨x,C,T,H',d,rfl,os,bare,un,hok,nx,nT,tx,tT,tr,z,q'⟩:=hq'
  have I':Inv X pins σ H' s':=I2.call' os un hok bare fun b z=>absurd z (by simp)
  exact ws pins σ H' s' x T C d I' (I2.xokP hx nx tx) (I2.xokP hx nT tT) tr z q'
 |ok fl =>
  cases fl with
  |ret u =>
   obtain⟨v,H',I3,rv,ev,q3⟩:=I2.after hq'
   subst ev
   exact⟨rv,⟨V.ref (s1.heap.objs.size+1),H',I3,rfl,q3⟩⟩
  |next=>exact False.elim hq'
  |brk=>exact False.elim hq'
  |cont=>exact False.elim hq'
end
section
variable{M:Model}{A:Around}{E:Value->Shared->Prop}{h:Heap}{g:Array GenState}{d:Drawn}{t:Nat}{os:OsState}
theorem Et{C D:Addr}{nm2 qn2:Str}{N2:Addr}{bs2 bm2:List Value}{hdct2:Bool}{sn2:List Str}{sub2:List Value}{ab2:Bool}{col2:Option Bool}{dd2:Option Addr}{j0 j1 j2 j3 j5:Option Value}{id2:String}{x:Addr}{ob:Obj}{b:Bool}{Q:Bool->Shared->Prop}
  (hD:h.get? D=some (excClassObj nm2 qn2 D N2 bs2 bm2 hdct2 sn2 sub2 ab2 col2 dd2 j0 j1 j2 j3 j5 id2)) (hob:h.get? x=some ob) (hcl:ob.cls=.ref C)
  (hDB:(Value.ref D::bm2).contains (.type "BaseException")=true) (lk:Sa M h (isSubtype (.ref C) (.ref D)) b) (hq:Q b ⟨h,g,d,t,os⟩):wpAny M A (excMatches (.ref x) (.ref D)) Q E ⟨h,g,d,t,os⟩:=by
 have ntup:=tc_notTuple
 cases b
 all_goals
  unfold excMatches
  repeat (first | (with_reducible refine wpAny_loadPart_at hob ?_;rw[hcl]) | with_reducible refine wpAny_loadPart_at hD ?_ | (with_reducible refine wpAny_isSubtype_exc hD ?_;rw[hDB]) | with_reducible refine lk.at ?_ | wp_step)
  exact hq
end
def tTryD2(ie:Nat)(Cs Cs2:Addr->Prop)(tb:WKD->TS)(ts ts2:TS):TS:=fun Ds σ H=>tb (fun C d σ1 H1=>∃ c,C=.ref c/\((Cs c/\∀ x,H1 x=none->ts { nx:=fun σ2 H2=>Ds.nx (σ2.set ie none) H2,rt:=fun _ _=>False } (σ1.set ie (some (.ref x))) (upd H1 x (excD x c d)))∨(Cs2 c/\ts2 { nx:=Ds.nx,rt:=fun _ _=>False } σ1 H1))) Ds σ H
theorem OB{X:Cx}{body:List Stmt}{b0:Stmt}{suite:List Stmt}{dn en:Str}{np hpos pos:Pos}{D:Addr}{ie:Nat}{Cs Cs2:Addr->Prop}{tb:WKD->TS}{ts ts2:TS}{dn2:Str}{np2 hpos2:Pos}{b2:Stmt}{suite2:List Stmt}{D2:Addr}(hx:X.ex = [])(hst:X.stack=X.env::X.outer)(hfr:X.env.frame=some X.env.locals)(hN:X.N.Nodup)(hi:X.N[ie]?=some en)(hl:X.env.kindOf en=some .local)
  (hgD:Gl X dn) (hmD:X.mg dn=some (.ref D)) {fI:Addr} (eD:wH X.K D fI=true) (hCs:∀ c,Cs c->QR X.K c (.ref D)=some true) (hgD2:Gl X dn2) (hmD2:X.mg dn2=some (.ref D2)) (eD2:ExC X.K D2) (hCs2:∀ c,Cs2 c->QR X.K c (.ref D)=some false/\QR X.K c (.ref D2)=some true)
  (hb:∀ pins XE W,IL (X.tried pins XE) W->PSs (X.tried pins XE) body (tb W)) (hs:∀ v,PSs (X.marked v) (b0::suite) ts) (hs2:∀ v,PSs (X.marked v) (b2::suite2) ts2) (hdb2:(dn2 == ("__debug__" : Str))=false:=by decide) (hdb:(dn == ("__debug__" : Str))=false:=by decide) :
  PS X (.Try body [.ExceptHandler (some (.Name dn np)) (some en) (b0::suite) hpos,.ExceptHandler (some (.Name dn2 np2)) none (b2::suite2) hpos2] [] [] pos) (tTryD2 ie Cs Cs2 tb ts ts2):=by
 intro pins s σ H Ds I h
 refine wpAny_Try_except ?_
 refine wpAny_mono (hb pins (fun e s₁=>wpAny (model X.prog X.w) X.A (noteFrame e X.env) (fun _ s₂=>wpAny (model X.prog X.w) X.A (setFlight e none) (fun _ s₃=>wpAny (model X.prog X.w) X.A (handleBy e X.env [.ExceptHandler (some (.Name dn np)) (some en) (b0::suite) hpos,.ExceptHandler (some (.Name dn2 np2)) none (b2::suite2) hpos2]) (SP X pins Ds) X.xe s₃) X.xe s₂) X.xe s₁) _ ?_ [] s σ H Ds I.tried h) (fun f s1 q=>?_) fun _ _ z=>z
 ·intro pins' σ1 H1 s1 x T C d I1 xx xT tr zd hw
  obtain⟨c,rfl,hcc⟩:=hw
  have I2:Inv X pins σ1 H1 s1:=I1.untried
  have x2:XOk X pins H1 x:=xx.untried
  have T2:XOk X pins H1 T:=xT.untried
  have frm:X.A.frames=some (X.env::X.outer):=by rw[← hst];exact I2.ok.frames
  have fly:∀{h:Heap}{T:Addr},Inv X pins σ1 H1 { s1 with heap:=h }->Trc h x (.ref c) T->∃ a0,Heap.FlyingW (hidX X h [x,T]) (X.env::X.outer) x (.ref c) a0 h:=fun{h T} J tr=>by
   obtain⟨oe,vs,a0,oT,ts,he,hcl,h0,hd,h1,hTe,hT,hdT,h3⟩:=tr
   exact⟨a0,F4 _ _,iX (by simp),hst▸J.hidF [x,T],⟨oe,vs,T,oT,ts,he,⟨hcl,h0⟩,hd,h1,iX (by simp),hTe,hT,hdT,h3⟩⟩
  have two:∀{T:Addr},XOk X pins H1 T->∀ b∈[x,T],XOk X pins H1 b:=fun{T} hT b hb=>by
   rcases P8.mp hb with e | hb
   ·rw[e];exact x2
   ·have e:b=T:=by simpa using hb
    rw[e];exact hT
  obtain⟨a0,fl⟩:=fly (h:=s1.heap) I2 tr
  refine wpAny_mono (ij (fV _ _) (wpAny_looks_onW (Q:=fun _ s'=>∃ h4,s'={ s1 with heap:=h4 }/\Heap.HeldW (hidX X s1.heap [x,T]) (X.env::X.outer) x (.ref c) a0 X.env.locals h4/\s1.heap.UpToSlots h4) (E:=fun _ _=>False) frm hfr fl fun h4 a b=>⟨h4,rfl,a,b⟩)) ?_ (fun _ _ q=>q.1.elim)
  rintro _ s4 ⟨⟨h4,rfl,held4,up4⟩,dk4⟩
  refine wpAny_mono (ij (ck _ _) (wpAny_landsW (Q:=fun _ s'=>∃ h5,s'={ s1 with heap:=h5 }/\Heap.FlyingW (hidX X s1.heap [x,T]) (X.env::X.outer) x (.ref c) a0 h5/\h4.UpToSlots h5) (E:=fun _ _=>False) held4 fun h5 a b=>⟨h5,rfl,a,b⟩)) ?_ (fun _ _ q=>q.1.elim)
  rintro _ s5 ⟨⟨h5,rfl,fl5,up5⟩,dk5⟩
  obtain⟨I5,T5,xT5,tr5⟩:=I2.left hx (two T2) fl5.1 fl5.2.2.2 (up4.trans up5)
  have z5:Xd h5 x d:=zd.dk (DK.trans (b:=h4) dk4 dk5) tr5.there
  refine wpAny_handleBy_cons (codeAny_handlers_test (Calls.Name_function_global I5.ok.kind hgD (Calls.loadGlobal_global (by rw[I5.ok.glob];exact I5.mod.glob.keeps I5.bk) hmD ?_) hdb)) (by intro q;cases q)
  obtain⟨_,_,_,_,_,_,_,_,_,_,_,_,_,_,_,_,_,hD,_,_,TD⟩:=rM eD I5.kIn
  have hDB:=TD.hasType (X:="BaseException") (b:=true) rfl
  obtain⟨ob,_,_,_,_,hob,hcl,_⟩:=id tr5
  rcases hcc with⟨hc,hts⟩ | ⟨hc,hts⟩
  rotate_left
  ·refine Et hD hob hcl (by rw[RJ,hDB,Si]) (RD I5.kIn (hCs2 c hc).1) ?_
   show wpAny (model X.prog X.w) X.A (handleBy (.ref x) X.env [.ExceptHandler (some (.Name dn2 np2)) none (b2::suite2) hpos2]) (SP X pins Ds) X.xe _
   refine wpAny_handleBy_cons (codeAny_handlers_test (Calls.Name_function_global I5.ok.kind hgD2 (Calls.loadGlobal_global (by rw[I5.ok.glob];exact I5.mod.glob.keeps I5.bk) hmD2 ?_) hdb2)) (by intro q;cases q)
   obtain⟨_,_,_,_,_,_,_,_,_,_,_,_,_,_,_,_,_,hD',_,_,TD',_⟩:=Eu eD2 I5.kIn
   have hDB':=TD'.hasType (X:="BaseException") (b:=true) rfl
   refine Et hD' hob hcl (by rw[RJ,hDB',Si]) (RD I5.kIn (hCs2 c hc).2) ?_
   refine codeAny_handlers_suite ?_
   obtain⟨a5,fl5'⟩:=fly I5 tr5
   refine wpAny_mono (lands_againW (Q:=fun _ s'=>∃ h6,s'={ s1 with heap:=h6 }/\Heap.FlyingW (hidX X h5 [x,T5]) (X.env::X.outer) x (.ref c) a5 h6/\h5.UpToSlots h6) (E:=fun _ _=>False) (s:={ s1 with heap:=h5 }) fl5' fun h6 a b=>⟨h6,rfl,a,b⟩) ?_ (fun _ _ q=>q.elim)
   rintro _ s6 ⟨h6,rfl,fl6,up6⟩
   obtain⟨I6,T6,xT6,tr6⟩:=I5.left hx (two xT5) fl6.1 fl6.2.2.2 up6
   refine wpAny_mono (hs2 (.ref x) pins _ _ _ _ (I6.marked _) hts) (fun f s9 q9=>?_) fun _ _ z=>z.elim
   cases f with
   |next =>
    obtain⟨σ9,H9,I9,q9⟩:=q9
    have I9':Inv X pins σ9 H9 s9:=Inv.unmarked (hd:=I2.ok.hd) (fr:=I2.ok.frames) I9
    exact⟨σ9,H9,I9',q9⟩
   |brk=>obtain⟨_,_,_,z⟩:=q9;exact z.elim
   |cont=>obtain⟨_,_,_,z⟩:=q9;exact z.elim
   |ret u=>obtain⟨_,_,_,_,_,z⟩:=q9;exact z.elim
  refine Et hD hob hcl (by rw[RJ,hDB,Si]) (RD I5.kIn (hCs c hc)) ?_
  refine codeAny_handlers_suite_as ?_
  obtain⟨a5,fl5'⟩:=fly I5 tr5
  refine wpAny_mono (ij (ck _ _) (lands_againW (Q:=fun _ s'=>∃ h6,s'={ s1 with heap:=h6 }/\Heap.FlyingW (hidX X h5 [x,T5]) (X.env::X.outer) x (.ref c) a5 h6/\h5.UpToSlots h6) (E:=fun _ _=>False) (s:={ s1 with heap:=h5 }) fl5' fun h6 a b=>⟨h6,rfl,a,b⟩)) ?_ (fun _ _ q=>q.1.elim)
  rintro _ s6 ⟨⟨h6,rfl,fl6,up6⟩,dk6⟩
  obtain⟨I6,T6,xT6,tr6⟩:=I5.left hx (two xT5) fl6.1 fl6.2.2.2 up6
  have z6:Xd h6 x d:=z5.dk dk6 tr6.there
  obtain⟨oe,vs6,_,_,_,he,hcl6,_,hd6,_⟩:=id tr6
  have hnc:Sj oe=true:=by unfold Sj;rw[hd6]
  have hdd:oe.dict=d:=by
   obtain⟨o2,e2,d2⟩:=z6
   rw[he]at e2
   cases e2
   exact d2
  have I7:=I6.xtrack (o:=excD x c d) x2 ⟨⟨oe,he,hcl6,hdd,hnc⟩,⟨oe,he⟩,fun h1 h2 ⟨o,z1,z2⟩ kk=>⟨o,kk o z1,z2⟩⟩
  refine nu I7 hN hi (.inl hl) (v:=.ref x) rfl (fun s8 I8=>?_) (.inr hl)
  refine wpAny_mono (hs (.ref x) pins s8 _ _ _ (I8.marked _) (hts x x2.trk)) (fun f s9 q9=>?_) fun _ _ z=>z.elim
  cases f with
  |next =>
   obtain⟨σ9,H9,I9,q9⟩:=q9
   have I9':Inv X pins σ9 H9 s9:=Inv.unmarked (hd:=I2.ok.hd) (fr:=I2.ok.frames) I9
   obtain⟨m,hm⟩:=I9'.loc
   refine wpAny_nameGoes_keeps hl hm.1 (by rw[I9'.ok.kind];rfl) fun h' v hn hss=>?_
   exact⟨_,_,I9'.gone hN hi hm hn hss,q9⟩
  |brk=>obtain⟨_,_,_,z⟩:=q9;exact z.elim
  |cont=>obtain⟨_,_,_,z⟩:=q9;exact z.elim
  |ret u=>obtain⟨_,_,_,_,_,z⟩:=q9;exact z.elim
 ·have q':=SP.untried q
  cases f with
  |next=>exact wpAny_execs_nil q'
  |brk=>exact q'
  |cont=>exact q'
  |ret u=>exact q'
end L2
namespace L2
theorem len_0{α:Type}{l:List α}(h:l.length=0):l = []:=Sz.mp h
theorem HF{α:Type}{l:List α}{n:Nat}(h:l.length=n+1):∃ x r,l=x::r/\r.length=n:=by
 cases l with
 |nil=>cases h
 |cons x r=>exact⟨x,r,rfl,Nat.succ.inj h⟩
theorem h9{α:Type}{l:List α}(h:l.length=1):∃ a,l = [a]:=by
 obtain⟨a,r,rfl,e⟩:=HF h
 exact⟨a,by rw[len_0 e]⟩
theorem gA{α:Type}{l:List α}(h:l.length=2):∃ a b,l = [a,b]:=by
 obtain⟨a,r,rfl,e⟩:=HF h
 obtain⟨b,rfl⟩:=h9 e
 exact⟨a,b,rfl⟩
theorem qW{α:Type}{l:List α}(h:l.length=3):∃ a b c,l = [a,b,c]:=by
 obtain⟨a,r,rfl,e⟩:=HF h
 obtain⟨b,c,rfl⟩:=gA e
 exact⟨a,b,c,rfl⟩
theorem Kt{α:Type}{l:List α}(h:l.length=4):∃ a b c d,l = [a,b,c,d]:=by
 obtain⟨a,r,rfl,e⟩:=HF h
 obtain⟨b,c,d,rfl⟩:=qW e
 exact⟨a,b,c,d,rfl⟩
theorem len_5{α:Type}{l:List α}(h:l.length=5):∃ a b c d e,l = [a,b,c,d,e]:=by
 obtain⟨a,r,rfl,z⟩:=HF h
 obtain⟨b,c,d,e,rfl⟩:=Kt z
 exact⟨a,b,c,d,e,rfl⟩
theorem len_6{α:Type}{l:List α}(h:l.length=6):∃ a b c d e f,l = [a,b,c,d,e,f]:=by
 obtain⟨a,r,rfl,z⟩:=HF h
 obtain⟨b,c,d,e,f,rfl⟩:=len_5 z
 exact⟨a,b,c,d,e,f,rfl⟩
end L2
namespace K8
theorem Nq:∀{a b:List Nat},a.Nodup->(∀ x∈a,x∈b)->a.length<=b.length
 |[],_,_,_=>Q6 _
 |x::a,b,nd,h=>by
  obtain⟨n1,n2⟩:=Qp.mp nd
  have hx:=h x (by simp)
  have ih:=Nq (a:=a) (b:=b.erase x) n2 fun y hy=>(List.mem_erase_of_ne (fun e:y=x=>n1 (e▸hy))).mpr (h y (Qe _ hy))
  rw[List.length_erase_of_mem hx]at ih
  have:0<b.length:=R5 hx
  rw[Qz]
  omega
theorem js{a:List Nat}{N:Nat}(nd:a.Nodup)(h:∀ x∈a,x<N):a.length<=N:=by
 have:=Nq (b:=QW N) nd fun x hx=>RI.mpr (h x hx)
 rwa[QH]at this
theorem FT{l:List Nat}(nd:l.Nodup){i j x:Nat}(hi:l[i]?=some x)(hj:l[j]?=some x):i=j:=by
 have p:=List.pairwise_iff_getElem.mp nd
 obtain⟨h1,e1⟩:=P0.mp hi
 obtain⟨h2,e2⟩:=P0.mp hj
 rcases Nat.lt_trichotomy i j with z | z | z
 ·exact absurd (e1.trans e2.symm) (p i j h1 h2 z)
 ·exact z
 ·exact absurd (e2.trans e1.symm) (p j i h2 h1 z)
abbrev En:=List (Nat×Nat)
structure bW(m:Nat)(es:En)(ts:List (List Nat)):Prop where
 len:ts.length=m
 ends:∀ e∈es,e.1<m/\e.2<m/\e.1≠e.2
 nd:∀(p:Nat)(l:List Nat),ts[p]?=some l->l.Nodup
 mem:∀(p:Nat)(l:List Nat),ts[p]?=some l->∀ t,t∈l↔∃ e,es[t]?=some e/\(e.1=p∨e.2=p)
theorem Ma(m:Nat):bW m [] (Q0 m []) where
 len:=by simp
 ends:=fun e h=>by cases h
 nd:=fun p l h=>by
  rw[RG]at h
  split at h
  ·cases h;exact Sl
  ·cases h
 mem:=fun p l h t=>by
  rw[RG]at h
  split at h
  ·cases h;simp
  ·cases h
def ins(l:List Nat)(k x:Nat):List Nat:=l.take k++x::l.drop k
theorem Eg{l:List Nat}{k x y:Nat}:y∈ins l k x↔y=x∨y∈l:=by
 unfold ins
 rw[Qf,P8]
 have:=RL k l
 constructor
 ·rintro(h | h | h)
  ·exact .inr (List.mem_of_mem_take h)
  ·exact .inl h
  ·exact .inr (List.mem_of_mem_drop h)
 ·rintro(h | h)
  ·exact .inr (.inl h)
  ·rw[← this]at h
   rcases Qf.mp h with z | z
   ·exact .inl z
   ·exact .inr (.inr z)
theorem KO{l:List Nat}{k x:Nat}(nd:l.Nodup)(h:x∉l):(ins l k x).Nodup:=by
 unfold ins
 have e:=RL k l
 rw[← e]at nd
 obtain⟨a,b,c⟩:=Qx.mp nd
 refine Qx.mpr ⟨a,Qp.mpr ⟨fun z=>h (List.mem_of_mem_drop z),b⟩,fun y hy z hz=>?_⟩
 rcases P8.mp hz with q | q
 ·intro w
  exact h (by rw[← q,← w];exact List.mem_of_mem_take hy)
 ·exact c y hy z q
theorem bW.put{m:Nat}{es:En}{ts:List (List Nat)}{one two k j:Nat}{l l':List Nat}(w:bW m es ts)(h1:one<m)(h2:two<m)(hn:one≠two)(e1:ts[one]?=some l)(e2:ts[two]?=some l') :
  bW m (es++[(one,two)]) ((ts.set one (ins l k es.length)).set two (ins l' j es.length)):=by
 have old:∀{p l},ts[p]?=some l->es.length∉l:=fun{p l} e z=>by
  obtain⟨x,hx,_⟩:=(w.mem p l e es.length).mp z
  have:=(P0.mp hx).1
  omega
 have get:∀ p q,((ts.set one (ins l k es.length)).set two (ins l' j es.length))[p]?=some q->(p=two/\q=ins l' j es.length)∨(p=one/\p≠two/\q=ins l k es.length)∨(p≠one/\p≠two/\ts[p]?=some q):=fun p q e=>by
  have L:two<(ts.set one (ins l k es.length)).length:=by rw[QM,w.len];exact h2
  have L1:one<ts.length:=by rw[w.len];exact h1
  rw[QU]at e
  by_cases z:two=p
  ·rw[if_pos z,if_pos L]at e
   exact .inl ⟨z.symm,(Qt e).symm⟩
  ·rw[if_neg z,QU]at e
   by_cases y:one=p
   ·rw[if_pos y,if_pos L1]at e
    exact .inr (.inl ⟨y.symm,Ne.symm z,(Qt e).symm⟩)
   ·rw[if_neg y]at e
    exact .inr (.inr ⟨Ne.symm y,Ne.symm z,e⟩)
 have esg:∀ t x,(es++[(one,two)])[t]?=some x↔(es[t]?=some x)∨(t=es.length/\x=(one,two)):=fun t x=>by
  by_cases z:t<es.length
  ·rw[P6 z]
   constructor
   ·exact .inl
   ·rintro(y | y)
    ·exact y
    ·omega
  ·rw[P4 (by omega)]
   constructor
   ·intro y
    have hl:=(P0.mp y).1
    rw[Qa]at hl
    have ht:t=es.length:=by omega
    subst ht
    rw[Qu]at y
    cases y
    exact .inr ⟨rfl,rfl⟩
   ·rintro(y | ⟨y,rfl⟩)
    ·have:=(P0.mp y).1;omega
    ·rw[y,Qu];rfl
 refine⟨by rw[QM,QM];exact w.len,fun e he=>?_,fun p q e=>?_,fun p q e t=>?_⟩
 ·rcases Qf.mp he with z | z
  ·exact w.ends e z
  ·have:e=(one,two):=by simpa using z
   subst this
   exact⟨h1,h2,hn⟩
 ·rcases get p q e with⟨_,rfl⟩ | ⟨_,_,rfl⟩ | ⟨_,_,y⟩
  ·exact KO (w.nd two l' e2) (old e2)
  ·exact KO (w.nd one l e1) (old e1)
  ·exact w.nd p q y
 ·rcases get p q e with⟨rfl,rfl⟩ | ⟨rfl,np,rfl⟩ | ⟨n1,n2,y⟩
  ·rw[Eg,w.mem p l' e2 t]
   constructor
   ·rintro(z | ⟨x,hx,hp⟩)
    ·exact⟨(one,p),(esg _ _).mpr (.inr ⟨z,rfl⟩),.inr rfl⟩
    ·exact⟨x,(esg _ _).mpr (.inl hx),hp⟩
   ·rintro⟨x,hx,hp⟩
    rcases(esg _ _).mp hx with z | ⟨z,_⟩
    ·exact .inr ⟨x,z,hp⟩
    ·exact .inl z
  ·rw[Eg,w.mem p l e1 t]
   constructor
   ·rintro(z | ⟨x,hx,hp⟩)
    ·exact⟨(p,two),(esg _ _).mpr (.inr ⟨z,rfl⟩),.inl rfl⟩
    ·exact⟨x,(esg _ _).mpr (.inl hx),hp⟩
   ·rintro⟨x,hx,hp⟩
    rcases(esg _ _).mp hx with z | ⟨z,_⟩
    ·exact .inr ⟨x,z,hp⟩
    ·exact .inl z
  ·rw[w.mem p q y t]
   constructor
   ·rintro⟨x,hx,hp⟩
    exact⟨x,(esg _ _).mpr (.inl hx),hp⟩
   ·rintro⟨x,hx,hp⟩
    rcases(esg _ _).mp hx with z | ⟨z,rfl⟩
    ·exact⟨x,z,hp⟩
    ·rcases hp with hp | hp
     ·exact absurd hp.symm n1
     ·exact absurd hp.symm n2
def hd(es:En)(d:Nat):Nat:=match es[d/2]? with | some e=>if d%2=0 then e.2 else e.1 | none=>0
def tl(es:En)(d:Nat):Nat:=match es[d/2]? with | some e=>if d%2=0 then e.1 else e.2 | none=>0
def leave(es:En)(t p:Nat):Nat:=match es[t]? with | some e=>if e.1=p then 2*t else 2*t+1 | none=>0
def nxt(l:List Nat)(t:Nat):Nat:=(l[(l.idxOf t+1)%l.length]?).getD 0
def fol(es:En)(ts:List (List Nat))(d:Nat):Nat:=leave es (nxt ((ts[hd es d]?).getD []) (d/2)) (hd es d)
section
variable{m:Nat}{es:En}{ts:List (List Nat)}
theorem Ei{l:List Nat}{t:Nat}(h:t∈l):l[l.idxOf t]?=some t:=by
 have hl:=Ss.mpr h
 rw[PZ hl,List.getElem_idxOf]
theorem jF{l:List Nat}{t:Nat}(h:t∈l):l[(l.idxOf t+1)%l.length]?=some (nxt l t):=by
 have hl:0<l.length:=R5 h
 have:=Nat.mod_lt (l.idxOf t+1) hl
 unfold nxt
 rw[PZ this]
 rfl
theorem bW.at(w:bW m es ts){d:Nat}(h:d<2*es.length):∃ e l,es[d/2]?=some e/\hd es d=(if d%2=0 then e.2 else e.1)/\tl es d=(if d%2=0 then e.1 else e.2)/\hd es d<m/\ts[hd es d]?=some l/\d/2∈l:=by
 have hl:d/2<es.length:=by omega
 have e1:es[d/2]?=some es[d/2]:=PZ hl
 have q:=w.ends _ (P7 e1)
 generalize es[d/2]=e at e1 q
 have h1:hd es d=(if d%2=0 then e.2 else e.1):=by unfold hd;rw[e1]
 have h2:tl es d=(if d%2=0 then e.1 else e.2):=by unfold tl;rw[e1]
 have h3:hd es d<m:=by rw[h1];split<;>omega
 have h4:ts[hd es d]?=some (ts[hd es d]'(by rw[w.len];exact h3)):=PZ _
 refine⟨e,_,e1,h1,h2,h3,h4,(w.mem _ _ h4 _).mpr ⟨e,e1,?_⟩⟩
 rw[h1]
 split
 ·exact .inr rfl
 ·exact .inl rfl
theorem bW.foll(w:bW m es ts){d:Nat}(h:d<2*es.length):∃ l e,ts[hd es d]?=some l/\d/2∈l/\es[nxt l (d/2)]?=some e/\(e.1=hd es d∨e.2=hd es d)/\e.1≠e.2/\fol es ts d=(if e.1=hd es d then 2*nxt l (d/2) else 2*nxt l (d/2)+1)/\fol es ts d<2*es.length/\fol es ts d/2=nxt l (d/2)/\tl es (fol es ts d)=hd es d:=by
 obtain⟨e0,l,h1,h2,h3,h4,h5,h6⟩:=w.at h
 have hn:=jF h6
 obtain⟨e,he,hp⟩:=(w.mem _ _ h5 _).mp (P7 hn)
 have hlt:=(P0.mp he).1
 have hne:=(w.ends e (P7 he)).2.2
 have hf:fol es ts d=(if e.1=hd es d then 2*nxt l (d/2) else 2*nxt l (d/2)+1):=by
  unfold fol
  rw[h5]
  show leave es (nxt l (d/2)) (hd es d)=_
  unfold leave
  rw[he]
 refine⟨l,e,h5,h6,he,hp,hne,hf,?_,?_,?_⟩
 ·rw[hf];split<;>omega
 ·rw[hf];split<;>omega
 ·rw[hf]
  by_cases z:e.1=hd es d
  ·have a1:2*nxt l (d/2)/2=nxt l (d/2):=by omega
   have a2:2*nxt l (d/2)%2=0:=by omega
   rw[if_pos z]
   unfold tl
   rw[a1,he]
   show(if 2*nxt l (d/2)%2=0 then e.1 else e.2)=_
   rw[if_pos a2,z]
  ·have a1:(2*nxt l (d/2)+1)/2=nxt l (d/2):=by omega
   have a2:¬ (2*nxt l (d/2)+1)%2=0:=by omega
   rw[if_neg z]
   unfold tl
   rw[a1,he]
   show(if(2*nxt l (d/2)+1)%2=0 then e.1 else e.2)=_
   rw[if_neg a2]
   exact hp.elim (fun y=>absurd y z) id
theorem bW.inj(w:bW m es ts){a b:Nat}(ha:a<2*es.length)(hb:b<2*es.length)(h:fol es ts a=fol es ts b):a=b:=by
 obtain⟨l,e,p1,p2,_,_,_,_,_,p3,p4⟩:=w.foll ha
 obtain⟨l',e',q1,q2,_,_,_,_,_,q3,q4⟩:=w.foll hb
 have hh:hd es a=hd es b:=by rw[← p4,← q4,h]
 rw[hh,q1]at p1
 cases p1
 have hx:nxt l (a/2)=nxt l (b/2):=by rw[← p3,← q3,h]
 have g1:=jF p2
 have g2:=jF q2
 rw[hx]at g1
 have ii:=FT (w.nd _ _ q1) g1 g2
 have i1:=Ss.mpr p2
 have i2:=Ss.mpr q2
 have ix:l.idxOf (a/2)=l.idxOf (b/2):=by
  generalize l.idxOf (a/2)=x at *
  generalize l.idxOf (b/2)=y at *
  by_cases z1:x+1=l.length
  ·by_cases z2:y+1=l.length
   ·omega
   ·rw[z1,SG,Rv (by omega)]at ii;omega
  ·by_cases z2:y+1=l.length
   ·rw[z2,SG,Rv (by omega)]at ii;omega
   ·rw[Rv (by omega),Rv (by omega)]at ii;omega
 have ht:a/2=b/2:=by
  have g3:=Ei p2
  have g4:=Ei q2
  rw[ix,g4]at g3
  exact(Qt g3).symm
 obtain⟨e1,_,r1,r2,_,_,_,_⟩:=w.at ha
 obtain⟨e2,_,s1,s2,_,_,_,_⟩:=w.at hb
 rw[ht,s1]at r1
 have ee:e2=e1:=Qt r1
 rw[ee]at s1 s2
 have hne:=(w.ends e1 (P7 s1)).2.2
 rw[r2,s2]at hh
 have:a%2=b%2:=by
  by_cases z1:a%2=0<;>by_cases z2:b%2=0
  ·omega
  ·rw[if_pos z1,if_neg z2]at hh;exact absurd hh.symm hne
  ·rw[if_neg z1,if_pos z2]at hh;exact absurd hh hne
  ·omega
 omega
end
structure LW(f:Nat->Nat)(N:Nat):Prop where
 lt:∀ d,d<N->f d<N
 inj:∀ a b,a<N->b<N->f a=f b->a=b
structure Path(f:Nat->Nat)(N first:Nat)(r:List Nat):Prop where
 hd:r[0]?=some first
 lt:∀ d∈r,d<N
 nd:r.Nodup
 nx:∀ i x y,r[i]?=some x->r[i+1]?=some y->y=f x
theorem FL{f:Nat->Nat}{N d:Nat}(h:d<N):Path f N d [d] where
 hd:=rfl
 lt:=fun x hx=>by have:x=d:=by simpa using hx
                  rw[this];exact h
 nd:=by simp
 nx:=fun i x y h1 h2=>by
  have:=(P0.mp h2).1
  rw[Qa]at this
  omega
theorem Path.snoc{f:Nat->Nat}{N d x:Nat}{r:List Nat}(p:LW f N)(h:Path f N d (r++[x]))(hn:f x≠d):Path f N d (r++[x]++[f x]) where
 hd:=by rw[P6 (by rw[P2,Qa];omega)];exact h.hd
 lt:=fun y hy=>by
  rcases Qf.mp hy with z | z
  ·exact h.lt y z
  ·have:y=f x:=by simpa using z
   rw[this];exact p.lt x (h.lt x (by simp))
 nd:=by
  refine Qx.mpr ⟨h.nd,by simp,fun a ha b hb e=>?_⟩
  have eb:b=f x:=by simpa using hb
  subst eb
  obtain⟨i,hi⟩:=QY.mp ha
  rw[e]at hi
  have hil:=(P0.mp hi).1
  rw[P2,Qa]at hil
  cases i with
  |zero =>
   rw[h.hd]at hi
   exact hn (Qt hi).symm
  |succ i =>
   have gi:(r++[x])[i]?=some ((r++[x])[i]'(by rw[P2,Qa];omega)):=PZ _
   have:=h.nx i _ _ gi hi
   have mi:=h.lt _ (P7 gi)
   have mx:=h.lt x (by simp)
   have e2:=p.inj _ _ mx mi this
   rw[← e2]at gi
   have gx:(r++[x])[r.length]?=some x:=by rw[P4 (P9 _),Qu];rfl
   have:=FT h.nd gi gx
   omega
 nx:=fun i a b h1 h2=>by
  have h2l:=(P0.mp h2).1
  rw[P2,P2,Qa,Qa]at h2l
  rw[P6 (by rw[P2,Qa];omega)]at h1
  by_cases z:i+1<(r++[x]).length
  ·rw[P6 z]at h2
   exact h.nx i a b h1 h2
  ·rw[P2,Qa]at z
   have ei:i=r.length:=by omega
   subst ei
   rw[P4 (by rw[P2,Qa];omega)]at h2
   have:r.length+1-(r++[x]).length=0:=by rw[P2,Qa];omega
   rw[this]at h2
   rw[P4 (P9 _),Qu]at h1
   have e1:x=a:=Qt h1
   have e2:f x=b:=Qt h2
   rw[← e2,e1]
structure Ring(f:Nat->Nat)(N:Nat)(r:List Nat):Prop where
 lt:∀ d∈r,d<N
 nd:r.Nodup
 ne:0<r.length
 nx:∀ i x,r[i]?=some x->r[(i+1)%r.length]?=some (f x)
theorem Path.ring{f:Nat->Nat}{N d x:Nat}{r:List Nat}(p:LW f N)(h:Path f N d (r++[x]))(he:f x=d):Ring f N (r++[x]) where
 lt:=h.lt
 nd:=h.nd
 ne:=by rw[P2,Qa];omega
 nx:=fun i y hy=>by
  have hl:=(P0.mp hy).1
  by_cases z:i+1=(r++[x]).length
  ·rw[z,SG]
   have:i=r.length:=by rw[P2,Qa]at z;omega
   subst this
   rw[P4 (P9 _),Qu]at hy
   have:x=y:=Qt hy
   subst this
   rw[he];exact h.hd
  ·have l2:i+1<(r++[x]).length:=by omega
   rw[Rv l2]
   have g:=PZ l2
   rw[g,h.nx i _ _ hy g]
theorem Ring.back{f:Nat->Nat}{N a:Nat}{r:List Nat}(p:LW f N)(h:Ring f N r)(ha:a<N)(hf:f a∈r):a∈r:=by
 obtain⟨i,hi⟩:=QY.mp hf
 have hl:=(P0.mp hi).1
 have key:∃ j,j<r.length/\(j+1)%r.length=i:=by
  cases i with
  |zero=>exact⟨r.length-1,by have:=h.ne;omega,by have:=h.ne;rw[show r.length-1+1=r.length by omega,SG]⟩
  |succ i=>exact⟨i,by omega,Rv hl⟩
 obtain⟨j,hj,ej⟩:=key
 have g:=PZ hj
 have q:=h.nx j _ g
 rw[ej,hi]at q
 have mj:=h.lt _ (P7 g)
 have:=p.inj _ _ ha mj (Qt q)
 rw[this]
 exact P7 g
structure f7(f:Nat->Nat)(N i:Nat)(rs:List (List Nat)):Prop where
 ring:∀ r∈rs,Ring f N r
 hdl:∀ r∈rs,∀ h,r[0]?=some h->h<i/\∀ d∈r,h<=d
 asc:∀(a b:Nat)(r r':List Nat)(h h':Nat),a<b->rs[a]?=some r->rs[b]?=some r'->r[0]?=some h->r'[0]?=some h'->h<h'
 nd:rs.flatten.Nodup
 all:∀ d,d<i->d∈rs.flatten
theorem GN(f:Nat->Nat)(N:Nat):f7 f N 0 [] where
 ring:=fun r h=>by cases h
 hdl:=fun r h=>by cases h
 asc:=fun a b r r' h h' _ e=>by cases e
 nd:=by simp
 all:=fun d h=>by omega
theorem f7.skip{f:Nat->Nat}{N i:Nat}{rs:List (List Nat)}(w:f7 f N i rs)(h:i∈rs.flatten):f7 f N (i+1) rs where
 ring:=w.ring
 hdl:=fun r hr x hx=>⟨by have:=(w.hdl r hr x hx).1;omega,(w.hdl r hr x hx).2⟩
 asc:=w.asc
 nd:=w.nd
 all:=fun d hd=>by
  by_cases z:d=i
  ·rw[z];exact h
  ·exact w.all d (by omega)
theorem f7.put{f:Nat->Nat}{N i:Nat}{rs:List (List Nat)}{r:List Nat}(p:LW f N)(w:f7 f N i rs)(h:i∉rs.flatten)(hi:i<N)(hr:Ring f N r)(pa:Path f N i r):f7 f N (i+1) (rs++[r]):=by
 have apart:∀(k x:Nat),r[k]?=some x->x∉rs.flatten:=fun k=>by
  induction k with
  |zero =>
   intro x hx
   rw[pa.hd]at hx
   cases hx
   exact h
  |succ k ih =>
   intro x hx z
   have hl:=(P0.mp hx).1
   have g:=PZ (show k<r.length by omega)
   have e:=pa.nx k _ _ g hx
   obtain⟨q,hq,zq⟩:=QZ.mp z
   rw[e]at zq
   exact ih _ g (QZ.mpr ⟨q,hq,(w.ring q hq).back p (hr.lt _ (P7 g)) zq⟩)
 have least:∀ d∈r,i<=d:=fun d hd=>by
  obtain⟨k,hk⟩:=QY.mp hd
  by_cases z:i<=d
  ·exact z
  ·exact absurd (w.all d (by omega)) (apart k d hk)
 refine⟨fun q hq=>?_,fun q hq x hx=>?_,fun a b q q' x x' hab ha hb hx hx'=>?_,?_,fun d hd=>?_⟩
 ·rcases Qf.mp hq with z | z
  ·exact w.ring q z
  ·have:q=r:=by simpa using z
   rw[this];exact hr
 ·rcases Qf.mp hq with z | z
  ·have:=w.hdl q z x hx
   exact⟨by omega,this.2⟩
  ·have e:q=r:=by simpa using z
   subst e
   rw[pa.hd]at hx
   cases hx
   exact⟨by omega,least⟩
 ·have bl:=(P0.mp hb).1
  rw[P2,Qa]at bl
  rw[P6 (by omega)]at ha
  by_cases z:b<rs.length
  ·rw[P6 z]at hb
   exact w.asc a b q q' x x' hab ha hb hx hx'
  ·have eb:b=rs.length:=by omega
   subst eb
   rw[P4 (P9 _),Qu]at hb
   have e:r=q':=Qt hb
   subst e
   rw[pa.hd]at hx'
   cases hx'
   exact(w.hdl q (P7 ha) x hx).1
 ·rw[Q9]
  have e : [r].flatten=r:=by simp
  rw[e]
  refine Qx.mpr ⟨w.nd,hr.nd,fun a ha b hb e=>?_⟩
  obtain⟨k,hk⟩:=QY.mp hb
  exact apart k b hk (e▸ha)
 ·rw[Q9,Qf]
  by_cases z:d=i
  ·right
   rw[z]
   simp
   exact P7 pa.hd
  ·exact .inl (w.all d (by omega))
theorem Pq{rs:List (List Nat)}(nd:rs.flatten.Nodup){a b:Nat}{r r':List Nat}{d:Nat}(ha:rs[a]?=some r)(hb:rs[b]?=some r')(h1:d∈r)(h2:d∈r'):a=b:=by
 induction rs generalizing a b with
 |nil=>cases ha
 |cons q rs ih =>
  rw[QS]at nd
  obtain⟨_,n2,n3⟩:=Qx.mp nd
  cases a with
  |zero =>
   cases b with
   |zero=>rfl
   |succ b =>
    have e:q=r:=Qt ha
    subst e
    exact absurd rfl (n3 d h1 d (QZ.mpr ⟨r',P7 hb,h2⟩))
  |succ a =>
   cases b with
   |zero =>
    have e:q=r':=Qt hb
    subst e
    exact absurd rfl (n3 d h2 d (QZ.mpr ⟨r,P7 ha,h1⟩))
   |succ b=>exact congrArg Nat.succ (ih n2 ha hb)
end K8
namespace K8
def lr(f:Nat->Nat):Nat->List Nat->Nat->Prop
 |x,[],z=>f x=z
 |x,y::l,z=>f x=y/\lr f y l z
theorem ja{f:Nat->Nat}:∀{x:Nat}{l:List Nat}{y:Nat}{k:List Nat}{z:Nat},lr f x (l++y::k) z↔lr f x l y/\lr f y k z
 |x,[],y,k,z=>Iff.rfl
 |x,a::l,y,k,z=>by
  show(f x=a/\lr f a (l++y::k) z)↔(f x=a/\lr f a l y)/\lr f y k z
  rw[ja,and_assoc]
theorem nZ{f g:Nat->Nat}:∀{x y:Nat}{l:List Nat}{z:Nat},lr f x l z->g y=f x->(∀ t∈l,g t=f t)->lr g y l z
 |x,y,[],z,h,e,_=>e.trans h
 |x,y,a::l,z,h,e,k=>⟨e.trans h.1,nZ h.2 (k a (Ql ..)) fun t ht=>k t (Qe _ ht)⟩
theorem BJ{f g F:Nat->Nat}:∀{x:Nat}{l:List Nat}{z:Nat},lr f x l z->(∀ t∈x::l,g (F t)=F (f t))->lr g (F x) (l.map F) (F z)
 |x,[],z,h,k=>by
  show g (F x)=F z
  rw[k x (Ql ..),show f x=z from h]
 |x,a::l,z,h,k=>⟨by rw[k x (Ql ..),h.1],BJ h.2 fun t ht=>k t (Qe _ ht)⟩
theorem uf{f:Nat->Nat}{S:Nat->Prop}:∀{x:Nat}{l:List Nat}{z:Nat},lr f x l z->(∀ t∈x::l,S t->S (f t))->S x->S z/\∀ t∈l,S t
 |x,[],z,h,k,s=>⟨by have:=k x (Ql ..) s;rwa[show f x=z from h]at this,fun t ht=>nomatch ht⟩
 |x,a::l,z,h,k,s=>by
  have s1:S a:=by have:=k x (Ql ..) s;rwa[h.1]at this
  obtain⟨h1,h2⟩:=uf h.2 (fun t ht=>k t (Qe _ ht)) s1
  refine⟨h1,fun t ht=>?_⟩
  rcases P8.mp ht with y | y
  ·rw[y];exact s1
  ·exact h2 t y
structure CR(f:Nat->Nat)(N:Nat)(r:List Nat):Prop where
 ch:∃ x l,r=x::l/\lr f x l x
 lt:∀ d∈r,d<N
 nd:r.Nodup
theorem CR.closed{f:Nat->Nat}{N:Nat}{r:List Nat}(h:CR f N r):∀ d∈r,f d∈r:=by
 obtain⟨x,l,rfl,c⟩:=h.ch
 intro d hd
 rcases P8.mp hd with y | y
 ·subst y
  cases l with
  |nil=>rw[show f d=d from c];exact Ql ..
  |cons a l=>rw[c.1];simp
 ·obtain⟨A,B,rfl⟩:=Sg y
  have c2:=(ja.mp c).2
  cases B with
  |nil=>rw[show f d=x from c2];exact Ql ..
  |cons a B=>rw[c2.1];simp
theorem CR.sub{f:Nat->Nat}{N:Nat}{r:List Nat}{S:Nat->Prop}(h:CR f N r)(k:∀ t∈r,S t->S (f t)){d:Nat}(hd:d∈r)(s:S d):∀ t∈r,S t:=by
 obtain⟨x,l,rfl,c⟩:=h.ch
 have fromx:S x->∀ t∈x::l,S t:=fun sx t ht=>by
  rcases P8.mp ht with y | y
  ·rw[y];exact sx
  ·exact(uf c k sx).2 t y
 rcases P8.mp hd with y | y
 ·exact fromx (y▸s)
 ·obtain⟨A,B,rfl⟩:=Sg y
  have c2:=(ja.mp c).2
  exact fromx (uf c2 (fun t ht=>k t (by simp only[P8,Qf]at ht ⊢;rcases ht with z | z<;>simp[z])) s).1
theorem CR.same{f:Nat->Nat}{N:Nat}{r r':List Nat}(h:CR f N r)(h':CR f N r'){d:Nat}(h1:d∈r)(h2:d∈r'):∀ t∈r,t∈r':=h.sub (S:=fun t=>t∈r') (fun t _=>h'.closed t) h1 h2
theorem CR.ne{f:Nat->Nat}{N:Nat}{r:List Nat}(h:CR f N r):∃ d,d∈r:=by
 obtain⟨x,l,rfl,_⟩:=h.ch
 exact⟨x,Ql ..⟩
structure Part(f:Nat->Nat)(N:Nat)(rs:List (List Nat)):Prop where
 cr:∀ r∈rs,CR f N r
 nd:rs.flatten.Nodup
 all:∀ d,d<N->d∈rs.flatten
theorem Part.pick{f:Nat->Nat}{N:Nat}{rs:List (List Nat)}(p:Part f N rs){r:List Nat}(h:CR f N r):∃ rest,Part f N (r::rest)/\rest.length+1=rs.length:=by
 obtain⟨d,hd⟩:=h.ne
 obtain⟨r0,m1,m2⟩:=QZ.mp (p.all d (h.lt d hd))
 have c0:=p.cr r0 m1
 have s1:=h.same c0 hd m2
 have s2:=c0.same h m2 hd
 obtain⟨A,B,rfl⟩:=Sg m1
 have nd:=p.nd
 rw[Q9,QS]at nd
 obtain⟨n1,n2,n3⟩:=Qx.mp nd
 obtain⟨n4,n5,n6⟩:=Qx.mp n2
 refine⟨A++B,⟨fun q hq=>?_,?_,fun y hy=>?_⟩,by simp;omega⟩
 ·rcases P8.mp hq with z | z
  ·rw[z];exact h
  ·refine p.cr q ?_
   rcases Qf.mp z with z | z
   ·simp[z]
   ·simp[z]
 ·rw[QS,Q9]
  refine Qx.mpr ⟨h.nd,Qx.mpr ⟨n1,n5,fun a ha b hb=>n3 a ha b (by simp[hb])⟩,fun a ha b hb=>?_⟩
  rcases Qf.mp hb with z | z
  ·exact fun e=>n3 b z a (QF _ (s1 a ha)) e.symm
  ·exact n6 a (s1 a ha) b z
 ·have:=p.all y hy
  rw[Q9,QS]at this
  rw[QS,Q9]
  simp only[Qf]at this ⊢
  rcases this with z | z | z
  ·exact .inr (.inl z)
  ·exact .inl (s2 y z)
  ·exact .inr (.inr z)
theorem Part.same:∀{rs qs:List (List Nat)}{f:Nat->Nat}{N:Nat},Part f N rs->Part f N qs->rs.length=qs.length:=by
 have le:∀(k:Nat){rs qs:List (List Nat)}{f:Nat->Nat}{N:Nat},Part f N rs->Part f N qs->rs.length<=qs.length:=by
  intro _ rs qs f N p q
  have g:∀ r∈rs,∃ i,i<qs.length/\∃ r',qs[i]?=some r'/\∀ t∈r',t∈r:=fun r hr=>by
   have c:=p.cr r hr
   obtain⟨d,hd⟩:=c.ne
   obtain⟨r',m1,m2⟩:=QZ.mp (q.all d (c.lt d hd))
   obtain⟨i,hi⟩:=QY.mp m1
   exact⟨i,(P0.mp hi).1,r',hi,(q.cr r' m1).same c m2 hd⟩
  have:∀(l:List (List Nat)),(∀ r∈l,r∈rs)->l.flatten.Nodup->∃ is:List Nat,is.length=l.length/\is.Nodup/\∀ i∈is,i<qs.length/\∃ r∈l,∃ r',qs[i]?=some r'/\∀ t∈r',t∈r:=fun l=>by
   induction l with
   |nil=>intro _ _;exact⟨[],rfl,Sl,fun i hi=>nomatch hi⟩
   |cons r l ih =>
    intro h nd
    rw[QS]at nd
    obtain⟨n1,n2,n3⟩:=Qx.mp nd
    obtain⟨is,e1,e2,e3⟩:=ih (fun r hr=>h r (Qe _ hr)) n2
    obtain⟨i,h1,r',h2,h3⟩:=g r (h r (Ql ..))
    refine⟨i::is,by simp[e1],Qp.mpr ⟨fun z=>?_,e2⟩,fun j hj=>?_⟩
    ·obtain⟨_,r2,m2,r3,m3,m4⟩:=e3 i z
     rw[h2]at m3
     cases m3
     obtain⟨d,hd⟩:=(q.cr r' (P7 h2)).ne
     exact n3 d (h3 d hd) d (QZ.mpr ⟨r2,m2,m4 d hd⟩) rfl
    ·rcases P8.mp hj with z | z
     ·subst z;exact⟨h1,r,Ql ..,r',h2,h3⟩
     ·obtain⟨k1,r2,k2,k3⟩:=e3 j z
      exact⟨k1,r2,Qe _ k2,k3⟩
  obtain⟨is,e1,e2,e3⟩:=this rs (fun _ h=>h) p.nd
  rw[← e1]
  exact js e2 fun i hi=>(e3 i hi).1
 intro rs qs f N p q
 exact Nat.le_antisymm (le 0 p q) (le 0 q p)
theorem Ring.cr{f:Nat->Nat}{N:Nat}{r:List Nat}(h:Ring f N r):CR f N r:=by
 refine⟨?_,h.lt,h.nd⟩
 have ne:=h.ne
 match r,h,ne with
 |x::l,h,_ =>
  refine⟨x,l,rfl,?_⟩
  have key:∀(k i:Nat)(y:Nat),i+k+1=(x::l).length->(x::l)[i]?=some y->lr f y ((x::l).drop (i+1)) x:=fun k=>by
   induction k with
   |zero =>
    intro i y hi hy
    have e:=h.nx i y hy
    rw[show(i+1)%(x::l).length=0 by rw[← hi];simp]at e
    rw[List.drop_of_length_le (by omega)]
    exact(Qt e).symm
   |succ k ih =>
    intro i y hi hy
    have e:=h.nx i y hy
    rw[Rv (by omega)]at e
    obtain⟨hl,e2⟩:=P0.mp e
    rw[Tg hl,e2]
    exact⟨rfl,ih (i+1) (f y) (by omega) e⟩
  exact key l.length 0 x (by simp) rfl
theorem f7.part{f:Nat->Nat}{N:Nat}{rs:List (List Nat)}(w:f7 f N N rs):Part f N rs:=⟨fun r hr=>(w.ring r hr).cr,w.nd,w.all⟩
end K8
namespace K8
theorem Bd{A B:List Nat}{t:Nat}(h:t∉A):(A++t::B).idxOf t=A.length:=by
 rw[List.idxOf_append,if_neg h,List.idxOf_cons_self,Nat.zero_add]
theorem bo{A B:List Nat}{t:Nat}(h:t∉A):nxt (A++t::B) t=((B++(A++t::B)).head?).getD 0:=by
 unfold nxt
 rw[Bd h]
 cases B with
 |nil =>
  have e:(A.length+1)%(A++[t]).length=0:=by rw[P2,Qa,SG]
  rw[e,List.nil_append,List.head?_eq_getElem?]
 |cons b B =>
  have e:(A.length+1)%(A++t::b::B).length=A.length+1:=Rv (by simp)
  rw[e,P4 (by omega)]
  rw[show A.length+1-A.length=1 by omega]
  rfl
theorem KN{A B:List Nat}{u n:Nat}(h:u∉A):ins (A++u::B) ((A++u::B).idxOf u+1) n=A++u::n::B:=by
 rw[Bd h]
 unfold ins
 have e1:(A++u::B).take (A.length+1)=A++[u]:=by
  rw[List.take_append,Rr (by omega),show A.length+1-A.length=1 by omega]
  rfl
 have e2:(A++u::B).drop (A.length+1)=B:=by simp
 rw[e1,e2]
 simp
theorem ip{l:List Nat}{u:Nat}(h:u∈l):∃ A B,l=A++u::B/\u∉A:=by
 induction l with
 |nil=>exact nomatch h
 |cons a l ih =>
  by_cases z:a=u
  ·subst z;exact⟨[],l,rfl,Q4⟩
  ·rcases P8.mp h with y | y
   ·exact absurd y.symm z
   ·obtain⟨A,B,rfl,k⟩:=ih y
    exact⟨a::A,B,rfl,fun w=>by rcases P8.mp w with w | w;exact z w.symm;exact k w⟩
theorem O5{l:List Nat}{u n:Nat}(hu:u∈l)(hn:n∉l) :
  nxt (ins l (l.idxOf u+1) n) u=n/\nxt (ins l (l.idxOf u+1) n) n=nxt l u/\∀ t∈l,t≠u->nxt (ins l (l.idxOf u+1) n) t=nxt l t:=by
 obtain⟨A,B,rfl,k⟩:=ip hu
 rw[KN k]
 have hnA:n∉A:=fun z=>hn (by simp[z])
 have hnu:n≠u:=fun z=>hn (by simp[z])
 refine⟨?_,?_,fun t ht htu=>?_⟩
 ·rw[bo k];rfl
 ·have e:A++u::n::B=(A++[u])++n::B:=by simp
  rw[e,bo (fun z=>by rcases Qf.mp z with z | z;exact hnA z;exact hnu (by simpa using z)),bo k]
  cases B<;>cases A<;>rfl
 ·rcases Qf.mp ht with z | z
  ·obtain⟨A1,A2,rfl,k2⟩:=ip z
   have e1:(A1++t::A2)++u::n::B=A1++t::(A2++u::n::B):=by simp
   have e2:(A1++t::A2)++u::B=A1++t::(A2++u::B):=by simp
   rw[e1,e2,bo k2,bo k2]
   cases A2<;>rfl
  ·have z':t∈B:=by
    rcases P8.mp z with z | z
    ·exact absurd z htu
    ·exact z
   by_cases tA:t∈A
   ·obtain⟨A1,A2,rfl,k2⟩:=ip tA
    have e1:(A1++t::A2)++u::n::B=A1++t::(A2++u::n::B):=by simp
    have e2:(A1++t::A2)++u::B=A1++t::(A2++u::B):=by simp
    rw[e1,e2,bo k2,bo k2]
    cases A2<;>rfl
   ·obtain⟨B1,B2,rfl,k2⟩:=ip z'
    have tn:t≠n:=fun y=>hn (by rw[← y];simp)
    have e1:A++u::n::(B1++t::B2)=(A++u::n::B1)++t::B2:=by simp
    have e2:A++u::(B1++t::B2)=(A++u::B1)++t::B2:=by simp
    rw[e1,e2,bo (by simp[tA,htu,tn,k2]),bo (by simp[tA,htu,k2])]
    cases B2<;>cases A<;>rfl
theorem tq{es:En}{e:Nat×Nat}{t p:Nat}(h:t<es.length):leave (es++[e]) t p=leave es t p:=by
 unfold leave
 rw[P6 h]
theorem AN{es:En}{e:Nat×Nat}{p:Nat}:leave (es++[e]) es.length p=if e.1=p then 2*es.length else 2*es.length+1:=by
 unfold leave
 rw[P4 (P9 _),Qu]
 rfl
theorem wF{es:En}{e:Nat×Nat}{d:Nat}(h:d<2*es.length):hd (es++[e]) d=hd es d:=by
 unfold hd
 rw[P6 (by omega)]
theorem hd_new{es:En}{e:Nat×Nat}:hd (es++[e]) (2*es.length)=e.2/\hd (es++[e]) (2*es.length+1)=e.1:=by
 have e1:2*es.length/2=es.length:=by omega
 have e2:(2*es.length+1)/2=es.length:=by omega
 constructor
 ·unfold hd
  rw[e1,P4 (P9 _),Qu]
  show(if 2*es.length%2=0 then e.2 else e.1)=_
  rw[if_pos (by omega)]
 ·unfold hd
  rw[e2,P4 (P9 _),Qu]
  show(if(2*es.length+1)%2=0 then e.2 else e.1)=_
  rw[if_neg (by omega)]
theorem hd_inj{m:Nat}{es:En}{ts:List (List Nat)}(w:bW m es ts){a b:Nat}(ha:a<2*es.length)(hb:b<2*es.length)(h:hd es a=hd es b)(h2:a/2=b/2):a=b:=by
 obtain⟨e1,_,r1,r2,_⟩:=w.at ha
 obtain⟨e2,_,s1,s2,_⟩:=w.at hb
 rw[h2,s1]at r1
 cases r1
 have hne:=(w.ends e1 (P7 s1)).2.2
 rw[r2,s2]at h
 by_cases z1:a%2=0<;>by_cases z2:b%2=0
 ·omega
 ·rw[if_pos z1,if_neg z2]at h;exact absurd h.symm hne
 ·rw[if_neg z1,if_pos z2]at h;exact absurd h hne
 ·omega
def lq(n:Nat)(e:Nat×Nat)(p:Nat):Nat:=if e.1=p then 2*n else 2*n+1
theorem gH{es:En}{ts:List (List Nat)}{d:Nat}{l:List Nat}(h:ts[hd es d]?=some l):fol es ts d=leave es (nxt l (d/2)) (hd es d):=by
 unfold fol
 rw[h]
 rfl
end K8
namespace K8
theorem bW.flip{m:Nat}{es:En}{ts:List (List Nat)}{a b:Nat}(w:bW m (es++[(a,b)]) ts):bW m (es++[(b,a)]) ts:=by
 have key:∀(x y:Nat)(t p:Nat),(∃ e,(es++[(x,y)])[t]?=some e/\(e.1=p∨e.2=p))->∃ e,(es++[(y,x)])[t]?=some e/\(e.1=p∨e.2=p):=fun x y t p=>by
  rintro⟨e,h1,h2⟩
  by_cases z:t<es.length
  ·rw[P6 z]at h1
   exact⟨e,by rw[P6 z];exact h1,h2⟩
  ·have hl:=(P0.mp h1).1
   rw[P2,Qa]at hl
   have z':t=es.length:=by omega
   subst z'
   rw[P4 (P9 _),Qu]at h1
   cases h1
   exact⟨(y,x),by rw[P4 (P9 _),Qu];rfl,h2.symm⟩
 refine⟨w.len,fun e he=>?_,w.nd,fun p l h t=>⟨fun z=>key a b t p ((w.mem p l h t).mp z),fun z=>(w.mem p l h t).mpr (key b a t p z)⟩⟩
 rcases Qf.mp he with z | z
 ·exact w.ends e (QF _ z)
 ·have:e=(b,a):=by simpa using z
  subst this
  obtain⟨h1,h2,h3⟩:=w.ends (a,b) (by simp)
  exact⟨h2,h1,fun y=>h3 y.symm⟩
theorem bW.room{m:Nat}{es:En}{ts:List (List Nat)}(w:bW m es ts):bW (m+1) es (ts++[[]]):=by
 refine⟨by rw[P2,w.len];rfl,fun e he=>?_,fun p l h=>?_,fun p l h t=>?_⟩
 ·obtain⟨h1,h2,h3⟩:=w.ends e he
  exact⟨by omega,by omega,h3⟩
 all_goals by_cases z:p<ts.length
 ·rw[P6 z]at h
  exact w.nd p l h
 ·have hl:=(P0.mp h).1
  rw[P2,Qa]at hl
  have z':p=ts.length:=by omega
  subst z'
  rw[P4 (P9 _),Qu]at h
  cases h
  exact Sl
 ·rw[P6 z]at h
  exact w.mem p l h t
 ·have hl:=(P0.mp h).1
  rw[P2,Qa]at hl
  have z':p=ts.length:=by omega
  subst z'
  rw[P4 (P9 _),Qu]at h
  cases h
  refine⟨(fun y=>nomatch y),?_⟩
  rintro⟨e,h1,h2⟩
  obtain⟨k1,k2,_⟩:=w.ends e (P7 h1)
  have:=w.len
  omega
theorem Pu{m:Nat}{es:En}{ts:List (List Nat)}(w:bW m es ts){p:Nat}{l:List Nat}(h:ts[p]?=some l):es.length∉l:=fun z=>by
 obtain⟨x,hx,_⟩:=(w.mem p l h es.length).mp z
 have:=(P0.mp hx).1
 omega
theorem Es{m:Nat}{es:En}{ts ts':List (List Nat)}{e:Nat×Nat}{p u:Nat}{l:List Nat}(w:bW m es ts)(hl:ts[p]?=some l)(hu:u<2*es.length)(hp:hd es u=p)(hl':ts'[p]?=some (ins l (l.idxOf (u/2)+1) es.length)) :
  fol (es++[e]) ts' u=lq es.length e p/\(∀ b,b/2=es.length->hd (es++[e]) b=p->fol (es++[e]) ts' b=fol es ts u)/\∀ d,d<2*es.length->d≠u->hd es d=p->fol (es++[e]) ts' d=fol es ts d:=by
 obtain⟨_,l0,_,_,_,_,g5,g6⟩:=w.at hu
 rw[hp,hl]at g5
 cases g5
 have nn:=Pu w hl
 obtain⟨n1,n2,n3⟩:=O5 g6 nn
 have lt:∀ t∈l,nxt l t<es.length:=fun t ht=>by
  obtain⟨x,hx,_⟩:=(w.mem p l hl (nxt l t)).mp (P7 (jF ht))
  exact(P0.mp hx).1
 refine⟨?_,fun b hb hpb=>?_,fun d hd' hne hpd=>?_⟩
 ·rw[gH (l:=ins l (l.idxOf (u/2)+1) es.length) (by rw[wF hu,hp];exact hl'),n1,wF hu,hp,AN]
  rfl
 ·rw[gH (l:=ins l (l.idxOf (u/2)+1) es.length) (by rw[hpb];exact hl'),hb,n2,hpb,tq (lt _ g6),gH (l:=l) (by rw[hp];exact hl),hp]
 ·obtain⟨_,l0,_,_,_,_,k5,k6⟩:=w.at hd'
  rw[hpd,hl]at k5
  cases k5
  have tne:d/2≠u/2:=fun z=>hne (hd_inj w hd' hu (hpd.trans hp.symm) z)
  rw[gH (l:=ins l (l.idxOf (u/2)+1) es.length) (by rw[wF hd',hpd];exact hl'),n3 _ k6 tne,wF hd',hpd,tq (lt _ k6),gH (l:=l) (by rw[hpd];exact hl),hpd]
theorem F6{m:Nat}{es:En}{ts ts':List (List Nat)}{e:Nat×Nat}(w:bW m es ts){d:Nat}(hd':d<2*es.length)(h:ts'[hd es d]?=ts[hd es d]?):fol (es++[e]) ts' d=fol es ts d:=by
 obtain⟨_,l,_,_,_,_,k5,k6⟩:=w.at hd'
 have lt:nxt l (d/2)<es.length:=by
  obtain⟨x,hx,_⟩:=(w.mem _ l k5 (nxt l (d/2))).mp (P7 (jF k6))
  exact(P0.mp hx).1
 rw[gH (l:=l) (by rw[wF hd',h];exact k5),wF hd',tq lt,gH k5]
theorem cX(n:Nat)(e:Nat×Nat)(p:Nat):lq n e p/2=n:=by
 unfold lq
 split<;>omega
theorem Gd{es:En}{one two:Nat}{e:Nat×Nat}(hne:one≠two)(he:e=(one,two)∨e=(two,one)):hd (es++[e]) (lq es.length e one)=two/\hd (es++[e]) (lq es.length e two)=one/\lq es.length e one≠lq es.length e two/\∀ d,d<2*(es.length+1)->d<2*es.length∨d=lq es.length e one∨d=lq es.length e two:=by
 obtain⟨h1,h2⟩:=hd_new (es:=es) (e:=e)
 unfold lq
 rcases he with he | he
 ·have c1:e.1=one:=by rw[he]
  have c2:¬ e.1=two:=by rw[he];exact hne
  have c3:e.2=two:=by rw[he]
  rw[if_pos c1,if_neg c2,h1,h2]
  exact⟨c3,c1,by omega,fun d hd=>by omega⟩
 ·have c1:e.1=two:=by rw[he]
  have c2:¬ e.1=one:=by rw[he];exact fun z=>hne z.symm
  have c3:e.2=one:=by rw[he]
  rw[if_pos c1,if_neg c2,h1,h2]
  exact⟨c1,c3,by omega,fun d hd=>by omega⟩
structure Gr(m:Nat)(es:En)(ts:List (List Nat)):Prop where
 w:bW m es ts
 part:∃ rs,Part (fol es ts) (2*es.length) rs/\m+rs.length=es.length+2
 conn:∀ S:Nat->Prop,(∀ e∈es,S e.1↔S e.2)->∀ p q,p<m->q<m->S p->S q
theorem CR.mono{f g:Nat->Nat}{N M:Nat}{r:List Nat}(h:CR f N r)(hN:N<=M)(k:∀ t∈r,g t=f t):CR g M r:=by
 obtain⟨x,l,rfl,c⟩:=h.ch
 exact⟨⟨x,l,rfl,nZ c (k x (Ql ..)) fun t ht=>k t (Qe _ ht)⟩,fun d hd=>QB (h.lt d hd) hN,h.nd⟩
theorem Nb{m:Nat}{es:En}{e:Nat×Nat}(c:∀ S:Nat->Prop,(∀ e∈es,S e.1↔S e.2)->∀ p q,p<m->q<m->S p->S q):∀ S:Nat->Prop,(∀ x∈es++[e],S x.1↔S x.2)->∀ p q,p<m->q<m->S p->S q :=
 fun S h=>c S fun x hx=>h x (QF _ hx)
theorem Gr.join{m:Nat}{es:En}{ts:List (List Nat)}(g:Gr m es ts){left right one two:Nat}{e:Nat×Nat}{l l' tail:List Nat}(hl:left<2*es.length)(hr:CR (fol es ts) (2*es.length) (left::tail))(hch:lr (fol es ts) left tail left)(hm:right∈left::tail)
  (h1:hd es left=one) (h2:hd es right=two) (hne:one≠two) (he:e=(one,two)∨e=(two,one)) (e1:ts[one]?=some l) (e2:ts[two]?=some l') :
  Gr m (es++[e]) ((ts.set one (ins l (l.idxOf (left/2)+1) es.length)).set two (ins l' (l'.idxOf (right/2)+1) es.length)):=by
 have w:=g.w
 have hrt:right<2*es.length:=hr.lt right hm
 have hlen:=w.len
 have o1:one<m:=by rw[← hlen];exact(P0.mp e1).1
 have o2:two<m:=by rw[← hlen];exact(P0.mp e2).1
 have W:bW m (es++[e]) ((ts.set one (ins l (l.idxOf (left/2)+1) es.length)).set two (ins l' (l'.idxOf (right/2)+1) es.length)):=by
  rcases he with rfl | rfl
  ·exact w.put o1 o2 hne e1 e2
  ·exact(w.put o1 o2 hne e1 e2).flip
 have r1:((ts.set one (ins l (l.idxOf (left/2)+1) es.length)).set two (ins l' (l'.idxOf (right/2)+1) es.length))[one]?=some (ins l (l.idxOf (left/2)+1) es.length):=by
  rw[QU,if_neg (fun z=>hne z.symm),QU,if_pos rfl,if_pos (by rw[hlen];exact o1)]
 have r2:((ts.set one (ins l (l.idxOf (left/2)+1) es.length)).set two (ins l' (l'.idxOf (right/2)+1) es.length))[two]?=some (ins l' (l'.idxOf (right/2)+1) es.length):=by
  rw[QU,if_pos rfl,if_pos (by rw[QM,hlen];exact o2)]
 have r3:∀ p,p≠one->p≠two->((ts.set one (ins l (l.idxOf (left/2)+1) es.length)).set two (ins l' (l'.idxOf (right/2)+1) es.length))[p]?=ts[p]?:=fun p n1 n2=>by
  rw[QU,if_neg (fun z=>n2 z.symm),QU,if_neg (fun z=>n1 z.symm)]
 generalize (ts.set one (ins l (l.idxOf (left/2)+1) es.length)).set two (ins l' (l'.idxOf (right/2)+1) es.length)=ts' at W r1 r2 r3
 obtain⟨a1,a2,a3⟩:=Es (e:=e) w e1 hl h1 r1
 obtain⟨b1,b2,b3⟩:=Es (e:=e) w e2 hrt h2 r2
 obtain⟨d1,d2,d3,d4⟩:=Gd (es:=es) hne he
 have fa:=b2 _ (cX _ _ _) d1
 have fb:=a2 _ (cX _ _ _) d2
 have els:∀ d,d<2*es.length->d≠left->d≠right->fol (es++[e]) ts' d=fol es ts d:=fun d hd' n1 n2=>by
  by_cases z1:hd es d=one
  ·exact a3 d hd' n1 z1
  ·by_cases z2:hd es d=two
   ·exact b3 d hd' n2 z2
   ·exact F6 w hd' (r3 _ z1 z2)
 generalize ha:lq es.length e one=α at *
 generalize hb:lq es.length e two=β at *
 have hα:α/2=es.length:=by rw[← ha];exact cX _ _ _
 have hβ:β/2=es.length:=by rw[← hb];exact cX _ _ _
 have hlr:right≠left:=fun z=>hne (by rw[← h1,← h2,z])
 have hm':right∈tail:=by
  rcases P8.mp hm with z | z
  ·exact absurd z hlr
  ·exact z
 obtain⟨xs,ys,rfl⟩:=Sg hm'
 obtain⟨c1,c2⟩:=ja.mp hch
 have nd:=hr.nd
 have ltx:∀ t∈xs,t<2*es.length/\t≠left/\t≠right:=fun t ht=>by
  refine⟨hr.lt t (by simp[ht]),fun z=>?_,fun z=>?_⟩
  ·subst z;exact(Qp.mp nd).1 (by simp[ht])
  ·subst z
   have:=(Qx.mp (Qp.mp nd).2).2.2 t ht t (by simp)
   exact this rfl
 have lty:∀ t∈ys,t<2*es.length/\t≠left/\t≠right:=fun t ht=>by
  refine⟨hr.lt t (by simp[ht]),fun z=>?_,fun z=>?_⟩
  ·subst z;exact(Qp.mp nd).1 (by simp[ht])
  ·subst z
   exact(Qp.mp (Qx.mp (Qp.mp nd).2).2.1).1 ht
 obtain⟨rs,p,cnt⟩:=g.part
 obtain⟨rest,pr,cnt2⟩:=p.pick hr
 have ndr:=pr.nd
 rw[QS]at ndr
 obtain⟨_,nd2,nd3⟩:=Qx.mp ndr
 have ltr:∀ t∈rest.flatten,t<2*es.length/\t≠left/\t≠right:=fun t ht=>by
  obtain⟨q,q1,q2⟩:=QZ.mp ht
  exact⟨(pr.cr q (Qe _ q1)).lt t q2,fun z=>nd3 left (by simp) t ht z.symm,fun z=>nd3 right (by simp) t ht z.symm⟩
 have hlen2:(es++[e]).length=es.length+1:=by rw[P2];rfl
 refine⟨W,⟨(left::α::ys)::(right::β::xs)::rest,⟨fun q hq=>?_,?_,fun d hd'=>?_⟩,by rw[hlen2];simp only[Qz]at cnt2 ⊢;omega⟩,Nb g.conn⟩
 ·rcases P8.mp hq with z | z
  ·subst z
   refine⟨⟨left,α::ys,rfl,a1,nZ c2 fa fun t ht=>els t (lty t ht).1 (lty t ht).2.1 (lty t ht).2.2⟩,fun d hd'=>?_,?_⟩
   ·rw[hlen2]
    simp only[P8]at hd'
    rcases hd' with y | y | y
    ·omega
    ·omega
    ·have:=(lty d y).1;omega
   ·refine Qp.mpr ⟨fun y=>?_,Qp.mpr ⟨fun y=>?_,?_⟩⟩
    ·rcases P8.mp y with y | y
     ·omega
     ·exact(lty _ y).2.1 rfl
    ·have:=(lty _ y).1;omega
    ·exact(Qp.mp (Qx.mp (Qp.mp nd).2).2.1).2
  ·rcases P8.mp z with z | z
   ·subst z
    refine⟨⟨right,β::xs,rfl,b1,nZ c1 fb fun t ht=>els t (ltx t ht).1 (ltx t ht).2.1 (ltx t ht).2.2⟩,fun d hd'=>?_,?_⟩
    ·rw[hlen2]
     simp only[P8]at hd'
     rcases hd' with y | y | y
     ·omega
     ·omega
     ·have:=(ltx d y).1;omega
    ·refine Qp.mpr ⟨fun y=>?_,Qp.mpr ⟨fun y=>?_,?_⟩⟩
     ·rcases P8.mp y with y | y
      ·omega
      ·exact(ltx _ y).2.2 rfl
     ·have:=(ltx _ y).1;omega
     ·exact(Qx.mp (Qp.mp nd).2).1
   ·refine(pr.cr q (Qe _ z)).mono (by rw[hlen2];omega) fun t ht=>?_
    obtain⟨k1,k2,k3⟩:=ltr t (QZ.mpr ⟨q,z,ht⟩)
    exact els t k1 k2 k3
 ·have dis:∀ x∈xs,∀ y∈ys,x≠y:=fun x hx y hy=>(Qx.mp (Qp.mp nd).2).2.2 x hx y (by simp[hy])
  rw[QS,QS]
  refine Qx.mpr ⟨?_,Qx.mpr ⟨?_,nd2,fun a ha b hb=>?_⟩,fun a ha b hb=>?_⟩
  ·refine Qp.mpr ⟨fun y=>?_,Qp.mpr ⟨fun y=>?_,(Qp.mp (Qx.mp (Qp.mp nd).2).2.1).2⟩⟩
   ·rcases P8.mp y with y | y
    ·omega
    ·exact(lty _ y).2.1 rfl
   ·have:=(lty _ y).1;omega
  ·refine Qp.mpr ⟨fun y=>?_,Qp.mpr ⟨fun y=>?_,(Qx.mp (Qp.mp nd).2).1⟩⟩
   ·rcases P8.mp y with y | y
    ·omega
    ·exact(ltx _ y).2.2 rfl
   ·have:=(ltx _ y).1;omega
  ·obtain⟨k1,k2,k3⟩:=ltr b hb
   simp only[P8]at ha
   rcases ha with y | y | y
   ·exact fun z=>k3 (z▸y)
   ·omega
   ·exact nd3 a (by simp[y]) b hb
  ·simp only[P8,Qf]at ha hb
   rcases hb with(y | y | y) | y
   ·rcases ha with z | z | z
    ·exact fun u=>hlr (by rw[← y,← u,z])
    ·have:=hrt;omega
    ·exact fun u=>(lty a z).2.2 (u.trans y)
   ·rcases ha with z | z | z
    ·omega
    ·omega
    ·have:=(lty a z).1;omega
   ·rcases ha with z | z | z
    ·exact fun u=>(ltx b y).2.1 (u▸z)
    ·have:=(ltx b y).1;omega
    ·exact fun u=>dis b y a z u.symm
   ·obtain⟨k1,k2,k3⟩:=ltr b y
    rcases ha with z | z | z
    ·exact fun u=>k2 (u▸z)
    ·omega
    ·exact nd3 a (by simp[z]) b y
 ·rw[hlen2]at hd'
  simp only[QS,Qf,P8]
  rcases d4 d hd' with y | y | y
  ·have:=pr.all d y
   simp only[QS,Qf,P8]at this
   rcases this with(z | z | z | z) | z
   ·exact .inl (.inl z)
   ·exact .inr (.inl (.inr (.inr z)))
   ·exact .inr (.inl (.inl z))
   ·exact .inl (.inr (.inr z))
   ·exact .inr (.inr z)
  ·exact .inl (.inr (.inl y))
  ·exact .inr (.inl (.inr (.inl y)))
end K8
namespace K8
theorem Gr.leaf{m:Nat}{es:En}{ts:List (List Nat)}(g:Gr m es ts){left one:Nat}{e:Nat×Nat}{l tail:List Nat}(hl:left<2*es.length)(hr:CR (fol es ts) (2*es.length) (left::tail))(hch:lr (fol es ts) left tail left)
  (h1:hd es left=one) (he:e=(one,m)∨e=(m,one)) (e1:ts[one]?=some l) :
  Gr (m+1) (es++[e]) (ts.set one (ins l (l.idxOf (left/2)+1) es.length)++[[es.length]]):=by
 have w:=g.w
 have hlen:=w.len
 have o1:one<m:=by rw[← hlen];exact(P0.mp e1).1
 have hne:one≠m:=by omega
 have W:bW (m+1) (es++[e]) (ts.set one (ins l (l.idxOf (left/2)+1) es.length)++[[es.length]]):=by
  have q:=w.room.put (one:=one) (two:=m) (k:=l.idxOf (left/2)+1) (j:=0) (l:=l) (l':=[]) (by omega) (by omega) hne (by rw[P6 (by omega)];exact e1) (by rw[P4 (by omega),hlen,Qu];rfl)
  have q2:((ts++[[]]).set one (ins l (l.idxOf (left/2)+1) es.length)).set m (ins [] 0 es.length)=ts.set one (ins l (l.idxOf (left/2)+1) es.length)++[[es.length]]:=by
   rw[List.set_append_left _ _ (by omega),List.set_append_right _ _ (by rw[QM];omega),QM,hlen,Qu]
   rfl
  rw[q2]at q
  rcases he with rfl | rfl
  ·exact q
  ·exact q.flip
 have r1:(ts.set one (ins l (l.idxOf (left/2)+1) es.length)++[[es.length]])[one]?=some (ins l (l.idxOf (left/2)+1) es.length):=by
  rw[P6 (by rw[QM];omega),QU,if_pos rfl,if_pos (by omega)]
 have r2:(ts.set one (ins l (l.idxOf (left/2)+1) es.length)++[[es.length]])[m]?=some [es.length]:=by
  rw[P4 (by rw[QM];omega),QM,hlen,Qu]
  rfl
 have r3:∀ p,p≠one->p<m->(ts.set one (ins l (l.idxOf (left/2)+1) es.length)++[[es.length]])[p]?=ts[p]?:=fun p n1 n2=>by
  rw[P6 (by rw[QM];omega),QU,if_neg (fun z=>n1 z.symm)]
 generalize ts.set one (ins l (l.idxOf (left/2)+1) es.length)++[[es.length]]=ts' at W r1 r2 r3
 obtain⟨a1,a2,a3⟩:=Es (e:=e) w e1 hl h1 r1
 obtain⟨d1,d2,d3,d4⟩:=Gd (es:=es) hne he
 have fb:=a2 _ (cX _ _ _) d2
 have fa:fol (es++[e]) ts' (lq es.length e one)=lq es.length e m:=by
  rw[gH (l:=[es.length]) (by rw[d1];exact r2),cX,d1]
  have:nxt [es.length] es.length=es.length:=by
   unfold nxt
   rw[List.idxOf_cons_self]
   simp
  rw[this,AN]
  rfl
 have els:∀ d,d<2*es.length->d≠left->fol (es++[e]) ts' d=fol es ts d:=fun d hd' n1=>by
  by_cases z1:hd es d=one
  ·exact a3 d hd' n1 z1
  ·obtain⟨_,_,_,_,_,k4,_⟩:=w.at hd'
   exact F6 w hd' (r3 _ z1 k4)
 generalize ha:lq es.length e one=α at *
 generalize hb:lq es.length e m=β at *
 have hα:α/2=es.length:=by rw[← ha];exact cX _ _ _
 have hβ:β/2=es.length:=by rw[← hb];exact cX _ _ _
 have nd:=hr.nd
 have ltt:∀ t∈tail,t<2*es.length/\t≠left:=fun t ht=>⟨hr.lt t (by simp[ht]),fun z=>(Qp.mp nd).1 (z▸ht)⟩
 obtain⟨rs,p,cnt⟩:=g.part
 obtain⟨rest,pr,cnt2⟩:=p.pick hr
 have ndr:=pr.nd
 rw[QS]at ndr
 obtain⟨_,nd2,nd3⟩:=Qx.mp ndr
 have ltr:∀ t∈rest.flatten,t<2*es.length/\t≠left:=fun t ht=>by
  obtain⟨q,q1,q2⟩:=QZ.mp ht
  exact⟨(pr.cr q (Qe _ q1)).lt t q2,fun z=>nd3 left (by simp) t ht z.symm⟩
 have hlen2:(es++[e]).length=es.length+1:=by rw[P2];rfl
 have nd4:(left::α::β::tail).Nodup:=by
  refine Qp.mpr ⟨fun y=>?_,Qp.mpr ⟨fun y=>?_,Qp.mpr ⟨fun y=>?_,(Qp.mp nd).2⟩⟩⟩
  ·simp only[P8]at y
   rcases y with y | y | y
   ·omega
   ·omega
   ·exact(ltt _ y).2 rfl
  ·simp only[P8]at y
   rcases y with y | y
   ·exact d3 y
   ·have:=(ltt _ y).1;omega
  ·have:=(ltt _ y).1;omega
 refine⟨W,⟨(left::α::β::tail)::rest,⟨fun q hq=>?_,?_,fun d hd'=>?_⟩,by rw[hlen2];simp only[Qz]at cnt2 ⊢;omega⟩,fun S hS x y hx hy sx=>?_⟩
 ·rcases P8.mp hq with z | z
  ·subst z
   refine⟨⟨left,α::β::tail,rfl,a1,fa,nZ hch fb fun t ht=>els t (ltt t ht).1 (ltt t ht).2⟩,fun d hd'=>?_,nd4⟩
   rw[hlen2]
   simp only[P8]at hd'
   rcases hd' with y | y | y | y
   ·omega
   ·omega
   ·omega
   ·have:=(ltt d y).1;omega
  ·refine(pr.cr q (Qe _ z)).mono (by rw[hlen2];omega) fun t ht=>?_
   obtain⟨k1,k2⟩:=ltr t (QZ.mpr ⟨q,z,ht⟩)
   exact els t k1 k2
 ·rw[QS]
  refine Qx.mpr ⟨nd4,nd2,fun a ha b hb=>?_⟩
  obtain⟨k1,k2⟩:=ltr b hb
  simp only[P8]at ha
  rcases ha with y | y | y | y
  ·exact fun u=>k2 (u▸y)
  ·omega
  ·omega
  ·exact nd3 a (by simp[y]) b hb
 ·rw[hlen2]at hd'
  simp only[QS,Qf,P8]
  rcases d4 d hd' with y | y | y
  ·have:=pr.all d y
   simp only[QS,Qf,P8]at this
   rcases this with(z | z) | z
   ·exact .inl (.inl z)
   ·exact .inl (.inr (.inr (.inr z)))
   ·exact .inr z
  ·exact .inl (.inr (.inl y))
  ·exact .inl (.inr (.inr (.inl y)))
 ·-- in one piece
  have hSe:S one↔S m:=by
   have:=hS e (by simp)
   rcases he with rfl | rfl
   ·exact this
   ·exact this.symm
  have old:=g.conn S fun x hx=>hS x (QF _ hx)
  have toOne:S one:=by
   by_cases z:x<m
   ·exact old x one z o1 sx
   ·have:x=m:=by omega
    subst this
    exact hSe.mpr sx
  by_cases z:y<m
  ·exact old one y o1 z toOne
  ·have:y=m:=by omega
   subst this
   exact hSe.mp toOne
theorem gr_two:Gr 2 [(0,1)] [[0],[0]]:=by
 have W:bW 2 [(0,1)] [[0],[0]]:=by
  refine⟨rfl,fun e he=>?_,fun p l h=>?_,fun p l h t=>?_⟩
  ·have:e=(0,1):=by simpa using he
   subst this
   exact⟨by decide,by decide,by decide⟩
  ·match p,h with
   |0,h=>cases h;decide
   |1,h=>cases h;decide
   |p+2,h=>cases h
  ·have key:(∃ e,([(0,1)]:En)[t]?=some e/\(e.1=p∨e.2=p))↔t=0/\(p=0∨p=1):=by
    constructor
    ·rintro⟨e,h1,h2⟩
     match t,h1 with
     |0,h1=>cases h1;exact⟨rfl,h2.imp Eq.symm Eq.symm⟩
     |t+1,h1=>cases h1
    ·rintro⟨rfl,h2⟩
     exact⟨(0,1),rfl,h2.imp Eq.symm Eq.symm⟩
   rw[key]
   match p,h with
   |0,h=>cases h;simp
   |1,h=>cases h;simp
   |p+2,h=>cases h
 refine⟨W,⟨[[0,1]],⟨fun r hr=>?_,by decide,fun d hd=>?_⟩,rfl⟩,fun S hS p q hp hq sp=>?_⟩
 ·have:r = [0,1]:=by simpa using hr
  subst this
  exact⟨⟨0,[1],rfl,by decide,(by show fol [(0,1)] [[0],[0]] 1=0;decide)⟩,fun d hd=>by simp at hd ⊢;omega,by decide⟩
 ·have hd2:d<2:=hd
  simp
  omega
 ·have:=hS (0,1) (by simp)
  have h01:S 0↔S 1:=this
  have hp':p=0∨p=1:=by omega
  have hq':q=0∨q=1:=by omega
  rcases hp' with rfl | rfl<;>rcases hq' with rfl | rfl
  ·exact sp
  ·exact h01.mp sp
  ·exact h01.mpr sp
  ·exact sp
end K8
namespace K8
structure Bij(F:Nat->Nat)(n:Nat):Prop where
 lt:∀ k,k<n->F k<n
 inj:∀ a b,a<n->b<n->F a=F b->a=b
 sur:∀ y,y<n->∃ k,k<n/\F k=y
def ofL(o:List Nat)(k:Nat):Nat:=(o[k]?).getD 0
theorem Gm{o:List Nat}{n:Nat}(hl:o.length=n)(nd:o.Nodup)(h:∀ x∈o,x<n):Bij (ofL o) n:=by
 have get:∀ k,k<n->o[k]?=some (ofL o k):=fun k hk=>by
  unfold ofL
  rw[PZ (by omega)]
  rfl
 refine⟨fun k hk=>h _ (P7 (get k hk)),fun a b ha hb e=>FT nd (get a ha) (by rw[get b hb,e]),fun y hy=>?_⟩
 have hm:y∈o:=by
  by_cases z:y∈o
  ·exact z
  ·have:=js (a:=y::o) (N:=n) (Qp.mpr ⟨z,nd⟩) fun x hx=>by
    rcases P8.mp hx with u | u
    ·omega
    ·exact h x u
   rw[Qz]at this
   omega
 obtain⟨k,hk⟩:=QY.mp hm
 have hkl:=(P0.mp hk).1
 refine⟨k,by omega,?_⟩
 have:=get k (by omega)
 rw[hk]at this
 exact(Qt this).symm
theorem FR{F:Nat->Nat}:∀{l:List Nat},l.Nodup->(∀ x∈l,∀ y∈l,F x=F y->x=y)->(l.map F).Nodup
 |[],_,_=>Sl
 |a::l,nd,h=>by
  obtain⟨n1,n2⟩:=Qp.mp nd
  refine Qp.mpr ⟨fun z=>?_,FR n2 fun x hx y hy=>h x (Qe _ hx) y (Qe _ hy)⟩
  obtain⟨x,hx,e⟩:=Qv.mp z
  have:=h x (Qe _ hx) a (Ql ..) e
  exact n1 (this▸hx)
theorem O4{F:Nat->Nat}{l:List Nat}{t:Nat}(ht:t∈l)(h:∀ x∈l,F x=F t->x=t):nxt (l.map F) (F t)=F (nxt l t):=by
 obtain⟨A,B,rfl,k⟩:=ip ht
 have k2:F t∉A.map F:=fun z=>by
  obtain⟨x,hx,e⟩:=Qv.mp z
  exact k (h x (by simp[hx]) e▸hx)
 rw[QE,QA,bo k2,bo k]
 cases B<;>cases A<;>rfl
theorem O3{X Y:List Nat}{t:Nat}(nd:(X++Y).Nodup)(ht:t∈X++Y):nxt (Y++X) t=nxt (X++Y) t:=by
 obtain⟨n1,n2,n3⟩:=Qx.mp nd
 rcases Qf.mp ht with z | z
 ·have tY:t∉Y:=fun y=>n3 t z t y rfl
  obtain⟨A,B,rfl,k⟩:=ip z
  have e1:Y++(A++t::B)=(Y++A)++t::B:=by simp
  have e2:(A++t::B)++Y=A++t::(B++Y):=by simp
  rw[e1,e2,bo (by simp[tY,k]),bo k]
  cases B<;>cases Y<;>cases A<;>rfl
 ·have tX:t∉X:=fun y=>n3 t y t z rfl
  obtain⟨A,B,rfl,k⟩:=ip z
  have e1:(A++t::B)++X=A++t::(B++X):=by simp
  have e2:X++(A++t::B)=(X++A)++t::B:=by simp
  rw[e1,e2,bo k,bo (by simp[tX,k])]
  cases B<;>cases X<;>cases A<;>rfl
structure Ren(m:Nat)(es es2:En)(ts ts2:List (List Nat))(π σ:Nat->Nat):Prop where
 pi:Bij π m
 si:Bij σ es.length
 l1:es2.length=es.length
 l2:ts2.length=m
 es:∀(k:Nat)(e:Nat×Nat),es[k]?=some e->es2[σ k]?=some (π e.1,π e.2)
 ts:∀(p:Nat)(l:List Nat),ts[p]?=some l->∃ X Y,l=X++Y/\ts2[π p]?=some ((Y++X).map σ)
section
variable{m:Nat}{es es2:En}{ts ts2:List (List Nat)}{π σ:Nat->Nat}
theorem Ren.es'(R:Ren m es es2 ts ts2 π σ){j:Nat}{x:Nat×Nat}(h:es2[j]?=some x):∃ k e,σ k=j/\es[k]?=some e/\x=(π e.1,π e.2):=by
 have hj:=(P0.mp h).1
 rw[R.l1]at hj
 obtain⟨k,hk,rfl⟩:=R.si.sur j hj
 have e1:es[k]?=some es[k]:=PZ hk
 have:=R.es k _ e1
 rw[h]at this
 exact⟨k,_,rfl,e1,Qt this⟩
theorem Ren.ts'(R:Ren m es es2 ts ts2 π σ)(w:bW m es ts){j:Nat}{L:List Nat}(h:ts2[j]?=some L):∃ p l X Y,p<m/\π p=j/\ts[p]?=some l/\l=X++Y/\L=(Y++X).map σ:=by
 have hj:=(P0.mp h).1
 rw[R.l2]at hj
 obtain⟨p,hp,rfl⟩:=R.pi.sur j hj
 have e1:ts[p]?=some (ts[p]'(by rw[w.len];exact hp)):=PZ _
 obtain⟨X,Y,h1,h2⟩:=R.ts p _ e1
 rw[h]at h2
 exact⟨p,_,X,Y,hp,rfl,e1,h1,Qt h2⟩
theorem qu(w:bW m es ts){p:Nat}{l:List Nat}(h:ts[p]?=some l){t:Nat}(ht:t∈l):t<es.length:=by
 obtain⟨x,hx,_⟩:=(w.mem p l h t).mp ht
 exact(P0.mp hx).1
theorem Ren.turn(R:Ren m es es2 ts ts2 π σ)(w:bW m es ts):bW m es2 ts2:=by
 refine⟨R.l2,fun x hx=>?_,fun j L h=>?_,fun j L h t=>?_⟩
 ·obtain⟨j,hj⟩:=QY.mp hx
  obtain⟨k,e,_,h1,rfl⟩:=R.es' hj
  obtain⟨a1,a2,a3⟩:=w.ends e (P7 h1)
  exact⟨R.pi.lt _ a1,R.pi.lt _ a2,fun z=>a3 (R.pi.inj _ _ a1 a2 z)⟩
 ·obtain⟨p,l,X,Y,hp,rfl,h1,rfl,rfl⟩:=R.ts' w h
  have nd:=w.nd p _ h1
  obtain⟨n1,n2,n3⟩:=Qx.mp nd
  refine FR (Qx.mpr ⟨n2,n1,fun a ha b hb z=>n3 b hb a ha z.symm⟩) fun x hx y hy=>R.si.inj x y (qu w h1 ?_) (qu w h1 ?_)
  ·simp only[Qf]at hx ⊢;exact hx.symm
  ·simp only[Qf]at hy ⊢;exact hy.symm
 ·obtain⟨p,l,X,Y,hp,rfl,h1,rfl,rfl⟩:=R.ts' w h
  constructor
  ·intro z
   obtain⟨k,hk,rfl⟩:=Qv.mp z
   obtain⟨e,h2,h3⟩:=(w.mem p _ h1 k).mp (by simp only[Qf]at hk ⊢;exact hk.symm)
   exact⟨_,R.es k e h2,h3.imp (congrArg π) (congrArg π)⟩
  ·rintro⟨x,h2,h3⟩
   obtain⟨k,e,rfl,h4,rfl⟩:=R.es' h2
   obtain⟨a1,a2,a3⟩:=w.ends e (P7 h4)
   have hk:=(w.mem p _ h1 k).mpr ⟨e,h4,h3.imp (R.pi.inj _ _ a1 hp) (R.pi.inj _ _ a2 hp)⟩
   exact Qv.mpr ⟨k,by simp only[Qf]at hk ⊢;exact hk.symm,rfl⟩
def Phi(σ:Nat->Nat)(d:Nat):Nat:=2*σ (d/2)+d%2
theorem rO(d:Nat):Phi σ d/2=σ (d/2):=by unfold Phi;omega
theorem Ren.hd(R:Ren m es es2 ts ts2 π σ){d:Nat}(hd':d<2*es.length):hd es2 (Phi σ d)=π (hd es d):=by
 have e1:es[d/2]?=some (es[d/2]'(by omega)):=PZ _
 have e2:=R.es _ _ e1
 unfold K8.hd
 rw[rO,e1,e2]
 have hm:Phi σ d%2=d%2:=by unfold Phi;omega
 show(if Phi σ d%2=0 then π es[d/2].2 else π es[d/2].1)=π (if d%2=0 then es[d/2].2 else es[d/2].1)
 rw[hm]
 split<;>rfl
theorem Ren.fol(R:Ren m es es2 ts ts2 π σ)(w:bW m es ts){d:Nat}(hd':d<2*es.length):fol es2 ts2 (Phi σ d)=Phi σ (fol es ts d):=by
 obtain⟨_,l,_,_,_,k4,k5,k6⟩:=w.at hd'
 obtain⟨X,Y,rfl,h2⟩:=R.ts _ _ k5
 have nd:=w.nd _ _ k5
 rw[gH (l:=(Y++X).map σ) (by rw[R.hd hd'];exact h2),gH k5,rO,R.hd hd']
 have k7:d/2∈Y++X:=by simp only[Qf]at k6 ⊢;exact k6.symm
 rw[O4 k7 fun x hx=>R.si.inj x _ (qu w k5 (by simp only[Qf]at hx ⊢;exact hx.symm)) (qu w k5 k6),O3 nd k6]
 have hn:=P7 (jF k6)
 have hlt:=qu w k5 hn
 generalize nxt (X++Y) (d/2)=t at hlt
 have e1:es[t]?=some es[t]:=PZ hlt
 have a1:=(w.ends _ (P7 e1)).1
 unfold leave
 rw[R.es _ _ e1,e1]
 show(if π es[t].1=π (K8.hd es d) then 2*σ t else 2*σ t+1)=Phi σ (if es[t].1=K8.hd es d then 2*t else 2*t+1)
 by_cases z:es[t].1=K8.hd es d
 ·rw[if_pos z,if_pos (congrArg π z)]
  unfold Phi
  rw[show 2*t/2=t by omega]
  omega
 ·rw[if_neg z,if_neg (fun y=>z (R.pi.inj _ _ a1 k4 y))]
  unfold Phi
  rw[show(2*t+1)/2=t by omega]
  omega
theorem LV(b:Bij σ es.length){x y:Nat}(hx:x<2*es.length)(hy:y<2*es.length)(e:Phi σ x=Phi σ y):x=y:=by
 have e1:σ (x/2)=σ (y/2):=by
  have h1:=rO (σ:=σ) x
  have h2:=rO (σ:=σ) y
  rw[e]at h1
  exact h1.symm.trans h2
 have:=b.inj _ _ (by omega) (by omega) e1
 unfold Phi at e
 omega
theorem Ren.gr(R:Ren m es es2 ts ts2 π σ)(g:Gr m es ts):Gr m es2 ts2:=by
 obtain⟨rs,p,cnt⟩:=g.part
 have flt:∀ d∈rs.flatten,d<2*es.length:=fun d hd=>by
  obtain⟨r,h1,h2⟩:=QZ.mp hd
  exact(p.cr r h1).lt d h2
 have hfl:(rs.map (List.map (Phi σ))).flatten=rs.flatten.map (Phi σ):=List.map_flatten.symm
 refine⟨R.turn g.w,⟨rs.map (List.map (Phi σ)),⟨fun q hq=>?_,?_,fun d hd=>?_⟩,by rw[P5,R.l1];exact cnt⟩,fun S hS x y hx hy sx=>?_⟩
 ·obtain⟨r,hr,rfl⟩:=Qv.mp hq
  have c:=p.cr r hr
  obtain⟨x,l,rfl,ch⟩:=c.ch
  refine⟨⟨Phi σ x,l.map (Phi σ),rfl,BJ ch fun t ht=>R.fol g.w (c.lt t ht)⟩,fun d hd=>?_,FR c.nd fun a ha b hb=>LV R.si (c.lt a ha) (c.lt b hb)⟩
  obtain⟨t,ht,rfl⟩:=Qv.mp hd
  have h1:=c.lt t ht
  have h2:=R.si.lt (t/2) (by omega)
  rw[R.l1]
  unfold Phi
  omega
 ·rw[hfl]
  exact FR p.nd fun a ha b hb=>LV R.si (flt a ha) (flt b hb)
 ·rw[R.l1]at hd
  obtain⟨k,hk,e⟩:=R.si.sur (d/2) (by omega)
  rw[hfl]
  refine Qv.mpr ⟨2*k+d%2,p.all _ (by omega),?_⟩
  unfold Phi
  rw[show(2*k+d%2)/2=k by omega,e]
  omega
 ·obtain⟨x',hx',rfl⟩:=R.pi.sur x hx
  obtain⟨y',hy',rfl⟩:=R.pi.sur y hy
  refine g.conn (fun p=>S (π p)) (fun e he=>?_) x' y' hx' hy' sx
  obtain⟨k,hk⟩:=QY.mp he
  exact hS (π e.1,π e.2) (P7 (R.es k e hk))
end
end K8
namespace K8
open PySem L2
local macro_rules | `(tactic| walk_at "cc") => `(tactic| first | exact ⟨by decide, by decide⟩ | (show (0 : Int) < _; decide) | (show (0 : Int) < _; omega) | (show (0 : Int) ≤ _; omega) | exact ⟨by decide, by decide, by decide⟩ | exact ⟨by omega, by omega, by decide⟩ | exact Or.inl ⟨by decide, by decide⟩ | exact Or.inl ⟨by omega, by omega⟩)
local macro_rules | `(tactic| walk_at "rd") => `(tactic| repeat (first | refine ⟨_, rfl, ?_⟩ | refine ⟨_, _, rfl, rfl, ?_⟩ | refine ⟨rfl, ?_⟩ | (refine ⟨?cc, ?_⟩; (case cc => walk_at "cc"))))
def top(i:Nat):Stmt:=PySem.Challenge.pw_spinfloor_k64_deeds_refused.main.body.getD i (.Pass ⟨0,0,0,0⟩)
abbrev bw:Stmt:=iW (top 8) 0
abbrev gZ:Stmt:=top 10
abbrev cV:Stmt:=iW (top 12) 0
abbrev fJ:Stmt:=iW (top 12) 1
abbrev dE:Stmt:=iW (top 14) 0
abbrev wy:Stmt:=top 16
abbrev g7:Stmt:=top 17
abbrev fH:Stmt:=top 18
abbrev cS:Stmt:=top 19
abbrev du:Stmt:=top 20
abbrev fE:Stmt:=top 21
abbrev cu:Stmt:=top 23
abbrev bX:Stmt:=top 24
abbrev bI:Stmt:=top 25
abbrev b9:Stmt:=iW (top 26) 0
abbrev kJ:Stmt:=top 30
abbrev gY:Stmt:=top 31
abbrev gX:Stmt:=top 32
abbrev dv:Stmt:=top 33
abbrev cU:Stmt:=top 34
abbrev br:Stmt:=top 35
abbrev cv:Stmt:=top 36
abbrev fB:Stmt:=top 37
abbrev dm:Stmt:=top 38
abbrev lX:Stmt:=top 39
abbrev ir:Stmt:=top 40
abbrev dt:Stmt:=top 41
abbrev b8:Stmt:=top 42
abbrev wx:Stmt:=top 43
abbrev sq:Stmt:=top 44
abbrev bY:Stmt:=top 47
abbrev fA:Stmt:=top 48
abbrev kI:Stmt:=top 49
abbrev g9:Stmt:=top 50
abbrev hG:Stmt:=top 51
abbrev bQ:Stmt:=iW (top 52) 0
abbrev hU:Stmt:=iW (top 52) 1
abbrev dH:Stmt:=iW (top 52) 2
abbrev dG:Stmt:=iW (top 52) 3
abbrev fG:Stmt:=top 54
abbrev fF:Stmt:=top 55
abbrev cT:Stmt:=top 56
abbrev dw:Stmt:=top 57
abbrev dA:Stmt:=top 58
abbrev dz:Stmt:=top 59
abbrev bu:Stmt:=top 60
abbrev dB:Stmt:=top 61
abbrev bZ:Stmt:=top 62
abbrev cx:Stmt:=top 63
abbrev aS:Stmt:=top 64
abbrev cA:Stmt:=top 65
abbrev g8:Stmt:=top 66
abbrev cy:Stmt:=top 67
abbrev cB:Stmt:=top 68
abbrev xS:Stmt:=top 69
def tf(a b s:Int):List (Str×V):=putF "strength" (.int s) (putF "two" (.int b) (putF "one" (.int a) []))
theorem lu(a b s:Int):(tf a b s).lookup ("one" : Str)=some (.int a):=by
 unfold tf
 rw[aK,if_neg (by decide +kernel),aK,if_neg (by decide +kernel),aK,if_pos rfl]
theorem rR(a b s:Int):(tf a b s).lookup ("two" : Str)=some (.int b):=by
 unfold tf
 rw[aK,if_neg (by decide +kernel),aK,if_pos rfl]
theorem Nn(a b s:Int):(tf a b s).lookup ("strength" : Str)=some (.int s):=by
 unfold tf
 rw[aK,if_pos rfl]
theorem Mb(a b s:Int){m:Str} (h1:¬ m = "strength") (h2:¬ m = "two") (h3:¬ m = "one"):(tf a b s).lookup m=none:=by
 unfold tf
 rw[aK,if_neg h1,aK,if_neg h2,aK,if_neg h3]
 all_goals rfl
theorem f1_len(a:Int):(putF "one" (.int a) []).length<1000:=by show 1<1000;decide
theorem f2_len(a b:Int):(putF "two" (.int b) (putF "one" (.int a) [])).length<1000:=by
 have e:(putF "two" (.int b) (putF "one" (.int a) []):List (Str×V))=([("one",.int a),("two",.int b)]:List (Str×V)):=by
  show(if("one" : Str) = "two" then[(("one" : Str),V.int b)] else(("one" : Str),V.int a)::putF "two" (V.int b) [])=_
  rw[if_neg (by decide +kernel)]
  all_goals rfl
 rw[e]
 show 2<1000
 decide
structure CT(K:P1)(C:Addr):Prop where
 cl:Cls K C
 n1:f9 K C "one"
 n2:f9 K C "two"
 n3:f9 K C "strength"
def wm(K:P1):Sp:=fun vs H Q _=>∃(p C dx:Addr)(a b s:Int),vs = [.ref p,.int a,.int b,.int s]/\H p=some (.ins C dx [])/\CT K C/\a≠b/\0<=a/\0<=b/\0<=s /\
 ∀ H',H' p=some (.ins C dx (tf a b s))->(∀ q o,H q=some o->q≠p->H' q=some o)->Q .non H'
theorem ao{H:Hp}{p:Addr}(h:H p=none)(o:HO):Same H (upd H p o):=fun b u q=>by rw[ar (aB q h)];exact q
theorem aP{H H2:Hp}{l:Addr}(h:Same H H2)(hl:H l=none)(o:HO):Same H (upd H2 l o):=fun b u q=>by rw[ar (aB q hl)];exact h b u q
def iV(p:Nat):V:=.int (p:Int)
theorem Pk{hs:List Nat}{k x:Nat}(h:hs[k]?=some x):atI (hs.map iV) (k:Int)=some (iV x):=aQ (by rw[Qd,h];rfl)
def cY(H:Hp)(ys:List V)(es:En):Prop:=ys.length=es.length/\∀(i:Nat)(e:Nat×Nat),es[i]?=some e->∃ p,ys[i]?=some (.ref p)/\H p=some (.tup [iV e.1,iV e.2])
theorem cY.mono{H H':Hp}{ys:List V}{es:En}(h:cY H ys es)(s:Same H H'):cY H' ys es:=⟨h.1,fun i e q=>by
 obtain⟨p,a,b⟩:=h.2 i e q
 exact⟨p,a,s _ _ b⟩⟩
def eg(K:P1)(H:Hp)(xs:List V)(es:En):Prop:=xs.length=es.length/\∀(i:Nat)(e:Nat×Nat),es[i]?=some e->∃ p C dx s,xs[i]?=some (.ref p)/\H p=some (.ins C dx (tf (e.1:Int) (e.2:Int) s))/\CT K C
theorem eg.mono{K:P1}{H H':Hp}{xs:List V}{es:En}(t:eg K H xs es)(h:Same H H'):eg K H' xs es:=⟨t.1,fun i e q=>by
 obtain⟨p,C,dx,s,a,b,d⟩:=t.2 i e q
 exact⟨p,C,dx,s,a,h _ _ b,d⟩⟩
def bO(H:Hp)(xs:List V)(ts:List (List Nat)):Prop:=xs.length=ts.length/\∀(i:Nat)(l:List Nat),ts[i]?=some l->∃ p,xs[i]?=some (.ref p)/\H p=some (.lst (l.map iV))
theorem bO.mono{H H':Hp}{xs:List V}{ts:List (List Nat)}(h:bO H xs ts)(s:Same H H'):bO H' xs ts:=⟨h.1,fun i e q=>by
 obtain⟨p,a,b⟩:=h.2 i e q
 exact⟨p,a,s _ _ b⟩⟩
theorem bO.snoc{H:Hp}{xs:List V}{ts:List (List Nat)}{q:Addr}{l:List Nat}(h:bO H xs ts)(e:H q=some (.lst (l.map iV))):bO H (xs++[.ref q]) (ts++[l]):=by
 refine⟨by rw[P2,P2,h.1];rfl,fun j k ej=>?_⟩
 by_cases hj:j<ts.length
 ·rw[P6 hj]at ej
  obtain⟨p,a1,a2⟩:=h.2 j k ej
  exact⟨p,by rw[P6 (by rw[h.1];exact hj)];exact a1,a2⟩
 ·rw[P4 (by omega)]at ej
  have hj2:j=ts.length:=by
   have:=(P0.mp ej).1
   rw[Qa]at this
   omega
  subst hj2
  rw[Qu]at ej
  cases ej
  exact⟨q,by rw[← h.1,P4 (P9 _),Qu];rfl,e⟩
def dh(S:Addr->Prop)(H:Hp)(xs:List V)(ts:List (List Nat)):Prop:=xs.length=ts.length/\∀(i:Nat)(l:List Nat),ts[i]?=some l->∃ p,xs[i]?=some (.ref p)/\¬ S p/\H p=some (.lst (l.map iV))
theorem dh.mono{S:Addr->Prop}{H H':Hp}{xs:List V}{ts:List (List Nat)}(h:dh S H xs ts)(s:∀ b u,¬ S b->H b=some u->H' b=some u):dh S H' xs ts:=⟨h.1,fun i e q=>by
 obtain⟨p,a,n,b⟩:=h.2 i e q
 exact⟨p,a,n,s _ _ n b⟩⟩
theorem dh.off{S:Addr->Prop}{H:Hp}{xs:List V}{ts:List (List Nat)}(h:dh S H xs ts):bO H xs ts:=⟨h.1,fun i e q=>by
 obtain⟨p,a,n,b⟩:=h.2 i e q
 exact⟨p,a,b⟩⟩
theorem dh.snoc{S:Addr->Prop}{H:Hp}{xs:List V}{ts:List (List Nat)}{q:Addr}{l:List Nat}(h:dh S H xs ts)(n:¬ S q)(e:H q=some (.lst (l.map iV))):dh S H (xs++[.ref q]) (ts++[l]):=by
 refine⟨by rw[P2,P2,h.1];rfl,fun j k ej=>?_⟩
 by_cases hj:j<ts.length
 ·rw[P6 hj]at ej
  obtain⟨p,a1,a2⟩:=h.2 j k ej
  exact⟨p,by rw[P6 (by rw[h.1];exact hj)];exact a1,a2⟩
 ·rw[P4 (by omega)]at ej
  have hj2:j=ts.length:=by
   have:=(P0.mp ej).1
   rw[Qa]at this
   omega
  subst hj2
  rw[Qu]at ej
  cases ej
  exact⟨q,by rw[← h.1,P4 (P9 _),Qu];rfl,n,e⟩
theorem yG{f:Nat->Nat}{N i:Nat}{rs:List (List Nat)}(w:f7 f N i rs):rs.flatten.length<=N:=js w.nd fun x hx=>by
 obtain⟨r,h1,h2⟩:=QZ.mp hx
 exact(w.ring r h1).lt x h2
theorem Ml{f:Nat->Nat}{N i:Nat}{rs:List (List Nat)}(w:f7 f N i rs):rs.length<=N:=by
 have h:∀(l:List (List Nat)),(∀ r∈l,0<r.length)->l.length<=l.flatten.length:=fun l=>by
  induction l with
  |nil=>intro _;exact P9 _
  |cons a l ih =>
   intro h
   rw[QS,P2,Qz]
   have h1:=h a (Ql ..)
   have h2:=ih fun r hr=>h r (Qe _ hr)
   omega
 exact QG (h rs fun r hr=>(w.ring r hr).ne) (yG w)
structure TT(K:P1)(H:Hp)(a b:Addr)(m:Nat)(es:En)(ts:List (List Nat)):Prop where
 xs:∃ xs,SqL K H a xs/\eg K H xs es
 ys:∃ ys,SqL K H b ys/\bO H ys ts
 w:bW m es ts
 few:es.length<=62
theorem TT.mono{K:P1}{H H':Hp}{a b:Addr}{m:Nat}{es:En}{ts:List (List Nat)}(t:TT K H a b m es ts)(s:Same H H'):TT K H' a b m es ts:=by
 obtain⟨⟨xs,h1,h2⟩,⟨ys,h3,h4⟩,w,f⟩:=t
 exact⟨⟨xs,s.seq h1,h2.mono s⟩,⟨ys,s.seq h3,h4.mono s⟩,w,f⟩
theorem gU{m:Nat}{es:En}{ts:List (List Nat)}(w:bW m es ts)(f:es.length<=62){p:Nat}{l:List Nat}(h:ts[p]?=some l):(∀ t∈l,t<62)/\l.length<=62:=by
 have a:∀ t∈l,t<es.length:=fun t ht=>by
  obtain⟨e,he,_⟩:=(w.mem p l h t).mp ht
  exact(P0.mp he).1
 exact⟨fun t ht=>by have:=a t ht;omega,QG (js (w.nd p l h) a) f⟩
theorem perm{m:Nat}{es:En}{ts:List (List Nat)}(w:bW m es ts):LW (fol es ts) (2*es.length):=⟨fun d h=>by
 obtain⟨_,_,_,_,_,_,_,_,z,_⟩:=w.foll h
 exact z,fun a b ha hb h=>w.inj ha hb h⟩
def Jf(K:P1):Sp:=fun vs H Q _=>∃(a:Addr)(xs:List V)(es:En)(d:Nat),vs = [.ref a,.int (d:Int)]/\SqL K H a xs/\eg K H xs es/\d<2*es.length/\Q (iV (hd es d)) H
def Je(K:P1):Sp:=fun vs H Q _=>∃(a:Addr)(xs:List V)(es:En)(t p:Nat)(e:Nat×Nat),vs = [.ref a,.int (t:Int),.int (p:Int)]/\SqL K H a xs/\eg K H xs es/\es[t]?=some e/\Q (iV (if e.1=p then 2*t else 2*t+1)) H
def Oh(K:P1):Sp:=fun vs H Q _=>∃(a b:Addr)(m:Nat)(es:En)(ts:List (List Nat))(d:Nat),vs = [.ref a,.ref b,.int (d:Int)]/\TT K H a b m es ts/\d<2*es.length/\Q (iV (fol es ts d)) H
def Jg(K:P1):Sp:=fun vs H Q _=>∃(a b:Addr)(m:Nat)(es:En)(ts:List (List Nat))(d:Nat),vs = [.ref a,.ref b,.int (d:Int)]/\TT K H a b m es ts/\d<2*es.length /\
 ∀ q r H',Same H H'->H q=none->H' q=some (.lst (r.map iV))->Path (fol es ts) (2*es.length) d r->Ring (fol es ts) (2*es.length) r->Q (.ref q) H'
def rp(K:P1):Sp:=fun vs H Q _=>∃(a b:Addr)(m:Nat)(es:En)(ts:List (List Nat)),vs = [.ref a,.ref b]/\TT K H a b m es ts /\
 ∀ q ys rs H',Same H H'->H' q=some (.lst ys)->bO H' ys rs->f7 (fol es ts) (2*es.length) (2*es.length) rs->Q (.ref q) H'
def Fv(H:Hp)(ys:List V)(n:Nat)(rs:List (List Nat)):Prop:=ys.length=n/\∀ i,i<n->∃ p a b r r',ys[i]?=some (.ref p)/\H p=some (.tup [iV a,iV b])/\rs[a]?=some r/\2*i∈r/\rs[b]?=some r'/\2*i+1∈r'
def xt(K:P1):Sp:=fun vs H Q _=>∃(a b:Addr)(xs ys:List V)(es:En)(f:Nat->Nat)(rs:List (List Nat)),vs = [.ref a,.ref b]/\SqL K H a xs/\eg K H xs es/\es.length<=62/\SqL K H b ys/\bO H ys rs/\f7 f (2*es.length) (2*es.length) rs /\
 ∀ q zs H',Same H H'->H' q=some (.lst zs)->Fv H' zs es.length rs->Q (.ref q) H'
def pO(ns:List Int)(k:Nat):Int:=ns.getD k 0
def Ji(K:P1):Sp:=fun vs H Q _=>∃(a:Addr)(k:Nat)(ns:List Int),vs = [.ref a,.int (k:Int)]/\SqL K H a (ns.map V.int)/\Q (.int (pO ns k)) H
def xH(K:P1):Sp:=fun vs H Q _=>∃(a b:Addr)(ys xs:List V)(m:Nat)(es:En)(ts:List (List Nat))(d:Nat),vs = [.ref a,.ref b,.int (d:Int)]/\SqL K H a ys/\cY H ys es/\SqL K H b xs/\bO H xs ts/\bW m es ts/\es.length<=62/\d<2*es.length/\Q (iV (fol es ts d)) H
structure Txt(mg:Str->Option Value):Prop where
 n_max:mg "max" = none
 n_all:mg "all" = none
 n_zip:mg "zip" = none
 n_any:mg "any" = none
 n_len:mg "len" = none
 n_int:mg "int" = none
 n_bool:mg "bool" = none
 n_list:mg "list" = none
 n_tuple:mg "tuple" = none
 n_range:mg "range" = none
 n_enumerate:mg "enumerate" = none
 n_isinstance:mg "isinstance" = none
 n_min:mg "min" = none
 n_sum:mg "sum" = none
 n_sorted:mg "sorted" = none
section
variable{P:Program}{w:World}{K:P1}{mg:Str->Option Value}{base:Heap}
theorem Jp:aH ["ties","dart","tie"] ["ties","dart"] (aj wy):=⟨rfl,rfl,rfl,by decide +kernel,rfl,by decide +kernel,by decide +kernel⟩
theorem OS{f:Addr}{fd:FuncData} (F:Fun K "head" "head" wy f fd):FnOk P w K mg base CX0 1 f fd ["ties","dart"] (Jf K):=by
 refine F.ok Jp (fun vs H Q E h=>?_) (fun cdv A outer s H vs Q E hr h=>?_)
 ·obtain⟨a,xs,es,d,rfl,_⟩:=h
  rfl
 obtain⟨a,xs,es,d,rfl,hS,hT,hdl,k⟩:=h
 have hl:d/2<es.length:=by omega
 have e1:es[d/2]?=some es[d/2]:=PZ hl
 obtain⟨p,C,dx,s',x1,x2,x3⟩:=hT.2 _ _ e1
 have hh:hd es d=if d%2=0 then es[d/2].2 else es[d/2].1:=by unfold hd;rw[e1]
 have ed:(d:Int)/2=((d/2:Nat):Int):=by omega
 refine⟨_,(ae (ay (i:=2) Jp.nd rfl (Or.inl rfl) (aG av (pv 0) (aE bR (pv 1) ai) (fun _ _=>rfl)))
   (ak (aJ (kM (au eY (aE bB (pv 1) ai) ai (aC _)) (bh (pv 2) rfl) (bh (pv 2) rfl))))),?_⟩
 refine⟨_,rfl,_,rfl,_,_,rfl,rfl,⟨by decide,by decide⟩,a,xs,_,_,rfl,rfl,hS,(by rw[ed];exact aQ x1),?_⟩
 refine⟨_,rfl,_,_,rfl,rfl,(by show(0:Int)<2;decide),rfl,_,rfl,?_⟩
 refine ite2 (fun q=>?_) (fun q=>?_)
 ·have q':(d:Int)%2=0:=V.int.inj (of_decide_eq_true q)
  refine⟨_,rfl,p,C,dx,_,_,rfl,x2,x3.cl,x3.n2,rR _ _ _,?_⟩
  rw[hh,if_pos (by omega)]at k
  exact k
 ·have q':¬ (d:Int)%2=0:=fun z=>q (decide_eq_true (congrArg V.int z))
  refine⟨_,rfl,p,C,dx,_,_,rfl,x2,x3.cl,x3.n1,lu _ _ _,?_⟩
  rw[hh,if_neg (by omega)]at k
  exact k
theorem GK:aH ["ties","number","place"] ["ties","number","place"] (aj g7):=⟨rfl,rfl,rfl,by decide +kernel,rfl,by decide +kernel,by decide +kernel⟩
theorem G7{f:Addr}{fd:FuncData} (F:Fun K "leaving" "leaving" g7 f fd):FnOk P w K mg base CX0 1 f fd ["ties","number","place"] (Je K):=by
 refine F.ok GK (fun vs H Q E h=>?_) (fun cdv A outer s H vs Q E hr h=>?_)
 ·obtain⟨a,xs,es,t,p,e,rfl,_⟩:=h
  rfl
 obtain⟨a,xs,es,t,pl,e,rfl,hS,hT,he,k⟩:=h
 obtain⟨p,C,dx,s',x1,x2,x3⟩:=hT.2 _ _ he
 have m2:CMul 2 (t:Int):=.inl ⟨by decide,by decide⟩
 refine⟨_,(ak (aJ (kM (au eY (bh (aG av (pv 0) (pv 1) (fun _ _=>rfl)) rfl) (pv 2) (aC _)) (aE hX ai (pv 1)) (aE bj (aE hX ai (pv 1)) ai)))),?_⟩
 refine⟨_,rfl,_,rfl,a,xs,_,_,rfl,rfl,hS,aQ x1,p,C,dx,_,_,rfl,x2,x3.cl,x3.n1,lu _ _ _,_,rfl,rfl,_,rfl,?_⟩
 refine ite2 (fun q=>?_) (fun q=>?_)
 ·have q':(e.1:Int)=(pl:Int):=V.int.inj (of_decide_eq_true q)
  refine⟨_,rfl,_,_,rfl,rfl,m2,?_⟩
  rw[if_pos (by omega)]at k
  exact k
 ·have q':¬ (e.1:Int)=(pl:Int):=fun z=>q (decide_eq_true (congrArg V.int z))
  refine⟨_,rfl,_,_,rfl,rfl,m2,_,_,rfl,rfl,?_⟩
  rw[if_neg (by omega)]at k
  exact k
theorem iq:aH ["ties","turns","dart","place","about","behind"] ["ties","turns","dart"] (aj fH):=⟨rfl,rfl,rfl,by decide +kernel,rfl,by decide +kernel,by decide +kernel⟩
theorem Dq{f fh fl:Addr}{fd fdh fdl:FuncData} (F:Fun K "follower" "follower" fH f fd) (T:Txt mg) (G_head:Cal P w K mg base 1 "head" ["ties","dart"] (Jf K) fh fdh) (G_leaving:Cal P w K mg base 1 "leaving" ["ties","number","place"] (Je K) fl fdl):FnOk P w K mg base CX0 2 f fd ["ties","turns","dart"] (Oh K):=by
 refine F.ok iq (fun vs H Q E h=>?_) (fun cdv A outer s H vs Q E hr h=>?_)
 ·obtain⟨a,b,m,es,ts,d,rfl,_⟩:=h
  rfl
 obtain⟨a,b,m,es,ts,d,rfl,tt,hdl,k⟩:=h
 obtain⟨⟨xs,h1,h2⟩,⟨ys,h3,h4⟩,w',few⟩:=tt
 obtain⟨l,e,p1,p2,p3,p4,p5,p6,p7,p8,p9⟩:=w'.foll hdl
 obtain⟨small,len⟩:=gU w' few p1
 obtain⟨q,y1,y2⟩:=h4.2 _ _ p1
 have ed:(d:Int)/2=((d/2:Nat):Int):=by omega
 refine⟨_,(ae (ay (i:=3) iq.nd rfl (Or.inl rfl) (ax G_head.ok (hr.mono (by decide)) rfl G_head.mg G_head.kp G_head.bn .nil aN (aa (pv 0) (aa (pv 2) af))))
   (ae (ay (i:=4) iq.nd rfl (Or.inl rfl) (aG av (pv 1) (pv 3) (fun _ _=>rfl)))
   (ae (ay (i:=5) iq.nd rfl (Or.inl rfl) (aE bB (aE bj (bK Qg RV RU rF (pv 4) (aa (aE bR (pv 2) ai) af)) ai) (aA aq (by rfl) T.n_len aT (aa (pv 4) af))))
   (ak (aJ (ax G_leaving.ok (hr.mono (by decide)) rfl G_leaving.mg G_leaving.kp G_leaving.bn .nil aN (aa (pv 0) (aa (aG av (pv 4) (pv 5) (fun _ _=>rfl)) (aa (pv 3) af))))))))),?_⟩
 refine⟨_,rfl,_,rfl,a,xs,es,d,rfl,h1,h2,hdl,?_⟩
 refine⟨_,rfl,_,rfl,b,ys,_,_,rfl,rfl,h3,aQ y1,?_⟩
 have hlen:(l.map iV).length=l.length:=P5 _
 have hl0:0<l.length:=R5 p2
 have hmod:(((l.idxOf (d/2):Nat):Int)+1)%((l.map iV).length:Int)=(((l.idxOf (d/2)+1)%l.length:Nat):Int):=by rw[hlen];rfl
 refine⟨_,rfl,.inl ⟨rfl,_,SqL.of y2⟩,_,rfl,_,_,rfl,rfl,⟨by decide,by decide⟩,q,l,d/2,rfl,congrArg (fun z=>[V.int z]) ed,SqL.of y2,fun p hp=>by have:=small p hp;omega,by omega,p2,_,_,rfl,rfl,_,rfl,q,_,rfl,.inl (SqL.of y2),_,_,rfl,rfl,(by show(0:Int)<((l.map iV).length:Int);rw[hlen];omega),?_⟩
 refine⟨_,rfl,_,rfl,_,rfl,q,_,_,_,rfl,rfl,SqL.of y2,(by rw[hmod];exact Pk (jF p2)),_,rfl,a,xs,es,nxt l (d/2),hd es d,e,rfl,h1,h2,p3,?_⟩
 rw[p6]at k
 exact k
theorem eV:aH ["ties","turns","first","row","dart"] ["ties","turns","first"] (aj cS):=⟨rfl,rfl,rfl,by decide +kernel,rfl,by decide +kernel,by decide +kernel⟩
theorem OT{f ff:Addr}{fd fdf:FuncData} (F:Fun K "round_from" "round_from" cS f fd) (G_follower:Cal P w K mg base 2 "follower" ["ties","turns","dart"] (Oh K) ff fdf):FnOk P w K mg base CX0 3 f fd ["ties","turns","first"] (Jg K):=by
 refine F.ok eV (fun vs H Q E h=>?_) (fun cdv A outer s H vs Q E hr h=>?_)
 ·obtain⟨a,b,m,es,ts,d,rfl,_⟩:=h
  rfl
 obtain⟨a,b,m,es,ts,d,rfl,tt,hdl,k⟩:=h
 have pm:=perm tt.w
 refine⟨_,(ae (ay (i:=3) eV.nd rfl (Or.inl rfl) (bg (aa (pv 2) af)))
   (ae (ay (i:=4) eV.nd rfl (Or.inl rfl) (ax G_follower.ok (hr.mono (by decide)) rfl G_follower.mg G_follower.kp G_follower.bn .nil aN (aa (pv 0) (aa (pv 1) (aa (pv 2) af)))))
   (ae (rC PassesOwn.never (au fP (pv 4) (pv 2) (aC _)) (ae (aU (bK Qg Qs Qr aZ (pv 3) (aa (pv 4) af)))
   (ak (ay (i:=4) eV.nd rfl (Or.inl rfl) (ax G_follower.ok (hr.mono (by decide)) rfl G_follower.mg G_follower.kp G_follower.bn .nil aN (aa (pv 0) (aa (pv 1) (aa (pv 4) af))))))))
   (ak (aJ (pv 3)))))),?_⟩
 refine⟨_,rfl,(by show 1<=sizeLine;decide),fun q hq=>?_⟩
 have s1:=ao hq (.lst [.int (d:Int)])
 refine⟨_,rfl,_,rfl,_,rfl,a,b,m,es,ts,d,rfl,tt.mono s1,hdl,?_⟩
 refine xh (fun σ H2=>∃(r:List Nat)(x:Nat),σ = [some (.ref a),some (.ref b),some (.int (d:Int)),some (.ref q),some (iV (fol es ts x))]/\Same H H2/\H2 q=some (.lst ((r++[x]).map iV))/\Path (fol es ts) (2*es.length) d (r++[x]))
  (fun σ H2=>match H2 q with | some (.lst xs)=>200-xs.length | _=>0) ⟨[],d,rfl,s1,ag,FL hdl⟩ ?_ ?_
 ·rintro σ H2 ⟨r,x,rfl,s2,hq2,pa⟩
  refine⟨_,rfl,_,rfl,rfl,_,rfl,?_⟩
  have few:=tt.few
  have hlen:=js pa.nd pa.lt
  refine ite2 (fun c=>?_) (fun c=>?_)
  ·have c':fol es ts x≠d:=fun z=>by
    rw[decide_eq_true (show iV (fol es ts x)=V.int (d:Int) by rw[z];rfl)]at c
    cases c
   have pa2:=pa.snoc pm c'
   have hlen2:=js pa2.nd pa2.lt
   have lt2:fol es ts x<2*es.length:=pa2.lt _ (by simp)
   refine⟨_,rfl,.inl ⟨rfl,_,SqL.of hq2⟩,_,rfl,q,_,_,rfl,rfl,hq2,aI (by rw[P5];omega),?_⟩
   have s3:=aP s2 hq (.lst ((r++[x]).map iV++[iV (fol es ts x)]))
   refine⟨_,rfl,_,rfl,_,rfl,a,b,m,es,ts,fol es ts x,rfl,tt.mono s3,lt2,?_⟩
   refine⟨⟨r++[x],fol es ts x,rfl,s3,?_,pa2⟩,?_⟩
   ·rw[ag,show((r++[x]++[fol es ts x]).map iV)=(r++[x]).map iV++[iV (fol es ts x)] from by rw[QE];rfl]
   ·show(match(upd H2 q (.lst ((r++[x]).map iV++[iV (fol es ts x)]))) q with | some (.lst xs)=>200-xs.length | _=>0)<(match H2 q with | some (.lst xs)=>200-xs.length | _=>0)
    rw[ag,hq2]
    show 200-((r++[x]).map iV++[iV (fol es ts x)]).length<200-((r++[x]).map iV).length
    rw[P2,P5,Qa]
    omega
  ·have c':fol es ts x=d:=by
    by_cases z:fol es ts x=d
    ·exact z
    ·exact absurd (by rw[decide_eq_false (fun y=>z (by have:=V.int.inj y;omega))];rfl) c
   refine⟨_,rfl,?_⟩
   exact k q _ H2 s2 hq hq2 pa (pa.ring pm c')
 ·rintro σ H2 Q1 Q2 hi ⟨v',e,b',e2,z1,c',e3,q'⟩
  exact⟨v',e,b',e2,z1,c',e3,hi _ _ q'⟩
theorem cP:aH ["ties","turns","rounds","seen","dart","row","gone"] ["ties","turns"] (aj du):=⟨rfl,rfl,rfl,by decide +kernel,rfl,by decide +kernel,by decide +kernel⟩
theorem JQ{f ff:Addr}{fd fdf:FuncData} (F:Fun K "rounds_of" "rounds_of" du f fd) (T:Txt mg) (G_round_from:Cal P w K mg base 3 "round_from" ["ties","turns","first"] (Jg K) ff fdf):FnOk P w K mg base CX0 4 f fd ["ties","turns"] (rp K):=by
 refine F.ok cP (fun vs H Q E h=>?_) (fun cdv A outer s H vs Q E hr h=>?_)
 ·obtain⟨a,b,m,es,ts,rfl,_⟩:=h
  rfl
 obtain⟨a,b,m,es,ts,rfl,tt,k⟩:=h
 have hu:=hu_of hr
 have pm:=perm tt.w
 have few:=tt.few
 obtain⟨xs,h1,h2⟩:=tt.xs
 refine⟨_,(ae (ay (i:=2) cP.nd rfl (Or.inl rfl) (bg af))
   (ae (ay (i:=3) cP.nd rfl (Or.inl rfl) FJ)
   (ae (cF PassesOwn.never rfl (bV rfl T.n_range (aa (aE hX ai (aA aq (by rfl) T.n_len aT (aa (pv 0) af))) af)) (aV (i:=4) cP.nd rfl (Or.inl rfl)) (ak (ba (pt_cmp (JF hu (pv 4) (pv 3))) (ae (ay (i:=5) cP.nd rfl (Or.inl rfl) (ax G_round_from.ok (hr.mono (by decide)) rfl G_round_from.mg G_round_from.kp G_round_from.bn .nil aN (aa (pv 0) (aa (pv 1) (aa (pv 4) af)))))
   (ae (aU (bK Qg Qs Qr aZ (pv 2) (aa (pv 5) af)))
   (ak (cF PassesOwn.never rfl (b4 (pv 5)) (aV (i:=6) cP.nd rfl (Or.inl rfl)) (ak (Jv hu (pv 3) (pv 6) G0 rfl)))))) aL)))
   (ak (aJ (pv 2)))))),?_⟩
 refine⟨(by show 0<=sizeLine;decide),fun qr hqr=>fun qs hqs=>?_⟩
 have s1:=(ao hqr (.lst [])).trans (ao hqs (.dK []))
 have hqs0:H qs=none:=by
  cases z:H qs with
  |none=>rfl
  |some o=>rw[ao hqr (.lst []) qs o z]at hqs;cases hqs
 have hne:qr≠qs:=fun z=>by rw[← z,ag]at hqs;cases hqs
 have hxl:xs.length=es.length:=h2.1
 have hN:(2*(xs.length:Int)).toNat=2*es.length:=by omega
 refine⟨_,rfl,a,xs,rfl,.inl (s1.seq h1),_,_,rfl,rfl,.inl ⟨by decide,by decide⟩,_,rfl,by omega,by omega,cH (n:=(2*(xs.length:Int)).toNat) (fun i σ H2=>∃ v4 v5 v6 ys rs kvs,σ = [some (.ref a),some (.ref b),some (.ref qr),some (.ref qs),v4,v5,v6]/\Same H H2/\H2 qr=some (.lst ys)/\dh (fun p=>p=qr∨p=qs) H2 ys rs/\H2 qs=some (.dK kvs)/\kvs.length<=rs.flatten.length/\(∀ d:Nat,(valV kvs (Sum.inl (d:Int))).isSome=true↔d∈rs.flatten)/\f7 (fol es ts) (2*es.length) i rs)
  ⟨_,_,_,[],[],[],rfl,s1,by rw[ar hne,ag],⟨rfl,fun i l e=>by simp at e⟩,ag,P9 _,fun d=>by simp[valV],GN _ _⟩ ?_ ?_⟩
 ·rintro i σ H2 hi ⟨v4,v5,v6,ys,rs,kvs,rfl,s2,e1,rx,e2,kl,km,ro⟩
  rw[hN]at hi
  have e0:(0:Int)+(i:Int)=(i:Int):=RB _
  rw[e0]
  have fl:=yG ro
  have rl:=Ml ro
  refine⟨_,rfl,_,rfl,_,_,rfl,DGet.k (k:=Sum.inl (i:Int)) e2,_,rfl,?_⟩
  refine ite2 (fun c=>?_) (fun c=>?_)
  ·have hni:i∉rs.flatten:=fun z=>by
    rw[(km i).mpr z]at c
    cases c
   refine⟨_,rfl,_,rfl,_,rfl,a,b,m,es,ts,i,rfl,tt.mono s2,hi,fun q r H3 s3 hq hq3 pa ri=>?_⟩
   have s23:=s2.trans s3
   have nq:¬ (q=qr∨q=qs):=by
    rintro(z | z)
    ·rw[z,e1]at hq;cases hq
    ·rw[z,e2]at hq;cases hq
   refine⟨_,rfl,.inl ⟨rfl,_,SqL.of (s3 _ _ e1)⟩,_,rfl,qr,_,_,rfl,rfl,s3 _ _ e1,aI (by rw[rx.1];omega),?_⟩
   have s4:=aP s23 hqr (.lst (ys++[.ref q]))
   have hrq:∀{H5:Hp},dh (fun p=>p=qr∨p=qs) H5 (ys++[.ref q]) (rs++[r])->H5 q=some (.lst (r.map iV)):=fun h=>by
    obtain⟨p,z1,_,z2⟩:=h.2 rs.length r (by rw[P4 (P9 _),Qu];rfl)
    rw[← rx.1,P4 (P9 _),Qu]at z1
    cases z1
    exact z2
   have rx4:dh (fun p=>p=qr∨p=qs) (upd H3 qr (.lst (ys++[.ref q]))) (ys++[.ref q]) (rs++[r]):=by
    refine(rx.mono fun p o n z=>?_).snoc nq ?_
    ·rw[ar (fun z=>n (.inl z))];exact s3 _ _ z
    ·rw[ar (fun z=>nq (.inl z))];exact hq3
   have rl:r.length<=2*es.length:=js ri.nd ri.lt
   refine⟨_,rfl,q,rfl,⟨_,SqL.of (hrq rx4)⟩,iY (xs:=r.map iV) (fun j σ H5=>∃ v6 kvs',σ = [some (.ref a),some (.ref b),some (.ref qr),some (.ref qs),some (.int (i:Int)),some (.ref q),v6]/\Same H H5/\H5 qr=some (.lst (ys++[.ref q]))/\dh (fun p=>p=qr∨p=qs) H5 (ys++[.ref q]) (rs++[r])/\H5 qs=some (.dK kvs')/\kvs'.length<=rs.flatten.length+j/\∀ d:Nat,(valV kvs' (Sum.inl (d:Int))).isSome=true↔d∈rs.flatten∨d∈r.take j)
    ⟨_,kvs,rfl,s4,ag,rx4,by rw[ar hne.symm];exact s3 _ _ e2,kl,fun d=>by rw[km d];simp⟩ (fun j σ H5 _ p=>?_) ?_ ?_⟩
   ·obtain⟨_,_,_,_,_,z,_⟩:=p
    exact SqL.of (hrq z)
   ·rintro j x σ H5 hx ⟨v6,kvs',rfl,s5,f1,rx5,f2,kl5,km5⟩
    rw[Qd]at hx
    obtain⟨g,hg,rfl⟩:=QJ.mp hx
    have hjl:j<r.length:=(P0.mp hg).1
    refine⟨_,rfl,_,rfl,qs,_,rfl,DPut.k (k:=Sum.inl (g:Int)) f2 (aI (by omega)),?_⟩
    refine⟨_,_,rfl,aP s5 hqs0 _,by rw[ar hne];exact f1,rx5.mono fun p o n z=>by rw[ar (fun z=>n (.inr z))];exact z,ag,by have:=iB kvs' (Sum.inl (g:Int)) (V.bl true);omega,fun d=>?_⟩
    rw[xi]
    have tk:r.take (j+1)=r.take j++[g]:=by rw[QI,hg];rfl
    rw[tk]
    by_cases z:d=g
    ·subst z
     simp
    ·rw[if_neg (fun y=>z (by have:=Sum.inl.inj y;omega)),km5 d]
     simp[z]
   ·rintro σ H5 ⟨v6,kvs',rfl,s5,f1,rx5,f2,kl5,km5⟩
    rw[P5]at kl5 km5
    refine⟨_,_,_,_,rs++[r],kvs',rfl,s5,f1,rx5,f2,by rw[Q9,P2];simpa using kl5,fun d=>?_,ro.put pm hni hi ri pa⟩
    rw[km5 d,QN,Q9,Qf]
    simp
  ·have hii:i∈rs.flatten:=(km i).mp (by
    cases z:(valV kvs (Sum.inl (i:Int))).isSome with
    |true=>rfl
    |false=>exact absurd (by rw[z];rfl) c)
   exact⟨_,_,_,ys,rs,kvs,rfl,s2,e1,rx,e2,kl,km,ro.skip hii⟩
 ·rintro σ H2 ⟨v4,v5,v6,ys,rs,kvs,rfl,s2,e1,rx,e2,kl,km,ro⟩
  rw[hN]at ro
  exact⟨_,rfl,k qr ys rs H2 s2 e1 rx.off ro⟩
theorem fM:aH ["ties","rounds","number_at","number","row","dart"] ["ties","rounds"] (aj fE):=⟨rfl,rfl,rfl,by decide +kernel,rfl,by decide +kernel,by decide +kernel⟩
theorem Mu{f:Addr}{fd:FuncData} (F:Fun K "sides_of" "sides_of" fE f fd) (T:Txt mg):FnOk P w K mg base CX0 1 f fd ["ties","rounds"] (xt K):=by
 refine F.ok fM (fun vs H Q E h=>?_) (fun cdv A outer s H vs Q E hr h=>?_)
 ·obtain⟨a,b,xs,ys,es,g,rs,rfl,_⟩:=h
  rfl
 obtain⟨a,b,xs,ys,es,g,rs,rfl,hS,hT,few,hB,hR,ro,k⟩:=h
 have hu:=hu_of hr
 have fl:=yG ro
 refine⟨_,(ae (ay (i:=2) fM.nd rfl (Or.inr rfl) FJ)
   (ae (cF PassesOwn.never rfl (Dh rfl T.n_enumerate (aa (pv 1) af)) (FH rfl (bH (aV (i:=3) fM.nd rfl (Or.inl rfl)) (bH (aV (i:=4) fM.nd rfl (Or.inl rfl)) oR))) (ak (cF PassesOwn.never rfl (b4 (pv 4)) (aV (i:=5) fM.nd rfl (Or.inl rfl)) (ak (Jv hu (pv 2) (pv 5) (pv 3) rfl)))))
   (ak (aJ (iw rfl (fr:=[("number_at",2)]) (by exact cq.one (by rfl) (by decide +kernel) (by rfl) (by decide +kernel) (by rfl) (by decide +kernel) (by rfl) (by rfl) (by decide +kernel) (by rfl)) (bV rfl T.n_range (aa (aA aq (by rfl) T.n_len aT (aa (pv 0) af)) af)) (fun C ex s H=>(eS (aa (JE hu (pv 1) (aE hX ai (pv 0)) (fun _ _=>rfl)) (aa (JE hu (pv 1) (aE bj (aE hX ai (pv 0)) ai) (fun _ _=>rfl)) af))))))))),?_⟩
 intro q hq
 have s1:=ao hq (.dK [])
 have kF:∀ i,(rs.take i).flatten.length<=rs.flatten.length:=fun i=>by
  have:=congrArg (fun z=>z.flatten.length) (RL i rs)
  simp only[Q9,P2]at this
  omega
 refine⟨_,rfl,b,rfl,⟨_,s1.seq hB⟩,F5 (K:=K) (xs:=ys) (fun i σ H2=>∃ v3 v4 v5 kvs,σ = [some (.ref a),some (.ref b),some (.ref q),v3,v4,v5]/\Same H H2/\H2 q=some (.dK kvs)/\kvs.length<=(rs.take i).flatten.length/\∀(d c:Nat)(r:List Nat),c<i->rs[c]?=some r->d∈r->valV kvs (Sum.inl (d:Int))=some (iV c))
  ⟨_,_,_,[],rfl,s1,ag,Q6 _,fun d c r z=>absurd z (RK _)⟩ (fun i σ H2 _ ⟨_,_,_,_,_,s2,_⟩=>s2.seq hB) ?_ ?_⟩
 ·rintro i x σ H2 T2 hx ⟨v3,v4,v5,kvs,rfl,s2,e1,kl,km⟩ hT2
  have hil:i<rs.length:=by
   have:=(P0.mp hx).1
   rw[hR.1]at this
   exact this
  have hr':rs[i]?=some rs[i]:=PZ hil
  obtain⟨p,x1,x2⟩:=hR.2 i _ hr'
  rw[hx]at x1
  cases x1
  generalize rs[i]=r at hr' x2
  have s3:Same H (upd H2 T2 (.tup [.int (i:Int),.ref p])):=s2.trans (ao hT2 _)
  have f1:(rs.take (i+1)).flatten=(rs.take i).flatten++r:=by rw[QI,hr'];simp
  have f2:=kF (i+1)
  rw[f1,P2]at f2
  refine⟨T2,_,rfl,SqT.of ag,rfl,_,_,rfl,_,_,rfl,rfl,?_⟩
  refine⟨_,rfl,p,rfl,⟨_,SqL.of (s3 _ _ x2)⟩,iY (xs:=r.map iV) (fun j σ H5=>∃ v5 kvs',σ = [some (.ref a),some (.ref b),some (.ref q),some (.int (i:Int)),some (.ref p),v5]/\Same H H5/\H5 q=some (.dK kvs')/\kvs'.length<=(rs.take i).flatten.length+j/\(∀(d c:Nat)(r:List Nat),c<i->rs[c]?=some r->d∈r->valV kvs' (Sum.inl (d:Int))=some (iV c))/\∀ d∈r.take j,valV kvs' (Sum.inl (d:Int))=some (iV i))
   ⟨_,kvs,rfl,s3,ao hT2 _ _ _ e1,kl,km,fun d hd=>by simp at hd⟩ (fun j σ H5 _ ⟨_,_,_,z,_⟩=>SqL.of (z _ _ x2)) ?_ ?_⟩
  ·rintro j x σ H5 hx2 ⟨v5,kvs',rfl,s5,g1,kl5,km5,kn5⟩
   rw[Qd]at hx2
   obtain⟨g,hg,rfl⟩:=QJ.mp hx2
   have hjl:j<r.length:=(P0.mp hg).1
   refine⟨_,rfl,_,rfl,_,rfl,q,_,rfl,DPut.k (k:=Sum.inl (g:Int)) g1 (aI (by omega)),?_⟩
   refine⟨_,_,rfl,aP s5 hq _,ag,by have:=iB kvs' (Sum.inl (g:Int)) (V.int (i:Int));omega,fun d c r' hc hrc hd=>?_,fun d hd=>?_⟩
   ·rw[xi,if_neg (fun z=>?_)]
    ·exact km5 d c r' hc hrc hd
    ·have z':d=g:=by have:=Sum.inl.inj z;omega
     subst z'
     have:=Pq ro.nd hrc hr' hd (P7 hg)
     omega
   ·rw[xi]
    by_cases z:d=g
    ·subst z
     rw[if_pos rfl]
     rfl
    ·rw[if_neg (fun y=>z (by have:=Sum.inl.inj y;omega))]
     refine kn5 d ?_
     rw[QI,hg]at hd
     simpa[z] using hd
  ·rintro σ H5 ⟨v5,kvs',rfl,s5,g1,kl5,km5,kn5⟩
   rw[P5]at kl5 kn5
   rw[QN]at kn5
   refine⟨_,_,_,kvs',rfl,s5,g1,by rw[f1,P2];exact kl5,fun d c r' hc hrc hd=>?_⟩
   by_cases z:c=i
   ·subst z
    rw[hr']at hrc
    cases hrc
    exact kn5 d hd
   ·exact km5 d c r' (by omega) hrc hd
 ·rintro σ H2 ⟨v3,v4,v5,kvs,rfl,s2,e1,kl,km⟩
  rw[hR.1]at km
  have get:∀ d,d<2*es.length->∃ c r,rs[c]?=some r/\d∈r/\valV kvs (Sum.inl (d:Int))=some (iV c):=fun d hd=>by
   obtain⟨r,z1,z2⟩:=QZ.mp (ro.all d hd)
   obtain⟨c,z3⟩:=QY.mp z1
   exact⟨c,r,z3,z2,km d c r (P0.mp z3).1 z3 z2⟩
  have hxl:xs.length=es.length:=hT.1
  refine⟨_,rfl,a,xs,rfl,.inl (s2.seq hS),_,rfl,by omega,by omega,wI (fun i zs H3=>Same H2 H3/\Fv H3 zs i rs) (by rw[Qy,hxl];exact Rn (aI (by omega))) ⟨fun _ _ e=>e,rfl,fun i hi=>absurd hi (RK _)⟩ ?_ ?_⟩
  ·rintro i zs H3 hi ⟨s3,sd⟩
   have e0:(0:Int)+(i:Int)=(i:Int):=RB _
   rw[e0]
   rw[Qy,hxl]at hi
   obtain⟨c1,r1,z1,z2,z3⟩:=get (2*i) (by omega)
   obtain⟨c2,r2,y1,y2,y3⟩:=get (2*i+1) (by omega)
   have m2:CMul 2 (i:Int):=.inl ⟨by decide,by decide⟩
   have d1:DGet H3 q (V.int (2*(i:Int))) (some (iV c1)):=by
    rw[← z3,show((2*i:Nat):Int)=2*(i:Int) by omega]
    exact DGet.k (k:=Sum.inl (2*(i:Int))) (s3 _ _ e1)
   have d2:DGet H3 q (V.int (2*(i:Int)+1)) (some (iV c2)):=by
    rw[← y3,show((2*i+1:Nat):Int)=2*(i:Int)+1 by omega]
    exact DGet.k (k:=Sum.inl (2*(i:Int)+1)) (s3 _ _ e1)
   refine⟨_,rfl,_,rfl,_,_,rfl,rfl,m2,q,_,rfl,d1,_,rfl,_,rfl,_,_,rfl,rfl,m2,_,_,rfl,rfl,q,_,rfl,d2,(by show 2<=sizeLine;decide),fun t ht=>?_⟩
   have s4:=ao ht (.tup [iV c1,iV c2])
   refine⟨s3.trans s4,by rw[P2,sd.1];rfl,fun j hj=>?_⟩
   by_cases z:j=i
   ·subst z
    exact⟨t,c1,c2,r1,r2,by rw[← sd.1,P4 (P9 _),Qu];rfl,ag,z1,z2,y1,y2⟩
   ·obtain⟨p,a',b',r,r',w1,w2,w3⟩:=sd.2 j (by omega)
    exact⟨p,a',b',r,r',by rw[P6 (by rw[sd.1];omega)];exact w1,s4 _ _ w2,w3⟩
  ·rintro zs H3 hzl ⟨s3,sd⟩ D hD
   rw[Qy,hxl]at sd
   exact k D zs _ ((s2.trans s3).trans (ao hD _)) ag ⟨sd.1,fun i hi=>by
    obtain⟨p,a',b',r,r',w1,w2,w3⟩:=sd.2 i hi
    exact⟨p,a',b',r,r',w1,ao hD _ _ _ w2,w3⟩⟩
theorem xR:aH ["self","one","two","strength"] ["self","one","two","strength"] (aj cV):=⟨rfl,rfl,rfl,by decide +kernel,rfl,by decide +kernel,by decide +kernel⟩
theorem OR{f:Addr}{fd:FuncData} (F:Fun K "__init__" "Tie.__init__" cV f fd):FnOk P w K mg base CX0 1 f fd ["self","one","two","strength"] (wm K):=by
 refine F.ok xR (fun vs H Q E h=>?_) (fun cdv A outer s H vs Q E hr h=>?_)
 ·obtain⟨p,C,dx,a,b,s,rfl,_⟩:=h
  rfl
 obtain⟨p,C,dx,a,b,st,rfl,hp,T,hne,ha,hb,hs,k⟩:=h
 refine⟨_,(ae (ba (au eY (pv 1) (pv 2) (aC _)) (ak da) aL)
   (ae (ba (PW.pt (gy (au Af (pv 1) ai (aC _)) (fN (au Af (pv 2) ai (aC _))))) (ak da) aL)
   (ae (ba (au Af (pv 3) ai (aC _)) (ak da) aL)
   (ae (fO (pv 0) (pv 1) rfl)
   (ae (fO (pv 0) (pv 2) rfl)
   (ak (fO (pv 0) (pv 3) rfl))))))),?_⟩
 walk_at "rd"
 refine ite2 (fun c=>absurd (V.int.inj (of_decide_eq_true c)) hne) (fun _=>?_)
 walk_at "rd"
 refine ite2 (fun c=>absurd (of_decide_eq_true c) (by omega)) (fun _=>?_)
 walk_at "rd"
 refine ite2 (fun c=>absurd (of_decide_eq_true c) (by omega)) (fun _=>?_)
 walk_at "rd"
 refine ite2 (fun c=>absurd (of_decide_eq_true c) (by omega)) (fun _=>?_)
 refine⟨_,rfl,_,rfl,p,C,dx,[],rfl,hp,T.cl,T.n1,(by show 0<1000;decide),?_⟩
 refine⟨_,rfl,_,rfl,p,C,dx,_,rfl,ag,T.cl,T.n2,f1_len a,?_⟩
 refine⟨_,rfl,_,rfl,p,C,dx,_,rfl,ag,T.cl,T.n3,f2_len a b,?_⟩
 exact k _ ag fun q o e hq=>by rw[ar hq,ar hq,ar hq];exact e
theorem CQ:aH ["script","k"] ["script","k"] (aj fG):=⟨rfl,rfl,rfl,by decide +kernel,rfl,by decide +kernel,by decide +kernel⟩
theorem OV{f:Addr}{fd:FuncData} (F:Fun K "_law_cell" "_law_cell" fG f fd) (T:Txt mg):FnOk P w K mg base CX0 1 f fd ["script","k"] (Ji K):=by
 refine F.ok CQ (fun vs H Q E h=>?_) (fun cdv A outer s H vs Q E hr h=>?_)
 ·obtain⟨a,k,ns,rfl,_⟩:=h
  rfl
 obtain⟨a,k,ns,rfl,hS,q⟩:=h
 refine⟨_,(ae (ba (au Af (pv 1) (aA aq (by rfl) T.n_len aT (aa (pv 0) af)) (aC _)) (ak (aJ (aG av (pv 0) (pv 1) (fun _ _=>rfl)))) aL)
   (ak (aJ ai))),?_⟩
 refine⟨_,rfl,_,rfl,a,_,rfl,.inl hS,_,_,rfl,rfl,_,rfl,?_⟩
 refine ite2 (fun c=>?_) (fun c=>?_)
 ·have c':(k:Int)<((ns.map V.int).length:Int):=of_decide_eq_true c
  rw[P5]at c'
  have hk:k<ns.length:=by omega
  have hat:atI (ns.map V.int) (k:Int)=some (.int (pO ns k)):=aQ (by rw[Qd,PZ hk];unfold pO;rw[Qi,PZ hk];rfl)
  exact⟨_,rfl,_,rfl,a,_,_,_,rfl,rfl,hS,hat,q⟩
 ·have c':¬ (k:Int)<((ns.map V.int).length:Int):=fun z=>c (decide_eq_true z)
  rw[P5]at c'
  have e:pO ns k=0:=by unfold pO;rw[Qi,List.getElem?_eq_none (by omega)];rfl
  rw[e]at q
  exact q
theorem at0{u v:V}:atI [u,v] 0=some u:=rfl
theorem at1{u v:V}:atI [u,v] 1=some v:=rfl
theorem o4{H:Hp}{a:Addr}{ps:List Nat}(h:SqL K H a (ps.map iV)):RdD K H (.ref a) (.list ((ps.map fun(p:Nat)=>((p:Nat):Int)).map PyData.int)):=by
 refine RdD.lst h (by simp) fun i x d e1 e2=>?_
 rw[Qd]at e1
 rw[Qd,Qd]at e2
 cases z:ps[i]? with
 |none=>rw[z]at e1;cases e1
 |some n =>
  rw[z]at e1 e2
  cases e1
  cases e2
  exact .int _
theorem KL(l:List Int):(PyData.list (l.map PyData.int)).canLay0=true/\(PyData.list (l.map PyData.int)).depth<=10:=by
 have h1:∀ d∈l.map PyData.int,d.canLay0=true/\d.depth<=1:=fun d hd=>by
  obtain⟨x,_,rfl⟩:=Qv.mp hd
  exact⟨by simp[PyData.canLay0],by simp[PyData.depth]⟩
 have h2:=ka fun d hd=>(h1 d hd).1
 have h3:=mL fun d hd=>(h1 d hd).2
 exact⟨by simp only[PyData.canLay0];exact h2,by simp only[PyData.depth];omega⟩
theorem cY.put{H:Hp}{ys:List V}{es:En}{q:Addr}{zs:List V}{o:HO}(t:cY H ys es)(h:H q=some (.lst zs)):cY (upd H q o) ys es:=⟨t.1,fun i e z=>by
 obtain⟨p,a,b⟩:=t.2 i e z
 refine⟨p,a,?_⟩
 rw[ar (fun z=>by rw[z,h]at b;cases b)]
 exact b⟩
theorem cY.snoc{H:Hp}{xs:List V}{es:En}{e:Nat×Nat}{p:Addr}(t:cY H xs es)(h:H p=some (.tup [iV e.1,iV e.2])):cY H (xs++[.ref p]) (es++[e]):=by
 refine⟨by rw[P2,P2,t.1];rfl,fun j k ej=>?_⟩
 by_cases hj:j<es.length
 ·rw[P6 hj]at ej
  obtain⟨p,a1,a2⟩:=t.2 j k ej
  exact⟨p,by rw[P6 (by rw[t.1];exact hj)];exact a1,a2⟩
 ·rw[P4 (by omega)]at ej
  have hj2:j=es.length:=by
   have:=(P0.mp ej).1
   rw[Qa]at this
   omega
  subst hj2
  rw[Qu]at ej
  cases ej
  exact⟨p,by rw[← t.1,P4 (P9 _),Qu];rfl,h⟩
theorem Pg{l:List Nat}{k n:Nat}:(ins l k n).length=l.length+1:=by
 unfold ins
 rw[P2,Qz,QK,Rx]
 omega
theorem NA(X:Int)(n:Nat):0<=X%((n:Int)+1)/\X%((n:Int)+1)<=(n:Int):=⟨Ro _ (by omega),by have:=Rm X (show(0:Int)<(n:Int)+1 by omega);omega⟩
def Dist(xs:List V):Prop:=∀(i j:Nat)(p:Addr),xs[i]?=some (.ref p)->xs[j]?=some (.ref p)->i=j
theorem dh.set{S:Addr->Prop}{H:Hp}{xs:List V}{ts:List (List Nat)}{i:Nat}{p:Addr}{l':List Nat}(h:dh S H xs ts)(D:Dist xs)(e:xs[i]?=some (.ref p)):dh S (upd H p (.lst (l'.map iV))) xs (ts.set i l'):=by
 refine⟨by rw[QM];exact h.1,fun j l z=>?_⟩
 have hi:i<ts.length:=by rw[← h.1];exact(P0.mp e).1
 rw[QU]at z
 by_cases hj:i=j
 ·subst hj
  rw[if_pos rfl,if_pos hi]at z
  cases z
  obtain⟨p',a1,a2,a3⟩:=h.2 i _ (PZ hi)
  rw[e]at a1
  cases a1
  exact⟨p,e,a2,ag⟩
 ·rw[if_neg hj]at z
  obtain⟨p',a1,a2,a3⟩:=h.2 j l z
  exact⟨p',a1,a2,by rw[ar (fun y=>by rw[y]at a1;exact hj (D i j p e a1))];exact a3⟩
theorem insV{l:List Nat}{k n:Nat}:(l.map iV).take k++V.int (n:Int)::(l.map iV).drop k=(ins l k n).map iV:=by
 unfold ins
 rw[QE,QA,Sy,SY]
 rfl
theorem Jr{H:Hp}{a:Addr}{xs:List V}{ts:List (List Nat)}(h:SqL K H a xs)(hR:bO H xs ts):RdD K H (.ref a) (.list (ts.map fun l=>PyData.list ((l.map fun(p:Nat)=>((p:Nat):Int)).map PyData.int))):=by
 refine RdD.lst h (by rw[P5];exact hR.1) fun i x d e1 e2=>?_
 rw[Qd]at e2
 obtain⟨l,hl,rfl⟩:=QJ.mp e2
 obtain⟨p,a1,a2⟩:=hR.2 i l hl
 rw[e1]at a1
 cases a1
 exact o4 (SqL.of a2)
theorem CZ(ts:List (List Nat)):SeqAt.shaped (.list (ts.map fun l=>PyData.list ((l.map fun(p:Nat)=>((p:Nat):Int)).map PyData.int)))=true:=sj fun d hd=>by
 obtain⟨l,_,rfl⟩:=Qv.mp hd
 exact KL _
end
end K8
namespace K8
open PySem L2
local macro_rules | `(tactic| walk_at "cc") => `(tactic| first | exact ⟨by decide, by decide⟩ | (show (0 : Int) < _; decide) | (show (0 : Int) < _; omega) | (show (0 : Int) ≤ _; omega) | exact ⟨by decide, by decide, by decide⟩ | exact ⟨by omega, by omega, by decide⟩ | exact Or.inl ⟨by decide, by decide⟩ | exact Or.inl ⟨by omega, by omega⟩)
local macro_rules | `(tactic| walk_at "rd") => `(tactic| repeat (first | refine ⟨_, rfl, ?_⟩ | refine ⟨_, _, rfl, rfl, ?_⟩ | refine ⟨rfl, ?_⟩ | (refine ⟨?cc, ?_⟩; (case cc => walk_at "cc"))))
def xD(K:P1):Sp:=fun vs H Q _=>∃(a:Addr)(ys:List V)(es:En)(d:Nat),vs = [.ref a,.int (d:Int)]/\SqL K H a ys/\cY H ys es/\d<2*es.length/\Q (iV (hd es d)) H
def xC(K:P1):Sp:=fun vs H Q _=>∃(a b:Addr)(ys xs:List V)(m:Nat)(es:En)(ts:List (List Nat))(d:Nat),vs = [.ref a,.ref b,.int (d:Int)]/\SqL K H a ys/\cY H ys es/\SqL K H b xs/\bO H xs ts/\bW m es ts/\es.length<=62/\d<2*es.length /\
 ∀ q r H',Same H H'->H q=none->H' q=some (.lst (r.map iV))->Path (fol es ts) (2*es.length) d r->Ring (fol es ts) (2*es.length) r->Q (.ref q) H'
section
variable{P:Program}{w:World}{K:P1}{mg:Str->Option Value}{base:Heap}
theorem CP:aH ["ends","dart"] ["ends","dart"] (aj fF):=⟨rfl,rfl,rfl,by decide +kernel,rfl,by decide +kernel,by decide +kernel⟩
theorem MC{f:Addr}{fd:FuncData} (F:Fun K "_law_head" "_law_head" fF f fd):FnOk P w K mg base CX0 1 f fd ["ends","dart"] (xD K):=by
 refine F.ok CP (fun vs H Q E h=>?_) (fun cdv A outer s H vs Q E hr h=>?_)
 ·obtain⟨a,ys,es,d,rfl,_⟩:=h
  rfl
 obtain⟨a,ys,es,d,rfl,hS,hE,hdl,k⟩:=h
 have hl:d/2<es.length:=by omega
 have e1:es[d/2]?=some es[d/2]:=PZ hl
 obtain⟨p,x1,x2⟩:=hE.2 _ _ e1
 have hh:hd es d=if d%2=0 then es[d/2].2 else es[d/2].1:=by unfold hd;rw[e1]
 have ed:(d:Int)/2=((d/2:Nat):Int):=by omega
 have hat:atI [iV es[d/2].1,iV es[d/2].2] (1-(d:Int)%2)=some (iV (hd es d)):=by
  by_cases z:d%2=0
  ·rw[hh,if_pos z,show(1-(d:Int)%2)=1 by omega];rfl
  ·rw[hh,if_neg z,show(1-(d:Int)%2)=0 by omega];rfl
 refine⟨_,(ak (aJ (aG a8 (aG av (pv 0) (aE bR (pv 1) ai) (fun _ _=>rfl)) (aE nA ai (aE bB (pv 1) ai)) (fun _ _=>rfl)))),?_⟩
 exact⟨_,rfl,_,rfl,_,_,rfl,rfl,⟨by decide,by decide⟩,a,ys,_,_,rfl,rfl,hS,(by rw[ed];exact aQ x1),_,rfl,_,_,rfl,rfl,(by show(0:Int)<2;decide),_,_,rfl,rfl,p,_,_,_,rfl,rfl,SqT.of x2,hat,k⟩
theorem eW:aH ["ends","turns","dart","place","row","tie"] ["ends","turns","dart"] (aj cT):=⟨rfl,rfl,rfl,by decide +kernel,rfl,by decide +kernel,by decide +kernel⟩
theorem G8{f fh:Addr}{fd fdh:FuncData} (F:Fun K "_law_behind" "_law_behind" cT f fd) (T:Txt mg) (G_law_head:Cal P w K mg base 1 "_law_head" ["ends","dart"] (xD K) fh fdh):FnOk P w K mg base CX0 2 f fd ["ends","turns","dart"] (xH K):=by
 refine F.ok eW (fun vs H Q E h=>?_) (fun cdv A outer s H vs Q E hr h=>?_)
 ·obtain⟨a,b,ys,xs,m,es,ts,d,rfl,_⟩:=h
  rfl
 obtain⟨a,b,ys,xs,m,es,ts,d,rfl,hS,hE,hB,hR,w',few,hdl,kk⟩:=h
 obtain⟨l,e,p1,p2,p3,p4,p5,p6,p7,p8,p9⟩:=w'.foll hdl
 obtain⟨small,len⟩:=gU w' few p1
 obtain⟨q,y1,y2⟩:=hR.2 _ _ p1
 obtain⟨p',x1',x2'⟩:=hE.2 _ _ p3
 have ed:(d:Int)/2=((d/2:Nat):Int):=by omega
 have hl0:0<l.length:=R5 p2
 have hlen:(l.map iV).length=l.length:=P5 _
 have hmod:(((l.idxOf (d/2):Nat):Int)+1)%((l.map iV).length:Int)=(((l.idxOf (d/2)+1)%l.length:Nat):Int):=by rw[hlen];rfl
 have m2:CMul 2 ((nxt l (d/2):Nat):Int):=.inl ⟨by decide,by decide⟩
 refine⟨_,(ae (ay (i:=3) eW.nd rfl (Or.inl rfl) (ax G_law_head.ok (hr.mono (by decide)) rfl G_law_head.mg G_law_head.kp G_law_head.bn .nil aN (aa (pv 0) (aa (pv 2) af))))
   (ae (ay (i:=4) eW.nd rfl (Or.inl rfl) (aG av (pv 1) (pv 3) (fun _ _=>rfl)))
   (ae (ay (i:=5) eW.nd rfl (Or.inl rfl) (aG av (pv 4) (aE bB (aE bj (bK Qg RV RU rF (pv 4) (aa (aE bR (pv 2) ai) af)) ai) (aA aq (by rfl) T.n_len aT (aa (pv 4) af))) (fun _ _=>rfl)))
   (ak (aJ (aE bj (aE hX ai (pv 5)) (aW BP (by rfl) T.n_int Gi (aa (sM fP (aG a8 (aG av (pv 0) (pv 5) (fun _ _=>rfl)) ai (fun _ _=>rfl)) (pv 3) (aC _)) af)))))))),?_⟩
 refine⟨_,rfl,_,rfl,a,ys,es,d,rfl,hS,hE,hdl,?_⟩
 refine⟨_,rfl,_,rfl,b,xs,_,_,rfl,rfl,hB,aQ y1,?_⟩
 refine⟨_,rfl,_,rfl,.inl ⟨rfl,_,SqL.of y2⟩,_,rfl,_,_,rfl,rfl,⟨by decide,by decide⟩,q,l,d/2,rfl,congrArg (fun z=>[V.int z]) ed,SqL.of y2,fun p hp=>by have:=small p hp;omega,by omega,p2,_,_,rfl,rfl,_,rfl,q,_,rfl,.inl (SqL.of y2),_,_,rfl,rfl,(by show(0:Int)<((l.map iV).length:Int);rw[hlen];omega),q,_,_,_,rfl,rfl,SqL.of y2,(by rw[hmod];exact Pk (jF p2)),?_⟩
 refine⟨_,rfl,_,_,rfl,rfl,m2,_,rfl,_,rfl,a,ys,_,_,rfl,rfl,hS,aQ x1',p',_,0,_,rfl,rfl,SqT.of x2',at0,_,rfl,rfl,.inr ⟨_,rfl,_,_,rfl,rfl,?_⟩⟩
 rw[p6]at kk
 by_cases c:e.1=hd es d
 ·rw[if_pos c]at kk
  rw[decide_eq_true (congrArg iV c)]
  simpa[iV] using kk
 ·rw[if_neg c]at kk
  rw[decide_eq_false (fun z=>c (by have:=V.int.inj z;omega))]
  simpa[iV] using kk
theorem gf:aH ["ends","turns","dart","row","at"] ["ends","turns","dart"] (aj dw):=⟨rfl,rfl,rfl,by decide +kernel,rfl,by decide +kernel,by decide +kernel⟩
theorem JU{f ff:Addr}{fd fdf:FuncData} (F:Fun K "_law_round" "_law_round" dw f fd) (G_law_behind:Cal P w K mg base 2 "_law_behind" ["ends","turns","dart"] (xH K) ff fdf):FnOk P w K mg base CX0 3 f fd ["ends","turns","dart"] (xC K):=by
 refine F.ok gf (fun vs H Q E h=>?_) (fun cdv A outer s H vs Q E hr h=>?_)
 ·obtain⟨a,b,ys,xs,m,es,ts,d,rfl,_⟩:=h
  rfl
 obtain⟨a,b,ys,xs,m,es,ts,d,rfl,hS,hE,hB,hR,w',few,hdl,k⟩:=h
 have pm:=perm w'
 refine⟨_,(ae (ay (i:=3) gf.nd rfl (Or.inl rfl) (bg (aa (pv 2) af)))
   (ae (ay (i:=4) gf.nd rfl (Or.inl rfl) (ax G_law_behind.ok (hr.mono (by decide)) rfl G_law_behind.mg G_law_behind.kp G_law_behind.bn .nil aN (aa (pv 0) (aa (pv 1) (aa (pv 2) af)))))
   (ae (rC PassesOwn.never (au fP (pv 4) (pv 2) (aC _)) (ae (aU (bK Qg Qs Qr aZ (pv 3) (aa (pv 4) af)))
   (ak (ay (i:=4) gf.nd rfl (Or.inl rfl) (ax G_law_behind.ok (hr.mono (by decide)) rfl G_law_behind.mg G_law_behind.kp G_law_behind.bn .nil aN (aa (pv 0) (aa (pv 1) (aa (pv 4) af))))))))
   (ak (aJ (pv 3)))))),?_⟩
 refine⟨_,rfl,(by show 1<=sizeLine;decide),fun q hq=>?_⟩
 have s1:=ao hq (.lst [.int (d:Int)])
 refine⟨_,rfl,_,rfl,_,rfl,a,b,ys,xs,m,es,ts,d,rfl,s1.seq hS,hE.mono s1,s1.seq hB,hR.mono s1,w',few,hdl,?_⟩
 refine xh (fun σ H2=>∃(r:List Nat)(x:Nat),σ = [some (.ref a),some (.ref b),some (.int (d:Int)),some (.ref q),some (iV (fol es ts x))]/\Same H H2/\H2 q=some (.lst ((r++[x]).map iV))/\Path (fol es ts) (2*es.length) d (r++[x]))
  (fun σ H2=>match H2 q with | some (.lst xs)=>200-xs.length | _=>0) ⟨[],d,rfl,s1,ag,FL hdl⟩ ?_ ?_
 ·rintro σ H2 ⟨r,x,rfl,s2,hq2,pa⟩
  refine⟨_,rfl,_,rfl,rfl,_,rfl,?_⟩
  have hlen:=js pa.nd pa.lt
  refine ite2 (fun c=>?_) (fun c=>?_)
  ·have c':fol es ts x≠d:=fun z=>by
    rw[decide_eq_true (show iV (fol es ts x)=V.int (d:Int) by rw[z];rfl)]at c
    cases c
   have pa2:=pa.snoc pm c'
   have hlen2:=js pa2.nd pa2.lt
   have lt2:fol es ts x<2*es.length:=pa2.lt _ (by simp)
   refine⟨_,rfl,.inl ⟨rfl,_,SqL.of hq2⟩,_,rfl,q,_,_,rfl,rfl,hq2,aI (by rw[P5];omega),?_⟩
   have s3:=aP s2 hq (.lst ((r++[x]).map iV++[iV (fol es ts x)]))
   refine⟨_,rfl,_,rfl,_,rfl,a,b,ys,xs,m,es,ts,fol es ts x,rfl,s3.seq hS,hE.mono s3,s3.seq hB,hR.mono s3,w',few,lt2,?_⟩
   refine⟨⟨r++[x],fol es ts x,rfl,s3,?_,pa2⟩,?_⟩
   ·rw[ag,show((r++[x]++[fol es ts x]).map iV)=(r++[x]).map iV++[iV (fol es ts x)] from by rw[QE];rfl]
   ·show(match(upd H2 q (.lst ((r++[x]).map iV++[iV (fol es ts x)]))) q with | some (.lst xs)=>200-xs.length | _=>0)<(match H2 q with | some (.lst xs)=>200-xs.length | _=>0)
    rw[ag,hq2]
    show 200-((r++[x]).map iV++[iV (fol es ts x)]).length<200-((r++[x]).map iV).length
    rw[P2,P5,Qa]
    omega
  ·have c':fol es ts x=d:=by
    by_cases z:fol es ts x=d
    ·exact z
    ·exact absurd (by rw[decide_eq_false (fun y=>z (by have:=V.int.inj y;omega))];rfl) c
   refine⟨_,rfl,?_⟩
   exact k q _ H2 s2 hq hq2 pa (pa.ring pm c')
 ·rintro σ H2 Q1 Q2 hi ⟨v',e,b',e2,z1,c',e3,q'⟩
  exact⟨v',e,b',e2,z1,c',e3,hi _ _ q'⟩
end
end K8
namespace K8
open PySem L2
local macro_rules | `(tactic| walk_at "cc") => `(tactic| first | exact ⟨by decide, by decide⟩ | (show (0 : Int) < _; decide) | (show (0 : Int) < _; omega) | (show (0 : Int) ≤ _; omega) | exact ⟨by decide, by decide, by decide⟩ | exact ⟨by omega, by omega, by decide⟩ | exact Or.inl ⟨by decide, by decide⟩ | exact Or.inl ⟨by omega, by omega⟩)
local macro_rules | `(tactic| walk_at "rd") => `(tactic| repeat (first | refine ⟨_, rfl, ?_⟩ | refine ⟨_, _, rfl, rfl, ?_⟩ | refine ⟨rfl, ?_⟩ | (refine ⟨?cc, ?_⟩; (case cc => walk_at "cc"))))
def Cz:Sp:=fun vs H Q _=>∃(c:Int)(m:Nat),vs = [.int c,.int (m:Int)]/\m<=100/\∀(q:Addr)(o:List Nat)(H':Hp),Same H H'->H q=none->H' q=some (.lst (o.map iV))->o.length=m->o.Nodup->(∀ x∈o,x<m)->Q (.ref q) H'
def CB(K:P1):Sp:=fun vs H Q _=>∃(a:Addr)(cs:List Int),vs = [.ref a]/\SqL K H a (cs.map V.int)/\cs.length<=6 /\
 ∀(t pe pt:Addr)(ys xs:List V)(m:Nat)(es:En)(ts:List (List Nat))(H':Hp),Same H H'->H' t=some (.tup [.ref pe,.ref pt])->H' pe=some (.lst ys)->cY H' ys es->H' pt=some (.lst xs)->bO H' xs ts->Gr m es ts->es.length=cs.length+1->Q (.ref t) H'
def PY(H:Hp)(a pe pt:Addr)(i:Nat)(σ:St)(H5:Hp):Prop:=∃ v3 v4 v5 v6 v7 v8 v9 v10 ys xs m es ts,σ = [some (.ref a),some (.ref pe),some (.ref pt),v3,v4,v5,v6,v7,v8,v9,v10]/\Same H H5/\H5 pe=some (.lst ys)/\cY H5 ys es/\H5 pt=some (.lst xs)/\dh (fun p=>p=pe∨p=pt∨H p≠none) H5 xs ts/\Dist xs/\Gr m es ts/\es.length=i+1
theorem rJ{H H7:Hp}{a pe pt:Addr}{i m':Nat}{ys xs:List V}{es:En}{e:Nat×Nat}{ts':List (List Nat)}(npe:pe≠pt)(hpe:H pe=none)(s7:Same H H7)(h1:H7 pe=some (.lst ys))(h2:cY H7 ys es)(h3:H7 pt=some (.lst xs))(h4:dh (fun p=>p=pe∨p=pt∨H p≠none) H7 xs ts')(h5:Dist xs)(h6:Gr m' (es++[e]) ts')(hi:es.length=i+1)
  {t:Addr} (ht:H7 t=none) {x y:V} (hx:x=iV e.1) (hy:y=iV e.2) (v3 v4 v5 v6 v7 v8 v9 v10:Option V):PY H a pe pt (i+1) [some (.ref a),some (.ref pe),some (.ref pt),v3,v4,v5,v6,v7,v8,v9,v10] (upd (upd H7 t (.tup [x,y])) pe (.lst (ys++[.ref t]))):=by
 subst hx hy
 have sn:=ao ht (.tup [iV e.1,iV e.2])
 refine⟨_,_,_,_,_,_,_,_,_,xs,m',es++[e],ts',rfl,aP (s7.trans sn) hpe _,ag,((h2.mono sn).snoc ag).put (sn _ _ h1),by rw[ar npe.symm];exact sn _ _ h3,h4.mono fun p o n z=>?_,h5,h6,by rw[P2,hi];rfl⟩
 rw[ar (fun z=>n (.inl z))]
 exact sn _ _ z
theorem Bi{S:Addr->Prop}{H:Hp}{xs:List V}{ts:List (List Nat)}{q:Addr}(h:dh S H xs ts)(D:Dist xs)(hq:H q=none):Dist (xs++[.ref q]):=by
 have old:∀(j:Nat)(p:Addr),j<xs.length->(xs++[V.ref q])[j]?=some (.ref p)->xs[j]?=some (.ref p)/\p≠q:=fun j p hj e=>by
  rw[P6 hj]at e
  obtain⟨p',a1,_,a3⟩:=h.2 j _ (PZ (by rw[← h.1];exact hj))
  rw[e]at a1
  cases a1
  exact⟨e,aB a3 hq⟩
 have new:∀(j:Nat)(p:Addr),¬ j<xs.length->(xs++[V.ref q])[j]?=some (.ref p)->j=xs.length/\p=q:=fun j p hj e=>by
  have:=(P0.mp e).1
  rw[P2,Qa]at this
  have hj2:j=xs.length:=by omega
  subst hj2
  rw[P4 (P9 _),Qu]at e
  cases e
  exact⟨rfl,rfl⟩
 intro j k p e1 e2
 by_cases hj:j<xs.length
 ·obtain⟨u1,u2⟩:=old j p hj e1
  by_cases hk:k<xs.length
  ·exact D j k p u1 (old k p hk e2).1
  ·exact absurd (new k p hk e2).2 u2
 ·obtain⟨u1,u2⟩:=new j p hj e1
  by_cases hk:k<xs.length
  ·exact absurd u2 (old k p hk e2).2
  ·rw[u1,(new k p hk e2).1]
theorem KY{m:Nat}{es:En}{ts:List (List Nat)}(g:Gr m es ts):m<=es.length+2:=by
 obtain⟨rs,_,c⟩:=g.part
 omega
section
variable{P:Program}{w:World}{K:P1}{mg:Str->Option Value}{base:Heap}
theorem dY:aH ["cell","many","order","mixed","k"] ["cell","many"] (aj dz):=⟨rfl,rfl,rfl,by decide +kernel,rfl,by decide +kernel,by decide +kernel⟩
theorem MA{f:Addr}{fd:FuncData} (F:Fun K "_law_order" "_law_order" dz f fd) (T:Txt mg):FnOk P w K mg base CX0 1 f fd ["cell","many"] Cz:=by
 refine F.ok dY (fun vs H Q E h=>?_) (fun cdv A outer s H vs Q E hr h=>?_)
 ·obtain⟨c,m,rfl,_⟩:=h
  rfl
 obtain⟨c,m,rfl,hm,k⟩:=h
 refine⟨_,(ae (ay (i:=2) dY.nd rfl (Or.inl rfl) (bg af))
   (ae (ay (i:=3) dY.nd rfl (Or.inl rfl) (aE bB (pv 0) ai))
   (ae (cF PassesOwn.never rfl (bV rfl T.n_range (aa (pv 1) af)) (aV (i:=4) dY.nd rfl (Or.inl rfl)) (ae (ay (i:=3) dY.nd rfl (Or.inl rfl) (aE bB (aE hX (pv 3) ai) ai))
   (ak (aU (bK Qg So Sn sX (pv 2) (aa (aE bB (pv 3) (aE bj (pv 4) ai)) (aa (pv 4) af)))))))
   (ak (aJ (pv 2)))))),?_⟩
 refine⟨(by show 0<=sizeLine;decide),fun q hq=>?_⟩
 refine⟨_,rfl,_,_,rfl,rfl,(by show(0:Int)<1000000007;decide),?_⟩
 refine⟨_,rfl,_,rfl,by omega,by omega,cH (n:=(m:Int).toNat) (fun i σ H2=>∃(M:Int),∃ v4 o,σ = [some (.int c),some (.int (m:Int)),some (.ref q),some (.int M),v4]/\Same H H2/\H2 q=some (.lst (o.map iV))/\o.length=i/\o.Nodup/\∀ x∈o,x<i) ⟨_,_,[],rfl,ao hq _,ag,rfl,Sl,fun x hx=>nomatch hx⟩ ?_ ?_⟩
 ·rintro i σ H2 hi ⟨M,v4,o,rfl,s2,hq2,ol,nd,lt⟩
  rw[Qy]at hi
  have e0:(0:Int)+(i:Int)=(i:Int):=RB _
  rw[e0]
  have hlen:(o.map iV).length=i:=by rw[P5];exact ol
  refine⟨_,rfl,_,_,rfl,rfl,.inr ⟨by decide,by decide⟩,_,_,rfl,rfl,(by show(0:Int)<2147483647;decide),?_⟩
  refine⟨_,rfl,.inl ⟨rfl,_,SqL.of hq2⟩,_,rfl,_,rfl,_,_,rfl,rfl,_,_,rfl,rfl,(by show(0:Int)<(i:Int)+1;omega),_,rfl,q,_,_,_,rfl,rfl,hq2,(NA _ _).1,(by rw[hlen];exact(NA _ _).2),aI (by omega),?_⟩
  rw[insV]
  refine⟨_,_,_,rfl,aP s2 hq _,ag,by rw[Pg,ol],KO nd fun z=>by have:=lt i z;omega,fun x hx=>?_⟩
  rcases Eg.mp hx with z | z
  ·omega
  ·have:=lt x z;omega
 ·rintro σ H2 ⟨M,v4,o,rfl,s2,hq2,ol,nd,lt⟩
  rw[Qy]at ol lt
  exact⟨_,rfl,k q o H2 s2 hq hq2 ol nd lt⟩
theorem a9:aH ["cells","ends","turns","cell","mixed","fresh","left","row","right_v","one","two"] ["cells"] (aj dA):=⟨rfl,rfl,rfl,by decide +kernel,rfl,by decide +kernel,by decide +kernel⟩
theorem ME{f fr fh:Addr}{fd fdr fdh:FuncData} (F:Fun K "_law_grown" "_law_grown" dA f fd) (T:Txt mg) (G_law_round:Cal P w K mg base 3 "_law_round" ["ends","turns","dart"] (xC K) fr fdr) (G_law_head:Cal P w K mg base 1 "_law_head" ["ends","dart"] (xD K) fh fdh) :
  FnOk P w K mg base CX0 4 f fd ["cells"] (CB K):=by
 refine F.ok a9 (fun vs H Q E h=>?_) (fun cdv A outer s H vs Q E hr h=>?_)
 ·obtain⟨a,cs,rfl,_⟩:=h
  rfl
 obtain⟨a,cs,rfl,hS,h30,kk⟩:=h
 have hcl:(cs.map V.int).length=cs.length:=P5 _
 refine⟨_,(ae (ay (i:=1) a9.nd rfl (Or.inl rfl) (bg (aa (eS (aa ai (aa ai af))) af)))
   (ae (ay (i:=2) a9.nd rfl (Or.inl rfl) (bg (aa (bg (aa ai af)) (aa (bg (aa ai af)) af))))
   (ae (cF PassesOwn.never rfl (b4 (pv 0)) (aV (i:=3) a9.nd rfl (Or.inl rfl)) (ae (ay (i:=4) a9.nd rfl (Or.inl rfl) (aE bB (aE hX (aE bB (pv 3) ai) ai) ai))
   (ae (ay (i:=5) a9.nd rfl (Or.inl rfl) (aA aq (by rfl) T.n_len aT (aa (pv 1) af)))
   (ae (ay (i:=6) a9.nd rfl (Or.inl rfl) (aE bB (aE bR (pv 4) ai) (aE hX ai (pv 5))))
   (ae (ay (i:=7) a9.nd rfl (Or.inl rfl) (ax G_law_round.ok (hr.mono (by decide)) rfl G_law_round.mg G_law_round.kp G_law_round.bn .nil aN (aa (pv 1) (aa (pv 2) (aa (pv 6) af)))))
   (ae (ay (i:=8) a9.nd rfl (Or.inl rfl) (aG av (pv 7) (aE bB (aE bB (aE hX (pv 4) (pv 4)) ai) (aA aq (by rfl) T.n_len aT (aa (pv 7) af))) (fun _ _=>rfl)))
   (ae (ay (i:=9) a9.nd rfl (Or.inl rfl) (ax G_law_head.ok (hr.mono (by decide)) rfl G_law_head.mg G_law_head.kp G_law_head.bn .nil aN (aa (pv 1) (aa (pv 6) af))))
   (ae (ay (i:=10) a9.nd rfl (Or.inl rfl) (ax G_law_head.ok (hr.mono (by decide)) rfl G_law_head.mg G_law_head.kp G_law_head.bn .nil aN (aa (pv 1) (aa (pv 8) af))))
   (ae (aU (bK Qg So Sn sX (aG av (pv 2) (pv 9) (fun _ _=>rfl)) (aa (aE bj (bK Qg RV RU rF (aG av (pv 2) (pv 9) (fun _ _=>rfl)) (aa (aE bR (pv 6) ai) af)) ai) (aa (pv 5) af))))
   (ae (ba (PW.pt (gy (au eY (aE bB (pv 4) ai) ai (aC _)) (fN (au eY (pv 9) (pv 10) (aC _))))) (ae (ay (i:=10) a9.nd rfl (Or.inl rfl) (aA aq (by rfl) T.n_len aT (aa (pv 2) af)))
   (ak (aU (bK Qg Qs Qr aZ (pv 2) (aa (bg (aa (pv 5) af)) af))))) (ak (aU (bK Qg So Sn sX (aG av (pv 2) (pv 10) (fun _ _=>rfl)) (aa (aE bj (bK Qg RV RU rF (aG av (pv 2) (pv 10) (fun _ _=>rfl)) (aa (aE bR (pv 8) ai) af)) ai) (aa (pv 5) af))))))
   (ak (ba (au eY (aE bB (aE bR (pv 3) ai) ai) ai (aC _)) (ak (aU (bK Qg Qs Qr aZ (pv 1) (aa (eS (aa (pv 10) (aa (pv 9) af))) af)))) (ak (aU (bK Qg Qs Qr aZ (pv 1) (aa (eS (aa (pv 9) (aa (pv 10) af))) af))))))))))))))))
   (ak (aJ (eS (aa (pv 1) (aa (pv 2) af)))))))),?_⟩
 refine⟨(by show 2<=sizeLine;decide),fun t0 ht0=>⟨(by show 1<=sizeLine;decide),fun pe hpe=>?_⟩⟩
 have s1:=ao ht0 (.tup [.int 0,.int 1])
 have s2:=s1.trans (ao hpe (.lst [.ref t0]))
 refine⟨(by show 1<=sizeLine;decide),fun p0 hp0=>⟨(by show 1<=sizeLine;decide),fun p1 hp1=>⟨(by show 2<=sizeLine;decide),fun pt hpt=>?_⟩⟩⟩
 have s3:=ao hp0 (.lst [.int 0])
 have s4:=ao hp1 (.lst [.int 0])
 have s5:=ao hpt (.lst [.ref p0,.ref p1])
 have s05:=((s2.trans s3).trans s4).trans s5
 have none_of:∀{G:Hp}{p:Addr},Same H G->G p=none->H p=none:=fun{G p} sm z=>by
  cases y:H p with
  |none=>rfl
  |some o=>rw[sm _ _ y]at z;cases z
 have hpe0:=none_of s1 hpe
 have hpt0:=none_of ((s2.trans s3).trans s4) hpt
 have hp00:=none_of s2 hp0
 have hp10:=none_of (s2.trans s3) hp1
 have g1:=s3.trans (s4.trans s5)
 have hpe5:=g1 _ _ (ag (H:=upd H t0 (.tup [.int 0,.int 1])) (a:=pe) (o:=.lst [.ref t0]))
 have hp05:=(s4.trans s5) _ _ (ag (a:=p0) (o:=.lst [.int 0]))
 have hp15:=s5 _ _ (ag (a:=p1) (o:=.lst [.int 0]))
 have n01:p0≠p1:=aB (ag (a:=p0) (o:=.lst [.int 0])) hp1
 have npe:pe≠pt:=aB ((s3.trans s4) _ _ (ag (a:=pe) (o:=.lst [.ref t0]))) hpt
 have n0e:p0≠pe:=fun z=>by rw[z,ag]at hp0;cases hp0
 have n1e:p1≠pe:=fun z=>by rw[z,s3 _ _ (ag (a:=pe) (o:=.lst [.ref t0]))]at hp1;cases hp1
 have n0t:p0≠pt:=aB (s4 _ _ (ag (a:=p0) (o:=.lst [.int 0]))) hpt
 have n1t:p1≠pt:=aB (ag (a:=p1) (o:=.lst [.int 0])) hpt
 have init:PY H a pe pt 0 [some (.ref a),some (.ref pe),some (.ref pt),none,none,none,none,none,none,none,none] (upd (upd (upd (upd (upd H t0 (.tup [.int 0,.int 1])) pe (.lst [.ref t0])) p0 (.lst [.int 0])) p1 (.lst [.int 0])) pt (.lst [.ref p0,.ref p1])):=by
  refine⟨_,_,_,_,_,_,_,_,[.ref t0],[.ref p0,.ref p1],2,[(0,1)],[[0],[0]],rfl,s05,hpe5,⟨rfl,fun i e z=>?_⟩,ag,⟨rfl,fun i l z=>?_⟩,fun i j p z1 z2=>?_,gr_two,rfl⟩
  ·match i,z with
   |0,z=>cases z;exact⟨t0,rfl,((ao hpe _).trans g1) _ _ ag⟩
   |i+1,z=>cases z
  ·match i,z with
   |0,z=>cases z;exact⟨p0,rfl,by rintro(y | y | y);exact n0e y;exact n0t y;exact y hp00,hp05⟩
   |1,z=>cases z;exact⟨p1,rfl,by rintro(y | y | y);exact n1e y;exact n1t y;exact y hp10,hp15⟩
   |i+2,z=>cases z
  ·match i,z1,j,z2 with
   |0,z1,0,z2=>rfl
   |1,z1,1,z2=>rfl
   |0,z1,1,z2=>cases z1;cases z2;exact absurd rfl n01
   |1,z1,0,z2=>cases z1;cases z2;exact absurd rfl n01
   |i+2,z1,_,_=>cases z1
   |0,_,j+2,z2=>cases z2
   |1,_,j+2,z2=>cases z2
 refine⟨_,rfl,a,rfl,⟨_,s05.seq hS⟩,iY (xs:=cs.map V.int) (fun i σ H5=>PY H a pe pt i σ H5) init (fun i σ H5 _ ⟨_,_,_,_,_,_,_,_,_,_,_,_,_,_,z,_⟩=>z.seq hS) ?_ ?_⟩
 ·rintro i x σ H5 hx ⟨v3,v4,v5,v6,v7,v8,v9,v10,ys,xs,m,es,ts,rfl,s5,hpe5,en,hpt5,rx5,D,g,hi⟩
  rw[Qd]at hx
  obtain⟨c,hc,rfl⟩:=QJ.mp hx
  have hil:i<cs.length:=(P0.mp hc).1
  have hyl:ys.length=es.length:=en.1
  have few:es.length<=62:=by omega +splitDisjunctions
  have w':=g.w
  have tlen:=w'.len
  have mfew:=KY g
  have o0:(0:Int)<=c%1000000007*48271%2147483647:=Ro _ (by decide)
  have o1:c%1000000007*48271%2147483647<2147483647:=Rm _ (by decide)
  refine⟨_,rfl,_,_,rfl,rfl,(by show(0:Int)<1000000007;decide),_,_,rfl,rfl,.inr ⟨by decide,by decide⟩,_,_,rfl,rfl,(by show(0:Int)<2147483647;decide),?_⟩
  refine⟨_,rfl,pe,ys,rfl,.inl (SqL.of hpe5),?_⟩
  have hfr:(0:Int)<2*(ys.length:Int):=by omega +splitDisjunctions
  refine⟨_,rfl,_,_,rfl,rfl,⟨by decide,by decide⟩,_,rfl,_,_,rfl,rfl,.inl ⟨by decide,by decide⟩,_,_,rfl,rfl,hfr,?_⟩
  have l0:=Ro (c%1000000007*48271%2147483647/2) (show 2*(ys.length:Int)≠0 by omega +splitDisjunctions)
  have l1:=Rm (c%1000000007*48271%2147483647/2) hfr
  obtain⟨L,hL⟩:∃ L:Nat,c%1000000007*48271%2147483647/2%(2*(ys.length:Int))=(L:Int):=⟨_,(Se l0).symm⟩
  have hLl:L<2*es.length:=by omega +splitDisjunctions
  refine⟨_,rfl,_,rfl,_,rfl,pe,pt,ys,xs,m,es,ts,L,congrArg (fun z=>[V.ref pe,V.ref pt,V.int z]) hL,SqL.of hpe5,en,SqL.of hpt5,rx5.off,w',few,hLl,fun q r H6 s6 hq hq6 pa ri=>?_⟩
  have hrlen:(r.map iV).length=r.length:=P5 _
  have hr0:=ri.ne
  have hrp:(0:Int)<((r.map iV).length:Int):=by omega +splitDisjunctions
  have j0:=Ro (c%1000000007*48271%2147483647*(c%1000000007*48271%2147483647)%1000003) (show((r.map iV).length:Int)≠0 by omega +splitDisjunctions)
  have j1:=Rm (c%1000000007*48271%2147483647*(c%1000000007*48271%2147483647)%1000003) hrp
  obtain⟨J,hJ⟩:∃ J:Nat,c%1000000007*48271%2147483647*(c%1000000007*48271%2147483647)%1000003%((r.map iV).length:Int)=(J:Int):=⟨_,(Se j0).symm⟩
  have hJl:J<r.length:=by omega +splitDisjunctions
  obtain⟨R,hR⟩:∃ R,r[J]?=some R:=⟨_,PZ hJl⟩
  have hRm:=P7 hR
  have hRl:=ri.lt R hRm
  refine⟨_,rfl,_,rfl,_,rfl,_,_,rfl,rfl,.inl ⟨by show -(2^64:Int)<c%1000000007*48271%2147483647;omega +splitDisjunctions,by show c%1000000007*48271%2147483647<(2^64:Int);omega +splitDisjunctions⟩,_,_,rfl,rfl,(by show(0:Int)<1000003;decide),_,rfl,q,_,rfl,.inl (SqL.of hq6),_,_,rfl,rfl,hrp,q,_,_,_,rfl,rfl,SqL.of hq6,(by rw[hJ];exact Pk hR),?_⟩
  have s06:=s5.trans s6
  have hpe6:=s6 _ _ hpe5
  have hpt6:=s6 _ _ hpt5
  have en6:=en.mono s6
  have rx6:dh (fun p=>p=pe∨p=pt∨H p≠none) H6 xs ts:=rx5.mono fun p o _ z=>s6 _ _ z
  refine⟨_,rfl,_,rfl,pe,ys,es,L,congrArg (fun z=>[V.ref pe,V.int z]) hL,SqL.of hpe6,en6,hLl,?_⟩
  refine⟨_,rfl,_,rfl,pe,ys,es,R,rfl,SqL.of hpe6,en6,hRl,?_⟩
  obtain⟨_,l,_,_,_,k4,k5,k6⟩:=w'.at hLl
  obtain⟨_,l',_,_,_,k4',k5',k6'⟩:=w'.at hRl
  obtain⟨p1,y1,y2,y3⟩:=rx6.2 _ _ k5
  obtain⟨p2,z1,z2,z3⟩:=rx6.2 _ _ k5'
  obtain⟨sm1,f1⟩:=gU w' few k5
  obtain⟨sm2,f2⟩:=gU w' few k5'
  have len1:(l.map iV).length=l.length:=P5 _
  have len2:(l'.map iV).length=l'.length:=P5 _
  have ix1:l.idxOf (L/2)<l.length:=Tc k6
  have ix2:l'.idxOf (R/2)<l'.length:=Tc k6'
  have ne_S:∀{p q:Addr},¬ (p=pe∨p=pt∨H p≠none)->(q=pe∨q=pt)->q≠p:=fun n y z=>n (by rw[← z];rcases y with y | y<;>simp[y])
  have no_S:∀{p:Addr},¬ (p=pe∨p=pt∨H p≠none)->H p=none:=fun{p} n=>by
   cases y:H p with
   |none=>rfl
   |some o=>exact absurd (.inr (.inr (by rw[y];exact fun z=>nomatch z))) n
  have hp1:=no_S y2
  have hp2:=no_S z2
  have eL:c%1000000007*48271%2147483647/2%(2*(ys.length:Int))/2=((L/2:Nat):Int):=by rw[hL];omega +splitDisjunctions
  have eR:(R:Int)/2=((R/2:Nat):Int):=by omega +splitDisjunctions
  refine⟨_,rfl,_,rfl,pt,xs,_,_,rfl,rfl,SqL.of hpt6,aQ y1,.inl ⟨rfl,_,SqL.of y3⟩,_,rfl,_,rfl,pt,xs,_,_,rfl,rfl,SqL.of hpt6,aQ y1,.inl ⟨rfl,_,SqL.of y3⟩,_,rfl,_,_,rfl,rfl,⟨by decide,by decide⟩,p1,l,L/2,rfl,congrArg (fun z=>[V.int z]) eL,SqL.of y3,fun p hp=>by have:=sm1 p hp;omega +splitDisjunctions,by omega +splitDisjunctions,k6,_,_,rfl,rfl,_,rfl,p1,_,_,_,rfl,rfl,y3,by omega +splitDisjunctions,by omega +splitDisjunctions,aI (by omega +splitDisjunctions),?_⟩
  rw[hyl,insV,show(((l.idxOf (L/2):Nat):Int)+1).toNat=l.idxOf (L/2)+1 by omega +splitDisjunctions]
  have s07:=aP s06 hp1 (.lst ((ins l (l.idxOf (L/2)+1) es.length).map iV))
  have hpe7:(upd H6 p1 (.lst ((ins l (l.idxOf (L/2)+1) es.length).map iV))) pe=some (.lst ys):=by rw[ar (ne_S y2 (.inl rfl))];exact hpe6
  have hpt7:(upd H6 p1 (.lst ((ins l (l.idxOf (L/2)+1) es.length).map iV))) pt=some (.lst xs):=by rw[ar (ne_S y2 (.inr rfl))];exact hpt6
  have en7:=en6.put (o:=.lst ((ins l (l.idxOf (L/2)+1) es.length).map iV)) y3
  have rx7:=rx6.set (l':=ins l (l.idxOf (L/2)+1) es.length) D y1
  have z7:hd es L≠hd es R->(upd H6 p1 (.lst ((ins l (l.idxOf (L/2)+1) es.length).map iV))) p2=some (.lst (l'.map iV)):=fun n=>by
   rw[ar (fun y=>by rw[y]at z1;exact n (D _ _ p1 y1 z1))];exact z3
  generalize hH7:upd H6 p1 (.lst ((ins l (l.idxOf (L/2)+1) es.length).map iV))=H7 at s07 hpe7 hpt7 en7 rx7 z7
  obtain⟨x0,tail,rfl,ch⟩:=ri.cr.ch
  have hx0:x0=L:=by
   have:=pa.hd
   exact Qt this
  subst hx0
  have xl:xs.length=m:=by rw[rx5.1,tlen]
  have hcr:=ri.cr
  refine⟨_,rfl,_,_,rfl,rfl,(by show(0:Int)<2;decide),rfl,_,rfl,ite2 (fun c=>iteT ?_) (fun c=>⟨_,rfl,_,rfl,rfl,_,rfl,ite2 (fun c2=>?_) (fun c2=>?_)⟩)⟩
  rotate_left 2
  ·have n:hd es x0≠hd es R:=fun z=>c2 (decide_eq_true (by rw[z]))
   have z7:=z7 n
   refine⟨_,rfl,_,rfl,pt,xs,_,_,rfl,rfl,SqL.of hpt7,aQ z1,.inl ⟨rfl,_,SqL.of z7⟩,_,rfl,_,rfl,pt,xs,_,_,rfl,rfl,SqL.of hpt7,aQ z1,.inl ⟨rfl,_,SqL.of z7⟩,_,rfl,_,_,rfl,rfl,⟨by decide,by decide⟩,p2,l',R/2,rfl,congrArg (fun z=>[V.int z]) eR,SqL.of z7,fun p hp=>by have:=sm2 p hp;omega +splitDisjunctions,by omega +splitDisjunctions,k6',_,_,rfl,rfl,_,rfl,p2,_,_,_,rfl,rfl,z7,by omega +splitDisjunctions,by omega +splitDisjunctions,aI (by omega +splitDisjunctions),?_⟩
   rw[insV,show(((l'.idxOf (R/2):Nat):Int)+1).toNat=l'.idxOf (R/2)+1 by omega +splitDisjunctions]
   have s08:=aP s07 hp2 (.lst ((ins l' (l'.idxOf (R/2)+1) es.length).map iV))
   have hpe8:(upd H7 p2 (.lst ((ins l' (l'.idxOf (R/2)+1) es.length).map iV))) pe=some (.lst ys):=by rw[ar (ne_S z2 (.inl rfl))];exact hpe7
   have hpt8:(upd H7 p2 (.lst ((ins l' (l'.idxOf (R/2)+1) es.length).map iV))) pt=some (.lst xs):=by rw[ar (ne_S z2 (.inr rfl))];exact hpt7
   have en8:=en7.put (o:=.lst ((ins l' (l'.idxOf (R/2)+1) es.length).map iV)) z7
   have rx8:=rx7.set (l':=ins l' (l'.idxOf (R/2)+1) es.length) D z1
   refine⟨_,rfl,_,_,rfl,rfl,⟨by decide,by decide⟩,_,_,rfl,rfl,(by show(0:Int)<2;decide),rfl,_,rfl,ite2 (fun _=>?_) (fun _=>?_)⟩
   ·refine⟨_,rfl,.inl ⟨rfl,_,SqL.of hpe8⟩,_,rfl,_,rfl,(by show 2<=sizeLine;decide),fun t ht=>⟨pe,ys,_,rfl,rfl,ao ht _ _ _ hpe8,aI (by omega +splitDisjunctions),?_⟩⟩
    exact rJ npe hpe0 s08 hpe8 en8 hpt8 rx8 D (g.join (e:=(hd es R,hd es x0)) hLl hcr ch hRm rfl rfl n (.inr rfl) k5 k5') hi ht rfl rfl _ _ _ _ _ _ _ _
   ·refine⟨_,rfl,.inl ⟨rfl,_,SqL.of hpe8⟩,_,rfl,_,rfl,(by show 2<=sizeLine;decide),fun t ht=>⟨pe,ys,_,rfl,rfl,ao ht _ _ _ hpe8,aI (by omega +splitDisjunctions),?_⟩⟩
    exact rJ npe hpe0 s08 hpe8 en8 hpt8 rx8 D (g.join (e:=(hd es x0,hd es R)) hLl hcr ch hRm rfl rfl n (.inl rfl) k5 k5') hi ht rfl rfl _ _ _ _ _ _ _ _
  all_goals
   refine⟨_,rfl,pt,xs,rfl,.inl (SqL.of hpt7),?_⟩
   refine⟨_,rfl,.inl ⟨rfl,_,SqL.of hpt7⟩,_,rfl,(by show 1<=sizeLine;decide),fun pn hpn=>⟨pt,xs,_,rfl,rfl,ao hpn _ _ _ hpt7,aI (by omega +splitDisjunctions),?_⟩⟩
   have sn:=ao hpn (.lst [V.int (es.length:Int)])
   have s08:=aP (s07.trans sn) hpt0 (.lst (xs++[.ref pn]))
   have hpe8:(upd (upd H7 pn (.lst [V.int (es.length:Int)])) pt (.lst (xs++[.ref pn]))) pe=some (.lst ys):=by rw[ar npe];exact sn _ _ hpe7
   have hpt8:(upd (upd H7 pn (.lst [V.int (es.length:Int)])) pt (.lst (xs++[.ref pn]))) pt=some (.lst (xs++[.ref pn])):=ag
   have en8:=(en7.mono sn).put (o:=.lst (xs++[.ref pn])) (sn _ _ hpt7)
   have npt:pn≠pt:=fun z=>by rw[z,hpt7]at hpn;cases hpn
   have npn:pn≠pe:=fun z=>by rw[z,hpe7]at hpn;cases hpn
   have hpn0:H pn=none:=none_of s07 hpn
   have rx8:dh (fun p=>p=pe∨p=pt∨H p≠none) (upd (upd H7 pn (.lst [V.int (es.length:Int)])) pt (.lst (xs++[.ref pn]))) (xs++[.ref pn]) (ts.set (hd es x0) (ins l (l.idxOf (x0/2)+1) es.length)++[[es.length]]):=by
    refine(rx7.mono fun p o n z=>?_).snoc (by rintro(y | y | y);exact npn y;exact npt y;exact y hpn0) ?_
    ·rw[ar (fun z=>n (.inr (.inl z)))];exact sn _ _ z
    ·rw[ar npt];exact ag
   have D8:=Bi rx7 D hpn
   have hxm:V.int (xs.length:Int)=iV m:=by rw[xl];rfl
   refine⟨_,rfl,_,_,rfl,rfl,⟨by decide,by decide⟩,_,_,rfl,rfl,(by show(0:Int)<2;decide),rfl,_,rfl,ite2 (fun _=>?_) (fun _=>?_)⟩
   ·refine⟨_,rfl,.inl ⟨rfl,_,SqL.of hpe8⟩,_,rfl,_,rfl,(by show 2<=sizeLine;decide),fun t ht=>⟨pe,ys,_,rfl,rfl,ao ht _ _ _ hpe8,aI (by omega +splitDisjunctions),?_⟩⟩
    exact rJ npe hpe0 s08 hpe8 en8 hpt8 rx8 D8 (g.leaf (e:=(m,hd es x0)) hLl hcr ch rfl (.inr rfl) k5) hi ht hxm rfl _ _ _ _ _ _ _ _
   ·refine⟨_,rfl,.inl ⟨rfl,_,SqL.of hpe8⟩,_,rfl,_,rfl,(by show 2<=sizeLine;decide),fun t ht=>⟨pe,ys,_,rfl,rfl,ao ht _ _ _ hpe8,aI (by omega +splitDisjunctions),?_⟩⟩
    exact rJ npe hpe0 s08 hpe8 en8 hpt8 rx8 D8 (g.leaf (e:=(hd es x0,m)) hLl hcr ch rfl (.inl rfl) k5) hi ht rfl hxm _ _ _ _ _ _ _ _
 ·rintro σ H5 ⟨v3,v4,v5,v6,v7,v8,v9,v10,ys,xs,m,es,ts,rfl,s5,hpe5,en,hpt5,rx5,D,g,hi⟩
  rw[hcl]at hi
  refine⟨_,rfl,_,rfl,(by show 2<=sizeLine;decide),fun t ht=>?_⟩
  have s6:=ao ht (.tup [.ref pe,.ref pt])
  exact kk t pe pt ys xs m es ts _ (s5.trans s6) ag (s6 _ _ hpe5) (en.mono s6) (s6 _ _ hpt5) (rx5.off.mono s6) g hi
end
end K8
namespace K8
open PySem L2
local macro_rules | `(tactic| walk_at "cc") => `(tactic| first | exact ⟨by decide, by decide⟩ | (show (0 : Int) < _; decide) | (show (0 : Int) < _; omega) | (show (0 : Int) ≤ _; omega) | exact ⟨by decide, by decide, by decide⟩ | exact ⟨by omega, by omega, by decide⟩ | exact Or.inl ⟨by decide, by decide⟩ | exact Or.inl ⟨by omega, by omega⟩)
local macro_rules | `(tactic| walk_at "rd") => `(tactic| repeat (first | refine ⟨_, rfl, ?_⟩ | refine ⟨_, _, rfl, rfl, ?_⟩ | refine ⟨rfl, ?_⟩ | (refine ⟨?cc, ?_⟩; (case cc => walk_at "cc"))))
def cutp(c:Int)(p n:Nat):Nat:=(c%1009*((p:Int)+1)%(n:Int)).toNat
def rowN(c:Int)(o2:List Nat)(p:Nat)(l:List Nat):List Nat:=(l.drop (cutp c p l.length)++l.take (cutp c p l.length)).map (ofL o2)
def en2(o1 o2:List Nat)(es:En):En:=(QW es.length).map fun j=>(ofL o1 ((es[o2.idxOf j]?).getD (0,0)).1,ofL o1 ((es[o2.idxOf j]?).getD (0,0)).2)
def ts2(c:Int)(o1 o2:List Nat)(ts:List (List Nat)):List (List Nat):=(QW ts.length).map fun j=>rowN c o2 (o1.idxOf j) ((ts[o1.idxOf j]?).getD [])
theorem KR{o:List Nat}(nd:o.Nodup){k:Nat}(h:k<o.length):o.idxOf (ofL o k)=k:=by
 have e:o[k]?=some (ofL o k):=by unfold ofL;rw[PZ h];rfl
 exact FT nd (Ei (P7 e)) e
theorem ren_of{m:Nat}{es:En}{ts:List (List Nat)}{c:Int}{o1 o2:List Nat}(w:bW m es ts)(l1:o1.length=m)(n1:o1.Nodup)(b1:∀ x∈o1,x<m)(l2:o2.length=es.length)(n2:o2.Nodup)(b2:∀ x∈o2,x<es.length) :
  Ren m es (en2 o1 o2 es) ts (ts2 c o1 o2 ts) (ofL o1) (ofL o2):=by
 have B1:=Gm l1 n1 b1
 have B2:=Gm l2 n2 b2
 refine⟨B1,B2,by simp[en2],by simp[ts2,w.len],fun k e h=>?_,fun p l h=>?_⟩
 ·have hk:=(P0.mp h).1
  unfold en2
  rw[Qd,Q8 (B2.lt k hk)]
  show some (ofL o1 ((es[o2.idxOf (ofL o2 k)]?).getD (0,0)).1,ofL o1 ((es[o2.idxOf (ofL o2 k)]?).getD (0,0)).2)=_
  rw[KR n2 (by omega),h]
  rfl
 ·have hp:p<m:=by rw[← w.len];exact(P0.mp h).1
  refine⟨l.take (cutp c p l.length),l.drop (cutp c p l.length),(RL _ _).symm,?_⟩
  unfold ts2
  rw[Qd,Q8 (by rw[w.len];exact B1.lt p hp)]
  show some (rowN c o2 (o1.idxOf (ofL o1 p)) ((ts[o1.idxOf (ofL o1 p)]?).getD []))=_
  rw[KR n1 (by omega),h]
  rfl
theorem Gr.rows{m:Nat}{es:En}{ts:List (List Nat)}(g:Gr m es ts)(h2:2<=m){p:Nat}{l:List Nat}(h:ts[p]?=some l):0<l.length:=by
 have hp:p<m:=by rw[← g.w.len];exact(P0.mp h).1
 cases l with
 |cons a l=>exact Nat.succ_pos _
 |nil =>
  exfalso
  have no:∀ e∈es,e.1≠p/\e.2≠p:=fun e he=>by
   obtain⟨t,ht⟩:=QY.mp he
   refine⟨fun z=>?_,fun z=>?_⟩
   ·exact nomatch (g.w.mem p [] h t).mpr ⟨e,ht,.inl z⟩
   ·exact nomatch (g.w.mem p [] h t).mpr ⟨e,ht,.inr z⟩
  have:=g.conn (fun x=>x=p) (fun e he=>⟨fun z=>absurd z (no e he).1,fun z=>absurd z (no e he).2⟩) p (if p=0 then 1 else 0) hp (by split<;>omega) rfl
  have this':(if p=0 then 1 else 0)=p:=this
  split at this'<;>omega
theorem cut_hi{xs:List V}{c:Nat}(h:c<=xs.length):cutV xs (some (c:Int)) none=xs.drop c:=by
 unfold cutV
 rw[HT.sIx_nat,RW h]
 show(xs.drop c).take (xs.length-c)=_
 exact Rr (by rw[Rx];exact P9 _)
theorem cut_lo{xs:List V}{c:Nat}(h:c<=xs.length):cutV xs none (some (c:Int))=xs.take c:=by
 unfold cutV
 rw[HT.sIx_nat,RW h]
 show(xs.drop 0).take (c-0)=_
 rw[List.drop_zero,Nat.sub_zero]
structure WebP(H:Hp)(pe pt:Addr)(m:Nat)(es:En)(ts:List (List Nat)):Prop where
 en:∃ ys,H pe=some (.lst ys)/\cY H ys es
 tu:∃ xs,H pt=some (.lst xs)/\bO H xs ts
 g:Gr m es ts
theorem WebP.mono{H H':Hp}{pe pt:Addr}{m:Nat}{es:En}{ts:List (List Nat)}(h:WebP H pe pt m es ts)(s:Same H H'):WebP H' pe pt m es ts:=by
 obtain⟨⟨ys,a,b⟩,⟨xs,c,d⟩,g⟩:=h
 exact⟨⟨ys,s _ _ a,b.mono s⟩,⟨xs,s _ _ c,d.mono s⟩,g⟩
def Og:Sp:=fun vs H Q _=>∃(t pe pt:Addr)(c:Int)(m:Nat)(es:En)(ts:List (List Nat)),vs = [.ref t,.int c]/\H t=some (.tup [.ref pe,.ref pt])/\WebP H pe pt m es ts/\2<=m/\es.length<=31 /\
 ∀(t' pe' pt':Addr)(es':En)(ts':List (List Nat))(H':Hp),Same H H'->H' t'=some (.tup [.ref pe',.ref pt'])->WebP H' pe' pt' m es' ts'->es'.length=es.length->Q (.ref t') H'
section
variable{P:Program}{w:World}{K:P1}{mg:Str->Option Value}{base:Heap}
theorem aX:aH ["grown","cell","places","ties","ends","k","turns","p","row","cut"] ["grown","cell"] (aj bu):=⟨rfl,rfl,rfl,by decide +kernel,rfl,by decide +kernel,by decide +kernel⟩
theorem ok_ren{f fo:Addr}{fd fdo:FuncData} (F:Fun K "_law_renumbered" "_law_renumbered" bu f fd) (T:Txt mg) (G_law_order:Cal P w K mg base 1 "_law_order" ["cell","many"] Cz fo fdo):FnOk P w K mg base CX0 2 f fd ["grown","cell"] Og:=by
 refine F.ok aX (fun vs H Q E h=>?_) (fun cdv A outer s H vs Q E hr h=>?_)
 ·obtain⟨t,pe,pt,c,m,es,ts,rfl,_⟩:=h
  rfl
 obtain⟨t,pe,pt,c,m,es,ts,rfl,ht,⟨⟨ys,hpe,en⟩,⟨xs,hpt,tu⟩,g⟩,h2,h31,kk⟩:=h
 have w':=g.w
 have mf:=KY g
 have hyl:ys.length=es.length:=en.1
 have hxl:xs.length=m:=by rw[tu.1,w'.len]
 refine⟨_,(ae (ay (i:=2) aX.nd rfl (Or.inl rfl) (ax G_law_order.ok (hr.mono (by decide)) rfl G_law_order.mg G_law_order.kp G_law_order.bn .nil aN (aa (pv 1) (aa (aA aq (by rfl) T.n_len aT (aa (aG a8 (pv 0) ai (fun _ _=>rfl)) af)) af))))
   (ae (ay (i:=3) aX.nd rfl (Or.inr rfl) (ax G_law_order.ok (hr.mono (by decide)) rfl G_law_order.mg G_law_order.kp G_law_order.bn .nil aN (aa (aE bR (pv 1) ai) (aa (aA aq (by rfl) T.n_len aT (aa (aG a8 (pv 0) ai (fun _ _=>rfl)) af)) af))))
   (ae (ay (i:=4) aX.nd rfl (Or.inl rfl) (aW bN (by rfl) T.n_list jh (aa (aG a8 (pv 0) ai (fun _ _=>rfl)) af)))
   (ae (cF PassesOwn.never rfl (bV rfl T.n_range (aa (aA aq (by rfl) T.n_len aT (aa (aG a8 (pv 0) ai (fun _ _=>rfl)) af)) af)) (aV (i:=5) aX.nd rfl (Or.inl rfl)) (ak (wz (eS (aa (aG av (pv 2) (aG a8 (aG av (aG a8 (pv 0) ai (fun _ _=>rfl)) (pv 5) (fun _ _=>rfl)) ai (fun _ _=>rfl)) (fun _ _=>rfl)) (aa (aG av (pv 2) (aG a8 (aG av (aG a8 (pv 0) ai (fun _ _=>rfl)) (pv 5) (fun _ _=>rfl)) ai (fun _ _=>rfl)) (fun _ _=>rfl)) af))) (wB (pv 4) (aG av (pv 3) (pv 5) (fun _ _=>rfl)) kH))))
   (ae (ay (i:=6) aX.nd rfl (Or.inl rfl) (aW bN (by rfl) T.n_list jh (aa (aG a8 (pv 0) ai (fun _ _=>rfl)) af)))
   (ae (cF PassesOwn.never rfl (bV rfl T.n_range (aa (aA aq (by rfl) T.n_len aT (aa (aG a8 (pv 0) ai (fun _ _=>rfl)) af)) af)) (aV (i:=7) aX.nd rfl (Or.inl rfl)) (ae (kL (i:=8) rfl aX.nd rfl rfl (fr:=[("ties",3)]) (by exact cq.one (by rfl) (by decide +kernel) (by rfl) (by decide +kernel) (by rfl) (by decide +kernel) (by rfl) (by rfl) (by decide +kernel) (by rfl)) (b4 (aG av (aG a8 (pv 0) ai (fun _ _=>rfl)) (pv 7) (fun _ _=>rfl))) (fun C ex s H=>(aG (F3 (K:=K) rfl) (pv 1) (pv 0) (fun _ _=>rfl))))
   (ae (ay (i:=9) aX.nd rfl (Or.inl rfl) (aE bB (aE hX (aE bB (pv 1) ai) (aE bj (pv 7) ai)) (aA aq (by rfl) T.n_len aT (aa (pv 8) af))))
   (ak (wz (aE op_cat (gg lU (pv 8) (iu (pv 9)) l5) (gg lU (pv 8) l5 (iu (pv 9)))) (wB (pv 6) (aG av (pv 2) (pv 7) (fun _ _=>rfl)) kH))))))
   (ak (aJ (eS (aa (pv 4) (aa (pv 6) af))))))))))),?_⟩
 refine⟨_,rfl,_,rfl,t,_,1,_,rfl,rfl,SqT.of ht,at1,pt,xs,rfl,.inl (SqL.of hpt),c,m,(by rw[hxl];rfl),by omega +splitDisjunctions,fun q1 o1 H1 s1 _ h1 l1 n1 b1=>?_⟩
 refine⟨_,rfl,_,_,rfl,rfl,⟨by decide,by decide⟩,_,rfl,t,_,0,_,rfl,rfl,SqT.of (s1 _ _ ht),at0,pe,ys,rfl,.inl (SqL.of (s1 _ _ hpe)),_,es.length,(by rw[hyl];rfl),by omega +splitDisjunctions,fun q2 o2 H2 s2 _ h2' l2 n2 b2=>?_⟩
 have s12:=s1.trans s2
 have R:=ren_of (c:=c) w' l1 n1 b1 l2 n2 b2
 have h1':=s2 _ _ h1
 refine⟨_,rfl,t,_,0,_,rfl,rfl,SqT.of (s12 _ _ ht),at0,pe,ys,rfl,.inl (SqL.of (s12 _ _ hpe)),fun qe hqe=>?_⟩
 have s3:=ao hqe (.lst ys)
 have s13:=s12.trans s3
 have h23:=s3 _ _ h2'
 have h13:=s3 _ _ h1'
 have get1:∀ k,k<m->(o1.map iV)[k]?=some (iV (ofL o1 k)):=fun k hk=>by
  rw[Qd];unfold ofL;rw[PZ (by omega +splitDisjunctions)];rfl
 have get2:∀ k,k<es.length->(o2.map iV)[k]?=some (iV (ofL o2 k)):=fun k hk=>by
  rw[Qd];unfold ofL;rw[PZ (by omega +splitDisjunctions)];rfl
 have hqe0:H qe=none:=by
  cases y:H qe with
  |none=>rfl
  |some o=>rw[s12 _ _ y]at hqe;cases hqe
 refine⟨_,rfl,t,_,0,_,rfl,rfl,SqT.of (s13 _ _ ht),at0,pe,ys,rfl,.inl (SqL.of (s13 _ _ hpe)),_,rfl,by omega +splitDisjunctions,by omega +splitDisjunctions,cH (n:=(ys.length:Int).toNat) (fun i σ H5=>∃ v5 v6 v7 v8 v9 zs,σ = [some (.ref t),some (.int c),some (.ref q1),some (.ref q2),some (.ref qe),v5,v6,v7,v8,v9]/\Same H2 H5/\H5 qe=some (.lst zs)/\zs.length=es.length/\∀(k:Nat)(e:Nat×Nat),k<i->es[k]?=some e->∃ p,zs[ofL o2 k]?=some (.ref p)/\H5 p=some (.tup [iV (ofL o1 e.1),iV (ofL o1 e.2)]))
  ⟨_,_,_,_,_,ys,rfl,s3,ag,hyl,fun k e z=>absurd z (RK _)⟩ ?_ ?_⟩
 ·rintro i σ H5 hi ⟨v5,v6,v7,v8,v9,zs,rfl,s5,hz,zl,inv⟩
  rw[Qy,hyl]at hi
  have e0:(0:Int)+(i:Int)=(i:Int):=RB _
  rw[e0]
  have s15:=s12.trans s5
  obtain⟨e,he⟩:∃ e,es[i]?=some e:=⟨_,PZ hi⟩
  obtain⟨p,x1,x2⟩:=(en.mono s15).2 i e he
  obtain⟨a1,a2,_⟩:=w'.ends e (P7 he)
  have b2':=R.si.lt i hi
  refine⟨_,rfl,_,rfl,t,_,0,_,rfl,rfl,SqT.of (s15 _ _ ht),at0,_,rfl,pe,ys,_,_,rfl,rfl,SqL.of (s15 _ _ hpe),aQ x1,p,_,0,_,rfl,rfl,SqT.of x2,at0,q1,_,_,_,rfl,rfl,SqL.of (s5 _ _ h1'),aQ (get1 _ a1),_,rfl,_,rfl,t,_,0,_,rfl,rfl,SqT.of (s15 _ _ ht),at0,_,rfl,pe,ys,_,_,rfl,rfl,SqL.of (s15 _ _ hpe),aQ x1,p,_,1,_,rfl,rfl,SqT.of x2,at1,q1,_,_,_,rfl,rfl,SqL.of (s5 _ _ h1'),aQ (get1 _ a2),(by show 2<=sizeLine;decide),fun tt htt=>?_⟩
  have sn:=ao htt (.tup [iV (ofL o1 e.1),iV (ofL o1 e.2)])
  refine⟨_,rfl,_,rfl,_,rfl,q2,_,_,_,rfl,rfl,SqL.of (sn _ _ (s5 _ _ h2')),aQ (get2 _ hi),qe,zs,_,ofL o2 i,rfl,rfl,sn _ _ hz,pD (by omega +splitDisjunctions),?_⟩
  refine⟨_,_,_,_,_,_,rfl,aP (s5.trans sn) hqe _,ag,by rw[QM];exact zl,fun k e' hk hek=>?_⟩
  by_cases z:k=i
  ·subst z
   rw[he]at hek
   cases hek
   exact⟨tt,by rw[QU,if_pos rfl,if_pos (by omega +splitDisjunctions)],by rw[ar (fun z=>by rw[z,hz]at htt;cases htt)];exact ag⟩
  ·obtain⟨p',u1,u2⟩:=inv k e' (by omega +splitDisjunctions) hek
   have hkl:k<es.length:=(P0.mp hek).1
   refine⟨p',by rw[QU,if_neg (fun y=>z (R.si.inj _ _ hkl hi y.symm))];exact u1,?_⟩
   rw[ar (fun z=>by rw[z,hz]at u2;cases u2)]
   exact sn _ _ u2
 rintro σ H5 ⟨v5,v6,v7,v8,v9,zs,rfl,s5,hz,zl,inv⟩
 rw[Qy,hyl]at inv
 have s15:=s12.trans s5
 have enN:cY H5 zs (en2 o1 o2 es):=⟨by rw[zl,R.l1],fun j x h=>by
  obtain⟨k,e,rfl,h4,rfl⟩:=R.es' h
  exact inv k e (P0.mp h4).1 h4⟩
 refine⟨_,rfl,t,_,1,_,rfl,rfl,SqT.of (s15 _ _ ht),at1,pt,xs,rfl,.inl (SqL.of (s15 _ _ hpt)),fun qt hqt=>?_⟩
 have s6:=ao hqt (.lst xs)
 have s16:=s15.trans s6
 refine⟨_,rfl,t,_,1,_,rfl,rfl,SqT.of (s16 _ _ ht),at1,pt,xs,rfl,.inl (SqL.of (s16 _ _ hpt)),_,rfl,by omega +splitDisjunctions,by omega +splitDisjunctions,cH (n:=(xs.length:Int).toNat) (fun i σ H7=>∃ v5 v7 v8 v9 ws,σ = [some (.ref t),some (.int c),some (.ref q1),some (.ref q2),some (.ref qe),v5,some (.ref qt),v7,v8,v9]/\Same H5 H7/\H7 qt=some (.lst ws)/\ws.length=m/\∀(p:Nat)(l:List Nat),p<i->ts[p]?=some l->∃ q,ws[ofL o1 p]?=some (.ref q)/\H7 q=some (.lst ((rowN c o2 p l).map iV))/\q≠qt)
  ⟨_,_,_,_,xs,rfl,s6,ag,hxl,fun k e z=>absurd z (RK _)⟩ ?_ ?_⟩
 ·rintro i σ H7 hi ⟨w5,w7,w8,w9,ws,rfl,s7,hw,wl,inv2⟩
  rw[Qy,hxl]at hi
  have e0:(0:Int)+(i:Int)=(i:Int):=RB _
  rw[e0]
  have s17:=s15.trans s7
  have s27:=s5.trans s7
  obtain⟨l,hl⟩:∃ l,ts[i]?=some l:=⟨_,PZ (by rw[w'.len];exact hi)⟩
  obtain⟨p,x1,x2⟩:=(tu.mono s17).2 i l hl
  have lpos:=g.rows h2 hl
  have llt:∀ k∈l,k<es.length:=fun k hk=>qu w' hl hk
  have lle:l.length<=es.length:=js (w'.nd _ _ hl) llt
  have llen:(l.map iV).length=l.length:=P5 _
  refine⟨_,rfl,t,_,1,_,rfl,rfl,SqT.of (s17 _ _ ht),at1,_,rfl,pt,xs,_,_,rfl,rfl,SqL.of (s17 _ _ hpt),aQ x1,p,rfl,⟨_,SqL.of x2⟩,d8 (K:=K) (xs:=l.map iV) (fun j zs H8=>H8=H7/\zs=((l.map (ofL o2)).map iV).take j) (by rw[llen];exact Rn (aI (by omega +splitDisjunctions))) ⟨rfl,rfl⟩ (fun j zs H8 _ z=>z.1▸SqL.of x2) ?_ ?_⟩
  ·rintro j x zs H8 hx ⟨rfl,rfl⟩
   rw[Qd]at hx
   obtain⟨k,hk,rfl⟩:=QJ.mp hx
   refine⟨_,rfl,_,rfl,q2,_,_,_,rfl,rfl,SqL.of (s27 _ _ h2'),aQ (get2 _ (llt k (P7 hk))),rfl,?_⟩
   rw[QI,Qd,Qd,hk]
   rfl
  rintro zs H8 hzl ⟨rfl,rfl⟩ D hD
  rw[llen,Rr (by rw[P5,P5];exact P9 _)]
  have sD:=ao hD (.lst ((l.map (ofL o2)).map iV))
  have dlen:((l.map (ofL o2)).map iV).length=l.length:=by rw[P5,P5]
  have dpos:(0:Int)<(((l.map (ofL o2)).map iV).length:Int):=by omega +splitDisjunctions
  have c0:=Ro c (show(1009:Int)≠0 by decide)
  have c1:=Rm c (show(0:Int)<1009 by decide)
  refine⟨_,rfl,_,_,rfl,rfl,(by show(0:Int)<1009;decide),_,rfl,_,_,rfl,rfl,_,_,rfl,rfl,.inl ⟨by show -(2^64:Int)<c%1009;omega +splitDisjunctions,by show c%1009<(2^64:Int);omega +splitDisjunctions⟩,_,rfl,D,_,rfl,.inl (SqL.of ag),_,_,rfl,rfl,dpos,?_⟩
  have u0:=Ro (c%1009*((i:Int)+1)) (show(((l.map (ofL o2)).map iV).length:Int)≠0 by omega +splitDisjunctions)
  have u1:=Rm (c%1009*((i:Int)+1)) dpos
  have hcut:c%1009*((i:Int)+1)%(((l.map (ofL o2)).map iV).length:Int)=((cutp c i l.length:Nat):Int):=by
   unfold cutp
   rw[dlen]at u0 ⊢
   exact(Se u0).symm
  have cle:cutp c i l.length<=((l.map (ofL o2)).map iV).length:=by omega +splitDisjunctions
  refine⟨_,rfl,_,rfl,_,rfl,D,_,rfl,SqL.of ag,fun b1' hb1=>?_⟩
  rw[hcut,cut_hi cle]
  have sB:=ao hb1 (.lst (((l.map (ofL o2)).map iV).drop (cutp c i l.length)))
  refine⟨_,rfl,_,rfl,_,rfl,D,_,rfl,SqL.of (sB _ _ ag),fun b2' hb2=>?_⟩
  rw[hcut,cut_lo cle]
  have sC:=ao hb2 (.lst (((l.map (ofL o2)).map iV).take (cutp c i l.length)))
  refine⟨b1',b2',_,_,rfl,rfl,sC _ _ ag,ag,by rw[Rx,QK];exact Rn (aI (by omega +splitDisjunctions)),fun b3 hb3=>?_⟩
  have hrow:((l.map (ofL o2)).map iV).drop (cutp c i l.length)++((l.map (ofL o2)).map iV).take (cutp c i l.length)=(rowN c o2 i l).map iV:=by
   unfold rowN
   rw[QE,QE,SY,SY,Sy,Sy]
  rw[hrow]
  have sE:=ao hb3 (.lst ((rowN c o2 i l).map iV))
  have sAll:=((sD.trans sB).trans sC).trans sE
  refine⟨_,rfl,_,rfl,_,rfl,q1,_,_,_,rfl,rfl,SqL.of (sAll _ _ (s27 _ _ h1')),aQ (get1 _ hi),qt,ws,_,ofL o1 i,rfl,rfl,sAll _ _ hw,pD (by rw[wl];exact R.pi.lt i hi),?_⟩
  have b3t:b3≠qt:=fun z=>by rw[z,((sD.trans sB).trans sC) _ _ hw]at hb3;cases hb3
  refine⟨_,_,_,_,_,rfl,aP (s7.trans sAll) hqt _,ag,by rw[QM];exact wl,fun p' l' hp' hl'=>?_⟩
  by_cases z:p'=i
  ·subst z
   rw[hl]at hl'
   cases hl'
   exact⟨b3,by rw[QU,if_pos rfl,if_pos (by rw[wl];exact R.pi.lt p' hi)],by rw[ar b3t];exact ag,b3t⟩
  ·obtain⟨q,u1,u2,u3⟩:=inv2 p' l' (by omega +splitDisjunctions) hl'
   have hpl:p'<m:=by rw[← w'.len];exact(P0.mp hl').1
   exact⟨q,by rw[QU,if_neg (fun y=>z (R.pi.inj _ _ hpl hi y.symm))];exact u1,by rw[ar u3];exact sAll _ _ u2,u3⟩
 rintro σ H7 ⟨w5,w7,w8,w9,ws,rfl,s7,hw,wl,inv2⟩
 rw[Qy,hxl]at inv2
 have tuN:bO H7 ws (ts2 c o1 o2 ts):=⟨by rw[wl,R.l2],fun j L h=>by
  have hj:j<m:=by rw[← R.l2];exact(P0.mp h).1
  obtain⟨p,hp,rfl⟩:=R.pi.sur j hj
  obtain⟨l,hl⟩:∃ l,ts[p]?=some l:=⟨_,PZ (by rw[w'.len];exact hp)⟩
  obtain⟨q,z1,z2,_⟩:=inv2 p l hp hl
  refine⟨q,z1,?_⟩
  unfold ts2 at h
  rw[Qd,Q8 (by rw[w'.len];exact R.pi.lt p hp)]at h
  have h':some (rowN c o2 (o1.idxOf (ofL o1 p)) ((ts[o1.idxOf (ofL o1 p)]?).getD []))=some L:=h
  rw[KR n1 (by omega +splitDisjunctions),hl]at h'
  cases h'
  exact z2⟩
 refine⟨_,rfl,_,rfl,(by show 2<=sizeLine;decide),fun t' ht'=>?_⟩
 have s8:=ao ht' (.tup [.ref qe,.ref qt])
 exact kk t' qe qt (en2 o1 o2 es) (ts2 c o1 o2 ts) _ ((s15.trans s7).trans s8) ag ⟨⟨zs,s8 _ _ (s7 _ _ hz),(enN.mono s7).mono s8⟩,⟨ws,s8 _ _ hw,tuN.mono s8⟩,R.gr g⟩ R.l1
end
end K8
namespace K8
open PySem L2
local macro_rules | `(tactic| walk_at "cc") => `(tactic| first | exact ⟨by decide, by decide⟩ | (show (0 : Int) < _; decide) | (show (0 : Int) < _; omega) | (show (0 : Int) ≤ _; omega) | exact ⟨by decide, by decide, by decide⟩ | exact ⟨by omega, by omega, by decide⟩ | exact Or.inl ⟨by decide, by decide⟩ | exact Or.inl ⟨by omega, by omega⟩)
local macro_rules | `(tactic| walk_at "rd") => `(tactic| repeat (first | refine ⟨_, rfl, ?_⟩ | refine ⟨_, _, rfl, rfl, ?_⟩ | refine ⟨rfl, ?_⟩ | (refine ⟨?cc, ?_⟩; (case cc => walk_at "cc"))))
theorem bt_min:bootBuiltins "min" = some (.builtin "min"):=by decide +kernel
abbrev Kn:=List (Int×Int)
def bJ(H:Hp)(ws:List V)(ks:Kn):Prop:=ws.length=ks.length/\∀(i:Nat)(k:Int×Int),ks[i]?=some k->(k.1=0∨k.1=1)/\0<=k.2/\∃ p,ws[i]?=some (.ref p)/\H p=some (.tup [.int k.1,.int k.2])
theorem bJ.mono{H H':Hp}{ws:List V}{ks:Kn}(h:bJ H ws ks)(s:Same H H'):bJ H' ws ks:=⟨h.1,fun i k z=>by
 obtain⟨a,b,p,c,d⟩:=h.2 i k z
 exact⟨a,b,p,c,s _ _ d⟩⟩
theorem bJ.put{H:Hp}{ws:List V}{ks:Kn}{q:Addr}{zs:List V}{o:HO}(t:bJ H ws ks)(h:H q=some (.lst zs)):bJ (upd H q o) ws ks:=⟨t.1,fun i e z=>by
 obtain⟨u,v,p,a,b⟩:=t.2 i e z
 refine⟨u,v,p,a,?_⟩
 rw[ar (fun z=>by rw[z,h]at b;cases b)]
 exact b⟩
theorem bJ.snoc{H:Hp}{ws:List V}{ks:Kn}{k:Int×Int}{p:Addr}(t:bJ H ws ks)(h:H p=some (.tup [.int k.1,.int k.2]))(h1:k.1=0∨k.1=1)(h2:0<=k.2):bJ H (ws++[.ref p]) (ks++[k]):=by
 refine⟨by rw[P2,P2,t.1];rfl,fun j x ej=>?_⟩
 by_cases hj:j<ks.length
 ·rw[P6 hj]at ej
  obtain⟨u,v,p,a1,a2⟩:=t.2 j x ej
  exact⟨u,v,p,by rw[P6 (by rw[t.1];exact hj)];exact a1,a2⟩
 ·rw[P4 (by omega)]at ej
  have hj2:j=ks.length:=by
   have:=(P0.mp ej).1
   rw[Qa]at this
   omega
  subst hj2
  rw[Qu]at ej
  cases ej
  exact⟨h1,h2,p,by rw[← t.1,P4 (P9 _),Qu];rfl,h⟩
structure BuiltP(H:Hp)(t pe pt pk:Addr)(m:Nat)(es:En)(ts:List (List Nat))(ks:Kn):Prop where
 t:H t=some (.tup [.ref pe,.ref pt,.ref pk])
 w:WebP H pe pt m es ts
 k:∃ ws,H pk=some (.lst ws)/\bJ H ws ks
 few:es.length<=6
 kl:ks.length=es.length
 kb:∀ k∈ks,k.2<=10^30
 pos:0<es.length
theorem Gr.two{m:Nat}{es:En}{ts:List (List Nat)}(g:Gr m es ts)(h:0<es.length):2<=m:=by
 obtain⟨a,b,c⟩:=g.w.ends _ (P7 (PZ h))
 omega
def xE(K:P1):Sp:=fun vs H Q _=>∃(a:Addr)(ns:List Int),vs = [.ref a,.int 1,.int 6]/\SqL K H a (ns.map V.int)/\ns.length<=63 /\
 ∀(t pe pt pk:Addr)(m:Nat)(es:En)(ts:List (List Nat))(ks:Kn)(H':Hp),Same H H'->BuiltP H' t pe pt pk m es ts ks->Q (.ref t) H'
section
variable{P:Program}{w:World}{K:P1}{mg:Str->Option Value}{base:Heap}
theorem at30{u v x:V}:atI [u,v,x] 0=some u:=rfl
theorem at31{u v x:V}:atI [u,v,x] 1=some v:=rfl
theorem at32{u v x:V}:atI [u,v,x] 2=some x:=rfl
theorem cR:aH ["script","first","most","cells","grown","told","k","cell"] ["script","first","most"] (aj dB):=⟨rfl,rfl,rfl,by decide +kernel,rfl,by decide +kernel,by decide +kernel⟩
theorem JV{f fg fr fc:Addr}{fd fdg fdr fdc:FuncData} (F:Fun K "_law_built" "_law_built" dB f fd) (T:Txt mg) (G_law_grown:Cal P w K mg base 4 "_law_grown" ["cells"] (CB K) fg fdg) (G_law_renumbered:Cal P w K mg base 2 "_law_renumbered" ["grown","cell"] Og fr fdr) (G_law_cell:Cal P w K mg base 1 "_law_cell" ["script","k"] (Ji K) fc fdc) :
  FnOk P w K mg base CX0 5 f fd ["script","first","most"] (xE K):=by
 refine F.ok cR (fun vs H Q E h=>?_) (fun cdv A outer s H vs Q E hr h=>?_)
 ·obtain⟨a,ns,rfl,_⟩:=h
  rfl
 obtain⟨a,ns,rfl,hS,h63,kk⟩:=h
 have hlen:(ns.map V.int).length=ns.length:=P5 _
 refine⟨_,(ae (kL (i:=3) rfl cR.nd rfl rfl (fr:=[("script",0)]) (by exact cq.one (by rfl) (by decide +kernel) (by rfl) (by decide +kernel) (by rfl) (by decide +kernel) (by rfl) (by rfl) (by decide +kernel) (by rfl)) (Ab rfl T.n_range (aa (aE bj (pv 1) ai) (aa (aA (BN rfl) (by rfl) T.n_min bt_min (aa (aE nA (aA aq (by rfl) T.n_len aT (aa (pv 0) af)) ai) (aa (aE nA (aE bj (pv 1) (aE hX ai (pv 2))) ai) af))) (aa ai af)))) (fun C ex s H=>(aG (F3 (K:=K) rfl) (pv 1) (pv 0) (fun _ _=>rfl))))
   (ae (ay (i:=4) cR.nd rfl (Or.inl rfl) (ax G_law_renumbered.ok (hr.mono (by decide)) rfl G_law_renumbered.mg G_law_renumbered.kp G_law_renumbered.bn .nil aN (aa (ax G_law_grown.ok (hr.mono (by decide)) rfl G_law_grown.mg G_law_grown.kp G_law_grown.bn .nil aN (aa (pv 3) af)) (aa (ax G_law_cell.ok (hr.mono (by decide)) rfl G_law_cell.mg G_law_cell.kp G_law_cell.bn .nil aN (aa (pv 0) (aa (pv 1) af))) af))))
   (ae (ay (i:=5) cR.nd rfl (Or.inl rfl) (bg af))
   (ae (cF PassesOwn.never rfl (bV rfl T.n_range (aa (aA aq (by rfl) T.n_len aT (aa (aG a8 (pv 4) ai (fun _ _=>rfl)) af)) af)) (aV (i:=6) cR.nd rfl (Or.inl rfl)) (ae (ay (i:=7) cR.nd rfl (Or.inl rfl) (ax G_law_cell.ok (hr.mono (by decide)) rfl G_law_cell.mg G_law_cell.kp G_law_cell.bn .nil aN (aa (pv 0) (aa (aE bj (pv 1) (aE hX ai (pv 6))) af))))
   (ak (aU (bK Qg Qs Qr aZ (pv 5) (aa (eS (aa (aE bB (pv 7) ai) (aa (aE bB (aE bR (pv 7) ai) (aE bj (aE Ad ai ai) ai)) af))) af))))))
   (ak (aJ (eS (aa (aG a8 (pv 4) ai (fun _ _=>rfl)) (aa (aG a8 (pv 4) ai (fun _ _=>rfl)) (aa (pv 5) af)))))))))),?_⟩
 have hn:Builtin.Range.rangeSize (1+1) (if(1+2*6-2:Int)<((ns.map V.int).length:Int)-1 then 1+2*6-2 else((ns.map V.int).length:Int)-1) 2=(((Builtin.Range.rangeSize (1+1) (if(1+2*6-2:Int)<((ns.map V.int).length:Int)-1 then 1+2*6-2 else((ns.map V.int).length:Int)-1) 2).toNat:Nat):Int):=by
  refine(Se ?_).symm
  unfold Builtin.Range.rangeSize
  rw[if_pos (by decide)]
  split<;>omega
 have hb:∀ i:Nat,i<(Builtin.Range.rangeSize (1+1) (if(1+2*6-2:Int)<((ns.map V.int).length:Int)-1 then 1+2*6-2 else((ns.map V.int).length:Int)-1) 2).toNat->i<5/\2+2*i<ns.length:=fun i hi=>by
  rw[hlen]at hi
  unfold Builtin.Range.rangeSize at hi
  rw[if_pos (by decide)]at hi
  split at hi<;>split at hi<;>omega
 have hz:(Builtin.Range.rangeSize (1+1) (if(1+2*6-2:Int)<((ns.map V.int).length:Int)-1 then 1+2*6-2 else((ns.map V.int).length:Int)-1) 2).toNat<=5:=by
  by_cases z:(Builtin.Range.rangeSize (1+1) (if(1+2*6-2:Int)<((ns.map V.int).length:Int)-1 then 1+2*6-2 else((ns.map V.int).length:Int)-1) 2).toNat<=5
  ·exact z
  ·have:=(hb 5 (by omega)).1;omega
 refine⟨_,rfl,_,_,rfl,rfl,_,rfl,a,_,rfl,.inl hS,_,_,rfl,rfl,_,rfl,_,rfl,_,_,rfl,rfl,.inl ⟨by decide,by decide⟩,_,_,rfl,rfl,_,_,rfl,rfl,_,_,rfl,_,_,_,_,rfl,by decide,by decide,(by split<;>omega),(by split<;>omega),⟨by decide,by decide⟩,hn,?_⟩
 generalize (Builtin.Range.rangeSize (1+1) (if(1+2*6-2:Int)<((ns.map V.int).length:Int)-1 then 1+2*6-2 else((ns.map V.int).length:Int)-1) 2).toNat=N at hb hz
 refine ER (fun i ys H2=>H2=H/\∃ cs:List Int,ys=cs.map V.int/\cs.length=i) (Rn (aI (by omega))) ⟨rfl,[],rfl,rfl⟩ ?_ ?_
 ·rintro i ys H2 hi ⟨rfl,cs,rfl,cl⟩
  have hb':=(hb i hi).2
  have e0:(1+1:Int)+(i:Int)*2=((2+2*i:Nat):Int):=by omega
  rw[e0]
  refine⟨_,rfl,_,rfl,a,_,_,_,rfl,rfl,hS,aQ (v:=.int ns[2+2*i]) (by rw[Qd,PZ hb'];rfl),rfl,cs++[ns[2+2*i]],?_,by rw[P2,cl];rfl⟩
  rw[QE]
  rfl
 rintro ys H2 _ ⟨rfl,cs,rfl,cl⟩ b hb0
 have s1:=ao hb0 (.lst (cs.map V.int))
 refine⟨_,rfl,b,cs,rfl,SqL.of ag,by omega,fun t pe pt ys xs m es ts H3 s3 ht hpe hE hpt hR g hel=>?_⟩
 have s13:=s1.trans s3
 refine⟨_,rfl,_,rfl,a,1,ns,rfl,s13.seq hS,t,pe,pt,_,m,es,ts,rfl,ht,⟨⟨ys,hpe,hE⟩,⟨xs,hpt,hR⟩,g⟩,g.two (by omega),by omega,fun t' pe' pt' es' ts' H4 s4 ht' wp hel'=>?_⟩
 have s14:=s13.trans s4
 have hel2:es'.length<=6:=by omega
 refine⟨(by show 0<=sizeLine;decide),fun q hq=>?_⟩
 have s5:=ao hq (.lst [])
 obtain⟨zs,hz1,hz2⟩:=wp.en
 have hzl:zs.length=es'.length:=hz2.1
 refine⟨_,rfl,t',_,0,_,rfl,rfl,SqT.of (s5 _ _ ht'),at0,pe',zs,rfl,.inl (SqL.of (s5 _ _ hz1)),_,rfl,by omega,by omega,cH (n:=(zs.length:Int).toNat) (fun i σ H5=>∃ v6 v7 ws ks,σ = [some (.ref a),some (.int 1),some (.int 6),some (.ref b),some (.ref t'),some (.ref q),v6,v7]/\Same H4 H5/\H5 q=some (.lst ws)/\bJ H5 ws ks/\ks.length=i/\∀ k∈ks,k.2<=10^30) ⟨_,_,[],[],rfl,s5,ag,⟨rfl,fun i k z=>by simp at z⟩,rfl,fun k hk=>by simp at hk⟩ ?_ ?_⟩
 ·rintro i σ H5 hi ⟨v6,v7,ws,ks,rfl,s6,hw,tk,kl,kb⟩
  rw[Qy,hzl]at hi
  have e0:(0:Int)+(i:Int)=(i:Int):=RB _
  rw[e0]
  have wl:=tk.1
  refine⟨_,rfl,_,rfl,_,rfl,_,_,rfl,rfl,.inl ⟨by decide,by decide⟩,_,_,rfl,rfl,a,1+2*i,ns,(by rw[show((1+2*i:Nat):Int)=1+2*(i:Int) by omega];rfl),(s14.trans s6).seq hS,?_⟩
  refine⟨_,rfl,.inl ⟨rfl,_,SqL.of hw⟩,_,rfl,_,_,rfl,rfl,(by show(0:Int)<2;decide),_,rfl,_,_,rfl,rfl,⟨by decide,by decide⟩,_,_,rfl,rfl,⟨by decide,by decide,by decide⟩,_,_,rfl,rfl,_,_,rfl,rfl,(by show(0:Int)<10^(30:Int).toNat+1;decide),(by show 2<=sizeLine;decide),fun tt htt=>?_⟩
  have sn:=ao htt (.tup [.int (pO ns (1+2*i)%2),.int (pO ns (1+2*i)/2%(10^(30:Int).toNat+1))])
  refine⟨q,ws,_,rfl,rfl,sn _ _ hw,aI (by omega),?_⟩
  refine⟨_,_,_,ks++[(pO ns (1+2*i)%2,pO ns (1+2*i)/2%(10^(30:Int).toNat+1))],rfl,aP (s6.trans sn) hq _,ag,((tk.mono sn).snoc ag (by show pO ns (1+2*i)%2=0∨pO ns (1+2*i)%2=1;omega) (Ro _ (by decide))).put (sn _ _ hw),by rw[P2,kl];rfl,fun k hk=>?_⟩
  rcases Qf.mp hk with hk | hk
  ·exact kb k hk
  ·rw[QP.mp hk]
   have:=Rm (pO ns (1+2*i)/2) (show(0:Int)<(10:Int)^(30:Int).toNat+1 by decide)
   have e30:(10:Int)^(30:Int).toNat=10^30:=by decide
   show pO ns (1+2*i)/2%(10^(30:Int).toNat+1)<=10^30
   omega
 ·rintro σ H5 ⟨v6,v7,ws,ks,rfl,s6,hw,tk,kl,kb⟩
  rw[Qy,hzl]at kl
  refine⟨_,rfl,t',_,0,_,rfl,rfl,SqT.of (s6 _ _ ht'),at0,_,rfl,t',_,1,_,rfl,rfl,SqT.of (s6 _ _ ht'),at1,_,rfl,(by show 3<=sizeLine;decide),fun tt htt=>?_⟩
  have sn:=ao htt (.tup [.ref pe',.ref pt',.ref q])
  exact kk tt pe' pt' q m es' ts' ks _ ((s14.trans s6).trans sn) ⟨ag,(wp.mono s6).mono sn,⟨ws,sn _ _ hw,tk.mono sn⟩,hel2,kl,kb,by omega⟩
end
end K8
namespace K8
open PySem L2
local macro_rules | `(tactic| walk_at "cc") => `(tactic| first | exact ⟨by decide, by decide⟩ | (show (0 : Int) < _; decide) | (show (0 : Int) < _; omega) | (show (0 : Int) ≤ _; omega) | exact ⟨by decide, by decide, by decide⟩ | exact ⟨by omega, by omega, by decide⟩ | exact Or.inl ⟨by decide, by decide⟩ | exact Or.inl ⟨by omega, by omega⟩)
local macro_rules | `(tactic| walk_at "rd") => `(tactic| repeat (first | refine ⟨_, rfl, ?_⟩ | refine ⟨_, _, rfl, rfl, ?_⟩ | refine ⟨rfl, ?_⟩ | (refine ⟨?cc, ?_⟩; (case cc => walk_at "cc"))))
theorem andN(a b:Nat):Builtin.bitAnd (a:Int) (b:Int)=((a&&&b:Nat):Int):=by
 rw[PyProof.Rows.bitAnd_pp (Int.natCast_nonneg _) (Int.natCast_nonneg _),Qy,Qy]
theorem orN(a b:Nat):Builtin.bitOr (a:Int) (b:Int)=((a|||b:Nat):Int):=by
 rw[PyProof.Rows.bitOr_and,andN]
 have q:=PyProof.Rows.nat_or_add_and a b
 omega
theorem shlN(p:Nat):(1:Int)*2^((p:Nat):Int).toNat=((2^p:Nat):Int):=by
 rw[Int.one_mul,Qy,Int.natCast_pow]
 rfl
theorem L8{M p q:Nat}:(M&&&(2^p|||2^q)=0↔M.testBit p=false/\M.testBit q=false)/\(M|||(2^p|||2^q)=M->M.testBit p=true/\M.testBit q=true):=by
 have b1:∀ i,(2^p|||2^q).testBit i=(decide (p=i)||decide (q=i)):=fun i=>by rw[Tf,Nat.testBit_two_pow,Nat.testBit_two_pow]
 refine⟨⟨fun h=>?_,fun⟨h1,h2⟩=>?_⟩,fun h=>?_⟩
 ·have h1:=congrArg (fun z=>Ta z p) h
  have h2:=congrArg (fun z=>Ta z q) h
  simp only[Nat.testBit_and,b1,Nat.zero_testBit]at h1 h2
  constructor
  ·simpa using h1
  ·simpa using h2
 ·refine Nat.eq_of_testBit_eq fun i=>?_
  rw[Nat.testBit_and,b1,Nat.zero_testBit]
  by_cases z1:p=i
  ·subst z1;rw[h1];rfl
  ·by_cases z2:q=i
   ·subst z2;rw[h2];rfl
   ·simp[z1,z2]
 ·have h1:=congrArg (fun z=>Ta z p) h
  have h2:=congrArg (fun z=>Ta z q) h
  simp only[Tf (x:=M),b1]at h1 h2
  constructor
  ·simpa using h1.symm
  ·simpa using h2.symm
theorem KZ{M m:Nat}(h:M<2^m)(k:∀ p,p<m->M.testBit p=true):M=2^m-1:=by
 refine Nat.eq_of_testBit_eq fun i=>?_
 rw[Nat.testBit_two_pow_sub_one]
 by_cases z:i<m
 ·rw[k i z,decide_eq_true z]
 ·rw[decide_eq_false z]
  exact Nat.testBit_lt_two_pow (QB h (Nat.pow_le_pow_right (by decide) (by omega)))
def Cy(K:P1):Sp:=fun vs H Q _=>∃(a:Addr)(ys:List V)(m:Nat)(es:En)(ts:List (List Nat)),vs = [.int 0,.ref a]/\SqL K H a ys/\cY H ys es/\Gr m es ts/\2<=m/\m<=40/\Q (.int ((2^m-1:Nat):Int)) H
section
variable{P:Program}{w:World}{K:P1}{mg:Str->Option Value}{base:Heap}
theorem cQ:aH ["start","pairs","mask","ahead","one","two","ends"] ["start","pairs"] (aj gZ):=⟨rfl,rfl,rfl,by decide +kernel,rfl,by decide +kernel,by decide +kernel⟩
theorem G6{f:Addr}{fd:FuncData} (F:Fun K "reached" "reached" gZ f fd):FnOk P w K mg base CX0 1 f fd ["start","pairs"] (Cy K):=by
 refine F.ok cQ (fun vs H Q E h=>?_) (fun cdv A outer s H vs Q E hr h=>?_)
 ·obtain⟨a,ys,m,es,ts,rfl,_⟩:=h
  rfl
 obtain⟨a,ys,m,es,ts,rfl,hS,hE,g,m2,m40,kk⟩:=h
 refine⟨_,(ae (ay (i:=2) cQ.nd rfl (Or.inl rfl) (aE FQ ai (pv 0)))
   (ae (ay (i:=3) cQ.nd rfl (Or.inl rfl) ai)
   (ae (rC PassesOwn.never (au fP (pv 2) (pv 3) (aC _)) (ae (ay (i:=3) cQ.nd rfl (Or.inl rfl) (pv 2))
   (ak (cF PassesOwn.never rfl (b4 (pv 1)) (FH rfl (bH (aV (i:=4) cQ.nd rfl (Or.inl rfl)) (bH (aV (i:=5) cQ.nd rfl (Or.inl rfl)) oR))) (ae (ay (i:=6) cQ.nd rfl (Or.inl rfl) (aE op_or (aE FQ ai (pv 4)) (aE FQ ai (pv 5))))
   (ak (ba (au fP (aE op_and (pv 2) (pv 6)) ai (aC _)) (ak (ay (i:=2) cQ.nd rfl (Or.inl rfl) (aE op_or (pv 2) (pv 6)))) aL)))))))
   (ak (aJ (pv 2)))))),?_⟩
 refine⟨_,rfl,_,_,rfl,rfl,⟨by decide,by decide,by decide⟩,?_⟩
 have p2:∀ p,p<m->2^p<2^m:=fun p hp=>Nat.pow_lt_pow_right (by decide) hp
 refine xh (fun σ H2=>∃(M Ah:Nat),∃ v4 v5 v6,H2=H/\σ = [some (.int 0),some (.ref a),some (.int (M:Int)),some (.int (Ah:Int)),v4,v5,v6]/\M.testBit 0=true/\M<2^m/\(M=Ah->∀ e∈es,M.testBit e.1=M.testBit e.2))
  (fun σ _=>match σ with | [_,_,some (.int M),some (.int Ah),_,_,_]=>2*((2^m:Nat)-M).toNat+(if M=Ah then 0 else 1) | _=>0) ⟨1,0,_,_,_,rfl,rfl,by decide,Nat.one_lt_two_pow (by omega),fun z=>absurd z (by decide)⟩ ?_ ?_
 ·rintro σ H2 ⟨M,Ah,v4,v5,v6,rfl,rfl,b0,hM,cl⟩
  refine⟨_,rfl,_,rfl,rfl,_,rfl,?_⟩
  refine ite2 (fun c=>?_) (fun c=>?_)
  ·have c':M≠Ah:=fun z=>by
    rw[decide_eq_true (show V.int (M:Int)=V.int (Ah:Int) by rw[z])]at c
    cases c
   refine⟨_,rfl,?_⟩
   refine⟨_,rfl,a,rfl,⟨_,hS⟩,iY (K:=K) (xs:=ys) (fun i σ H3=>∃(M':Nat),∃ v4 v5 v6,H3=H2/\σ = [some (.int 0),some (.ref a),some (.int (M':Int)),some (.int (M:Int)),v4,v5,v6]/\M'.testBit 0=true/\M'<2^m/\M<=M'/\(M'=M->∀(j:Nat)(e:Nat×Nat),j<i->es[j]?=some e->M.testBit e.1=M.testBit e.2)) ⟨M,_,_,_,rfl,rfl,b0,hM,P9 _,fun _ j e z=>absurd z (RK _)⟩ (fun i σ H3 _ ⟨_,_,_,_,z,_⟩=>z▸hS) ?_ ?_⟩
   ·rintro i x σ H3 hx ⟨M',v4,v5,v6,rfl,rfl,b0',hM',hle,cl'⟩
    have hi:i<es.length:=by rw[← hE.1];exact(P0.mp hx).1
    obtain⟨e,he⟩:∃ e,es[i]?=some e:=⟨_,PZ hi⟩
    obtain⟨p,x1,x2⟩:=hE.2 i e he
    rw[hx]at x1
    cases x1
    obtain⟨e1,e2,_⟩:=g.w.ends e (P7 he)
    obtain⟨t1,t2⟩:=L8 (M:=M') (p:=e.1) (q:=e.2)
    refine⟨p,_,rfl,SqT.of x2,rfl,_,_,rfl,_,_,rfl,rfl,?_⟩
    refine⟨_,rfl,_,_,rfl,rfl,⟨by omega,by omega,by decide⟩,_,rfl,_,_,rfl,rfl,⟨by omega,by omega,by decide⟩,_,_,rfl,rfl,?_⟩
    have eo:Builtin.bitOr (1*2^((e.1:Nat):Int).toNat) (1*2^((e.2:Nat):Int).toNat)=((2^e.1|||2^e.2:Nat):Int):=by rw[shlN,shlN,orN]
    refine⟨_,rfl,_,rfl,_,_,rfl,rfl,rfl,_,rfl,?_⟩
    have step:∀ M'':Nat,M'<=M''->(M''=M'->M'.testBit e.1=M'.testBit e.2)->M''=M->∀(j:Nat)(x:Nat×Nat),j<i+1->es[j]?=some x->M.testBit x.1=M.testBit x.2:=fun M'' h1 h2 h3 j x hj hx'=>by
     have e3:M'=M:=by omega
     by_cases z:j=i
     ·subst z
      rw[he]at hx'
      cases hx'
      have:=h2 (by omega)
      rwa[e3]at this
     ·exact cl' e3 j x (by omega) hx'
    refine ite2 (fun c=>?_) (fun c=>?_)
    ·refine⟨_,rfl,_,rfl,_,_,rfl,rfl,?_⟩
     refine⟨M'|||(2^e.1|||2^e.2),some (iV e.1),some (iV e.2),some (V.int (Builtin.bitOr (1*2^((e.1:Nat):Int).toNat) (1*2^((e.2:Nat):Int).toNat))),rfl,?_,?_,Nat.or_lt_two_pow hM' (Nat.or_lt_two_pow (p2 _ e1) (p2 _ e2)),QG hle Nat.left_le_or,step _ Nat.left_le_or fun z=>?_⟩
     ·show[some (V.int 0),some (V.ref a),some (V.int (Builtin.bitOr (M':Int) (Builtin.bitOr (1*2^((e.1:Nat):Int).toNat) (1*2^((e.2:Nat):Int).toNat)))),some (V.int (M:Int)),some (iV e.1),some (iV e.2),some (V.int (Builtin.bitOr (1*2^((e.1:Nat):Int).toNat) (1*2^((e.2:Nat):Int).toNat)))]=_
      rw[eo,orN]
     ·rw[Tf,b0'];rfl
     ·obtain⟨u1,u2⟩:=t2 z
      rw[u1,u2]
    ·refine⟨M',_,_,_,rfl,rfl,b0',hM',hle,step M' (P9 _) fun _=>?_⟩
     have c3:M'&&&(2^e.1|||2^e.2)=0:=by
      by_cases z:M'&&&(2^e.1|||2^e.2)=0
      ·exact z
      ·refine absurd ?_ c
       rw[decide_eq_false (fun y=>z ?_)]
       ·rfl
       ·have y':=V.int.inj y
        rw[eo,andN]at y'
        omega
     obtain⟨u1,u2⟩:=t1.mp c3
     rw[u1,u2]
   ·rintro σ H3 ⟨M',v4,v5,v6,rfl,rfl,b0',hM',hle,cl'⟩
    rw[hE.1]at cl'
    refine⟨⟨M',M,_,_,_,rfl,rfl,b0',hM',fun z e he=>?_⟩,?_⟩
    ·obtain⟨j,hj⟩:=QY.mp he
     have:=cl' z j e (P0.mp hj).1 hj
     rw[z]
     exact this
    ·show 2*(((2^m:Nat):Int)-(M':Int)).toNat+(if(M':Int)=(M:Int) then 0 else 1)<2*(((2^m:Nat):Int)-(M:Int)).toNat+(if(M:Int)=(Ah:Int) then 0 else 1)
     rw[if_neg (show ¬ (M:Int)=(Ah:Int) from fun z=>c' (by omega))]
     have hMi:(M':Int)<((2^m:Nat):Int):=by exact_mod_cast hM'
     have hMj:(M:Int)<=(M':Int):=by omega
     generalize ((2^m:Nat):Int)=Z at hMi ⊢
     split<;>omega
  ·have c':M=Ah:=by
    by_cases z:M=Ah
    ·exact z
    ·exact absurd (by rw[decide_eq_false (fun y=>z (by have:=V.int.inj y;omega))];rfl) c
   have full:=KZ hM fun p hp=>by
    have:=g.conn (fun x=>M.testBit x=true) (fun e he=>by rw[cl c' e he]) 0 p (by omega) hp b0
    exact this
   refine⟨_,rfl,?_⟩
   rw[full]
   exact kk
 ·rintro σ H2 Q1 Q2 hi ⟨v',e,b',e2,z1,c',e3,q'⟩
  exact⟨v',e,b',e2,z1,c',e3,hi _ _ q'⟩
end
end K8
namespace K8
open PySem L2
local macro_rules | `(tactic| walk_at "cc") => `(tactic| first | exact ⟨by decide, by decide⟩ | (show (0 : Int) < _; decide) | (show (0 : Int) < _; omega) | (show (0 : Int) ≤ _; omega) | exact ⟨by decide, by decide, by decide⟩ | exact ⟨by omega, by omega, by decide⟩ | exact Or.inl ⟨by decide, by decide⟩ | exact Or.inl ⟨by omega, by omega⟩)
local macro_rules | `(tactic| walk_at "rd") => `(tactic| repeat (first | refine ⟨_, rfl, ?_⟩ | refine ⟨_, _, rfl, rfl, ?_⟩ | refine ⟨rfl, ?_⟩ | (refine ⟨?cc, ?_⟩; (case cc => walk_at "cc"))))
theorem wo:∀{a b:List Int},a.Perm b->a.Pairwise (·<=·)->b.Pairwise (·<=·)->a=b
 |[],b,h,_,_=>(List.nil_perm.mp h).symm▸rfl
 |x::a,[],h,_,_=>absurd h.length_eq (by simp)
 |x::a,y::b,h,pa,pb=>by
  obtain⟨a1,a2⟩:=List.pairwise_cons.mp pa
  obtain⟨b1,b2⟩:=List.pairwise_cons.mp pb
  have h1:x<=y:=by
   rcases P8.mp (h.mem_iff.mpr (Ql ..):y∈x::a)with z | z
   ·rw[z];exact Int.le_refl _
   ·exact a1 y z
  have h2:y<=x:=by
   rcases P8.mp (h.mem_iff.mp (Ql ..):x∈y::b)with z | z
   ·rw[z];exact Int.le_refl _
   ·exact b1 x z
  have e:x=y:=Int.le_antisymm h1 h2
  subst e
  rw[wo (List.Perm.cons_inv h) a2 b2]
def cI(l:List Nat):List Int:=l.map fun(p:Nat)=>((p:Nat):Int)
theorem cI_V(l:List Nat):(cI l).map V.int=l.map iV:=by unfold cI;rw[Ra];rfl
theorem Ol{l r:List Nat}{out:List Int}(hp:out.Perm (cI l))(hs:out.Pairwise (·<=·))(nl:l.Nodup)(pr:r.Pairwise (· < ·))(hm:∀ t,t∈l↔t∈r):out=cI r:=by
 have nr:r.Nodup:=pr.imp fun h=>QC h
 have q:(cI l).Perm (cI r):=((List.perm_ext_iff_of_nodup nl nr).mpr hm).map _
 refine wo (hp.trans q) hs ?_
 unfold cI
 exact List.Pairwise.map _ (fun a b h=>by omega) pr
theorem KP{l:List Nat}{n:Nat}:ins l l.length n=l++[n]:=by
 unfold ins
 rw[QN,List.drop_length]
def xy(K:P1):Sp:=fun vs H Q _=>∃(a:Addr)(xs:List V)(m:Nat)(es:En),vs = [.int (m:Int),.ref a]/\SqL K H a xs/\eg K H xs es/\(∀ e∈es,e.1<m/\e.2<m)/\Q .non H
def rA(K:P1):Sp:=fun vs H Q _=>∃(a b:Addr)(xs zs:List V)(m:Nat)(es:En)(ts:List (List Nat)),vs = [.int (m:Int),.ref a,.ref b]/\SqL K H a xs/\eg K H xs es/\SqL K H b zs/\bO H zs ts/\bW m es ts/\es.length<=6/\m<=40/\∀ H',Same H H'->Q .non H'
def xw(K:P1):Sp:=fun vs H Q _=>∃(a:Addr)(xs:List V)(m:Nat)(es:En)(ts:List (List Nat)),vs = [.int (m:Int),.ref a]/\SqL K H a xs/\eg K H xs es/\Gr m es ts/\2<=m/\m<=40/\es.length<=6/\∀ H',Same H H'->Q .non H'
section
variable{P:Program}{w:World}{K:P1}{mg:Str->Option Value}{base:Heap}
theorem lx:aH ["many","ties","tie"] ["many","ties"] (aj cu):=⟨rfl,rfl,rfl,by decide +kernel,rfl,by decide +kernel,by decide +kernel⟩
theorem My{f:Addr}{fd:FuncData} (F:Fun K "refuse_ends" "refuse_ends" cu f fd):FnOk P w K mg base CX0 1 f fd ["many","ties"] (xy K):=by
 refine F.ok lx (fun vs H Q E h=>?_) (fun cdv A outer s H vs Q E hr h=>?_)
 ·obtain⟨a,xs,m,es,rfl,_⟩:=h
  rfl
 obtain⟨a,xs,m,es,rfl,hS,hT,hm,k⟩:=h
 refine⟨_,(ak (cF PassesOwn.never rfl (b4 (pv 1)) (aV (i:=2) lx.nd rfl (Or.inl rfl)) (ak (ba (PW.pt (gy (au G1 (bh (pv 2) rfl) (pv 0) (aC _)) (fN (au G1 (bh (pv 2) rfl) (pv 0) (aC _))))) (ak da) aL)))),?_⟩
 refine⟨_,rfl,a,rfl,⟨_,hS⟩,iY (K:=K) (xs:=xs) (fun i σ H2=>∃ v2,σ = [some (.int (m:Int)),some (.ref a),v2]/\H2=H) ⟨_,rfl,rfl⟩ (fun i σ H2 _ ⟨_,_,z⟩=>z▸hS) ?_ ?_⟩
 ·rintro i x σ H2 hx ⟨v2,rfl,rfl⟩
  have hi:i<es.length:=by rw[← hT.1];exact(P0.mp hx).1
  obtain⟨e,he⟩:∃ e,es[i]?=some e:=⟨_,PZ hi⟩
  obtain⟨p,C,dx,st,x1,x2,x3⟩:=hT.2 i e he
  rw[hx]at x1
  cases x1
  obtain⟨e1,e2⟩:=hm e (P7 he)
  refine⟨_,rfl,p,C,dx,_,_,rfl,x2,x3.cl,x3.n1,lu _ _ _,_,rfl,_,_,rfl,rfl,_,rfl,?_⟩
  refine ite2 (fun c=>absurd (of_decide_eq_true c) (by omega)) (fun _=>?_)
  refine⟨_,rfl,p,C,dx,_,_,rfl,x2,x3.cl,x3.n2,rR _ _ _,_,rfl,_,_,rfl,rfl,_,rfl,?_⟩
  refine ite2 (fun c=>absurd (of_decide_eq_true c) (by omega)) (fun _=>?_)
  exact⟨_,rfl,rfl⟩
 ·rintro σ H2 ⟨v2,rfl,rfl⟩
  exact k
theorem c7:aH ["many","ties","turns","ending","number","tie"] ["many","ties","turns"] (aj bX):=⟨rfl,rfl,rfl,by decide +kernel,rfl,by decide +kernel,by decide +kernel⟩
theorem JO{f:Addr}{fd:FuncData} (F:Fun K "refuse_turns" "refuse_turns" bX f fd) (T:Txt mg):FnOk P w K mg base CX0 1 f fd ["many","ties","turns"] (rA K):=by
 refine F.ok c7 (fun vs H Q E h=>?_) (fun cdv A outer s H vs Q E hr h=>?_)
 ·obtain⟨a,b,xs,zs,m,es,ts,rfl,_⟩:=h
  rfl
 obtain⟨a,b,xs,zs,m,es,ts,rfl,hS,hT,hB,hR,w',few,m40,kk⟩:=h
 have hu64:=hr.units
 refine⟨_,(ae (kL (i:=3) rfl c7.nd rfl rfl (fr:=[]) (by exact cq.plain (by rfl) (by decide +kernel) (by rfl) (by decide +kernel) (by rfl) (by decide +kernel)) (bV rfl T.n_range (aa (pv 0) af)) (fun C ex s H=>(bg af)))
   (ae (cF PassesOwn.never rfl (Dh rfl T.n_enumerate (aa (pv 1) af)) (FH rfl (bH (aV (i:=4) c7.nd rfl (Or.inl rfl)) (bH (aV (i:=5) c7.nd rfl (Or.inl rfl)) oR))) (ae (aU (bK Qg Qs Qr aZ (aG av (pv 3) (bh (pv 5) rfl) (fun _ _=>rfl)) (aa (pv 4) af)))
   (ak (aU (bK Qg Qs Qr aZ (aG av (pv 3) (bh (pv 5) rfl) (fun _ _=>rfl)) (aa (pv 4) af))))))
   (ak (ba (au (op_neD hu64) (iw rfl (fr:=[]) (by exact cq.plain (by rfl) (by decide +kernel) (by rfl) (by decide +kernel) (by rfl) (by decide +kernel)) (b4 (pv 2)) (fun C ex s H=>(aA (BQ (K:=K) rfl) (by rfl) T.n_sorted Lx (aa (pv 0) af)))) (pv 3) (aC _)) (ak da) aL)))),?_⟩
 refine⟨_,rfl,_,rfl,by omega,by omega,wI (n:=(m:Int).toNat) (fun i ys H2=>Same H H2/\dh (fun p=>H p≠none) H2 ys (Q0 i [])/\Dist ys) (by rw[Qy];exact Rn (aI (by omega))) ⟨fun _ _ e=>e,⟨rfl,fun i l e=>by simp at e⟩,fun i j p e=>by simp at e⟩ ?_ ?_⟩
 ·rintro i ys H2 hi ⟨s2,rx,D⟩
  refine⟨(by show 0<=sizeLine;decide),fun l hl=>?_⟩
  have s3:=ao hl (.lst [])
  refine⟨s2.trans s3,?_,Bi rx D hl⟩
  rw[List.replicate_succ']
  refine(rx.mono fun b u _ z=>s3 _ _ z).snoc (fun z=>z ?_) ag
  cases y:H l with
  |none=>rfl
  |some o=>rw[s2 _ _ y]at hl;cases hl
 rintro ys H2 hyl ⟨s2,rx,D⟩ pn hpn
 rw[Qy]at rx
 have s3:=ao hpn (.lst ys)
 have hpn0:H pn=none:=by
  cases y:H pn with
  |none=>rfl
  |some o=>rw[s2 _ _ y]at hpn;cases hpn
 have rx3:dh (fun p=>p=pn∨H p≠none) (upd H2 pn (.lst ys)) ys (Q0 m []):=⟨rx.1,fun i l z=>by
  obtain⟨p,a1,a2,a3⟩:=rx.2 i l z
  have n2:p≠pn:=aB a3 hpn
  exact⟨p,a1,by rintro(y | y);exact n2 y;exact a2 y,s3 _ _ a3⟩⟩
 refine⟨_,rfl,a,rfl,⟨_,(s2.trans s3).seq hS⟩,F5 (K:=K) (xs:=xs) (fun i σ H5=>∃ v4 v5 rows,σ = [some (.int (m:Int)),some (.ref a),some (.ref b),some (.ref pn),v4,v5]/\Same H H5/\H5 pn=some (.lst ys)/\dh (fun p=>p=pn∨H p≠none) H5 ys rows/\bW m (es.take i) rows/\∀ r∈rows,r.Pairwise (· < ·))
  ⟨_,_,_,rfl,s2.trans s3,ag,rx3,Ma m,fun r hr=>by rw[(List.mem_replicate.mp hr).2];exact List.Pairwise.nil⟩ (fun i σ H5 _ ⟨_,_,_,_,z,_⟩=>z.seq hS) ?_ ?_⟩
 ·rintro i x σ H5 T2 hx ⟨v4,v5,rows,rfl,s5,hpn5,rx5,w5,pw⟩ hT2
  have hi:i<es.length:=by rw[← hT.1];exact(P0.mp hx).1
  obtain⟨e,he⟩:∃ e,es[i]?=some e:=⟨_,PZ hi⟩
  obtain⟨p,C,dx,st,x1,x2,x3⟩:=hT.2 i e he
  rw[hx]at x1
  cases x1
  have sT:=ao hT2 (.tup [.int (i:Int),.ref p])
  have s6:=s5.trans sT
  have x6:=s6 _ _ x2
  obtain⟨e1,e2,e3⟩:=w'.ends e (P7 he)
  have til:(es.take i).length=i:=by rw[QK];omega
  have rlen:=w5.len
  obtain⟨l,hl⟩:∃ l,rows[e.1]?=some l:=⟨_,PZ (by omega)⟩
  obtain⟨l',hl'⟩:∃ l,rows[e.2]?=some l:=⟨_,PZ (by omega)⟩
  have rx6:dh (fun p=>p=pn∨H p≠none) (upd H5 T2 (.tup [.int (i:Int),.ref p])) ys rows:=rx5.mono fun b u _ z=>sT _ _ z
  obtain⟨p1,y1,y2,y3⟩:=rx6.2 _ _ hl
  obtain⟨p2,z1,z2,z3⟩:=rx6.2 _ _ hl'
  have no_S:∀{p:Addr},¬ (p=pn∨H p≠none)->H p=none/\p≠pn:=fun{p} n=>by
   refine⟨?_,fun z=>n (.inl z)⟩
   cases y:H p with
   |none=>rfl
   |some o=>exact absurd (.inr (by rw[y];exact fun z=>nomatch z)) n
  obtain⟨hp1,np1⟩:=no_S y2
  obtain⟨hp2,np2⟩:=no_S z2
  have n12:p2≠p1:=fun y=>by rw[y]at z1;exact e3 (D _ _ p1 y1 z1)
  have ll:∀{q:Nat}{r:List Nat},rows[q]?=some r->∀ t∈r,t<i:=fun{q r} h t ht=>by
   have:=qu w5 h ht
   omega
  have lle:∀{q:Nat}{r:List Nat},rows[q]?=some r->r.length<=6:=fun{q r} h=>by
   have:=js (w5.nd _ _ h) (ll h)
   omega
  have f1:=lle hl
  have f2:=lle hl'
  have hpn6:=sT _ _ hpn5
  refine⟨T2,_,rfl,SqT.of ag,rfl,_,_,rfl,_,_,rfl,rfl,?_⟩
  refine⟨_,rfl,_,rfl,p,C,dx,_,_,rfl,x6,x3.cl,x3.n1,lu _ _ _,pn,ys,_,_,rfl,rfl,SqL.of hpn6,aQ y1,.inl ⟨rfl,_,SqL.of y3⟩,_,rfl,p1,_,_,rfl,rfl,y3,aI (by rw[P5];omega),?_⟩
  have e1':(l.map iV)++[V.int (i:Int)]=(l++[i]).map iV:=by rw[QE];rfl
  rw[e1']
  have x7:(upd (upd H5 T2 (.tup [.int (i:Int),.ref p])) p1 (.lst ((l++[i]).map iV))) p=some (.ins C dx (tf (e.1:Int) (e.2:Int) st)):=by rw[ar (fun z=>by rw[z]at x2;rw[x2]at hp1;cases hp1)];exact x6
  have hpn7:(upd (upd H5 T2 (.tup [.int (i:Int),.ref p])) p1 (.lst ((l++[i]).map iV))) pn=some (.lst ys):=by rw[ar np1.symm];exact hpn6
  have z7:(upd (upd H5 T2 (.tup [.int (i:Int),.ref p])) p1 (.lst ((l++[i]).map iV))) p2=some (.lst (l'.map iV)):=by rw[ar n12];exact z3
  refine⟨_,rfl,_,rfl,p,C,dx,_,_,rfl,x7,x3.cl,x3.n2,rR _ _ _,pn,ys,_,_,rfl,rfl,SqL.of hpn7,aQ z1,.inl ⟨rfl,_,SqL.of z7⟩,_,rfl,p2,_,_,rfl,rfl,z7,aI (by rw[P5];omega),?_⟩
  have e2':(l'.map iV)++[V.int (i:Int)]=(l'++[i]).map iV:=by rw[QE];rfl
  rw[e2']
  refine⟨_,_,(rows.set e.1 (l++[i])).set e.2 (l'++[i]),rfl,aP (aP s6 hp1 _) hp2 _,by rw[ar np2.symm];exact hpn7,(rx6.set D y1).set D z1,?_,fun r hr=>?_⟩
  ·have q:=w5.put (k:=l.length) (j:=l'.length) e1 e2 e3 hl hl'
   rw[KP,KP,til]at q
   rw[QI,he]
   exact q
  ·have app:∀{q:Nat}{r:List Nat},rows[q]?=some r->(r++[i]).Pairwise (· < ·):=fun{q r} h=>List.pairwise_append.mpr ⟨pw r (P7 h),List.pairwise_singleton _ _,fun x hx y hy=>by
    have:=ll h x hx
    have:y=i:=by simpa using hy
    omega⟩
   rcases Sm hr with z | z
   ·rcases Sm z with z | z
    ·exact pw r z
    ·rw[z];exact app hl
   ·rw[z];exact app hl'
 rintro σ H5 ⟨v4,v5,rows,rfl,s5,hpn5,rx5,w5,pw⟩
 rw[hT.1,QN]at w5
 have hzl:zs.length=m:=by rw[hR.1,w'.len]
 refine⟨_,rfl,b,rfl,⟨_,s5.seq hB⟩,d8 (K:=K) (xs:=zs) (fun i vs H6=>Same H5 H6/\bO H6 vs (rows.take i)) (Rn (aI (by omega))) ⟨fun _ _ e=>e,rfl,fun i l e=>by simp at e⟩ (fun i vs H6 _ z=>(s5.trans z.1).seq hB) ?_ ?_⟩
 ·rintro i x vs H6 hx ⟨s6,rz⟩
  have hi:i<ts.length:=by rw[← hR.1];exact(P0.mp hx).1
  obtain⟨l,hl⟩:∃ l,ts[i]?=some l:=⟨_,PZ hi⟩
  obtain⟨r,hr'⟩:∃ r,rows[i]?=some r:=⟨_,PZ (by rw[w5.len,← w'.len];exact hi)⟩
  obtain⟨p,a1,a2⟩:=(hR.mono (s5.trans s6)).2 i l hl
  rw[hx]at a1
  cases a1
  have hll:l.length<=6:=QG (js (w'.nd _ _ hl) fun t ht=>qu w' hl ht) few
  refine⟨_,rfl,p,cI l,rfl,(by rw[cI_V];exact SqL.of a2),(by unfold cI;rw[P5];omega),fun q out hq hp hs=>?_⟩
  have eo:=Ol hp hs (w'.nd _ _ hl) (pw r (P7 hr')) fun t=>(w'.mem i l hl t).trans (w5.mem i r hr' t).symm
  subst eo
  have s7:=ao hq (.lst ((cI r).map V.int))
  refine⟨s6.trans s7,?_⟩
  rw[show rows.take (i+1)=rows.take i++[r] by rw[QI,hr'];rfl]
  exact(rz.mono s7).snoc (by rw[ag,cI_V])
 rintro vs H6 _ ⟨s6,rz⟩ D' hD'
 rw[hzl,← w5.len,QN]at rz
 have s7:=ao hD' (.lst vs)
 have s67:=s6.trans s7
 refine⟨_,rfl,_,Jr (SqL.of ag) (rz.mono s7),Jr (SqL.of (s67 _ _ hpn5)) (rx5.off.mono s67),CZ rows,_,rfl,iteF ?_⟩
 exact kk _ (s5.trans s67)
theorem qQ:aH ["many","ties"] ["many","ties"] (aj bI):=⟨rfl,rfl,rfl,by decide +kernel,rfl,by decide +kernel,by decide +kernel⟩
theorem Mv{f fr:Addr}{fd fdr:FuncData} (F:Fun K "refuse_parted" "refuse_parted" bI f fd) (G_reached:Cal P w K mg base 1 "reached" ["start","pairs"] (Cy K) fr fdr):FnOk P w K mg base CX0 2 f fd ["many","ties"] (xw K):=by
 refine F.ok qQ (fun vs H Q E h=>?_) (fun cdv A outer s H vs Q E hr h=>?_)
 ·obtain⟨a,xs,m,es,ts,rfl,_⟩:=h
  rfl
 obtain⟨a,xs,m,es,ts,rfl,hS,hT,g,m2,m40,few,kk⟩:=h
 have hul:xs.length=es.length:=hT.1
 refine⟨_,(ak (ba (au fP (ax G_reached.ok (hr.mono (by decide)) rfl G_reached.mg G_reached.kp G_reached.bn .nil aN (aa ai (aa (iw rfl (fr:=[]) (by exact cq.plain (by rfl) (by decide +kernel) (by rfl) (by decide +kernel) (by rfl) (by decide +kernel)) (b4 (pv 1)) (fun C ex s H=>(eS (aa (JD (K:=K) rfl (pv 0) rfl) (aa (JD (K:=K) rfl (pv 0) rfl) af))))) af))) (aE nA (aE FQ ai (pv 0)) ai) (aC _)) (ak da) aL)),?_⟩
 refine⟨_,rfl,a,rfl,⟨_,hS⟩,d8 (K:=K) (xs:=xs) (fun i zs H11=>Same H H11/\cY H11 zs (es.take i)) (Rn (aI (by omega))) ⟨fun _ _ e=>e,rfl,fun i l e=>by simp at e⟩ (fun i zs H11 _ z=>z.1.seq hS) ?_ ?_⟩
 ·rintro i x zs H11 hx ⟨s11,ez⟩
  have hi:i<es.length:=by rw[← hT.1];exact(P0.mp hx).1
  obtain⟨e,he⟩:∃ e,es[i]?=some e:=⟨_,PZ hi⟩
  obtain⟨p,C,dx,st,a1,a2,a3⟩:=(hT.mono s11).2 i e he
  rw[hx]at a1
  cases a1
  refine⟨_,rfl,p,C,dx,_,_,rfl,a2,a3.cl,a3.n1,lu _ _ _,_,rfl,p,C,dx,_,_,rfl,a2,a3.cl,a3.n2,rR _ _ _,(by show 2<=sizeLine;decide),fun g hg=>?_⟩
  have s12:=ao hg (.tup [iV e.1,iV e.2])
  refine⟨s11.trans s12,?_⟩
  rw[show es.take (i+1)=es.take i++[e] by rw[QI,he];rfl]
  exact(ez.mono s12).snoc ag
 rintro zs H11 _ ⟨s11,ez⟩ D hD
 rw[hT.1,QN]at ez
 have s12:=ao hD (.lst zs)
 refine⟨D,zs,m,es,ts,rfl,SqL.of ag,ez.mono s12,g,m2,m40,_,rfl,_,_,rfl,rfl,⟨by omega,by omega,by decide⟩,_,_,rfl,rfl,rfl,_,rfl,?_⟩
 refine iteNS ?_ (kk _ (s11.trans s12))
 show V.int _=V.int _
 rw[shlN]
 have:=Nat.two_pow_pos m
 congr 1
 omega
end
end K8
namespace K8
open PySem L2
local macro_rules | `(tactic| walk_at "cc") => `(tactic| first | exact ⟨by decide, by decide⟩ | (show (0 : Int) < _; decide) | (show (0 : Int) < _; omega) | (show (0 : Int) ≤ _; omega) | exact ⟨by decide, by decide, by decide⟩ | exact ⟨by omega, by omega, by decide⟩ | exact Or.inl ⟨by decide, by decide⟩ | exact Or.inl ⟨by omega, by omega⟩)
local macro_rules | `(tactic| walk_at "rd") => `(tactic| repeat (first | refine ⟨_, rfl, ?_⟩ | refine ⟨_, _, rfl, rfl, ?_⟩ | refine ⟨rfl, ?_⟩ | (refine ⟨?cc, ?_⟩; (case cc => walk_at "cc"))))
def cls(PL PS:Addr)(push:Bool):Addr:=if push=true then PS else PL
def fZ(PL PS:Addr)(H:Hp)(xs:List V)(es:En)(ks:Kn):Prop:=xs.length=es.length/\∀(i:Nat)(e:Nat×Nat)(k:Int×Int),es[i]?=some e->ks[i]?=some k->∃ p dx,xs[i]?=some (.ref p)/\H p=some (.ins (cls PL PS (decide (k.1=1))) dx (tf (e.1:Int) (e.2:Int) k.2))
theorem fZ.mono{PL PS:Addr}{H H':Hp}{xs:List V}{es:En}{ks:Kn}(t:fZ PL PS H xs es ks)(h:Same H H'):fZ PL PS H' xs es ks:=⟨t.1,fun i e k q r=>by
 obtain⟨p,dx,a,b⟩:=t.2 i e k q r
 exact⟨p,dx,a,h _ _ b⟩⟩
structure CW(K:P1)(C:Addr):Prop where
 cl:Cls K C
 n1:f9 K C "many"
 n2:f9 K C "ties"
 n3:f9 K C "turns"
 n4:f9 K C "rounds"
 n5:f9 K C "sides"
theorem kK(k:Str)(v:V):∀ fs:List (Str×V),(putF k v fs).length<=fs.length+1
 |[]=>P9 _
 | (a,b)::r=>by
  show(if a=k then(a,v)::r else(a,b)::putF k v r).length<=_
  have:=kK k v r
  split<;>simp only[Qz]<;>omega
theorem none_of{H H':Hp}{b:Addr}(s:Same H H')(z:H' b=none):H b=none:=by
 cases y:H b with
 |none=>rfl
 |some o=>rw[s _ _ y]at z;cases z
structure WebG(S:Addr->Prop)(H:Hp)(fs:List (Str×V))(m:Nat)(es:En)(ts rs:List (List Nat)):Prop where
 many:fs.lookup ("many" : Str)=some (.int (m:Int))
 turns:∃ q z,fs.lookup ("turns" : Str)=some (.ref q)/\¬ S q/\H q=some (.lst z)/\dh S H z ts
 rounds:∃ q z,fs.lookup ("rounds" : Str)=some (.ref q)/\H q=some (.lst z)/\bO H z rs
 sides:∃ q z,fs.lookup ("sides" : Str)=some (.ref q)/\H q=some (.lst z)/\Fv H z es.length rs
 part:f7 (fol es ts) (2*es.length) (2*es.length) rs
def lQ(K:P1):Sp:=fun vs H Q _=>∃(p C dx qt qh:Addr)(m:Nat)(xs zs:List V)(es:En)(ts:List (List Nat)),vs = [.ref p,.int (m:Int),.ref qt,.ref qh]/\H p=some (.ins C dx [])/\CW K C/\H qt=some (.lst xs)/\eg K H xs es/\H qh=some (.lst zs)/\bO H zs ts/\Gr m es ts/\0<es.length/\es.length<=6 /\
 ∀(fs:List (Str×V))(q1:Addr)(rs:List (List Nat))(H':Hp),H' p=some (.ins C dx fs)->WebG (fun a=>H a≠none) H' fs m es ts rs->H q1=none->fs.lookup ("ties" : Str)=some (.ref q1)->H' q1=some (.lst xs)->(∀ q o,H q=some o->q≠p->H' q=some o)->Q .non H'
theorem eg.keep{K:P1}{H G:Hp}{xs:List V}{es:En}{p C dx:Addr}(t:eg K H xs es)(hp:H p=some (.ins C dx []))(k:∀ q u,q≠p->H q=some u->G q=some u):eg K G xs es:=⟨t.1,fun i e z=>by
 obtain⟨q,C',dx',s,a,b,d⟩:=t.2 i e z
 refine⟨q,C',dx',s,a,k _ _ (fun z=>?_) b,d⟩
 rw[z,hp]at b
 have e1:([]:List (Str×V))=tf (e.1:Int) (e.2:Int) s:=by
  injection b with b
  injection b
 have e2:=lu (e.1:Int) (e.2:Int) s
 rw[← e1]at e2
 cases e2⟩
section
variable{P:Program}{w:World}{K:P1}{mg:Str->Option Value}{base:Heap}
theorem eX:aH ["self","many","ties","turns","rounds"] ["self","many","ties","turns"] (aj b9):=⟨rfl,rfl,rfl,by decide +kernel,rfl,by decide +kernel,by decide +kernel⟩
theorem Ms{f f1 f2 f3 f4 f5:Addr}{fd d1 d2 d3 d4 d5:FuncData} (F:Fun K "__init__" "Web.__init__" b9 f fd) (T:Txt mg) (G_refuse_ends:Cal P w K mg base 1 "refuse_ends" ["many","ties"] (xy K) f1 d1) (G_refuse_turns:Cal P w K mg base 1 "refuse_turns" ["many","ties","turns"] (rA K) f2 d2) (G_refuse_parted:Cal P w K mg base 2 "refuse_parted" ["many","ties"] (xw K) f3 d3) (G_rounds_of:Cal P w K mg base 4 "rounds_of" ["ties","turns"] (rp K) f4 d4) (G_sides_of:Cal P w K mg base 1 "sides_of" ["ties","rounds"] (xt K) f5 d5) :
  FnOk P w K mg base CX0 5 f fd ["self","many","ties","turns"] (lQ K):=by
 refine F.ok eX (fun vs H Q E h=>?_) (fun cdv A outer s H vs Q E hr h=>?_)
 ·obtain⟨p,C,dx,qt,qh,m,xs,zs,es,ts,rfl,_⟩:=h
  rfl
 obtain⟨p,C,dx,qt,qh,m,xs,zs,es,ts,rfl,hp,cw,hqt,hT,hqh,hR,g,e0,few,kk⟩:=h
 have w':=g.w
 have m2:=g.two e0
 have mf:=KY g
 have hul:xs.length=es.length:=hT.1
 have hzl:zs.length=m:=by rw[hR.1,w'.len]
 have pl:∀{q:Addr}{ys:List V},H q=some (.lst ys)->q≠p:=fun{q ys} h z=>by rw[z,hp]at h;cases h
 refine⟨_,(ae (aU (ax G_refuse_ends.ok (hr.mono (by decide)) rfl G_refuse_ends.mg G_refuse_ends.kp G_refuse_ends.bn .nil aN (aa (pv 1) (aa (pv 2) af))))
   (ae (aU (ax G_refuse_turns.ok (hr.mono (by decide)) rfl G_refuse_turns.mg G_refuse_turns.kp G_refuse_turns.bn .nil aN (aa (pv 1) (aa (pv 2) (aa (pv 3) af)))))
   (ae (aU (ax G_refuse_parted.ok (hr.mono (by decide)) rfl G_refuse_parted.mg G_refuse_parted.kp G_refuse_parted.bn .nil aN (aa (pv 1) (aa (pv 2) af))))
   (ae (ay (i:=4) eX.nd rfl (Or.inl rfl) (ax G_rounds_of.ok (hr.mono (by decide)) rfl G_rounds_of.mg G_rounds_of.kp G_rounds_of.bn .nil aN (aa (pv 2) (aa (pv 3) af))))
   (ae (ba (au fP (aE bj (aE nA (pv 1) (aA aq (by rfl) T.n_len aT (aa (pv 2) af))) (aA aq (by rfl) T.n_len aT (aa (pv 4) af))) ai (aC _)) (ak da) aL)
   (ae (fO (pv 0) (pv 1) rfl)
   (ae (fO (pv 0) (aW bN (by rfl) T.n_list jh (aa (pv 2) af)) rfl)
   (ae (fO (pv 0) (iw rfl (fr:=[]) (by exact cq.plain (by rfl) (by decide +kernel) (by rfl) (by decide +kernel) (by rfl) (by decide +kernel)) (b4 (pv 3)) (fun C ex s H=>(aW (wV (K:=K) rfl) (by rfl) T.n_list jh (aa (pv 0) af)))) rfl)
   (ae (fO (pv 0) (pv 4) rfl)
   (ak (fO (pv 0) (ax G_sides_of.ok (hr.mono (by decide)) rfl G_sides_of.mg G_sides_of.kp G_sides_of.bn .nil aN (aa (pv 2) (aa (pv 4) af))) rfl))))))))))),?_⟩
 refine⟨_,rfl,_,rfl,qt,xs,m,es,rfl,SqL.of hqt,hT,fun e he=>⟨(w'.ends e he).1,(w'.ends e he).2.1⟩,?_⟩
 refine⟨_,rfl,_,rfl,_,rfl,qt,qh,xs,zs,m,es,ts,rfl,SqL.of hqt,hT,SqL.of hqh,hR,w',few,by omega,fun H1 s1=>?_⟩
 refine⟨_,rfl,_,rfl,qt,xs,m,es,ts,rfl,SqL.of (s1 _ _ hqt),hT.mono s1,g,m2,by omega,few,fun H2 s2=>?_⟩
 have s12:=s1.trans s2
 refine⟨_,rfl,_,rfl,qt,qh,m,es,ts,rfl,⟨⟨xs,SqL.of (s12 _ _ hqt),hT.mono s12⟩,⟨zs,SqL.of (s12 _ _ hqh),hR.mono s12⟩,w',by omega⟩,fun qr vs rs H3 s3 hqr hrs ro=>?_⟩
 have s13:=s12.trans s3
 have cnt:m+rs.length=es.length+2:=by
  obtain⟨rs',p',c⟩:=g.part
  rw[← p'.same ro.part]
  exact c
 have hvl:vs.length=rs.length:=hrs.1
 refine⟨_,rfl,_,rfl,qt,xs,rfl,.inl (SqL.of (s13 _ _ hqt)),_,_,rfl,rfl,_,rfl,qr,vs,rfl,.inl (SqL.of hqr),_,_,rfl,rfl,rfl,_,rfl,?_⟩
 refine iteNS (congrArg V.int (by omega)) ?_
 have hp3:=s13 _ _ hp
 refine⟨_,rfl,_,rfl,p,C,dx,[],rfl,hp3,cw.cl,cw.n1,(by show 0<1000;decide),?_⟩
 have keep:∀{G:Hp}{o:HO}{q:Addr}{u:HO},q≠p->G q=some u->(upd G p o) q=some u:=fun n z=>by rw[ar n];exact z
 refine⟨_,rfl,qt,xs,rfl,.inl (SqL.of (keep (pl hqt) (s13 _ _ hqt))),fun q1 hq1=>?_⟩
 have n1p:q1≠p:=fun z=>by rw[z,ag]at hq1;cases hq1
 have t4:=ao hq1 (.lst xs)
 refine⟨_,rfl,p,C,dx,_,rfl,t4 _ _ ag,cw.cl,cw.n2,?_,?_⟩
 ·have:=kK "many" (.int (m:Int)) ([]:List (Str×V));simp only[SI]at this;omega
 have t1:∀ q u,q≠p->H3 q=some u->(upd (upd (upd H3 p (.ins C dx (putF "many" (.int (m:Int)) []))) q1 (.lst xs)) p (.ins C dx (putF "ties" (.ref q1) (putF "many" (.int (m:Int)) [])))) q=some u:=fun q u n z=>keep n (t4 _ _ (keep n z))
 have q1a:(upd (upd (upd H3 p (.ins C dx (putF "many" (.int (m:Int)) []))) q1 (.lst xs)) p (.ins C dx (putF "ties" (.ref q1) (putF "many" (.int (m:Int)) [])))) q1=some (.lst xs):=keep n1p ag
 have pa:(upd (upd (upd H3 p (.ins C dx (putF "many" (.int (m:Int)) []))) q1 (.lst xs)) p (.ins C dx (putF "ties" (.ref q1) (putF "many" (.int (m:Int)) [])))) p=some (.ins C dx (putF "ties" (.ref q1) (putF "many" (.int (m:Int)) []))):=ag
 generalize upd (upd (upd H3 p (.ins C dx (putF "many" (.int (m:Int)) []))) q1 (.lst xs)) p (.ins C dx (putF "ties" (.ref q1) (putF "many" (.int (m:Int)) [])))=H4 at t1 q1a pa
 have lk:(putF "ties" (.ref q1) (putF "many" (.int (m:Int)) []):List (Str×V)).lookup ("ties" : Str)=some (.ref q1):=by rw[aK,if_pos rfl]
 have ln:(putF "ties" (.ref q1) (putF "many" (.int (m:Int)) []):List (Str×V)).length<=2:=by
  have a1:=kK "many" (.int (m:Int)) ([]:List (Str×V))
  have a2:=kK "ties" (.ref q1) (putF "many" (.int (m:Int)) ([]:List (Str×V)))
  simp only[SI]at a1
  omega
 have lkm:(putF "ties" (.ref q1) (putF "many" (.int (m:Int)) []):List (Str×V)).lookup ("many" : Str)=some (.int (m:Int)):=by rw[aK,if_neg (by decide +kernel),aK,if_pos rfl]
 generalize (putF "ties" (.ref q1) (putF "many" (.int (m:Int)) []):List (Str×V))=fs at pa lk ln lkm
 have hqh4:=t1 _ _ (pl hqh) (s13 _ _ hqh)
 have new4:∀{b:Addr},H4 b=none->H b=none:=fun{b} z=>by
  cases y:H b with
  |none=>rfl
  |some o =>
   by_cases n:b=p
   ·rw[n,pa]at z;cases z
   ·rw[t1 _ _ n (s13 _ _ y)]at z;cases z
 have new1:H q1=none:=by
  cases y:H q1 with
  |none=>rfl
  |some o=>rw[keep n1p (s13 _ _ y)]at hq1;cases hq1
 refine⟨_,rfl,qh,rfl,⟨_,SqL.of hqh4⟩,d8 (K:=K) (xs:=zs) (fun i ys H5=>Same H4 H5/\dh (fun a=>H a≠none) H5 ys (ts.take i)) (Rn (aI (by omega))) ⟨fun _ _ e=>e,rfl,fun i l e=>by simp at e⟩ (fun i _ H5 _ z=>SqL.of (z.1 _ _ hqh4)) ?_ ?_⟩
 ·rintro i x ys H5 hx ⟨s5,rz⟩
  have hi:i<ts.length:=by rw[← hR.1];exact(P0.mp hx).1
  obtain⟨l,hl⟩:∃ l,ts[i]?=some l:=⟨_,PZ hi⟩
  obtain⟨r,a1,a2⟩:=hR.2 i l hl
  rw[hx]at a1
  cases a1
  refine⟨_,rfl,r,_,rfl,.inl (SqL.of (s5 _ _ (t1 _ _ (pl a2) (s13 _ _ a2)))),fun g hg=>⟨s5.trans (ao hg _),?_⟩⟩
  rw[show ts.take (i+1)=ts.take i++[l] by rw[QI,hl];rfl]
  exact(rz.mono fun b u _ z=>ao hg _ _ _ z).snoc (fun z=>z (new4 (none_of s5 hg))) ag
 rintro ys H5 _ ⟨s5,rz⟩ D hD
 rw[hR.1,QN]at rz
 have hDp:D≠p:=fun z=>by rw[z,s5 _ _ pa]at hD;cases hD
 have s6:=s5.trans (ao hD (.lst ys))
 refine⟨_,rfl,p,C,dx,fs,rfl,s6 _ _ pa,cw.cl,cw.n3,by omega,?_⟩
 have ln1:=kK "turns" (.ref D) fs
 have lk1:(putF "turns" (.ref D) fs).lookup ("ties" : Str)=some (.ref q1):=by rw[aK,if_neg (by decide +kernel)];exact lk
 refine⟨_,rfl,_,rfl,p,C,dx,_,rfl,ag,cw.cl,cw.n4,by omega,?_⟩
 have ln2:=kK "rounds" (.ref qr) (putF "turns" (.ref D) fs)
 have lk2:(putF "rounds" (.ref qr) (putF "turns" (.ref D) fs)).lookup ("ties" : Str)=some (.ref q1):=by rw[aK,if_neg (by decide +kernel)];exact lk1
 have t7:∀ q u,q≠p->H3 q=some u->(upd (upd (upd H5 D (.lst ys)) p (.ins C dx (putF "turns" (.ref D) fs))) p (.ins C dx (putF "rounds" (.ref qr) (putF "turns" (.ref D) fs)))) q=some u:=fun q u n z=>keep n (keep n (s6 _ _ (t1 q u n z)))
 have q17:(upd (upd (upd H5 D (.lst ys)) p (.ins C dx (putF "turns" (.ref D) fs))) p (.ins C dx (putF "rounds" (.ref qr) (putF "turns" (.ref D) fs)))) q1=some (.lst xs):=keep n1p (keep n1p (s6 _ _ q1a))
 have p7:(upd (upd (upd H5 D (.lst ys)) p (.ins C dx (putF "turns" (.ref D) fs))) p (.ins C dx (putF "rounds" (.ref qr) (putF "turns" (.ref D) fs)))) p=some (.ins C dx (putF "rounds" (.ref qr) (putF "turns" (.ref D) fs))):=ag
 have D7:(upd (upd (upd H5 D (.lst ys)) p (.ins C dx (putF "turns" (.ref D) fs))) p (.ins C dx (putF "rounds" (.ref qr) (putF "turns" (.ref D) fs)))) D=some (.lst ys):=keep hDp (keep hDp ag)
 have u7:∀ q u,q≠p->H5 q=some u->(upd (upd (upd H5 D (.lst ys)) p (.ins C dx (putF "turns" (.ref D) fs))) p (.ins C dx (putF "rounds" (.ref qr) (putF "turns" (.ref D) fs)))) q=some u:=fun q u n z=>keep n (keep n (ao hD _ _ _ z))
 generalize upd (upd (upd H5 D (.lst ys)) p (.ins C dx (putF "turns" (.ref D) fs))) p (.ins C dx (putF "rounds" (.ref qr) (putF "turns" (.ref D) fs)))=H7 at t7 q17 p7 D7 u7
 have pl3:∀{q:Addr}{ys:List V},H3 q=some (.lst ys)->q≠p:=fun{q ys} h z=>by rw[z,hp3]at h;cases h
 have rs7:bO H7 vs rs:=⟨hrs.1,fun i l z=>by
  obtain⟨r,a1,a2⟩:=hrs.2 i l z
  exact⟨r,a1,t7 _ _ (pl3 a2) a2⟩⟩
 have T7:eg K H7 xs es:=(hT.mono s13).keep hp3 t7
 refine⟨_,rfl,_,rfl,qt,qr,xs,vs,es,_,rs,rfl,SqL.of (t7 _ _ (pl hqt) (s13 _ _ hqt)),T7,by omega,SqL.of (t7 _ _ (pl3 hqr) hqr),rs7,ro,fun q5 z5 H8 s8 hq5 hs5=>?_⟩
 refine⟨_,rfl,p,C,dx,_,rfl,s8 _ _ p7,cw.cl,cw.n5,by omega,?_⟩
 have n5p:q5≠p:=fun z=>by rw[z,s8 _ _ p7]at hq5;cases hq5
 have hqr7:=t7 _ _ (pl3 hqr) hqr
 refine kk _ q1 rs _ ag ⟨?_,⟨D,ys,?_,fun z=>z (new4 (none_of s5 hD)),keep hDp (s8 _ _ D7),rz.1,fun i l z=>?_⟩,⟨qr,vs,?_,keep (pl3 hqr) (s8 _ _ hqr7),hrs.1,fun i l z=>?_⟩,⟨q5,z5,?_,keep n5p hq5,hs5.1,fun i hi=>?_⟩,ro⟩ new1 (by rw[aK,if_neg (by decide +kernel)];exact lk2) (keep n1p (s8 _ _ q17)) fun q o z n=>keep n (s8 _ _ (t7 q o n (s13 _ _ z)))
 ·rw[aK,if_neg (by decide +kernel),aK,if_neg (by decide +kernel),aK,if_neg (by decide +kernel)]
  exact lkm
 ·rw[aK,if_neg (by decide +kernel),aK,if_neg (by decide +kernel),aK,if_pos rfl]
 ·obtain⟨r,a1,a0,a2⟩:=rz.2 i l z
  have nr:r≠p:=fun z=>by rw[z,s5 _ _ pa]at a2;cases a2
  exact⟨r,a1,a0,keep nr (s8 _ _ (u7 r _ nr a2))⟩
 ·rw[aK,if_neg (by decide +kernel),aK,if_pos rfl]
 ·obtain⟨r,a1,a2⟩:=hrs.2 i l z
  exact⟨r,a1,keep (pl3 a2) (s8 _ _ (t7 _ _ (pl3 a2) a2))⟩
 ·rw[aK,if_pos rfl]
 ·obtain⟨t,a,b,r,r',y1,y2,y3⟩:=hs5.2 i hi
  exact⟨t,a,b,r,r',y1,keep (fun z=>by rw[z,s8 _ _ p7]at y2;cases y2) y2,y3⟩
theorem fZ.at{PL PS:Addr}{H:Hp}{xs:List V}{es:En}{ks:Kn}(t:fZ PL PS H xs es ks)(kl:ks.length=es.length)(TL:CT K PL)(TS:CT K PS):eg K H xs es:=⟨t.1,fun i e z=>by
 have hi:=(P0.mp z).1
 obtain⟨k,hk⟩:∃ k,ks[i]?=some k:=⟨_,PZ (by omega)⟩
 obtain⟨p,dx,a,b⟩:=t.2 i e k z hk
 refine⟨p,_,dx,k.2,a,b,?_⟩
 unfold cls
 split
 ·exact TS
 ·exact TL⟩
def WebF(S:Addr->Prop)(PL PS WC:Addr)(H:Hp)(p:Addr)(m:Nat)(es:En)(ts rs:List (List Nat))(ks:Kn):Prop:=∃ dx fs q1 xs,H p=some (.ins WC dx fs)/\WebG S H fs m es ts rs/\¬ S q1/\fs.lookup ("ties" : Str)=some (.ref q1)/\H q1=some (.lst xs)/\fZ PL PS H xs es ks
end
end K8
namespace KF
open PySem L2 PyProof.Rows K8
local macro_rules | `(tactic| walk_at "cc") => `(tactic| first | exact ⟨by decide, by decide⟩ | (show (0 : Int) < _; decide) | (show (0 : Int) < _; omega) | (show (0 : Int) ≤ _; omega) | exact ⟨by decide, by decide, by decide⟩ | exact ⟨by omega, by omega, by decide⟩ | exact Or.inl ⟨by decide, by decide⟩ | exact Or.inl ⟨by omega, by omega⟩)
local macro_rules | `(tactic| walk_at "rd") => `(tactic| repeat (first | refine ⟨_, rfl, ?_⟩ | refine ⟨_, _, rfl, rfl, ?_⟩ | refine ⟨rfl, ?_⟩ | (refine ⟨?cc, ?_⟩; (case cc => walk_at "cc"))))
theorem lH:bootBuiltins "str" = some (.type "str"):=by decide +kernel
theorem lO{a b:Str}(h:a.cps.toList=b.cps.toList):a=b:=Str.ext' (S7.mp h)
theorem lP(a b:Str):(a++b).cps.toList=a.cps.toList++b.cps.toList:=by rw[Str.cps_append,Array.toList_append]
theorem rT(a:Str):a.length=a.cps.toList.length:=by rw[Rq];rfl
def spS:Str:=⟨#[32]⟩
def nlS:Str:=⟨#[10]⟩
theorem rV:((" " : String):Str)=spS:=by decide +kernel
theorem Ke:(("\n" : String):Str)=nlS:=by decide +kernel
theorem Bg:(("" : String):Str)=Str.empty:=by decide +kernel
def jn(c:Nat):List (List Nat)->List Nat
 |[]=>[]
 |[a]=>a
 |a::b::r=>a++c::jn c (b::r)
theorem nO(c:Nat):∀ ws:List Str,(Str.join ⟨#[c]⟩ ws).cps.toList=jn c (ws.map (·.cps.toList))
 |[]=>rfl
 |[_]=>rfl
 |a::b::r=>by
  show((a++⟨#[c]⟩++Str.join ⟨#[c]⟩ (b::r)).cps.toList)=_
  rw[lP,lP,nO c (b::r)]
  show a.cps.toList++[c]++_=a.cps.toList++c::_
  rw[Su]
  rfl
theorem Lg{c:Nat}:∀{a b x y:List Nat},c∉a->c∉b->a++c::x=b++c::y->a=b/\x=y
 |[],[],_,_,_,_,h=>⟨rfl,(R0 h).2⟩
 |[],d::b,_,_,_,hb,h=>absurd (R0 h).1 fun z=>hb (by rw[z];exact Ql ..)
 |d::a,[],_,_,ha,_,h=>absurd (R0 h).1 fun z=>ha (by rw[← z];exact Ql ..)
 |d::a,e::b,x,y,ha,hb,h=>by
  have q:=R0 (show d::(a++c::x)=e::(b++c::y) from h)
  have r:=Lg (fun z=>ha (Qe _ z)) (fun z=>hb (Qe _ z)) q.2
  exact⟨by rw[q.1,r.1],r.2⟩
theorem Ny{c:Nat}{a b y:List Nat}(ha:c∉a)(h:a=b++c::y):False:=ha (by rw[h];simp)
theorem NK{c:Nat}:∀{P Q:List (List Nat)},P≠[]->Q≠[]->(∀ p∈P,c∉p)->(∀ p∈Q,c∉p)->jn c P=jn c Q->P=Q
 |[],_,h,_,_,_,_=>absurd rfl h
 |_,[],_,h,_,_,_=>absurd rfl h
 |[a],[b],_,_,_,_,h=>by rw[show a=b from h]
 |[a],b::b2::r,_,_,hP,_,h=>(Ny (hP a (Ql ..)) (show a=b++c::jn c (b2::r) from h)).elim
 |a::a2::r,[b],_,_,_,hQ,h=>(Ny (hQ b (Ql ..)) (show b=a++c::jn c (a2::r) from h.symm)).elim
 |a::a2::r,b::b2::t,_,_,hP,hQ,h=>by
  have q:=Lg (hP a (Ql ..)) (hQ b (Ql ..)) (show a++c::jn c (a2::r)=b++c::jn c (b2::t) from h)
  rw[q.1,NK (SD _ _) (SD _ _) (fun p z=>hP p (Qe _ z)) (fun p z=>hQ p (Qe _ z)) q.2]
theorem sY:∀{a b:List Str},a.map (·.cps.toList)=b.map (·.cps.toList)->a=b
 |[],[],_=>rfl
 |[],_::_,h=>by cases h
 |_::_,[],h=>by cases h
 |_::_,_::_,h=>by
  have q:=R0 h
  rw[lO q.1,sY q.2]
theorem Ll(c:Nat):∀ l:List Nat,0<=cnt c l
 |[]=>by rw[cnt_nil];exact Int.le_refl 0
 |n::r=>by
  have:=Ll c r
  rw[cnt_cons]
  split<;>omega
theorem kE{c:Nat}{ws:List Str}(h0:ws≠[])(hf:∀ w∈ws,c∉w.cps.toList):QD (Str.join ⟨#[c]⟩ ws) ⟨#[c]⟩=ws:=by
 have h1:=StrLaws.join_split (Str.join ⟨#[c]⟩ ws) ⟨#[c]⟩
 have h2:=congrArg (fun s:Str=>s.cps.toList) h1
 simp only[nO]at h2
 have ne:QD (Str.join ⟨#[c]⟩ ws) ⟨#[c]⟩≠[]:=fun z=>by
  have e:=split_len (Str.join ⟨#[c]⟩ ws) c
  rw[z]at e
  have:=Ll c (Str.join ⟨#[c]⟩ ws).cps.toList
  simp at e
  omega
 refine sY (NK (c:=c) (by simpa using ne) (by simpa using h0) (fun p hp=>?_) (fun p hp=>?_) h2)
 ·obtain⟨q,hq,rfl⟩:=Qv.mp hp
  exact StrLaws.split_free _ c q hq
 ·obtain⟨q,hq,rfl⟩:=Qv.mp hp
  exact hf q hq
theorem nM(sep w:Str):∀{ws:List Str},ws≠[]->Str.join sep (ws++[w])=Str.join sep ws++sep++w
 |[],h=>absurd rfl h
 |[a],_=>rfl
 |a::b::r,_=>by
  show a++sep++Str.join sep (b::r++[w])=a++sep++Str.join sep (b::r)++sep++w
  rw[nM sep w (SD b r)]
  simp only[Str.append_assoc]
def tx(n:Nat):Str:=Str.ofString (toString ((n:Nat):Int))
theorem zy(n:Nat):(tx n).cps.toList=(R8 10 n).map Char.toNat:=PySem.W.KIN.signs_num n
theorem IU(n:Nat):∀ c∈(tx n).cps.toList,48<=c/\c<=57:=fun c hc=>by
 rw[zy]at hc
 obtain⟨ch,hch,e⟩:=Qv.mp hc
 rw[← e]
 exact digit_range (Nat.isDigit_of_mem_toDigits (by decide) (by decide) hch)
theorem yL{m:Nat}(h:10<=m):R8 10 m=R8 10 (m/10)++[Nat.digitChar (m%10)]:=by
 have hm:m%10<10:=Nat.mod_lt m (by decide)
 have t:=Nat.toDigits_append_toDigits (b:=10) (n:=m/10) (d:=m%10) (by decide) (by omega) hm
 rw[Nat.div_add_mod,RE hm]at t
 exact t.symm
theorem Gb:∀(k m:Nat),m<10^(k+1)->(R8 10 m).length<=k+1
 |0,m,h=>by rw[RE (by omega)];exact P9 1
 |k+1,m,h=>by
  by_cases z:m<10
  ·rw[RE z]
   show 1<=_
   omega
  ·rw[yL (by omega),P2]
   have:=Gb k (m/10) (by rw[Nat.pow_succ]at h;omega)
   show _+1<=_
   omega
theorem K5:∀ m:Nat,R8 10 m≠[]:=fun m h=>by
 by_cases z:m<10
 ·rw[RE z]at h;cases h
 ·rw[yL (by omega)]at h
  simp at h
theorem Pw(m:Nat):m≠0->(R8 10 m).head?≠some '0':=by
 induction m using Nat.strongRecOn with
 |_ m ih =>
  intro h0
  by_cases z:m<10
  ·rw[RE z]
   have:∀ d:Nat,d<10->d≠0->[Nat.digitChar d].head?≠some '0':=by decide
   exact this m z h0
  ·have q:=ih (m/10) (by omega) (by omega)
   rw[yL (by omega),List.head?_append]
   match R8 10 (m/10),K5 (m/10),q with
   |[],z,_=>exact absurd rfl z
   |_::_,_,q=>exact q
theorem Fz{k n:Nat}(h:n<10^(k+1)):(tx n).length<=k+1:=by
 rw[rT,zy,P5]
 exact Gb k n h
theorem tx_ne(n:Nat):(tx n).cps.toList≠[]:=by
 rw[zy]
 intro h
 exact K5 n (SS.mp h)
theorem tx_val(n:Nat):Sv (tx n).cps.toList=n:=by rw[zy];exact PySem.W.KIN.val_back n
theorem tx_hd{n:Nat}(h:(tx n).cps.toList.head?=some 48):n=0:=by
 rw[zy,List.head?_map]at h
 obtain⟨ch,hc,e⟩:=QJ.mp h
 have:ch = '0':=by
  have e2:ch.toNat=('0').toNat:=e
  exact Char.ext (UInt32.toNat_inj.mp e2)
 rw[this]at hc
 exact Decidable.byContradiction fun z=>Pw n z hc
def dig(w:Str):Bool:=w.cps.toList.all fun c=>decide (48<=c)&&decide (c<=57)
def nOf(figs:Nat)(w:Str):Option Nat:=if w.cps.toList = []∨figs<w.length∨dig w=false then none else if w.cps.toList.head?=some 48/\w.length≠1 then none else some (Sv w.cps.toList)
theorem dig_tx(n:Nat):dig (tx n)=true:=QX.mpr fun c hc=>by
 have:=IU n c hc
 simp[this.1,this.2]
theorem Nz{k n:Nat}(h:n<10^(k+1)):nOf (k+1) (tx n)=some n:=by
 have hl:=Fz h
 unfold nOf
 rw[if_neg,if_neg,tx_val]
 ·rintro⟨a,b⟩
  have z:=tx_hd a
  subst z
  exact b (by decide +kernel)
 ·rintro(a | a | a)
  ·exact tx_ne n a
  ·omega
  ·rw[dig_tx]at a;cases a
structure Txt(mg:Str->Option Value):Prop where
 n_min:mg "min" = none
 n_len:mg "len" = none
 n_int:mg "int" = none
 n_str:mg "str" = none
 n_bool:mg "bool" = none
 n_list:mg "list" = none
 n_tuple:mg "tuple" = none
 n_range:mg "range" = none
 n_all:mg "all" = none
 n_enumerate:mg "enumerate" = none
 n_isinstance:mg "isinstance" = none
 figs:∃ t,mg "MOST_FIGURES_texts" = some (.int 31 t)
 figd:∃ t,mg "MOST_FIGURES_desk" = some (.int 31 t)
 most:∃ t,mg "MOST_TIES" = some (.int 80 t)
theorem mZ{α:Type}{x:α}{xs:List α}:atI (x::xs) 0=some x:=aQ (j:=0) rfl
def wt:V->Str
 |.str z=>z
 |.int i=>toString i
 |_=>Str.empty
def Wd(v:V):Prop:=(∃ z:Str,v=.str z)∨∃ n:Nat,v=.int (n:Int)/\n<10^40
theorem cG{n:Nat}(h:n<10^40):((n:Int)).natAbs.log2<1920:=by
 rw[Int.natAbs_natCast]
 by_cases z:n=0
 ·subst z;decide
 ·exact(Nat.log2_lt z).mpr (QB h (by decide +kernel))
def rowT(ws:List Str):Str:=Str.join spS ws++nlS
def spRow(K:P1):Sp:=fun vs H Q _=>∃(a:Addr)(ws:List V),vs = [.ref a]/\SqL K H a ws/\ws.length<=100/\(∀ v∈ws,Wd v/\(wt v).length<=100)/\∀ H',Same H H'->Q (.str (rowT (ws.map wt))) H'
theorem ik:∀{ws:List Str}{k:Nat},(∀ w∈ws,w.length<=k)->(ws.map (·.length)).sum<=ws.length*k
 |[],_,_=>by simp
 |w::ws,k,h=>by
  have:=ik (ws:=ws) fun x hx=>h x (Qe _ hx)
  have:=h w (Ql ..)
  rw[QA,List.sum_cons,Qz,Nat.succ_mul]
  omega
theorem nN(c:Nat):∀ ws:List Str,(Str.join ⟨#[c]⟩ ws).length<=(ws.map (·.length)).sum+ws.length
 |[]=>P9 0
 |[a]=>by show a.length<=a.length+0+1;omega
 |a::b::r=>by
  have:=nN c (b::r)
  show(a++⟨#[c]⟩++Str.join ⟨#[c]⟩ (b::r)).length<=_
  rw[Str.length_append,Str.length_append,QA,List.sum_cons,Qz]
  show a.length+1+_<=_
  omega
def oV:Option Nat->V
 |none=>.non
 |some n=>.int (n:Int)
def Asc(w:Str):Prop:=w.cps.all (· < 128)=true
def spNum:Sp:=fun vs H Q _=>∃(w:Str)(k:Nat),vs = [.str w,.int (k:Int)]/\k<=600/\w.length<=400000/\Asc w/\∀ H',Same H H'->Q (oV (nOf k w)) H'
section
variable{P:Program}{w:World}{K:P1}{mg:Str->Option Value}{base:Heap}
theorem Jo:aH ["words"] ["words"] (aj kJ):=⟨rfl,rfl,rfl,by decide +kernel,rfl,by decide +kernel,by decide +kernel⟩
theorem ok_row{f:Addr}{fd:FuncData} (F:Fun K "row_of" "row_of" kJ f fd) (T:Txt mg):FnOk P w K mg base CX0 1 f fd ["words"] (spRow K):=by
 refine F.ok Jo (fun vs H Q E h=>?_) (fun cdv A outer s H vs Q E hr h=>?_)
 ·obtain⟨a,ws,rfl,_⟩:=h
  rfl
 obtain⟨a,ws,rfl,hS,len,hw,kk⟩:=h
 refine⟨_,(ak (aJ (aE hZ (bK QV Rk Ry o5 aM (aa (iw rfl (fr:=[]) (by exact cq.plain (by rfl) (by decide +kernel) (by rfl) (by decide +kernel) (by rfl) (by decide +kernel)) (b4 (pv 0)) (fun C ex s H=>(aW Lq (by rfl) T.n_str lH (aa (pv 0) af)))) af)) aM))),?_⟩
 refine⟨rfl,_,rfl,a,rfl,⟨_,hS⟩,?_⟩
 refine d8 (K:=K) (xs:=ws) (fun i ys H2=>ys=(ws.take i).map (fun v=>V.str (wt v))/\H2=H) (QG len (by decide)) ⟨rfl,rfl⟩ (fun i ys H2 _ ⟨_,z⟩=>by rw[z];exact hS) ?_ ?_
 ·rintro i x ys H2 hx ⟨rfl,rfl⟩
  have e:(ws.take (i+1)).map (fun v=>V.str (wt v))=(ws.take i).map (fun v=>V.str (wt v))++[V.str (wt x)]:=by rw[QI,hx,QE];rfl
  rw[e]
  rcases(hw x (P7 hx)).1 with⟨z,rfl⟩ | ⟨n,rfl,hn⟩
  ·exact⟨_,rfl,.inr ⟨z,rfl,rfl,rfl⟩⟩
  ·exact⟨_,rfl,.inl ⟨_,rfl,cG hn,rfl,rfl⟩⟩
 ·rintro ys H2 _ ⟨rfl,rfl⟩ D hD
  rw[QN]
  have ml:(ws.map wt).length=ws.length:=P5 _
  have sl:=ik (ws:=ws.map wt) (k:=100) fun z hz=>by
   obtain⟨v,hv,rfl⟩:=Qv.mp hz
   exact(hw v hv).2
  have jl:=nN 32 (ws.map wt)
  refine⟨((" " : String):Str),D,ws.map wt,rfl,rfl,SqL.of (by rw[ag,Ra];rfl),?_,?_⟩
  ·rw[rV,ml]
   show _+ws.length*1<=_
   omega
  rw[rV]
  refine⟨_,_,rfl,rfl,?_,?_⟩
  ·have e1:(("\n" : String):Str).length=1:=by decide +kernel
   have:(1000000:Nat)<=sizeLine:=by decide
   show(Str.join ⟨#[32]⟩ (ws.map wt)).length+_<=_
   rw[e1]
   omega
  ·rw[Ke]
   exact kk _ (ao hD _)
theorem zO:aH ["word","figures"] ["word","figures"] (aj dv):=⟨rfl,rfl,rfl,by decide +kernel,rfl,by decide +kernel,by decide +kernel⟩
theorem ok_num{f:Addr}{fd:FuncData} (F:Fun K "number_of" "number_of" dv f fd) (T:Txt mg):FnOk P w K mg base CX0 1 f fd ["word","figures"] spNum:=by
 refine F.ok zO (fun vs H Q E h=>?_) (fun cdv A outer s H vs Q E hr h=>?_)
 ·obtain⟨a,ws,rfl,_⟩:=h
  rfl
 obtain⟨w,k,rfl,hk,hl,ha,kk⟩:=h
 have s640:(400000:Nat)<=sizeLine:=by decide
 refine⟨_,(ae (ba (PW.pt (gy (au eY (pv 0) aM (aC _)) (gy (au l6 (aA kc (by rfl) T.n_len aT (aa (pv 0) af)) (pv 1) (aC _)) (fN (pt_not (pt_val (aA (Ls rfl) (by rfl) T.n_all bt_all (aa (iw rfl (fr:=[]) (by exact cq.plain (by rfl) (by decide +kernel) (by rfl) (by decide +kernel) (by rfl) (by decide +kernel)) (Nu (pv 0)) (fun C ex s H=>(sM JI (pv 0) aM (by with_unfolding_all rfl)))) af)))))))) (ak (aJ cW)) aL)
   (ae (ba (PW.pt (lA (au eY (aG NM (pv 0) ai (fun _ _=>rfl)) aM (aC _)) (oN (au fP (pv 0) aM (aC _))))) (ak (aJ cW)) aL)
   (ak (aJ (aW BO (by rfl) T.n_int Gi (aa (pv 0) af)))))),?_⟩
 have eE:decide (V.str w=V.str (("" : String):Str))=decide (w.cps.toList = []):=decide_eq_decide.mpr ⟨fun z=>by rw[V.str.inj z,Bg];rfl,fun z=>by rw[Bg,lO (a:=w) (b:=Str.empty) z]⟩
 refine⟨_,rfl,rfl,_,rfl,?_⟩
 rw[eE]
 have kN:nOf k w=none->∀ H',Same H H'->Q .non H':=fun z H' s=>by
  have:=kk H' s
  rwa[z]at this
 refine ite2 (fun c=>iteT (kN (if_pos (.inl (of_decide_eq_true c))) _ fun _ _ q=>q)) (fun c=>?_)
 have ne:w.cps.toList≠[]:=fun z=>c (decide_eq_true z)
 refine⟨_,rfl,w,rfl,QG hl s640,_,rfl,_,_,rfl,rfl,_,rfl,ite2 (fun c2=>iteT (kN (if_pos (.inr (.inl (by have:=of_decide_eq_true c2;omega)))) _ fun _ _ q=>q)) (fun c2=>?_)⟩
 have le:w.length<=k:=by
  have:¬ ((k:Int)<(w.length:Int)):=fun z=>c2 (decide_eq_true z)
  omega
 refine⟨_,rfl,w,rfl,ha,Nc (x:=w) (fun i ys H2=>ys=(w.cps.toList.take i).map (fun c=>V.bl (decide (48<=c)&&decide (c<=57)))/\H2=H) (QG hl s640) ⟨rfl,rfl⟩ ?_ ?_⟩
 ·rintro i d ys H2 hd ⟨rfl,rfl⟩
  refine⟨_,rfl,_,_,rfl,rfl,?_,rfl⟩
  have fo:=StrLaws.found_one (("0123456789" : String):Str) d
  have e10:(("0123456789" : String):Str).cps.toList = [48,49,50,51,52,53,54,55,56,57]:=by decide +kernel
  rw[e10]at fo
  rw[fo,QI,SM,hd,QE]
  have:decide (d∈[48,49,50,51,52,53,54,55,56,57])=(decide (48<=d)&&decide (d<=57)):=by
   rw[Rp,QT,decide_eq_true_iff,decide_eq_true_iff,decide_eq_true_iff]
   simp only[P8,Q4,or_false]
   omega
  rw[this]
  rfl
 ·rintro ys H2 _ ⟨rfl,rfl⟩ D hD
  have eT:w.cps.toList.take w.cps.size=w.cps.toList:=by rw[← Rq,QN]
  rw[eT]
  refine⟨D,w.cps.toList.map (fun c=>decide (48<=c)&&decide (c<=57)),rfl,SqL.of (by rw[ag,Ra];rfl),_,rfl,?_⟩
  have ea:(w.cps.toList.map (fun c=>decide (48<=c)&&decide (c<=57))).all id=dig w:=by unfold dig;rw[List.all_map];rfl
  rw[ea]
  have sD:Same H2 (upd H2 D (.lst (w.cps.toList.map (fun c=>V.bl (decide (48<=c)&&decide (c<=57)))))):=ao hD _
  cases hd:dig w with
  |false=>exact iteT (kN (if_pos (.inr (.inr hd))) _ sD)
  |true =>
   refine iteF ?_
   have n1:¬ (w.cps.toList = []∨k<w.length∨dig w=false):=by
    rintro(z | z | z)
    ·exact ne z
    ·omega
    ·rw[hd]at z;cases z
   obtain⟨h0,tl,ew⟩:=Rt ne
   have ad:Tp w.cps.toList:=fun c hc=>by
    have:=QX.mp hd c hc
    rw[QT]at this
    exact⟨of_decide_eq_true this.1,of_decide_eq_true this.2⟩
   have fin:¬ (w.cps.toList.head?=some 48/\w.length≠1)->tRet (tCB (fun xs H Q=>∃ z n,xs = [V.str z]/\intText? z=some n/\z.length<=640/\Q (V.int n) H) (bP (tVar 0) tNil)) { nx:=fun x H'=>Q V.non H',rt:=Q } (L2.start [Str.ofString "word",Str.ofString "figures"] [V.str w,V.int (k:Int)]) (upd H2 D (.lst (w.cps.toList.map (fun c=>V.bl (decide (48<=c)&&decide (c<=57)))))):=fun n2=>by
    refine⟨_,rfl,w,_,rfl,intText_digits ad ne (by omega),by omega,?_⟩
    have:=kk _ sD
    unfold nOf at this
    rw[if_neg n1,if_neg n2]at this
    exact this
   refine⟨_,rfl,w,0,h0,rfl,rfl,QG hl s640,by rw[ew];exact mZ,rfl,_,rfl,ite2 (fun c3=>?_) (fun c3=>?_)⟩
   ·have e0:h0=48:=by
     have z:=V.str.inj (of_decide_eq_true c3)
     have z2:=congrArg (fun s:Str=>s.cps.toList) z
     have e48:(("0" : String):Str).cps.toList = [48]:=by decide +kernel
     rw[e48]at z2
     exact(R0 z2).1
    refine⟨_,rfl,rfl,_,rfl,ite2 (fun c4=>?_) (fun c4=>?_)⟩
    ·refine kN ?_ _ sD
     unfold nOf
     rw[if_neg n1,if_pos]
     refine⟨by rw[ew,e0];rfl,fun z=>?_⟩
     have z3:w=(("0" : String):Str):=lO (by
      have e48:(("0" : String):Str).cps.toList = [48]:=by decide +kernel
      rw[rT,ew]at z
      have:tl = []:=Sz.mp (by simpa using z)
      rw[e48,ew,this,e0])
     rw[z3]at c4
     simp at c4
    ·refine fin fun⟨_,z⟩=>z ?_
     have z3:w=(("0" : String):Str):=by
      have:¬ (!decide (V.str w=V.str (("0" : String):Str)))=true:=c4
      simpa using this
     rw[z3]
     decide +kernel
   ·refine iteF (fin fun⟨z,_⟩=>c3 (decide_eq_true ?_))
    rw[ew]at z
    cases z
    have:(⟨#[48]⟩:Str)=(("0" : String):Str):=by decide +kernel
    rw[this]
end
end KF
namespace KF
open PySem L2 PyProof.Rows K8
local macro_rules | `(tactic| walk_at "cc") => `(tactic| first | exact ⟨by decide, by decide⟩ | (show (0 : Int) < _; decide) | (show (0 : Int) < _; omega) | (show (0 : Int) ≤ _; omega) | exact ⟨by decide, by decide, by decide⟩ | exact ⟨by omega, by omega, by decide⟩ | exact Or.inl ⟨by decide, by decide⟩ | exact Or.inl ⟨by omega, by omega⟩)
local macro_rules | `(tactic| walk_at "rd") => `(tactic| repeat (first | refine ⟨_, rfl, ?_⟩ | refine ⟨_, _, rfl, rfl, ?_⟩ | refine ⟨rfl, ?_⟩ | (refine ⟨?cc, ?_⟩; (case cc => walk_at "cc"))))
def d9(first row:Str)(k:Nat):Option (List Nat):=match QD row spS with
 |[]=>none
 |w::ws=>if w=first/\(ws.map (nOf k)).all Rz=true then some (ws.map fun z=>(nOf k z).getD 0) else none
def lV(H:Hp)(v:V):Option (List Nat)->Prop
 |none=>v=.non
 |some ns=>∃ a,v=.ref a/\H a=some (.lst (ns.map iV))
def Gv:Sp:=fun vs H Q _=>∃(first row:Str)(k:Nat),vs = [.str first,.str row,.int (k:Int)]/\k<=600/\row.length<=300000/\Asc row/\∀ v H',Same H H'->lV H' v (d9 first row k)->Q v H'
def rY:Sp:=fun vs H Q _=>∃(v:V)(i:Int),vs = [v,.int i]/\v≠.non/\Q v H
def xu(K:P1):Sp:=fun vs H Q _=>∃(a:Addr)(xs:List V)(i:Nat)(x:V),vs = [.ref a,.int (i:Int)]/\SqL K H a xs/\xs[i]?=some x/\Q x H
theorem xj(row:Str)(c:Nat):QD row ⟨#[c]⟩≠[]:=fun z=>by
 have e:=split_len row c
 rw[z]at e
 have:=Ll c row.cps.toList
 simp at e
 omega
theorem NI{c d:Nat}:∀{P:List (List Nat)}{p:List Nat},p∈P->d∈p->d∈jn c P
 |[a],p,hp,hd=>by
  rw[QP.mp hp]at hd
  exact hd
 |a::b::r,p,hp,hd=>by
  show d∈a++c::jn c (b::r)
  rcases P8.mp hp with rfl | hp
  ·exact QF _ hd
  ·exact Qo _ (Qe _ (NI hp hd))
theorem NJ{c:Nat}:∀{P:List (List Nat)}{p:List Nat},p∈P->p.length<=(jn c P).length
 |[a],p,hp=>by rw[QP.mp hp];exact P9 _
 |a::b::r,p,hp=>by
  show _<=(a++c::jn c (b::r)).length
  rw[P2,Qz]
  rcases P8.mp hp with rfl | hp
  ·omega
  ·have:=NJ (c:=c) hp
   omega
theorem zA{row w:Str}{c:Nat}(h:Asc row)(hw:w∈QD row ⟨#[c]⟩):Asc w/\w.length<=row.length:=by
 have h2:=congrArg (fun s:Str=>s.cps.toList) (StrLaws.join_split row ⟨#[c]⟩)
 simp only[nO]at h2
 have hm:w.cps.toList∈(QD row ⟨#[c]⟩).map (·.cps.toList):=Qv.mpr ⟨w,hw,rfl⟩
 constructor
 ·unfold Asc at h ⊢
  rw[← R9]at h ⊢
  rw[QX]at h ⊢
  intro x hx
  refine h x ?_
  rw[← h2]
  exact NI hm hx
 ·rw[rT,rT,← h2]
  exact NJ hm
theorem yT(xs:List V):cutV xs (some 1) none=xs.drop 1:=by
 unfold cutV
 have q:=HT.sIx_nat xs.length 0 1
 rw[show((1:Nat):Int)=(1:Int) from rfl]at q
 rw[q,HT.sIx_none]
 rw[Rr (by rw[Rx];omega)]
 by_cases h:1<=xs.length
 ·rw[RW h]
 ·have e:xs = []:=Sz.mp (by omega)
  subst e
  rfl
theorem NN(k:Nat):∀ zs:List Str,inV .non (zs.map fun z=>oV (nOf k z)) = !((zs.map (nOf k)).all Rz)
 |[]=>rfl
 |z::zs=>by
  have ih:=NN k zs
  unfold inV at ih ⊢
  rw[QA,RA,ih,QA,Sb]
  cases nOf k z<;>rfl
theorem K3(k:Nat):∀ zs:List Str,(zs.map fun z=>oV (nOf k z)).all yH=true
 |[]=>rfl
 |z::zs=>by
  rw[QA,Sb,K3 k zs]
  cases nOf k z<;>rfl
theorem Kc{k:Nat}:∀{zs:List Str},(zs.map (nOf k)).all Rz=true->(zs.map fun z=>oV (nOf k z))=(zs.map fun z=>(nOf k z).getD 0).map iV
 |[],_=>rfl
 |z::zs,h=>by
  rw[QA,Sb,QT]at h
  obtain⟨n,hn⟩:=RP.mp h.1
  rw[QA,QA,QA,Kc h.2,hn]
  rfl
section
variable{P:Program}{w:World}{K:P1}{mg:Str->Option Value}{base:Heap}
theorem FD:aH ["told","at"] ["told","at"] (aj lX):=⟨rfl,rfl,rfl,by decide +kernel,rfl,by decide +kernel,by decide +kernel⟩
theorem Mx{f:Addr}{fd:FuncData} (F:Fun K "right" "right" lX f fd):FnOk P w K mg base CX0 1 f fd ["told","at"] rY:=by
 refine F.ok FD (fun vs H Q E h=>?_) (fun cdv A outer s H vs Q E hr h=>?_)
 ·obtain⟨v,i,rfl,_⟩:=h
  rfl
 obtain⟨v,i,rfl,hv,q⟩:=h
 refine⟨_,(ae (ba (au qq (pv 0) cW (aC _)) (ak da) aL)
   (ak (aJ (pv 0)))),?_⟩
 exact⟨_,rfl,rfl,_,rfl,ite2 (fun c=>absurd (of_decide_eq_true c) hv) (fun _=>⟨_,rfl,q⟩)⟩
theorem zN:aH ["rows","number"] ["rows","number"] (aj ir):=⟨rfl,rfl,rfl,by decide +kernel,rfl,by decide +kernel,by decide +kernel⟩
theorem Mw{f:Addr}{fd:FuncData} (F:Fun K "row_at" "row_at" ir f fd) (T:Txt mg):FnOk P w K mg base CX0 1 f fd ["rows","number"] (xu K):=by
 refine F.ok zN (fun vs H Q E h=>?_) (fun cdv A outer s H vs Q E hr h=>?_)
 ·obtain⟨a,xs,i,x,rfl,_⟩:=h
  rfl
 obtain⟨a,xs,i,x,rfl,hS,hx,q⟩:=h
 refine⟨_,(ae (ba (au G1 (pv 1) (aA aq (by rfl) T.n_len aT (aa (pv 0) af)) (aC _)) (ak da) aL)
   (ak (aJ (aG av (pv 0) (pv 1) (fun _ _=>rfl))))),?_⟩
 have hi:i<xs.length:=(P0.mp hx).1
 refine⟨_,rfl,_,rfl,a,xs,rfl,.inl hS,_,_,rfl,rfl,_,rfl,ite2 (fun c=>absurd (of_decide_eq_true c) (by omega)) (fun _=>?_)⟩
 exact⟨_,rfl,_,rfl,a,xs,_,x,rfl,rfl,hS,aQ hx,q⟩
theorem dj:aH ["first","row","figures","words","numbers"] ["first","row","figures"] (aj br):=⟨rfl,rfl,rfl,by decide +kernel,rfl,by decide +kernel,by decide +kernel⟩
theorem ok_beh{f f1:Addr}{fd fd1:FuncData} (F:Fun K "numbers_behind" "numbers_behind" br f fd) (G_number_of:Cal P w K mg base 1 "number_of" ["word","figures"] spNum f1 fd1):FnOk P w K mg base CX0 2 f fd ["first","row","figures"] Gv:=by
 refine F.ok dj (fun vs H Q E h=>?_) (fun cdv A outer s H vs Q E hr h=>?_)
 ·obtain⟨v,i,k,rfl,_⟩:=h
  rfl
 obtain⟨first,row,k,rfl,hk,hl,ha,kk⟩:=h
 refine⟨_,(ae (ay (i:=3) dj.nd rfl (Or.inl rfl) (bK QV Rh R4 rE (pv 1) (aa aM af)))
   (ae (kL (i:=4) rfl dj.nd rfl rfl (fr:=[("figures",2)]) (by exact cq.one (by rfl) (by decide +kernel) (by rfl) (by decide +kernel) (by rfl) (by decide +kernel) (by rfl) (by rfl) (by decide +kernel) (by rfl)) (b4 (gg lU (pv 3) (iu ai) l5)) (fun C ex s H=>(ax G_number_of.ok (hr.mono (by decide)) rfl G_number_of.mg G_number_of.kp G_number_of.bn .nil aN (aa (pv 0) (aa (pv 1) af)))))
   (ae (ba (PW.pt (gy (au fP (aG av (pv 3) ai (fun _ _=>rfl)) (pv 0) (aC _)) (fN (au jE cW (pv 4) (by with_unfolding_all rfl))))) (ak (aJ cW)) aL)
   (ak (aJ (pv 4)))))),?_⟩
 rw[rV]
 have sl:=split_le row spS
 have s1:(400000:Nat)<=sizeLine:=by decide
 refine⟨_,rfl,rfl,row,spS,rfl,rfl,rfl,by omega,fun l hl=>?_⟩
 obtain⟨w0,ws,ew⟩:=Rt (xj row 32)
 have ew':QD row spS=w0::ws:=ew
 rw[ew']
 rw[ew',Qz]at sl
 refine⟨_,rfl,_,rfl,l,_,rfl,SqL.of ag,fun c hc=>?_⟩
 have ec:cutV ((w0::ws).map V.str) (some 1) none=ws.map V.str:=yT _
 rw[ec]
 refine⟨c,rfl,⟨_,SqL.of ag⟩,?_⟩
 have sA:Same H (upd H l (.lst ((w0::ws).map V.str))):=ao hl _
 have sB:=ao hc (.lst (ws.map V.str))
 generalize hH1:upd (upd H l (.lst ((w0::ws).map V.str))) c (.lst (ws.map V.str))=H1 at sB ⊢
 have cH1:H1 c=some (.lst (ws.map V.str)):=by rw[← hH1,ag]
 have lH1:H1 l=some (.lst ((w0::ws).map V.str)):=sB _ _ ag
 have aw:∀ z∈w0::ws,Asc z/\z.length<=row.length:=fun z hz=>zA (c:=32) ha (by rw[ew];exact hz)
 refine d8 (K:=K) (xs:=ws.map V.str) (fun i ys H2=>ys=(ws.take i).map (fun z=>oV (nOf k z))/\Same H1 H2) (by rw[P5];omega) ⟨rfl,fun _ _ q=>q⟩ (fun i ys H2 _ ⟨_,z⟩=>SqL.of (z _ _ cH1)) ?_ ?_
 ·rintro i x ys H2 hx ⟨rfl,s2⟩
  rw[Qd]at hx
  obtain⟨z,hz,rfl⟩:=QJ.mp hx
  have az:=aw z (Qe _ (P7 hz))
  refine⟨_,rfl,_,rfl,z,k,rfl,hk,by omega,az.1,fun H' s'=>⟨?_,s2.trans s'⟩⟩
  rw[QI,hz,QE]
  rfl
 ·rintro ys H2 _ ⟨rfl,s2⟩ D hD
  rw[P5,QN]
  have sD:=ao hD (.lst (ws.map fun z=>oV (nOf k z)))
  have sAll:Same H (upd H2 D (.lst (ws.map fun z=>oV (nOf k z)))):=sA.trans (sB.trans (s2.trans sD))
  have eb:d9 first row k=if w0=first/\(ws.map (nOf k)).all Rz=true then some (ws.map fun z=>(nOf k z).getD 0) else none:=by
   unfold d9
   rw[ew']
  have ed:(!decide (V.str w0=V.str first)) = !decide (w0=first):=congrArg _ (decide_eq_decide.mpr ⟨V.str.inj,congrArg V.str⟩)
  refine⟨_,rfl,l,_,0,.str w0,rfl,rfl,SqL.of (sD _ _ (s2 _ _ lH1)),mZ,_,rfl,rfl,_,rfl,?_⟩
  rw[ed]
  refine ite2 (fun c1=>iteT (kk _ _ sAll ?_)) (fun c1=>?_)
  ·rw[eb,if_neg fun z=>by rw[decide_eq_true z.1]at c1;cases c1]
   rfl
  refine⟨_,rfl,D,_,rfl,.inl (SqL.of ag),rfl,K3 k ws,_,rfl,?_⟩
  have ef:(if false=true then !inV V.non (ws.map fun z=>oV (nOf k z)) else inV V.non (ws.map fun z=>oV (nOf k z))) = !((ws.map (nOf k)).all Rz):=NN k ws
  rw[ef]
  cases hall:(ws.map (nOf k)).all Rz with
  |false =>
   refine iteT (kk _ _ sAll ?_)
   rw[eb,if_neg fun z=>by rw[hall]at z;exact Bool.noConfusion z.2]
   rfl
  |true =>
   refine iteF ⟨_,rfl,kk _ _ sAll ?_⟩
   have w1:w0=first:=Decidable.byContradiction fun z=>c1 (by rw[decide_eq_false z];rfl)
   rw[eb,if_pos ⟨w1,hall⟩]
   exact⟨D,rfl,by rw[ag,Kc hall]⟩
end
end KF
namespace KF
open PySem L2 PyProof.Rows K8
local macro_rules | `(tactic| walk_at "cc") => `(tactic| first | exact ⟨by decide, by decide⟩ | (show (0 : Int) < _; decide) | (show (0 : Int) < _; omega) | (show (0 : Int) ≤ _; omega) | exact ⟨by decide, by decide, by decide⟩ | exact ⟨by omega, by omega, by decide⟩ | exact Or.inl ⟨by decide, by decide⟩ | exact Or.inl ⟨by omega, by omega⟩)
local macro_rules | `(tactic| walk_at "rd") => `(tactic| repeat (first | refine ⟨_, rfl, ?_⟩ | refine ⟨_, _, rfl, rfl, ?_⟩ | refine ⟨rfl, ?_⟩ | (refine ⟨?cc, ?_⟩; (case cc => walk_at "cc"))))
theorem o4{K:P1}{H:Hp}{a:Addr}{ps:List Nat}(h:SqL K H a (ps.map iV)):RdD K H (.ref a) (.list ((ps.map fun(p:Nat)=>((p:Nat):Int)).map PyData.int)):=by
 refine RdD.lst h (by simp) fun i x d e1 e2=>?_
 rw[Qd]at e1
 rw[Qd,Qd]at e2
 cases z:ps[i]? with
 |none=>rw[z]at e1;cases e1
 |some n =>
  rw[z]at e1 e2
  cases e1
  cases e2
  exact .int _
theorem iU(l:List Int):SeqAt.shaped (.list (l.map PyData.int))=true:=sj fun d hd=>by
 obtain⟨x,_,rfl⟩:=Qv.mp hd
 exact⟨by simp[PyData.canLay0],by simp[PyData.depth]⟩
theorem nv{X:Cx}{x:Str}{n:Int}{pos:Pos}(hg:Gl X x)(hm:∃ t,X.mg x=some (.int n t)) (hd:(x == ("__debug__" : Str))=false:=by decide):PE X (.Name x pos) (tC (.int n)):=by
 obtain⟨t,h⟩:=hm
 exact JC hg h ⟨t,rfl⟩ hd
def Rw(row:Str):Prop:=row.length<=300000/\Asc row
def fw(row:Str):Str:=(PySem.Txt.partition row spS).1
def spFW:Sp:=fun vs H Q _=>∃ row:Str,vs = [.str row]/\row.length<=300000/\∀ H',Same H H'->Q (.str (fw row)) H'
def rB:Sp:=fun vs H Q _=>∃(row:Str)(m:Nat),vs = [.str row]/\Rw row/\d9 (("places" : String):Str) row 31=some [m]/\2<=m/\m<=40/\∀ H',Same H H'->Q (iV m) H'
def Jc:Sp:=fun vs H Q _=>∃(row:Str)(a b s:Nat),vs = [.str row]/\Rw row/\d9 (fw row) row 31=some [a,b,s]/\s<=10^30/\∀ p H',Same H H'->H' p=some (.tup [.str (fw row),iV a,iV b,iV s])->Q (.ref p) H'
def xq:Sp:=fun vs H Q _=>∃(row:Str)(pl:Nat)(r:List Nat),vs = [iV pl,.str row]/\Rw row/\d9 (("about" : String):Str) row 31=some (pl::r)/\r.length<=1000/\∀ p H',Same H H'->H p=none->H' p=some (.lst (r.map iV))->Q (.ref p) H'
section
variable{P:Program}{w:World}{K:P1}{mg:Str->Option Value}{base:Heap}
theorem xQ:aH ["row"] ["row"] (aj cU):=⟨rfl,rfl,rfl,by decide +kernel,rfl,by decide +kernel,by decide +kernel⟩
theorem ok_fw{f:Addr}{fd:FuncData} (F:Fun K "first_word" "first_word" cU f fd):FnOk P w K mg base CX0 1 f fd ["row"] spFW:=by
 refine F.ok xQ (fun vs H Q E h=>?_) (fun cdv A outer s H vs Q E hr h=>?_)
 ·obtain⟨row,rfl,_⟩:=h
  rfl
 obtain⟨row,rfl,hl,kk⟩:=h
 refine⟨_,(ak (aJ (aG a8 (bK QV Te PySem.F.type_str_partition AG (pv 0) (aa aM af)) ai (fun _ _=>rfl)))),?_⟩
 rw[rV]
 refine⟨_,rfl,rfl,row,spS,rfl,rfl,rfl,by omega,fun l hl=>?_⟩
 exact⟨l,_,0,_,rfl,rfl,SqT.of ag,rfl,kk _ (ao hl _)⟩
theorem ly:aH ["row","numbers"] ["row"] (aj cv):=⟨rfl,rfl,rfl,by decide +kernel,rfl,by decide +kernel,by decide +kernel⟩
theorem JS{f f1:Addr}{fd fd1:FuncData} (F:Fun K "places_told" "places_told" cv f fd) (T:Txt mg) (G_numbers_behind:Cal P w K mg base 2 "numbers_behind" ["first","row","figures"] Gv f1 fd1):FnOk P w K mg base CX0 3 f fd ["row"] rB:=by
 refine F.ok ly (fun vs H Q E h=>?_) (fun cdv A outer s H vs Q E hr h=>?_)
 ·obtain⟨row,m,rfl,_⟩:=h
  rfl
 obtain⟨row,m,rfl,hR,hb,m2,m40,kk⟩:=h
 refine⟨_,(ae (ay (i:=1) ly.nd rfl (Or.inl rfl) (ax G_numbers_behind.ok (hr.mono (by decide)) rfl G_numbers_behind.mg G_numbers_behind.kp G_numbers_behind.bn .nil aN (aa aM (aa (pv 0) (aa (nv rfl T.figs) af)))))
   (ae (ba (PW.pt (gy (au qq (pv 1) cW (aC _)) (gy (au fP (aA aq (by rfl) T.n_len aT (aa (pv 1) af)) ai (aC _)) (gy (au Af (aG av (pv 1) ai (fun _ _=>rfl)) ai (aC _)) (fN (au l6 (aG av (pv 1) ai (fun _ _=>rfl)) ai (aC _))))))) (ak (aJ cW)) aL)
   (ak (aJ (aG av (pv 1) ai (fun _ _=>rfl)))))),?_⟩
 refine⟨_,rfl,_,row,31,rfl,by decide,hR.1,hR.2,fun v H1 s1 hv=>?_⟩
 rw[hb]at hv
 obtain⟨a,rfl,ha⟩:=hv
 refine⟨_,rfl,rfl,_,rfl,ite2 (fun c=>absurd (of_decide_eq_true c) (by intro z;cases z)) (fun _=>?_)⟩
 refine⟨_,rfl,a,_,rfl,.inl (SqL.of ha),rfl,_,rfl,iteF ?_⟩
 refine⟨_,rfl,a,_,0,_,rfl,rfl,SqL.of ha,mZ,_,_,rfl,rfl,_,rfl,ite2 (fun c=>absurd (of_decide_eq_true c) (by omega)) (fun _=>?_)⟩
 refine⟨_,rfl,a,_,0,_,rfl,rfl,SqL.of ha,mZ,_,_,rfl,rfl,_,rfl,ite2 (fun c=>absurd (of_decide_eq_true c) (by omega)) (fun _=>?_)⟩
 exact⟨_,rfl,a,_,0,_,rfl,rfl,SqL.of ha,mZ,kk _ s1⟩
theorem lW:aH ["row","kind","numbers"] ["row"] (aj fB):=⟨rfl,rfl,rfl,by decide +kernel,rfl,by decide +kernel,by decide +kernel⟩
theorem OM{f f1 f2:Addr}{fd fd1 fd2:FuncData} (F:Fun K "tie_told" "tie_told" fB f fd) (T:Txt mg) (G_first_word:Cal P w K mg base 1 "first_word" ["row"] spFW f2 fd2) (G_numbers_behind:Cal P w K mg base 2 "numbers_behind" ["first","row","figures"] Gv f1 fd1):FnOk P w K mg base CX0 3 f fd ["row"] Jc:=by
 refine F.ok lW (fun vs H Q E h=>?_) (fun cdv A outer s H vs Q E hr h=>?_)
 ·obtain⟨row,a,b,s',rfl,_⟩:=h
  rfl
 obtain⟨row,a,b,s',rfl,hR,hb,hs,kk⟩:=h
 refine⟨_,(ae (ay (i:=1) lW.nd rfl (Or.inl rfl) (ax G_first_word.ok (hr.mono (by decide)) rfl G_first_word.mg G_first_word.kp G_first_word.bn .nil aN (aa (pv 0) af)))
   (ae (ay (i:=2) lW.nd rfl (Or.inl rfl) (ax G_numbers_behind.ok (hr.mono (by decide)) rfl G_numbers_behind.mg G_numbers_behind.kp G_numbers_behind.bn .nil aN (aa (pv 1) (aa (pv 0) (aa (nv rfl T.figs) af)))))
   (ae (ba (PW.pt (gy (au qq (pv 2) cW (aC _)) (gy (au fP (aA aq (by rfl) T.n_len aT (aa (pv 2) af)) ai (aC _)) (fN (au l6 (aG av (pv 2) ai (fun _ _=>rfl)) (aE Ad ai ai) (aC _)))))) (ak (aJ cW)) aL)
   (ak (aJ (eS (aa (pv 1) (aa (aG av (pv 2) ai (fun _ _=>rfl)) (aa (aG av (pv 2) ai (fun _ _=>rfl)) (aa (aG av (pv 2) ai (fun _ _=>rfl)) af)))))))))),?_⟩
 refine⟨_,rfl,row,rfl,hR.1,fun H0 s0=>?_⟩
 refine⟨_,rfl,_,rfl,_,row,31,rfl,by decide,hR.1,hR.2,fun v H1 s1 hv=>?_⟩
 rw[hb]at hv
 obtain⟨q,rfl,hq⟩:=hv
 have e30:(10:Int)^(30:Int).toNat=((10^30:Nat):Int):=by decide
 refine⟨_,rfl,rfl,_,rfl,ite2 (fun c=>absurd (of_decide_eq_true c) (by intro z;cases z)) (fun _=>?_)⟩
 refine⟨_,rfl,q,_,rfl,.inl (SqL.of hq),rfl,_,rfl,iteF ?_⟩
 refine⟨_,rfl,q,_,2,_,rfl,rfl,SqL.of hq,(rfl:atI [iV a,iV b,iV s'] 2=some (iV s')),_,_,rfl,rfl,⟨by decide,by decide,by decide⟩,_,_,rfl,rfl,_,rfl,ite2 (fun c=>absurd (of_decide_eq_true c) (by rw[e30];omega)) (fun _=>?_)⟩
 refine⟨_,rfl,_,rfl,q,_,0,_,rfl,rfl,SqL.of hq,(rfl:atI [iV a,iV b,iV s'] 0=some (iV a)),_,rfl,q,_,1,_,rfl,rfl,SqL.of hq,(rfl:atI [iV a,iV b,iV s'] 1=some (iV b)),_,rfl,q,_,2,_,rfl,rfl,SqL.of hq,(rfl:atI [iV a,iV b,iV s'] 2=some (iV s')),(by show 4<=sizeLine;decide),fun t ht=>?_⟩
 exact kk t _ (s0.trans (s1.trans (ao ht _))) ag
theorem qp:aH ["place","row","numbers"] ["place","row"] (aj dm):=⟨rfl,rfl,rfl,by decide +kernel,rfl,by decide +kernel,by decide +kernel⟩
theorem Mt{f f1:Addr}{fd fd1:FuncData} (F:Fun K "turn_told" "turn_told" dm f fd) (T:Txt mg) (G_numbers_behind:Cal P w K mg base 2 "numbers_behind" ["first","row","figures"] Gv f1 fd1):FnOk P w K mg base CX0 3 f fd ["place","row"] xq:=by
 refine F.ok qp (fun vs H Q E h=>?_) (fun cdv A outer s H vs Q E hr h=>?_)
 ·obtain⟨row,pl,r,rfl,_⟩:=h
  rfl
 obtain⟨row,pl,r,rfl,hR,hb,rl,kk⟩:=h
 have hu64:=hr.units
 refine⟨_,(ae (ay (i:=2) qp.nd rfl (Or.inl rfl) (ax G_numbers_behind.ok (hr.mono (by decide)) rfl G_numbers_behind.mg G_numbers_behind.kp G_numbers_behind.bn .nil aN (aa aM (aa (pv 1) (aa (nv rfl T.figs) af)))))
   (ae (ba (PW.pt (gy (au qq (pv 2) cW (aC _)) (gy (au (Nx hu64) (pv 2) (bg af) (aC _)) (fN (au fP (aG av (pv 2) ai (fun _ _=>rfl)) (pv 0) (aC _)))))) (ak (aJ cW)) aL)
   (ak (aJ (gg lU (pv 2) (iu ai) l5))))),?_⟩
 refine⟨_,rfl,_,row,31,rfl,by decide,hR.1,hR.2,fun v H1 s1 hv=>?_⟩
 rw[hb]at hv
 obtain⟨a,rfl,ha⟩:=hv
 refine⟨_,rfl,rfl,_,rfl,ite2 (fun c=>absurd (of_decide_eq_true c) (by intro z;cases z)) (fun _=>?_)⟩
 refine⟨_,rfl,(by show 0<=sizeLine;decide),fun e he=>?_⟩
 have se:=ao he (.lst [])
 have ha':=se _ _ ha
 refine⟨_,_,o4 (ps:=pl::r) (SqL.of ha'),o4 (ps:=[]) (SqL.of ag),iU _,iU _,_,rfl,?_⟩
 rw[F9]
 refine iteF ?_
 refine⟨_,rfl,a,_,0,_,rfl,rfl,SqL.of ha',mZ,_,rfl,rfl,_,rfl,?_⟩
 rw[decide_eq_true rfl]
 refine iteF ⟨_,rfl,_,rfl,a,_,rfl,SqL.of ha',fun q hq=>?_⟩
 have ec:cutV ((pl::r).map iV) (some 1) none=r.map iV:=yT _
 rw[ec]
 refine kk q _ (s1.trans (se.trans (ao hq _))) ?_ ag
 cases y:H q with
 |none=>rfl
 |some o=>rw[se _ _ (s1 _ _ y)]at hq;cases hq
end
end KF
namespace KF
open PySem L2 PyProof.Rows K8
local macro_rules | `(tactic| walk_at "cc") => `(tactic| first | exact ⟨by decide, by decide⟩ | (show (0 : Int) < _; decide) | (show (0 : Int) < _; omega) | (show (0 : Int) ≤ _; omega) | exact ⟨by decide, by decide, by decide⟩ | exact ⟨by omega, by omega, by decide⟩ | exact Or.inl ⟨by decide, by decide⟩ | exact Or.inl ⟨by omega, by omega⟩)
local macro_rules | `(tactic| walk_at "rd") => `(tactic| repeat (first | refine ⟨_, rfl, ?_⟩ | refine ⟨_, _, rfl, rfl, ?_⟩ | refine ⟨rfl, ?_⟩ | (refine ⟨?cc, ?_⟩; (case cc => walk_at "cc"))))
def kS(k:Int):Str:=if k=1 then "push" else "pull"
theorem Ac{X:Cx}{e:Expr}{t1 t2:TE}(h1:PE X e t1)(h2:PE X e t2):PE X e (fun σ H Q=>t1 σ H Q∨t2 σ H Q):=fun pins s σ H Q I h=>h.elim (h1 pins s σ H Q I) (h2 pins s σ H Q I)
def KpL(S:Addr->Prop)(H H':Hp):Prop:=∀ b o,H b=some o->((∀ xs,o≠.lst xs)∨¬ S b)->H' b=some o
theorem KpL.of{S:Addr->Prop}{H H':Hp}(s:Same H H'):KpL S H H':=fun b o e _=>s b o e
def WebW(S:Addr->Prop)(PL PS WC:Addr)(H:Hp)(p:Addr)(m:Nat)(es:En)(ts:List (List Nat))(ks:Kn):Prop:=∃ dx fs q1 xs qt zt,H p=some (.ins WC dx fs)/\fs.lookup ("many" : Str)=some (.int (m:Int))/\fs.lookup ("ties" : Str)=some (.ref q1)/\¬ S q1/\H q1=some (.lst xs)/\fZ PL PS H xs es ks/\fs.lookup ("turns" : Str)=some (.ref qt)/\¬ S qt/\H qt=some (.lst zt)/\dh S H zt ts
theorem ww_of{S:Addr->Prop}{PL PS WC p:Addr}{H:Hp}{m:Nat}{es:En}{ts rs:List (List Nat)}{ks:Kn}(h:WebF S PL PS WC H p m es ts rs ks):WebW S PL PS WC H p m es ts ks:=by
 obtain⟨dx,fs,q1,xs,hp,⟨many,⟨qt,zt,lt,nt,hqt,rt⟩,_,_,_⟩,n1,lk,hq1,tk⟩:=h
 exact⟨dx,fs,q1,xs,qt,zt,hp,many,lk,n1,hq1,tk,lt,nt,hqt,rt⟩
def Kp2(S:Addr->Prop)(H H':Hp):Prop:=∀ b o,H b=some o->(((∃ xs,o=.lst xs)/\¬ S b)∨∃ C dx fs,o=.ins C dx fs/\fs≠[])->H' b=some o
theorem WebW.mono2{S S':Addr->Prop}{PL PS WC p:Addr}{H H':Hp}{m:Nat}{es:En}{ts:List (List Nat)}{ks:Kn}(h:WebW S PL PS WC H p m es ts ks)(k:Kp2 S H H')(i:∀ a xs,S' a->H a=some (.lst xs)->S a):WebW S' PL PS WC H' p m es ts ks:=by
 obtain⟨dx,fs,q1,xs,qt,zt,hp,many,lk,n1,hq1,tk,lt,nt,hqt,rt⟩:=h
 refine⟨dx,fs,q1,xs,qt,zt,k _ _ hp (.inr ⟨_,_,_,rfl,fun z=>by rw[z]at many;cases many⟩),many,lk,fun z=>n1 (i _ _ z hq1),k _ _ hq1 (.inl ⟨⟨_,rfl⟩,n1⟩),⟨tk.1,fun j e y a b=>?_⟩,lt,fun z=>nt (i _ _ z hqt),k _ _ hqt (.inl ⟨⟨_,rfl⟩,nt⟩),rt.1,fun j l a=>?_⟩
 ·obtain⟨p',dx',a1,a2⟩:=tk.2 j e y a b
  exact⟨p',dx',a1,k _ _ a2 (.inr ⟨_,_,_,rfl,fun z=>by have:=lu (e.1:Int) (e.2:Int) y.2;rw[z]at this;cases this⟩)⟩
 ·obtain⟨r,a1,a2,a3⟩:=rt.2 j l a
  exact⟨r,a1,fun z=>a2 (i _ _ z a3),k _ _ a3 (.inl ⟨⟨_,rfl⟩,a2⟩)⟩
theorem WebW.mono{S S':Addr->Prop}{PL PS WC p:Addr}{H H':Hp}{m:Nat}{es:En}{ts:List (List Nat)}{ks:Kn}(h:WebW S PL PS WC H p m es ts ks)(k:KpL S H H')(i:∀ a,S' a->S a):WebW S' PL PS WC H' p m es ts ks:=by
 obtain⟨dx,fs,q1,xs,qt,zt,hp,many,lk,n1,hq1,tk,lt,nt,hqt,rt⟩:=h
 refine⟨dx,fs,q1,xs,qt,zt,k _ _ hp (.inl fun xs z=>by cases z),many,lk,fun z=>n1 (i _ z),k _ _ hq1 (.inr n1),⟨tk.1,fun j e y a b=>?_⟩,lt,fun z=>nt (i _ z),k _ _ hqt (.inr nt),rt.1,fun j l a=>?_⟩
 ·obtain⟨p',dx',a1,a2⟩:=tk.2 j e y a b
  exact⟨p',dx',a1,k _ _ a2 (.inl fun xs z=>by cases z)⟩
 ·obtain⟨r,a1,a2,a3⟩:=rt.2 j l a
  exact⟨r,a1,fun z=>a2 (i _ z),k _ _ a3 (.inr a2)⟩
def qo(push:Bool):Sp:=fun vs H Q _=>∃ p,vs = [.ref p]/\Q (.int (if push=true then 1 else 0)) H
theorem C0{ws:List Str}{k:Nat}(h:∀ w∈ws,w.length<=k):(rowT ws).length<=ws.length*k+ws.length+1:=by
 have sl:=ik h
 have jl:=nN 32 ws
 unfold rowT
 rw[Str.length_append]
 show(Str.join ⟨#[32]⟩ ws).length+1<=_
 omega
def plW:Str:=(("places" : String):Str)
def abW:Str:=(("about" : String):Str)
def tieW(e:Nat×Nat)(k:Int×Int):List Str:=[kS k.1,tx e.1,tx e.2,tx k.2.toNat]
def abRW(i:Nat)(l:List Nat):List Str:=abW::tx i::l.map tx
def aO(m:Nat)(es:En)(ks:Kn)(ts:List (List Nat)):List (List Str):=[plW,tx m]::((QW es.length).map (fun i=>tieW (es.getD i (0,0)) (ks.getD i (0,0)))++(QW ts.length).map fun i=>abRW i (ts.getD i []))
def webT(m:Nat)(es:En)(ks:Kn)(ts:List (List Nat)):Str:=Str.join Str.empty ((aO m es ks ts).map rowT)
structure Wr(m:Nat)(es:En)(ks:Kn)(ts:List (List Nat)):Prop where
 kl:ks.length=es.length
 few:es.length<=63
 m2:2<=m
 m40:m<=40
 tl:ts.length=m
 kk:∀ k∈ks,(k.1=0∨k.1=1)/\0<=k.2/\k.2<=10^30
 ee:∀ e∈es,e.1<40/\e.2<40
 rl:∀ l∈ts,l.length<=63/\∀ t∈l,t<63
theorem NH(k:Int):(kS k).length=4:=by
 unfold kS
 split<;>decide +kernel
theorem tx31{n:Nat}(h:n<=10^30):(tx n).length<=31:=Fz (k:=30) (SW h (by decide))
theorem tx2{n:Nat}(h:n<100):(tx n).length<=2:=Fz (k:=1) h
theorem kY{α:Type}{l:List α}{i:Nat}{d:α}(h:i<l.length):l.getD i d∈l:=by
 rw[Qi,PZ h]
 exact QO h
theorem Wr.tw{m:Nat}{es:En}{ks:Kn}{ts:List (List Nat)}(w:Wr m es ks ts){i:Nat}(h:i<es.length):∀ z∈tieW (es.getD i (0,0)) (ks.getD i (0,0)),z.length<=31:=fun z hz=>by
 have e:=w.ee _ (kY (d:=(0,0)) h)
 have k:=w.kk _ (kY (d:=(0,0)) (by rw[w.kl];exact h))
 unfold tieW at hz
 simp only[P8,Q4,or_false]at hz
 rcases hz with rfl | rfl | rfl | rfl
 ·rw[NH];omega
 ·have:=tx2 (n:=(es.getD i (0,0)).1) (by omega);omega
 ·have:=tx2 (n:=(es.getD i (0,0)).2) (by omega);omega
 ·exact tx31 (by omega)
theorem Wr.aw{m:Nat}{es:En}{ks:Kn}{ts:List (List Nat)}(w:Wr m es ks ts){i:Nat}(h:i<ts.length):(∀ z∈abRW i (ts.getD i []),z.length<=5)/\(abRW i (ts.getD i [])).length<=65:=by
 have r:=w.rl _ (kY (d:=[]) h)
 have:=w.tl
 have:=w.m40
 refine⟨fun z hz=>?_,by unfold abRW;rw[Qz,Qz,P5];omega⟩
 unfold abRW at hz
 rcases P8.mp hz with rfl | hz
 ·decide +kernel
 rcases P8.mp hz with rfl | hz
 ·have:=tx2 (n:=i) (by omega);omega
 ·obtain⟨t,ht,rfl⟩:=Qv.mp hz
  have:=r.2 t ht
  have:=tx2 (n:=t) (by omega);omega
theorem Wr.rows{m:Nat}{es:En}{ks:Kn}{ts:List (List Nat)}(w:Wr m es ks ts):(∀ r∈(aO m es ks ts).map rowT,r.length<=400)/\((aO m es ks ts).map rowT).length<=104:=by
 have:=w.tl
 have:=w.m40
 have:=w.few
 refine⟨fun r hr=>?_,by unfold aO;simp;omega⟩
 obtain⟨ws,hw,rfl⟩:=Qv.mp hr
 unfold aO at hw
 rcases P8.mp hw with rfl | hw
 ·have h:=C0 (ws:=[plW,tx m]) (k:=6) fun z hz=>by
   rcases P8.mp hz with rfl | hz
   ·decide +kernel
   ·rw[QP.mp hz]
    have:=tx2 (n:=m) (by omega)
    omega
  have:([plW,tx m]:List Str).length=2:=rfl
  omega
 rcases Qf.mp hw with hw | hw
 ·obtain⟨i,hi,rfl⟩:=Qv.mp hw
  have h:=C0 (w.tw (RI.mp hi))
  have:(tieW (es.getD i (0,0)) (ks.getD i (0,0))).length=4:=rfl
  omega
 ·obtain⟨i,hi,rfl⟩:=Qv.mp hw
  obtain⟨h1,h2⟩:=w.aw (RI.mp hi)
  have h:=C0 h1
  omega
def xr(PL PS:Addr):Sp:=fun vs H Q _=>∃(p dx:Addr)(e:Nat×Nat)(k:Int×Int),vs = [.ref p]/\H p=some (.ins (cls PL PS (decide (k.1=1))) dx (tf (e.1:Int) (e.2:Int) k.2))/\(k.1=0∨k.1=1)/\0<=k.2/\k.2<=10^30/\e.1<40/\e.2<40/\∀ H',Same H H'->Q (.str (rowT (tieW e k))) H'
def rW(PL PS WC:Addr):Sp:=fun vs H Q _=>∃(S:Addr->Prop)(p:Addr)(m:Nat)(es:En)(ts:List (List Nat))(ks:Kn),vs = [.ref p]/\WebW S PL PS WC H p m es ts ks/\Wr m es ks ts/\∀ H',Same H H'->Q (.str (webT m es ks ts)) H'
section
variable{P:Program}{w:World}{K:P1}{mg:Str->Option Value}{base:Heap}
theorem CS:aH ["self"] ["self"] (aj fJ):=⟨rfl,rfl,rfl,by decide +kernel,rfl,by decide +kernel,by decide +kernel⟩
theorem Mr{f:Addr}{fd:FuncData} (F:Fun K "wish" "Tie.wish" fJ f fd):FnOk P w K mg base CX0 1 f fd ["self"] (qo false):=by
 refine F.ok CS (fun vs H Q E h=>?_) (fun cdv A outer s H vs Q E hr h=>?_)
 ·obtain⟨p,rfl,_⟩:=h
  rfl
 obtain⟨p,rfl,k⟩:=h
 exact⟨_,(ak (aJ ai)),k⟩
theorem zP:aH ["self"] ["self"] (aj dE):=⟨rfl,rfl,rfl,by decide +kernel,rfl,by decide +kernel,by decide +kernel⟩
theorem Mq{f:Addr}{fd:FuncData} (F:Fun K "wish" "Push.wish" dE f fd):FnOk P w K mg base CX0 1 f fd ["self"] (qo true):=by
 refine F.ok zP (fun vs H Q E h=>?_) (fun cdv A outer s H vs Q E hr h=>?_)
 ·obtain⟨p,rfl,_⟩:=h
  rfl
 obtain⟨p,rfl,k⟩:=h
 exact⟨_,(ak (aJ ai)),k⟩
theorem wu:aH ["tie","kind"] ["tie"] (aj gY):=⟨rfl,rfl,rfl,by decide +kernel,rfl,by decide +kernel,by decide +kernel⟩
theorem JN{f f1 f0 g1 PL PS:Addr}{fd d1 d0 e1:FuncData} (F:Fun K "tie_row" "tie_row" gY f fd) (TL:CT K PL) (TS:CT K PS) (G_row_of:Cal P w K mg base 1 "row_of" ["words"] (spRow K) f1 d1) (u0:Met P w K mg base 1 PL "wish" ["self"] (qo false) f0 d0) (u1:Met P w K mg base 1 PS "wish" ["self"] (qo true) g1 e1):FnOk P w K mg base CX0 2 f fd ["tie"] (xr PL PS):=by
 refine F.ok wu (fun vs H Q E h=>?_) (fun cdv A outer s H vs Q E hr h=>?_)
 ·obtain⟨p,dx,e,k,rfl,_⟩:=h
  rfl
 obtain⟨p,dx,e,k,rfl,hp,k01,k0,k30,l1,l2,kk⟩:=h
 have CL0:=TL.cl
 have CL1:=TS.cl
 refine⟨_,(ae (ay (i:=1) wu.nd rfl (Or.inl rfl) (kM (au eY (Ac (gh (pv 0) CL0 u0.me u0.ok (hr.mono (by decide)) u0.bn .nil aN) (gh (pv 0) CL1 u1.me u1.ok (hr.mono (by decide)) u1.bn .nil aN)) ai (aC _)) aM aM))
   (ak (aJ (ax G_row_of.ok (hr.mono (by decide)) rfl G_row_of.mg G_row_of.kp G_row_of.bn .nil aN (aa (bg (aa (pv 1) (aa (bh (pv 0) rfl) (aa (bh (pv 0) rfl) (aa (bh (pv 0) rfl) af))))) af))))),?_⟩
 obtain⟨n,hn⟩:∃ n:Nat,k.2=(n:Int):=⟨k.2.toNat,by omega⟩
 have fin:∀ C:Addr,CT K C->H p=some (.ins C dx (tf (e.1:Int) (e.2:Int) k.2))->(tAsg (tC (V.str (kS k.1))) (Pn 1)) { nx:=fun σ H1=>tRet (tCall (spRow K) [] E0 (bP (tLst (bP (tVar 1) (bP (tFld K (tVar 0) "one") (bP (tFld K (tVar 0) "two") (bP (tFld K (tVar 0) "strength") tNil))))) tNil)) { nx:=fun x H'=>Q V.non H',rt:=Q } σ H1,rt:=Q } [some (.ref p),none] H:=fun C CC hp=>by
  refine⟨_,rfl,_,rfl,p,C,dx,_,_,rfl,hp,CC.cl,CC.n1,lu _ _ _,_,rfl,p,C,dx,_,_,rfl,hp,CC.cl,CC.n2,rR _ _ _,_,rfl,p,C,dx,_,_,rfl,hp,CC.cl,CC.n3,Nn _ _ _,(by show 4<=sizeLine;decide),fun a ha=>?_⟩
  refine⟨a,_,rfl,SqL.of ag,(by show 4<=100;decide),fun v hv=>?_,fun H' s'=>?_⟩
  ·simp only[P8,Q4,or_false]at hv
   rcases hv with rfl | rfl | rfl | rfl
   ·exact⟨.inl ⟨_,rfl⟩,by show(kS k.1).length<=100;rw[NH];decide⟩
   ·exact⟨.inr ⟨e.1,rfl,by omega⟩,by show(tx e.1).length<=100;have:=tx2 (n:=e.1) (by omega);omega⟩
   ·exact⟨.inr ⟨e.2,rfl,by omega⟩,by show(tx e.2).length<=100;have:=tx2 (n:=e.2) (by omega);omega⟩
   ·rw[hn]
    exact⟨.inr ⟨n,rfl,by omega⟩,by show(tx n).length<=100;have:=tx31 (n:=n) (by omega);omega⟩
  ·have z:=kk _ ((ao ha _).trans s')
   unfold tieW at z
   rw[hn]at z ⊢
   exact z
 by_cases c:k.1=1
 ·rw[decide_eq_true c]at hp
  refine .inr ⟨_,rfl,p,dx,_,rfl,hp,Mb _ _ _ (by decide +kernel) (by decide +kernel) (by decide +kernel),p,rfl,rfl,_,rfl,?_⟩
  have z:=fin PS TS hp
  rw[show kS k.1=(("push" : String):Str) from by rw[c];rfl]at z
  exact iteT z
 ·rw[decide_eq_false c]at hp
  refine .inl ⟨_,rfl,p,dx,_,rfl,hp,Mb _ _ _ (by decide +kernel) (by decide +kernel) (by decide +kernel),p,rfl,rfl,_,rfl,?_⟩
  have z:=fin PL TL hp
  rw[show kS k.1=(("pull" : String):Str) from by unfold kS;rw[if_neg c]]at z
  exact iteF z
theorem wq:aH ["web","rows"] ["web"] (aj gX):=⟨rfl,rfl,rfl,by decide +kernel,rfl,by decide +kernel,by decide +kernel⟩
theorem G3{f f1 f2 PL PS WC:Addr}{fd d1 d2:FuncData} (F:Fun K "written" "written" gX f fd) (T:Txt mg) (cw:CW K WC) (G_row_of:Cal P w K mg base 1 "row_of" ["words"] (spRow K) f1 d1) (G_tie_row:Cal P w K mg base 2 "tie_row" ["tie"] (xr PL PS) f2 d2):FnOk P w K mg base CX0 3 f fd ["web"] (rW PL PS WC):=by
 refine F.ok wq (fun vs H Q E h=>?_) (fun cdv A outer s H vs Q E hr h=>?_)
 ·obtain⟨S,p,m,es,ts,ks,rfl,_⟩:=h
  rfl
 obtain⟨S,p,m,es,ts,ks,rfl,⟨dx,fs,q1,xs,qt,zt,hp,many,lk,_,hq1,tk,lt,_,hqt,rt⟩,wr,kk⟩:=h
 refine⟨_,(ae (ay (i:=1) wq.nd rfl (Or.inl rfl) (bg (aa (ax G_row_of.ok (hr.mono (by decide)) rfl G_row_of.mg G_row_of.kp G_row_of.bn .nil aN (aa (bg (aa aM (aa (bh (pv 0) rfl) af))) af)) af)))
   (ae (aU (bK Qg Tj Th AH (pv 1) (aa (iw rfl (fr:=[]) (by exact cq.plain (by rfl) (by decide +kernel) (by rfl) (by decide +kernel) (by rfl) (by decide +kernel)) (b4 (bh (pv 0) rfl)) (fun C ex s H=>(ax G_tie_row.ok (hr.mono (by decide)) rfl G_tie_row.mg G_tie_row.kp G_tie_row.bn .nil aN (aa (pv 0) af)))) af)))
   (ae (aU (bK Qg Tj Th AH (pv 1) (aa (x4 rfl (fr:=[]) (xs:=["place","about"]) (wj.of (by rfl) (by decide +kernel) (by rfl) (by decide +kernel) (fun p hp=>nomatch hp) (by decide +kernel) (fun p hp=>nomatch hp)) (Dh rfl T.n_enumerate (aa (bh (pv 0) rfl) af)) (fun C ex s H=>(Dl (n:=2) (K:=K) rfl rfl (bH (aV (i:=0) (show(["place","about"]:List Str).Nodup from by decide +kernel) rfl (Or.inl rfl)) (bH (aV (i:=1) (show(["place","about"]:List Str).Nodup from by decide +kernel) rfl (Or.inl rfl)) oR)))) (fun C ex s H=>C1) (fun C ex s H=>(ax G_row_of.ok (hr.mono (by decide)) rfl G_row_of.mg G_row_of.kp G_row_of.bn .nil aN (aa (aE (show OpR _ (binaryOp .Add) (rCatS K) from JJ) (bg (aa aM (aa (pv 0) af))) (pv 1)) af)))) af)))
   (ak (aJ (bK QV Rk Ry o5 aM (aa (pv 1) af))))))),?_⟩
 refine⟨_,rfl,p,WC,dx,fs,_,rfl,hp,cw.cl,cw.n1,many,(by show 2<=sizeLine;decide),fun a0 ha0=>?_⟩
 refine⟨a0,_,rfl,SqL.of ag,(by show 2<=100;decide),fun v hv=>?_,fun H1 s1=>?_⟩
 ·simp only[P8,Q4,or_false]at hv
  have:=wr.m40
  rcases hv with rfl | rfl
  ·exact⟨.inl ⟨_,rfl⟩,by show plW.length<=100;decide +kernel⟩
  ·exact⟨.inr ⟨m,rfl,by omega⟩,by show(tx m).length<=100;have:=tx2 (n:=m) (by omega);omega⟩
 have few:=wr.few
 have kl:=wr.kl
 have m40:=wr.m40
 have tl:=wr.tl
 have s64:(400000:Nat)<=sizeLine:=by decide
 have s01:=(ao ha0 (.lst [V.str (("places" : String):Str),.int (m:Int)])).trans s1
 refine⟨(by show 1<=sizeLine;decide),fun R hR=>?_⟩
 have hR0:H R=none:=by
  cases e:H R with
  |none=>rfl
  |some o=>rw[s01 _ _ e]at hR;cases hR
 have s2:=s01.trans (ao hR (.lst [V.str (rowT [plW,tx m])]))
 have g2:(upd H1 R (.lst [V.str (rowT [plW,tx m])])) R=some (.lst [V.str (rowT [plW,tx m])]):=ag
 have xe:V.str (rowT ([V.str (("places" : String):Str),.int (m:Int)].map wt))=V.str (rowT [plW,tx m]):=rfl
 rw[xe]
 generalize upd H1 R (.lst [V.str (rowT [plW,tx m])])=H2 at s2 g2
 refine⟨_,rfl,.inl ⟨rfl,_,SqL.of g2⟩,_,rfl,p,WC,dx,fs,_,rfl,s2 _ _ hp,cw.cl,cw.n2,lk,q1,rfl,⟨_,SqL.of (s2 _ _ hq1)⟩,d8 (K:=K) (xs:=xs) (fun i ys H3=>Same H2 H3/\ys=((QW i).map fun j=>V.str (rowT (tieW (es.getD j (0,0)) (ks.getD j (0,0)))))) (by rw[tk.1];omega) ⟨fun _ _ z=>z,rfl⟩ (fun i ys H3 _ z=>SqL.of (z.1 _ _ (s2 _ _ hq1))) ?_ ?_⟩
 ·rintro i x ys H3 hx ⟨s3,rfl⟩
  have hi:i<es.length:=by rw[← tk.1];exact(P0.mp hx).1
  obtain⟨p',dx',x1,x2⟩:=(tk.mono (s2.trans s3)).2 i es[i] ks[i] (PZ hi) (PZ (by omega))
  rw[hx]at x1
  cases x1
  have ge:es.getD i (0,0)=es[i]:=by rw[Qi,PZ hi];rfl
  have gk:ks.getD i (0,0)=ks[i]:=by rw[Qi,PZ (show i<ks.length by omega)];rfl
  have k':=wr.kk ks[i] (QO _)
  have e':=wr.ee es[i] (QO _)
  refine⟨_,rfl,p',dx',es[i],ks[i],rfl,x2,k'.1,k'.2.1,k'.2.2,e'.1,e'.2,fun H4 s4=>⟨s3.trans s4,?_⟩⟩
  rw[RX,QE,List.map_singleton,ge,gk]
 rintro ys H3 _ ⟨s3,rfl⟩ D hD
 rw[tk.1]
 have sD:=ao hD (.lst ((QW es.length).map fun j=>V.str (rowT (tieW (es.getD j (0,0)) (ks.getD j (0,0))))))
 have g3:=sD _ _ (s3 _ _ g2)
 refine⟨R,D,_,_,rfl,rfl,g3,ag,by rw[P5,QH];show 1+_<=_;omega,?_⟩
 have s5:=aP ((s2.trans s3).trans sD) hR0 (.lst ([V.str (rowT [plW,tx m])]++(QW es.length).map fun j=>V.str (rowT (tieW (es.getD j (0,0)) (ks.getD j (0,0))))))
 have g5:(upd (upd H3 D (.lst ((QW es.length).map fun j=>V.str (rowT (tieW (es.getD j (0,0)) (ks.getD j (0,0))))))) R (.lst ([V.str (rowT [plW,tx m])]++(QW es.length).map fun j=>V.str (rowT (tieW (es.getD j (0,0)) (ks.getD j (0,0))))))) R=some (.lst ([V.str (rowT [plW,tx m])]++(QW es.length).map fun j=>V.str (rowT (tieW (es.getD j (0,0)) (ks.getD j (0,0)))))):=ag
 generalize upd (upd H3 D (.lst ((QW es.length).map fun j=>V.str (rowT (tieW (es.getD j (0,0)) (ks.getD j (0,0))))))) R (.lst ([V.str (rowT [plW,tx m])]++(QW es.length).map fun j=>V.str (rowT (tieW (es.getD j (0,0)) (ks.getD j (0,0))))))=H5 at s5 g5
 refine⟨_,rfl,.inl ⟨rfl,_,SqL.of g5⟩,_,rfl,p,WC,dx,fs,_,rfl,s5 _ _ hp,cw.cl,cw.n3,lt,qt,rfl,⟨_,SqL.of (s5 _ _ hqt)⟩,Io (K:=K) (xs:=zt) (fun i ys H6=>Same H5 H6/\ys=((QW i).map fun j=>V.str (rowT (abRW j (ts.getD j []))))) (by rw[rt.1];omega) ⟨fun _ _ z=>z,rfl⟩ (fun i ys H6 _ z=>SqL.of (z.1 _ _ (s5 _ _ hqt))) ?_ ?_ (fun i ys H6 z=>by rw[z.2,P5,QH];exact P9 _)⟩
 ·rintro i x ys H6 T6 hx ⟨s6,rfl⟩ hT6
  have hi:i<ts.length:=by rw[← rt.1];exact(P0.mp hx).1
  have sT:=ao hT6 (.tup [.int (i:Int),x])
  obtain⟨r,x1,_,x2⟩:=rt.2 i ts[i] (PZ hi)
  rw[hx]at x1
  cases x1
  have x3:=sT _ _ (s6 _ _ (s5 _ _ x2))
  have gt:ts.getD i []=ts[i]:=by rw[Qi,PZ hi];rfl
  obtain⟨w1,w2⟩:=wr.aw hi
  rw[gt]at w1 w2
  refine⟨T6,_,rfl,SqT.of ag,rfl,_,_,rfl,_,_,rfl,rfl,rfl,yesT ?_⟩
  refine⟨_,rfl,(by show 2<=sizeLine;decide),fun b hb=>?_⟩
  have sb:=ao hb (.lst [V.str (("about" : String):Str),.int (i:Int)])
  refine⟨_,rfl,b,r,_,_,rfl,rfl,SqL.of ag,SqL.of (sb _ _ x3),?_,fun c hc=>?_⟩
  ·have:=(wr.rl ts[i] (QO _)).1
   rw[P5]
   show 2+_<=_
   omega
  have r63:=wr.rl ts[i] (QO _)
  refine⟨c,_,rfl,SqL.of ag,?_,fun v hv=>?_,fun H7 s7=>⟨s6.trans (sT.trans (sb.trans ((ao hc _).trans s7))),?_⟩⟩
  ·have:=r63.1
   rw[P2,P5]
   show 2+_<=_
   omega
  ·rcases Qf.mp hv with hv | hv
   ·simp only[P8,Q4,or_false]at hv
    rcases hv with rfl | rfl
    ·exact⟨.inl ⟨_,rfl⟩,by show abW.length<=100;decide +kernel⟩
    ·exact⟨.inr ⟨i,rfl,by omega⟩,by show(tx i).length<=100;have:=tx2 (n:=i) (by omega);omega⟩
   ·obtain⟨t,ht,rfl⟩:=Qv.mp hv
    have:=r63.2 t ht
    exact⟨.inr ⟨t,rfl,by omega⟩,by show(tx t).length<=100;have:=tx2 (n:=t) (by omega);omega⟩
  ·have ew:([V.str (("about" : String):Str),.int (i:Int)]++ts[i].map iV).map wt=abRW i ts[i]:=by
    rw[QE,Ra]
    rfl
   rw[ew,RX,QE,List.map_singleton,gt]
 rintro ys H6 ⟨s6,rfl⟩ D2 hD2
 rw[rt.1]
 have sD2:=ao hD2 (.lst ((QW ts.length).map fun j=>V.str (rowT (abRW j (ts.getD j [])))))
 have g6:=sD2 _ _ (s6 _ _ g5)
 refine⟨R,D2,_,_,rfl,rfl,g6,ag,by rw[P2,P5,P5,QH,QH];show 1+_+_<=_;omega,?_⟩
 obtain⟨r1,r2⟩:=wr.rows
 have sl:=ik r1
 have el : [V.str (rowT [plW,tx m])]++(QW es.length).map (fun j=>V.str (rowT (tieW (es.getD j (0,0)) (ks.getD j (0,0)))))++(QW ts.length).map (fun j=>V.str (rowT (abRW j (ts.getD j []))))=((aO m es ks ts).map rowT).map V.str:=by
  unfold aO
  simp only[QA,QE,Ra,List.singleton_append,S6]
  rfl
 rw[el]
 refine⟨rfl,_,rfl,(("" : String):Str),R,(aO m es ks ts).map rowT,rfl,rfl,SqL.of ag,?_,?_⟩
 ·rw[Bg]
  show _+_*0<=_
  omega
 rw[Bg]
 exact kk _ (aP (s5.trans (s6.trans sD2)) hR0 _)
end
end KF
namespace KF
open PySem L2 PyProof.Rows K8
local macro_rules | `(tactic| walk_at "cc") => `(tactic| first | exact ⟨by decide, by decide⟩ | (show (0 : Int) < _; decide) | (show (0 : Int) < _; omega) | (show (0 : Int) ≤ _; omega) | exact ⟨by decide, by decide, by decide⟩ | exact ⟨by omega, by omega, by decide⟩ | exact Or.inl ⟨by decide, by decide⟩ | exact Or.inl ⟨by omega, by omega⟩)
local macro_rules | `(tactic| walk_at "rd") => `(tactic| repeat (first | refine ⟨_, rfl, ?_⟩ | refine ⟨_, _, rfl, rfl, ?_⟩ | refine ⟨rfl, ?_⟩ | (refine ⟨?cc, ?_⟩; (case cc => walk_at "cc"))))
theorem N9{n d:Nat}(h:d<48∨57<d):d∉(tx n).cps.toList:=fun z=>by
 have:=IU n d z
 omega
theorem oj{first:Str}{ns:List Nat}(hf:32∉first.cps.toList)(hn:∀ n∈ns,n<10^31):d9 first (Str.join spS (first::ns.map tx)) 31=some ns:=by
 have hs:QD (Str.join spS (first::ns.map tx)) spS=first::ns.map tx:=kE (c:=32) (SD _ _) fun w hw=>by
  rcases P8.mp hw with rfl | hw
  ·exact hf
  ·obtain⟨n,_,rfl⟩:=Qv.mp hw
   exact N9 (.inl (by decide))
 unfold d9
 rw[hs]
 have e1:(ns.map tx).map (nOf 31)=ns.map some:=by
  rw[Ra]
  exact List.map_congr_left fun n h=>Nz (k:=30) (hn n h)
 have e2:((ns.map tx).map fun z=>(nOf 31 z).getD 0)=ns:=by
  rw[Ra]
  conv=>rhs;rw[← List.map_id ns]
  exact List.map_congr_left fun n h=>by
   show(nOf 31 (tx n)).getD 0=n
   rw[Nz (k:=30) (hn n h)]
   rfl
 have e3:(ns.map some).all Rz=true:=by simp
 show(if first=first/\((ns.map tx).map (nOf 31)).all Rz=true then some ((ns.map tx).map fun z=>(nOf 31 z).getD 0) else none)=_
 rw[e1,e2,if_pos ⟨rfl,e3⟩]
theorem jn_of{c d:Nat}:∀{P:List (List Nat)},d∈jn c P->d=c∨∃ p∈P,d∈p
 |[],h=>by cases h
 |[a],h=>.inr ⟨a,QP.mpr rfl,h⟩
 |a::b::r,h=>by
  rcases Qf.mp (show d∈a++c::jn c (b::r) from h)with h | h
  ·exact .inr ⟨a,Ql ..,h⟩
  ·rcases P8.mp h with h | h
   ·exact .inl h
   ·rcases jn_of h with h | ⟨p,hp,hd⟩
    ·exact .inl h
    ·exact .inr ⟨p,Qe _ hp,hd⟩
theorem Pf{c d:Nat}{ws:List Str}(h:d∈(Str.join ⟨#[c]⟩ ws).cps.toList):d=c∨∃ w∈ws,d∈w.cps.toList:=by
 rw[nO]at h
 rcases jn_of h with h | ⟨p,hp,hd⟩
 ·exact .inl h
 ·obtain⟨w,hw,rfl⟩:=Qv.mp hp
  exact .inr ⟨w,hw,hd⟩
theorem Eo:∀ bs:List Str,Str.join Str.empty (bs.map fun b=>b++nlS)=Str.join nlS (bs++[Str.empty])
 |[]=>rfl
 |[b]=>by
  show b++nlS=b++nlS++Str.empty
  rw[Str.append_empty]
 |b::d::r=>by
  show b++nlS++Str.empty++Str.join Str.empty ((d::r).map fun b=>b++nlS)=b++nlS++Str.join nlS (d::r++[Str.empty])
  rw[Eo (d::r),Str.append_empty]
theorem tR:∀ ws:List Str,(Str.join Str.empty ws).length=(ws.map (·.length)).sum
 |[]=>rfl
 |[a]=>by show a.length=a.length+0;omega
 |a::b::r=>by
  show(a++Str.empty++Str.join Str.empty (b::r)).length=a.length+_
  rw[Str.length_append,Str.append_empty,tR (b::r)]
  rfl
def lZ:Str:=(("pull" : String):Str)
def cE:Str:=(("push" : String):Str)
theorem KQ(z:Str):inV (.str z) [.str lZ,.str cE]=decide (z=lZ∨z=cE):=by
 unfold inV
 rw[RA,RA,List.any_nil,Tr]
 show((lZ == z)||(cE == z))=_
 rw[Rp,Bool.or_eq_true,beq_iff_eq,beq_iff_eq,decide_eq_true_iff]
 exact⟨fun h=>h.imp Eq.symm Eq.symm,fun h=>h.imp Eq.symm Eq.symm⟩
abbrev Td:=Str×Nat×Nat×Nat
def TdAt(H:Hp)(zs:List V)(td:List Td):Prop:=zs.length=td.length/\∀(i:Nat)(d:Td),td[i]?=some d->∃ t,zs[i]?=some (.ref t)/\H t=some (.tup [.str d.1,iV d.2.1,iV d.2.2.1,iV d.2.2.2])
def RowD(b:Str)(d:Td):Prop:=Rw b/\fw b=d.1/\d9 (fw b) b 31=some [d.2.1,d.2.2.1,d.2.2.2]/\d.2.2.2<=10^30/\(d.1=lZ∨d.1=cE)
def kG(K:P1):Sp:=fun vs H Q _=>∃(r:Addr)(bs:List Str)(td:List Td),vs = [.ref r]/\SqL K H r (bs.map V.str)/\td.length<=80/\(∀ i d,td[i]?=some d->∃ b,bs[i+1]?=some b/\RowD b d)/\(∃ b,bs[td.length+1]?=some b/\b.length<=300000/\fw b≠lZ/\fw b≠cE) /\
 ∀(q:Addr)(zs:List V)(H':Hp),Same H H'->H' q=some (.lst zs)->TdAt H' zs td->Q (.ref q) H'
def lR(K:P1):Sp:=fun vs H Q _=>∃(r:Addr)(bs:List Str)(ts:List (List Nat))(m ah:Nat),vs = [iV m,.ref r,iV ah]/\SqL K H r (bs.map V.str)/\ts.length=m/\m<=40/\(∀ i l,ts[i]?=some l->∃ b,bs[ah+i]?=some b/\Rw b/\d9 abW b 31=some (i::l)/\l.length<=63) /\
 ∀(q:Addr)(zs:List V)(H':Hp),Same H H'->H' q=some (.lst zs)->bO H' zs ts->Q (.ref q) H'
theorem TdAt.mono{H H':Hp}{zs:List V}{td:List Td}(h:TdAt H zs td)(s:∀ b xs,H b=some (.tup xs)->H' b=some (.tup xs)):TdAt H' zs td:=⟨h.1,fun i d e=>by
 obtain⟨t,a,b⟩:=h.2 i d e
 exact⟨t,a,s _ _ b⟩⟩
theorem TdAt.snoc{H:Hp}{zs:List V}{td:List Td}{d:Td}{t:Addr}(h:TdAt H zs td)(ht:H t=some (.tup [.str d.1,iV d.2.1,iV d.2.2.1,iV d.2.2.2])):TdAt H (zs++[.ref t]) (td++[d]):=by
 refine⟨by rw[P2,P2,h.1];rfl,fun j x ej=>?_⟩
 by_cases hj:j<td.length
 ·rw[P6 hj]at ej
  obtain⟨u,a1,a2⟩:=h.2 j x ej
  exact⟨u,by rw[P6 (by rw[h.1];exact hj)];exact a1,a2⟩
 ·have hj2:j=td.length:=by
   have:=(P0.mp ej).1
   rw[P2,Qa]at this
   omega
  subst hj2
  rw[P4 (P9 _),Qu]at ej
  cases ej
  exact⟨t,by rw[← h.1,P4 (P9 _),Qu];rfl,ht⟩
section
variable{P:Program}{w:World}{K:P1}{mg:Str->Option Value}{base:Heap}
theorem gd:aH ["rows","told","number"] ["rows"] (aj dt):=⟨rfl,rfl,rfl,by decide +kernel,rfl,by decide +kernel,by decide +kernel⟩
theorem Dn{f f1 f2 f3:Addr}{fd d1 d2 d3:FuncData} (F:Fun K "ties_told" "ties_told" dt f fd) (T:Txt mg) (G_first_word:Cal P w K mg base 1 "first_word" ["row"] spFW f1 d1) (G_tie_told:Cal P w K mg base 3 "tie_told" ["row"] Jc f2 d2) (G_right:Cal P w K mg base 1 "right" ["told","at"] rY f3 d3):FnOk P w K mg base CX0 4 f fd ["rows"] (kG K):=by
 refine F.ok gd (fun vs H Q E h=>?_) (fun cdv A outer s H vs Q E hr h=>?_)
 ·obtain⟨r,bs,td,rfl,_⟩:=h
  rfl
 obtain⟨r,bs,td,rfl,hS,t80,hd,⟨be,he,hel,ne1,ne2⟩,kk⟩:=h
 refine⟨_,(ae (ay (i:=1) gd.nd rfl (Or.inl rfl) (bg af))
   (ae (ay (i:=2) gd.nd rfl (Or.inl rfl) ai)
   (ae (rC PassesOwn.never (PW.pt (lA (au Af (pv 2) (aA aq (by rfl) T.n_len aT (aa (pv 0) af)) (aC _)) (oN (au jE (ax G_first_word.ok (hr.mono (by decide)) rfl G_first_word.mg G_first_word.kp G_first_word.bn .nil aN (aa (aG av (pv 0) (pv 2) (fun _ _=>rfl)) af)) (eS (aa aM (aa aM af))) (by with_unfolding_all rfl))))) (ae (ba (au l6 (pv 2) (nv rfl T.most) (aC _)) (ak da) aL)
   (ae (aU (bK Qg Qs Qr aZ (pv 1) (aa (ax G_right.ok (hr.mono (by decide)) rfl G_right.mg G_right.kp G_right.bn .nil aN (aa (ax G_tie_told.ok (hr.mono (by decide)) rfl G_tie_told.mg G_tie_told.kp G_tie_told.bn .nil aN (aa (aG av (pv 0) (pv 2) (fun _ _=>rfl)) af)) (aa (aE bj (pv 2) ai) af))) af)))
   (ak (ay (i:=2) gd.nd rfl (Or.inl rfl) (aE bj (pv 2) ai))))))
   (ak (aJ (pv 1)))))),?_⟩
 have bl:td.length+1<bs.length:=(P0.mp he).1
 refine⟨(by show 0<=sizeLine;decide),fun q hq=>?_⟩
 have s1:=ao hq (.lst [])
 refine⟨fun n σ H2=>∃(i:Nat)(zs:List V),n=td.length-i/\i<=td.length/\σ = [some (.ref r),some (.ref q),some (iV (i+1))]/\Same H H2/\H2 q=some (.lst zs)/\TdAt H2 zs (td.take i),⟨_,0,[],rfl,Q6 _,rfl,s1,ag,rfl,fun i d e=>by simp at e⟩,?_⟩
 rintro n σ H2 ⟨i,zs,rfl,hi,rfl,s2,hq2,tz⟩
 have hS2:=s2.seq hS
 have zl:zs.length=i:=by rw[tz.1,QK];omega
 refine⟨_,rfl,_,rfl,r,_,rfl,.inl hS2,_,_,rfl,rfl,_,rfl,?_⟩
 refine ite2 (fun _=>?_) (fun c=>absurd (decide_eq_true (show((i+1:Nat):Int)<((bs.map V.str).length:Int) by rw[P5];omega)) c)
 obtain⟨b,hb,bl3⟩:∃ b,bs[i+1]?=some b/\b.length<=300000:=by
  by_cases c:i=td.length
  ·subst c
   exact⟨be,he,hel⟩
  ·obtain⟨b,h1,h2⟩:=hd i td[i] (PZ (by omega))
   exact⟨b,h1,h2.1.1⟩
 have hb2:(bs.map V.str)[i+1]?=some (V.str b):=by rw[Qd,hb];rfl
 refine⟨_,rfl,_,rfl,r,_,_,V.str b,rfl,rfl,hS2,aQ hb2,b,rfl,bl3,fun H3 s3=>⟨(by show 2<=sizeLine;decide),fun t ht=>?_⟩⟩
 have st:=ao ht (.tup [V.str (("pull" : String):Str),V.str (("push" : String):Str)])
 have s4:=s3.trans st
 refine⟨t,_,rfl,.inr (SqT.of ag),rfl,rfl,_,rfl,?_⟩
 show(if(inV (.str (fw b)) [.str lZ,.str cE])=true then _ else _)
 rw[KQ]
 by_cases c:i=td.length
 ·subst c
  rw[he]at hb
  cases hb
  rw[decide_eq_false (fun z=>z.elim ne1 ne2)]
  rw[QN]at tz
  exact iteF ⟨_,rfl,kk q zs _ (s2.trans s4) (s4 _ _ hq2) (tz.mono fun b xs e=>s4 _ _ e)⟩
 ·have hi2:i<td.length:=by omega
  obtain⟨b',h1,rw1,fe,be1,s30,kd⟩:=hd i td[i] (PZ hi2)
  rw[hb]at h1
  cases h1
  rw[fe,decide_eq_true kd]
  rw[← fe]at kd
  refine iteT ⟨fun σ' H'=>∃ zs',i+1<=td.length/\σ' = [some (.ref r),some (.ref q),some (iV (i+1+1))]/\Same H H'/\H' q=some (.lst zs')/\TdAt H' zs' (td.take (i+1)),fun σ' H' ⟨zs',a1,a2,a3,a4,a5⟩=>⟨td.length-(i+1),by omega,i+1,zs',rfl,a1,a2,a3,a4,a5⟩,?_⟩
  refine⟨_,rfl,_,_,rfl,rfl,_,rfl,ite2 (fun c=>absurd (of_decide_eq_true c) (by omega)) (fun _=>?_)⟩
  have hq4:=s4 _ _ hq2
  refine⟨_,rfl,.inl ⟨rfl,_,SqL.of hq4⟩,_,rfl,_,rfl,r,_,_,V.str b,rfl,rfl,s4.seq hS2,aQ hb2,b,_,_,_,rfl,rw1,be1,s30,fun p H5 s5 hp=>?_⟩
  refine⟨_,rfl,_,_,rfl,rfl,_,_,rfl,(by intro z;cases z),?_⟩
  have hq5:=s5 _ _ hq4
  refine⟨q,zs,_,rfl,rfl,hq5,aI (by omega),?_⟩
  refine⟨_,rfl,_,_,rfl,rfl,zs++[.ref p],hi2,rfl,aP (s2.trans (s4.trans s5)) hq _,ag,?_⟩
  have pq:p≠q:=fun z=>by rw[z,hq5]at hp;cases hp
  rw[show td.take (i+1)=td.take i++[td[i]] by rw[QI,PZ hi2];rfl]
  refine TdAt.snoc (tz.mono fun b xs e=>?_) (by rw[ar pq,← fe];exact hp)
  rw[ar (fun z=>by rw[z,hq2]at e;cases e)]
  exact s5 _ _ (s4 _ _ e)
theorem bA:aH ["many","rows","ahead","turns","place","number"] ["many","rows","ahead"] (aj b8):=⟨rfl,rfl,rfl,by decide +kernel,rfl,by decide +kernel,by decide +kernel⟩
theorem Ag{f f1 f2 f3:Addr}{fd d1 d2 d3:FuncData} (F:Fun K "turns_told" "turns_told" b8 f fd) (T:Txt mg) (G_row_at:Cal P w K mg base 1 "row_at" ["rows","number"] (xu K) f1 d1) (G_turn_told:Cal P w K mg base 3 "turn_told" ["place","row"] xq f2 d2) (G_right:Cal P w K mg base 1 "right" ["told","at"] rY f3 d3):FnOk P w K mg base CX0 4 f fd ["many","rows","ahead"] (lR K):=by
 refine F.ok bA (fun vs H Q E h=>?_) (fun cdv A outer s H vs Q E hr h=>?_)
 ·obtain⟨r,bs,ts,m,ah,rfl,_⟩:=h
  rfl
 obtain⟨r,bs,ts,m,ah,rfl,hS,tl,m40,hd,kk⟩:=h
 refine⟨_,(ae (ay (i:=3) bA.nd rfl (Or.inl rfl) (bg af))
   (ae (cF PassesOwn.never rfl (bV rfl T.n_range (aa (pv 0) af)) (aV (i:=4) bA.nd rfl (Or.inl rfl)) (ae (ay (i:=5) bA.nd rfl (Or.inl rfl) (aE bj (pv 2) (pv 4)))
   (ak (aU (bK Qg Qs Qr aZ (pv 3) (aa (ax G_right.ok (hr.mono (by decide)) rfl G_right.mg G_right.kp G_right.bn .nil aN (aa (ax G_turn_told.ok (hr.mono (by decide)) rfl G_turn_told.mg G_turn_told.kp G_turn_told.bn .nil aN (aa (pv 4) (aa (ax G_row_at.ok (hr.mono (by decide)) rfl G_row_at.mg G_row_at.kp G_row_at.bn .nil aN (aa (pv 1) (aa (pv 5) af))) af))) (aa (aE bj (pv 5) ai) af))) af))))))
   (ak (aJ (pv 3))))),?_⟩
 refine⟨(by show 0<=sizeLine;decide),fun q hq=>?_⟩
 have s1:=ao hq (.lst [])
 refine⟨_,rfl,_,rfl,by omega,by omega,cH (n:=m) (fun i σ H2=>∃(v4 v5:Option V)(zs:List V),σ = [some (iV m),some (.ref r),some (iV ah),some (.ref q),v4,v5]/\Same H H2/\H2 q=some (.lst zs)/\dh (fun a=>a=q) H2 zs (ts.take i)) ⟨_,_,[],rfl,s1,ag,rfl,fun i l e=>by simp at e⟩ ?_ ?_⟩
 ·rintro i σ H2 hi ⟨v4,v5,zs,rfl,s2,hq2,rz⟩
  rw[RB]
  have hS2:=s2.seq hS
  have hi2:i<ts.length:=by omega
  have zl:zs.length=i:=by rw[rz.1,QK];omega
  obtain⟨b,hb,rwb,be1,l63⟩:=hd i ts[i] (PZ hi2)
  have hb2:(bs.map V.str)[ah+i]?=some (V.str b):=by rw[Qd,hb];rfl
  refine⟨_,rfl,_,rfl,_,_,rfl,rfl,?_⟩
  refine⟨_,rfl,.inl ⟨rfl,_,SqL.of hq2⟩,_,rfl,_,rfl,_,rfl,r,_,ah+i,_,rfl,hS2,hb2,b,i,ts[i],rfl,rwb,be1,by omega,fun p H5 s5 np hp=>?_⟩
  refine⟨_,rfl,_,_,rfl,rfl,_,_,rfl,(by intro z;cases z),?_⟩
  have hq5:=s5 _ _ hq2
  refine⟨q,zs,_,rfl,rfl,hq5,aI (by omega),_,_,zs++[.ref p],rfl,aP (s2.trans s5) hq _,ag,?_⟩
  have pq:p≠q:=fun z=>by rw[z,hq2]at np;cases np
  rw[show ts.take (i+1)=ts.take i++[ts[i]] by rw[QI,PZ hi2];rfl]
  exact(rz.mono fun b u n e=>by rw[ar n];exact s5 _ _ e).snoc pq (by rw[ar pq];exact hp)
 ·rintro σ H2 ⟨v4,v5,zs,rfl,s2,hq2,rz⟩
  rw[← tl,QN]at rz
  exact⟨_,rfl,kk q zs H2 s2 hq2 rz.off⟩
end
end KF
namespace KF
open PySem L2 PyProof.Rows K8
local macro_rules | `(tactic| walk_at "cc") => `(tactic| first | exact ⟨by decide, by decide⟩ | (show (0 : Int) < _; decide) | (show (0 : Int) < _; omega) | (show (0 : Int) ≤ _; omega) | exact ⟨by decide, by decide, by decide⟩ | exact ⟨by omega, by omega, by decide⟩ | exact Or.inl ⟨by decide, by decide⟩ | exact Or.inl ⟨by omega, by omega⟩)
local macro_rules | `(tactic| walk_at "rd") => `(tactic| repeat (first | refine ⟨_, rfl, ?_⟩ | refine ⟨_, _, rfl, rfl, ?_⟩ | refine ⟨rfl, ?_⟩ | (refine ⟨?cc, ?_⟩; (case cc => walk_at "cc"))))
def bare(ws:List Str):Str:=Str.join spS ws
def Gz(z:Str):Prop:=∀ c∈z.cps.toList,33<=c/\c<128
theorem Em(n:Nat):Gz (tx n):=fun c hc=>by have:=IU n c hc;omega
theorem Pl(k:Int):Gz (kS k):=by
 unfold kS Gz
 split<;>decide +kernel
theorem KW{z:Str}(h:Gz z){c:Nat}(hc:c<33):c∉z.cps.toList:=fun q=>by have:=h c q;omega
theorem ox{m:Nat}{es:En}{ks:Kn}{ts:List (List Nat)}:∀ ws∈aO m es ks ts,∀ z∈ws,Gz z:=fun ws hw z hz=>by
 unfold aO at hw
 rcases P8.mp hw with rfl | hw
 ·rcases P8.mp hz with rfl | hz
  ·unfold Gz;decide +kernel
  ·rw[QP.mp hz]
   exact Em m
 rcases Qf.mp hw with hw | hw
 ·obtain⟨i,_,rfl⟩:=Qv.mp hw
  unfold tieW at hz
  simp only[P8,Q4,or_false]at hz
  rcases hz with rfl | rfl | rfl | rfl
  ·exact Pl _
  ·exact Em _
  ·exact Em _
  ·exact Em _
 ·obtain⟨i,_,rfl⟩:=Qv.mp hw
  unfold abRW at hz
  rcases P8.mp hz with rfl | hz
  ·unfold Gz;decide +kernel
  rcases P8.mp hz with rfl | hz
  ·exact Em _
  ·obtain⟨t,_,rfl⟩:=Qv.mp hz
   exact Em _
theorem EV{ws:List Str}(h:∀ z∈ws,Gz z){c:Nat}(hc:c∈(bare ws).cps.toList):32<=c/\c<128:=by
 rcases Pf (c:=32) hc with rfl | ⟨z,hz,hc⟩
 ·decide
 ·have:=h z hz c hc
  omega
theorem zv{m:Nat}{es:En}{ks:Kn}{ts:List (List Nat)}:QD (webT m es ks ts) nlS=(aO m es ks ts).map bare++[Str.empty]:=by
 have e:(aO m es ks ts).map rowT=((aO m es ks ts).map bare).map fun b=>b++nlS:=by rw[Ra];rfl
 unfold webT
 rw[e,Eo]
 refine kE (c:=10) (by simp) fun w hw z=>?_
 rcases Qf.mp hw with hw | hw
 ·obtain⟨ws,hws,rfl⟩:=Qv.mp hw
  have:=EV (ox ws hws) z
  omega
 ·rw[QP.mp hw]at z
  cases z
theorem IS{m:Nat}{es:En}{ks:Kn}{ts:List (List Nat)}(w:Wr m es ks ts):(webT m es ks ts).length<=300000:=by
 obtain⟨r1,r2⟩:=w.rows
 have sl:=ik r1
 have:((aO m es ks ts).map rowT).length*400<=104*400:=Nat.mul_le_mul_right _ r2
 unfold webT
 rw[tR]
 omega
theorem mY{m:Nat}{es:En}{ks:Kn}{ts:List (List Nat)}(w:Wr m es ks ts){ws:List Str}(h:ws∈aO m es ks ts):Rw (bare ws):=by
 refine⟨?_,?_⟩
 ·have:=w.rows.1 (rowT ws) (Qv.mpr ⟨ws,h,rfl⟩)
  unfold rowT at this
  rw[Str.length_append]at this
  unfold bare
  omega
 ·unfold Asc
  rw[← R9,QX]
  exact fun c hc=>decide_eq_true (EV (ox ws h) hc).2
theorem Er{z:Str}(h:Gz z)(ws:List Str):fw (bare (z::ws))=z:=by
 have hn:32∉z.cps.toList:=KW h (by decide)
 cases ws with
 |nil=>exact FO (c:=32) hn
 |cons a r =>
  have e:(bare (z::a::r)).cps.toList=z.cps.toList++32::(Str.join spS (a::r)).cps.toList:=by
   show(z++spS++Str.join spS (a::r)).cps.toList=_
   rw[lP,lP,Su]
   rfl
  exact(FP (c:=32) hn e).trans (lO rfl)
theorem jQ{m:Nat}{es:En}{ks:Kn}{ts:List (List Nat)}:(aO m es ks ts).length=1+es.length+ts.length:=by
 unfold aO
 rw[Qz,P2,P5,P5,QH,QH]
 omega
theorem rP{m:Nat}{es:En}{ks:Kn}{ts:List (List Nat)}{i:Nat}(h:i<es.length):(aO m es ks ts)[i+1]?=some (tieW (es.getD i (0,0)) (ks.getD i (0,0))):=by
 unfold aO
 rw[Tq,P6 (by rw[P5,QH];exact h),Qd,Q8 h]
 rfl
theorem rk{m:Nat}{es:En}{ks:Kn}{ts:List (List Nat)}{i:Nat}(h:i<ts.length):(aO m es ks ts)[1+es.length+i]?=some (abRW i (ts.getD i [])):=by
 unfold aO
 rw[show 1+es.length+i=(es.length+i)+1 by omega,Tq,P4 (by rw[P5,QH];omega),P5,QH,Sx,Qd,Q8 h]
 rfl
theorem kS_two(k:Int):kS k=lZ∨kS k=cE:=by
 unfold kS
 split
 ·exact .inr rfl
 ·exact .inl rfl
theorem yD{k:Int}:(kS k=cE)↔k=1:=by
 unfold kS
 split
 ·rename_i h
  exact⟨fun _=>h,fun _=>rfl⟩
 ·rename_i h
  exact⟨fun z=>absurd z (by decide +kernel),fun z=>absurd z h⟩
def tdOf(es:En)(ks:Kn)(i:Nat):Td:=(kS (ks.getD i (0,0)).1,(es.getD i (0,0)).1,(es.getD i (0,0)).2,(ks.getD i (0,0)).2.toNat)
theorem Js{m:Nat}{es:En}{ks:Kn}{ts:List (List Nat)}(w:Wr m es ks ts){i:Nat}(h:i<es.length):RowD (bare (tieW (es.getD i (0,0)) (ks.getD i (0,0)))) (tdOf es ks i):=by
 have e:=w.ee _ (kY (d:=(0,0)) h)
 have k:=w.kk _ (kY (d:=(0,0)) (by rw[w.kl];exact h))
 have hm:=P7 (rP (m:=m) (ks:=ks) (ts:=ts) h)
 have ef:fw (bare (tieW (es.getD i (0,0)) (ks.getD i (0,0))))=kS (ks.getD i (0,0)).1:=Er (Pl _) _
 refine⟨mY w hm,ef,?_,by show(ks.getD i (0,0)).2.toNat<=_;omega,kS_two _⟩
 rw[ef]
 exact oj (first:=kS (ks.getD i (0,0)).1) (ns:=[(es.getD i (0,0)).1,(es.getD i (0,0)).2,(ks.getD i (0,0)).2.toNat]) (KW (Pl _) (by decide)) fun n hn=>by
  simp only[P8,Q4,or_false]at hn
  rcases hn with rfl | rfl | rfl<;>omega
theorem fZ.snoc{PL PS:Addr}{H:Hp}{us:List V}{es:En}{ks:Kn}{i:Nat}{e:Nat×Nat}{k:Int×Int}{p dx:Addr}(t:fZ PL PS H us (es.take i) ks)(he:es[i]?=some e)(hk:ks[i]?=some k)(hp:H p=some (.ins (cls PL PS (decide (k.1=1))) dx (tf (e.1:Int) (e.2:Int) k.2))):fZ PL PS H (us++[.ref p]) (es.take (i+1)) ks:=by
 have hi:=(P0.mp he).1
 have ul:us.length=i:=by rw[t.1,QK];omega
 refine⟨by rw[P2,ul,QK];simp;omega,fun j e' k' hj hk'=>?_⟩
 rw[RY]at hj
 by_cases z:j<i
 ·rw[if_pos (by omega)]at hj
  obtain⟨p',dx',a1,a2⟩:=t.2 j e' k' (by rw[RY,if_pos z];exact hj) hk'
  exact⟨p',dx',by rw[P6 (by omega)];exact a1,a2⟩
 ·by_cases z2:j=i
  ·subst z2
   rw[if_pos (by omega),he]at hj
   cases hj
   rw[hk]at hk'
   cases hk'
   exact⟨p,dx,by rw[← ul,P4 (P9 _),Qu];rfl,hp⟩
  ·rw[if_neg (by omega)]at hj
   cases hj
def r6(PL PS:Addr):Sp:=fun vs H Q _=>∃(kd:Str)(a b s:Nat),vs = [.str kd,iV a,iV b,iV s]/\a≠b/\∀(p dx:Addr)(H':Hp),Same H H'->H' p=some (.ins (cls PL PS (decide (kd=cE))) dx (tf (a:Int) (b:Int) (s:Int)))->Q (.ref p) H'
def Cw(PL PS WC:Addr):Sp:=fun vs H Q _=>∃(m:Nat)(es:En)(ks:Kn)(ts:List (List Nat)),vs = [.str (webT m es ks ts)]/\Wr m es ks ts/\Gr m es ts/\0<es.length/\es.length<=6/\∀(p:Addr)(H':Hp),Same H H'->WebW (fun a=>H a≠none) PL PS WC H' p m es ts ks->Q (.ref p) H'
section
variable{P:Program}{w:World}{K:P1}{mg:Str->Option Value}{base:Heap}
theorem Ov:aH ["kind","one","two","strength"] ["kind","one","two","strength"] (aj wx):=⟨rfl,rfl,rfl,by decide +kernel,rfl,by decide +kernel,by decide +kernel⟩
theorem OP{f fI PL PS:Addr}{fd fdI:FuncData} (F:Fun K "made" "made" wx f fd) (M_Pull:Mak P w K mg base 1 "Pull" ["self","one","two","strength"] (wm K) PL fI fdI) (M_Push:Mak P w K mg base 1 "Push" ["self","one","two","strength"] (wm K) PS fI fdI) (TL:CT K PL) (TS:CT K PS):FnOk P w K mg base CX0 3 f fd ["kind","one","two","strength"] (r6 PL PS):=by
 refine F.ok Ov (fun vs H Q E h=>?_) (fun cdv A outer s H vs Q E hr h=>?_)
 ·obtain⟨kd,a,b,s',rfl,_⟩:=h
  rfl
 obtain⟨kd,a,b,s',rfl,ne,kk⟩:=h
 refine⟨_,(ak (aJ (kM (au eY (pv 0) aM (aC _)) (oS M_Push.mkc M_Push.ok (hr.mono (by decide)) rfl M_Push.mg M_Push.bn .nil aN (aa (pv 1) (aa (pv 2) (aa (pv 3) af)))) (oS M_Pull.mkc M_Pull.ok (hr.mono (by decide)) rfl M_Pull.mg M_Pull.bn .nil aN (aa (pv 1) (aa (pv 2) (aa (pv 3) af))))))),?_⟩
 refine⟨_,rfl,rfl,_,rfl,ite2 (fun c=>?_) (fun c=>?_)⟩
 ·have c':kd=cE:=V.str.inj (of_decide_eq_true c)
  refine⟨_,rfl,_,rfl,_,rfl,?_⟩
  intro x dx nx ndx nex
  refine⟨x,PS,dx,_,_,_,rfl,ag,TS,by omega,by omega,by omega,by omega,fun H' h1 h2=>⟨rfl,?_⟩⟩
  refine kk x dx H' (fun b o z=>h2 b o (by rw[ar (aB z nx),ar (aB z ndx)];exact z) (aB z nx)) ?_
  rw[decide_eq_true c']
  exact h1
 ·have c':¬ kd=cE:=fun z=>c (decide_eq_true (congrArg V.str z))
  refine⟨_,rfl,_,rfl,_,rfl,?_⟩
  intro x dx nx ndx nex
  refine⟨x,PL,dx,_,_,_,rfl,ag,TL,by omega,by omega,by omega,by omega,fun H' h1 h2=>⟨rfl,?_⟩⟩
  refine kk x dx H' (fun b o z=>h2 b o (by rw[ar (aB z nx),ar (aB z ndx)];exact z) (aB z nx)) ?_
  rw[decide_eq_false c']
  exact h1
end
end KF
namespace KF
open PySem L2 PyProof.Rows K8
local macro_rules | `(tactic| walk_at "cc") => `(tactic| first | exact ⟨by decide, by decide⟩ | (show (0 : Int) < _; decide) | (show (0 : Int) < _; omega) | (show (0 : Int) ≤ _; omega) | exact ⟨by decide, by decide, by decide⟩ | exact ⟨by omega, by omega, by decide⟩ | exact Or.inl ⟨by decide, by decide⟩ | exact Or.inl ⟨by omega, by omega⟩)
local macro_rules | `(tactic| walk_at "rd") => `(tactic| repeat (first | refine ⟨_, rfl, ?_⟩ | refine ⟨_, _, rfl, rfl, ?_⟩ | refine ⟨rfl, ?_⟩ | (refine ⟨?cc, ?_⟩; (case cc => walk_at "cc"))))
section
variable{P:Program}{w:World}{K:P1}{mg:Str->Option Value}{base:Heap}
theorem c8:aH ["text","rows","unended","many","told","turns","row_count"] ["text"] (aj sq):=⟨rfl,rfl,rfl,by decide +kernel,rfl,by decide +kernel,by decide +kernel⟩
theorem OO{f f1 f2 f3 f4 f5 f6 fW PL PS WC:Addr}{fd d1 d2 d3 d4 d5 d6 dW:FuncData} (F:Fun K "read" "read" sq f fd) (T:Txt mg) (cw:CW K WC) (TL:CT K PL) (TS:CT K PS) (G_right:Cal P w K mg base 1 "right" ["told","at"] rY f1 d1) (G_row_at:Cal P w K mg base 1 "row_at" ["rows","number"] (xu K) f2 d2) (G_places_told:Cal P w K mg base 3 "places_told" ["row"] rB f3 d3) (G_ties_told:Cal P w K mg base 4 "ties_told" ["rows"] (kG K) f4 d4) (G_turns_told:Cal P w K mg base 4 "turns_told" ["many","rows","ahead"] (lR K) f5 d5) (G_made:Cal P w K mg base 3 "made" ["kind","one","two","strength"] (r6 PL PS) f6 d6) (M_Web:Mak P w K mg base 5 "Web" ["self","many","ties","turns"] (lQ K) WC fW dW):FnOk P w K mg base CX0 7 f fd ["text"] (Cw PL PS WC):=by
 refine F.ok c8 (fun vs H Q E h=>?_) (fun cdv A outer s H vs Q E hr h=>?_)
 ·obtain⟨m,es,ks,ts,rfl,_⟩:=h
  rfl
 obtain⟨m,es,ks,ts,rfl,wr,g,e0,e14,kk⟩:=h
 refine⟨_,(ae (ay (i:=1) c8.nd rfl (Or.inl rfl) (bK QV Rh R4 rE (pv 0) (aa aM af)))
   (ae (ay (i:=2) c8.nd rfl (Or.inl rfl) (FK Qg R7 R6 FU (pv 1)))
   (ae (ay (i:=3) c8.nd rfl (Or.inl rfl) (ax G_right.ok (hr.mono (by decide)) rfl G_right.mg G_right.kp G_right.bn .nil aN (aa (ax G_places_told.ok (hr.mono (by decide)) rfl G_places_told.mg G_places_told.kp G_places_told.bn .nil aN (aa (ax G_row_at.ok (hr.mono (by decide)) rfl G_row_at.mg G_row_at.kp G_row_at.bn .nil aN (aa (pv 1) (aa ai af))) af)) (aa ai af))))
   (ae (ay (i:=4) c8.nd rfl (Or.inl rfl) (ax G_ties_told.ok (hr.mono (by decide)) rfl G_ties_told.mg G_ties_told.kp G_ties_told.bn .nil aN (aa (pv 1) af)))
   (ae (ay (i:=5) c8.nd rfl (Or.inl rfl) (ax G_turns_told.ok (hr.mono (by decide)) rfl G_turns_told.mg G_turns_told.kp G_turns_told.bn .nil aN (aa (pv 3) (aa (pv 1) (aa (aE bj ai (aA aq (by rfl) T.n_len aT (aa (pv 4) af))) af)))))
   (ae (ay (i:=6) c8.nd rfl (Or.inl rfl) (aE bj (aE bj ai (aA aq (by rfl) T.n_len aT (aa (pv 4) af))) (pv 3)))
   (ae (ba (PW.pt (gy (au l6 (aA aq (by rfl) T.n_len aT (aa (pv 1) af)) (pv 6) (aC _)) (fN (au fP (pv 2) aM (aC _))))) (ak da) aL)
   (ak (aJ (oS M_Web.mkc M_Web.ok (hr.mono (by decide)) rfl M_Web.mg M_Web.bn .nil aN (aa (pv 3) (aa (x4 rfl (fr:=[]) (xs:=["kind","one","two","strength"]) (wj.of (by rfl) (by decide +kernel) (by rfl) (by decide +kernel) (fun p hp=>nomatch hp) (by decide +kernel) (fun p hp=>nomatch hp)) (b4 (pv 4)) (fun C ex s H=>(Dl (n:=4) (K:=K) rfl rfl (bH (aV (i:=0) (show(["kind","one","two","strength"]:List Str).Nodup from by decide +kernel) rfl (Or.inl rfl)) (bH (aV (i:=1) (show(["kind","one","two","strength"]:List Str).Nodup from by decide +kernel) rfl (Or.inl rfl)) (bH (aV (i:=2) (show(["kind","one","two","strength"]:List Str).Nodup from by decide +kernel) rfl (Or.inl rfl)) (bH (aV (i:=3) (show(["kind","one","two","strength"]:List Str).Nodup from by decide +kernel) rfl (Or.inl rfl)) oR)))))) (fun C ex s H=>C1) (fun C ex s H=>(ax G_made.ok (hr.mono (by decide)) rfl G_made.mg G_made.kp G_made.bn .nil aN (aa (pv 0) (aa (pv 1) (aa (pv 2) (aa (pv 3) af))))))) (aa (pv 5) af))))))))))))),?_⟩
 rw[Ke,Bg]
 have few:=wr.few
 have kl:=wr.kl
 have m2:=wr.m2
 have m40:=wr.m40
 have tl:=wr.tl
 have wl:=IS wr
 have s64:(400000:Nat)<=sizeLine:=by decide
 refine⟨_,rfl,rfl,webT m es ks ts,nlS,rfl,rfl,rfl,by omega,fun r hr'=>?_⟩
 rw[zv,QE]
 have bl:((aO m es ks ts).map bare).length=1+es.length+ts.length:=by rw[P5,jQ]
 have sr:=ao hr' (.lst (((aO m es ks ts).map bare).map V.str++[Str.empty].map V.str))
 refine⟨_,rfl,.inl ⟨rfl,_,SqL.of ag⟩,r,_,V.str Str.empty,rfl,rfl,ag,by simp,?_⟩
 have ed:List.dropLast (((aO m es ks ts).map bare).map V.str++[Str.empty].map V.str)=((aO m es ks ts).map bare).map V.str:=by simp
 rw[ed]
 have sR:=aP sr hr' (.lst (((aO m es ks ts).map bare).map V.str))
 have gR:(upd (upd H r (.lst (((aO m es ks ts).map bare).map V.str++[Str.empty].map V.str))) r (.lst (((aO m es ks ts).map bare).map V.str))) r=some (.lst (((aO m es ks ts).map bare).map V.str)):=ag
 generalize upd (upd H r (.lst (((aO m es ks ts).map bare).map V.str++[Str.empty].map V.str))) r (.lst (((aO m es ks ts).map bare).map V.str))=H1 at sR gR
 have hp0 : [plW,tx m]∈aO m es ks ts:=Ql ..
 refine⟨_,rfl,r,_,0,_,rfl,SqL.of gR,rfl,bare [plW,tx m],m,rfl,mY wr hp0,?_,m2,m40,fun H2 s2=>?_⟩
 ·exact oj (first:=plW) (ns:=[m]) (by decide +kernel) fun n hn=>by
   rw[QP.mp hn]
   omega
 refine⟨_,1,rfl,(by intro z;cases z),?_⟩
 have gR2:=s2 _ _ gR
 refine⟨_,rfl,r,(aO m es ks ts).map bare,(QW es.length).map (tdOf es ks),rfl,SqL.of gR2,by rw[P5,QH];omega,fun i d hd=>?_,?_,fun q zs H3 s3 hq tz=>?_⟩
 ·rw[Qd]at hd
  obtain⟨j,hj,rfl⟩:=QJ.mp hd
  have hi:=(P0.mp hj).1
  rw[QH]at hi
  rw[Q8 hi]at hj
  cases hj
  exact⟨_,by rw[Qd,rP hi];rfl,Js wr hi⟩
 ·rw[P5,QH]
  have h0:0<ts.length:=by omega
  have hw:=rk (m:=m) (es:=es) (ks:=ks) h0
  have hf:fw (bare (abRW 0 (ts.getD 0 [])))=abW:=Er (by unfold Gz;decide +kernel) _
  refine⟨_,by rw[Qd,show es.length+1=1+es.length+0 by omega,hw];rfl,(mY wr (P7 hw)).1,?_,?_⟩
  ·rw[hf];decide +kernel
  ·rw[hf];decide +kernel
 have zl:zs.length=es.length:=by rw[tz.1,P5,QH]
 have gR3:=s3 _ _ gR2
 refine⟨_,rfl,_,rfl,_,rfl,q,_,rfl,.inl (SqL.of hq),_,_,rfl,rfl,r,(aO m es ks ts).map bare,ts,m,1+es.length,?_,SqL.of gR3,tl,m40,fun i l hl=>?_,fun qt zt H4 s4 hqt rt=>?_⟩
 ·rw[zl]
  rfl
 ·have hi:=(P0.mp hl).1
  have hw:=rk (m:=m) (es:=es) (ks:=ks) hi
  have gl:ts.getD i []=l:=by rw[Qi,hl];rfl
  rw[gl]at hw
  have rl:=wr.rl l (P7 hl)
  refine⟨_,by rw[Qd,hw];rfl,mY wr (P7 hw),?_,rl.1⟩
  exact oj (first:=abW) (ns:=i::l) (by decide +kernel) fun n hn=>by
   rcases P8.mp hn with rfl | hn
   ·omega
   ·have:=rl.2 n hn
    omega
 have gR4:=s4 _ _ gR3
 have hq4:=s4 _ _ hq
 have tz4:TdAt H4 zs _:=tz.mono fun b xs e=>s4 _ _ e
 refine⟨_,rfl,q,_,rfl,.inl (SqL.of hq4),_,_,rfl,rfl,_,rfl,_,_,rfl,rfl,?_⟩
 refine⟨_,rfl,r,_,rfl,.inl (SqL.of gR4),_,rfl,_,_,rfl,rfl,_,rfl,ite2 (fun c=>absurd (of_decide_eq_true c) ?_) (fun _=>?_)⟩
 ·rw[P5,bl,zl,tl]
  omega
 refine⟨_,rfl,rfl,_,rfl,ite2 (fun z=>?_) (fun _=>?_)⟩
 ·simp at z
 refine⟨_,rfl,_,rfl,q,rfl,⟨_,SqL.of hq4⟩,wJ (K:=K) (xs:=zs) (fun i us H5=>Same H4 H5/\fZ PL PS H5 us (es.take i) ks) (by omega) ⟨fun _ _ z=>z,rfl,fun i e k z=>by simp at z⟩ (fun i us H5 _ z=>SqL.of (z.1 _ _ hq4)) ?_ ?_ (fun i us H5 z=>by rw[z.2.1,QK];omega)⟩
 ·rintro i x us H5 hx ⟨s5,tt⟩
  have hi:i<es.length:=by rw[← zl];exact(P0.mp hx).1
  obtain⟨t,x1,x2⟩:=tz4.2 i (tdOf es ks i) (by rw[Qd,Q8 hi];rfl)
  rw[hx]at x1
  cases x1
  have ge:es.getD i (0,0)=es[i]:=by rw[Qi,PZ hi];rfl
  have gk:ks.getD i (0,0)=ks[i]:=by rw[Qi,PZ (show i<ks.length by omega)];rfl
  have k':=wr.kk ks[i] (QO _)
  have ne:=(g.w.ends es[i] (QO _)).2.2
  unfold tdOf at x2
  rw[ge,gk]at x2
  refine⟨t,_,rfl,SqT.of (s5 _ _ x2),rfl,_,_,rfl,_,_,rfl,_,_,rfl,_,_,rfl,rfl,rfl,yesT ?_⟩
  refine⟨_,rfl,_,rfl,_,rfl,_,rfl,_,_,_,_,rfl,ne,fun p dx H6 s6 hp=>⟨s5.trans s6,?_⟩⟩
  refine fZ.snoc (tt.mono s6) (PZ hi) (PZ (show i<ks.length by omega)) (dx:=dx) ?_
  rw[hp,show(((ks[i].2.toNat:Nat)):Int)=ks[i].2 by omega,decide_eq_decide.mpr (yD (k:=ks[i].1))]
 rintro us H5 ⟨s5,tt⟩ D hD
 rw[zl,QN]at tt
 have usl:us.length=es.length:=tt.1
 have sD:=ao hD (.lst us)
 have hDD:(upd H5 D (.lst us)) D=some (.lst us):=ag
 have s4D:=s5.trans sD
 have ttD:=tt.mono sD
 generalize upd H5 D (.lst us)=HD at sD s4D hDD ttD
 have hqtD:=s4D _ _ hqt
 have rtD:=rt.mono s4D
 refine⟨_,rfl,?_⟩
 intro x dx nx ndx nex
 have up:∀ b o,HD b=some o->(upd (upd HD dx (.own x)) x (.ins WC dx [])) b=some o:=fun b o z=>by rw[ar (aB z nx),ar (aB z ndx)];exact z
 refine⟨x,WC,dx,D,qt,m,us,zt,es,ts,rfl,ag,cw,up _ _ hDD,((ttD.at kl TL TS)).mono up,up _ _ hqtD,rtD.mono up,g,e0,e14,fun fs q1 rs H6 h1 hg hn h2 h3 h4=>⟨rfl,?_⟩⟩
 have s6:Same HD H6:=fun b o z=>h4 b o (up _ _ z) (aB z nx)
 have sAll:=sR.trans (s2.trans (s3.trans (s4.trans s4D)))
 have up0:∀ a,H a≠none->(upd (upd HD dx (.own x)) x (.ins WC dx [])) a≠none:=fun a z y=>z (by
  cases u:H a with
  |none=>rfl
  |some o=>rw[up _ _ (sAll _ _ u)]at y;cases y)
 exact kk x H6 (sAll.trans s6) ((ww_of ⟨dx,fs,q1,us,h1,hg,fun z=>z hn,h2,h3,ttD.mono s6⟩).mono (KpL.of fun _ _ e=>e) up0)
end
end KF
namespace KF
open PySem L2 PyProof.Rows K8
local macro_rules | `(tactic| walk_at "cc") => `(tactic| first | exact ⟨by decide, by decide⟩ | (show (0 : Int) < _; decide) | (show (0 : Int) < _; omega) | (show (0 : Int) ≤ _; omega) | exact ⟨by decide, by decide, by decide⟩ | exact ⟨by omega, by omega, by decide⟩ | exact Or.inl ⟨by decide, by decide⟩ | exact Or.inl ⟨by omega, by omega⟩)
local macro_rules | `(tactic| walk_at "rd") => `(tactic| repeat (first | refine ⟨_, rfl, ?_⟩ | refine ⟨_, _, rfl, rfl, ?_⟩ | refine ⟨rfl, ?_⟩ | (refine ⟨?cc, ?_⟩; (case cc => walk_at "cc"))))
def xp(PL PS:Addr):Sp:=fun vs H Q _=>∃(p dx:Addr)(e:Nat×Nat)(k:Int×Int),vs = [.ref p]/\H p=some (.ins (cls PL PS (decide (k.1=1))) dx (tf (e.1:Int) (e.2:Int) k.2))/\(k.1=0∨k.1=1)/\0<=k.2/\e.1≠e.2/\∀(p' dx':Addr)(H':Hp),Same H H'->H' p'=some (.ins (cls PL PS (decide (1-k.1=1))) dx' (tf (e.1:Int) (e.2:Int) k.2))->Q (.ref p') H'
structure Ch(m:Nat)(es:En)(ts:List (List Nat))(ks:Kn):Prop where
 wr:Wr m es ks ts
 g:Gr m es ts
 pos:0<es.length
 few:es.length<=6
theorem fZ.set{PL PS:Addr}{H:Hp}{xs:List V}{es:En}{ks:Kn}{n:Nat}{e:Nat×Nat}{k:Int×Int}{p dx:Addr}(t:fZ PL PS H xs es ks)(he:es[n]?=some e)(hp:H p=some (.ins (cls PL PS (decide (k.1=1))) dx (tf (e.1:Int) (e.2:Int) k.2))):fZ PL PS H (xs.set n (.ref p)) es (ks.set n k):=by
 refine⟨by rw[QM];exact t.1,fun i e' k' h1 h2=>?_⟩
 have hn:=(P0.mp he).1
 by_cases c:n=i
 ·subst c
  rw[he]at h1
  cases h1
  have hk:=(P0.mp h2).1
  rw[QM]at hk
  rw[Ri hk]at h2
  cases h2
  exact⟨p,dx,by rw[Ri (by rw[t.1];exact hn)],hp⟩
 ·rw[Rf c]at h2
  obtain⟨q,dq,a1,a2⟩:=t.2 i e' k' h1 h2
  exact⟨q,dq,by rw[Rf c];exact a1,a2⟩
theorem Ch.set{m:Nat}{es:En}{ts:List (List Nat)}{ks:Kn}(c:Ch m es ts ks){n:Nat}{k:Int×Int}(h1:k.1=0∨k.1=1)(h2:0<=k.2)(h3:k.2<=10^30):Ch m es ts (ks.set n k):=by
 refine⟨⟨by rw[QM];exact c.wr.kl,c.wr.few,c.wr.m2,c.wr.m40,c.wr.tl,fun x hx=>?_,c.wr.ee,c.wr.rl⟩,c.g,c.pos,c.few⟩
 rcases Sm hx with h | rfl
 ·exact c.wr.kk x h
 ·exact⟨h1,h2,h3⟩
theorem NB{K:P1}{PL PS WC D qt:Addr}{H HD:Hp}{m:Nat}{es:En}{ts:List (List Nat)}{ks:Kn}{us zt:List V}{Q:VK}(cw:CW K WC)(TL:CT K PL)(TS:CT K PS)(kk:∀ (p':Addr) (H':Hp),Same H H'->WebW (fun a=>H a≠none) PL PS WC H' p' m es ts ks->Q (.ref p') H')(s:Same H HD)(hD:HD D=some (.lst us))(tt:fZ PL PS HD us es ks)(hqt:HD qt=some (.lst zt))(rt:bO HD zt ts)(ch:Ch m es ts ks) :
  ∀ x dx,HD x=none->HD dx=none->dx≠x->lQ K (.ref x::([.int (m:Int),.ref D,.ref qt]++[])) (upd (upd HD dx (.own x)) x (.ins WC dx [])) (fun v H2=>v=.non/\Q (.ref x) H2) E0:=by
 intro x dx nx ndx nex
 have up:∀ b o,HD b=some o->(upd (upd HD dx (.own x)) x (.ins WC dx [])) b=some o:=fun b o z=>by rw[ar (aB z nx),ar (aB z ndx)];exact z
 refine⟨x,WC,dx,D,qt,m,us,zt,es,ts,rfl,ag,cw,up _ _ hD,((tt.at ch.wr.kl TL TS)).mono up,up _ _ hqt,rt.mono up,ch.g,ch.pos,ch.few,fun fs q1 rs H6 h1 hg hn h2 h3 h4=>⟨rfl,?_⟩⟩
 have s6:Same HD H6:=fun b o z=>h4 b o (up _ _ z) (aB z nx)
 have up0:∀ a,H a≠none->(upd (upd HD dx (.own x)) x (.ins WC dx [])) a≠none:=fun a z y=>z (by
  cases u:H a with
  |none=>rfl
  |some o=>rw[up _ _ (s _ _ u)]at y;cases y)
 exact kk x H6 (s.trans s6) ((ww_of ⟨dx,fs,q1,us,h1,hg,fun z=>z hn,h2,h3,tt.mono s6⟩).mono (KpL.of fun _ _ e=>e) up0)
section
variable{P:Program}{w:World}{K:P1}{mg:Str->Option Value}{base:Heap}
theorem jB:aH ["word","row","many","numbers"] ["word","row","many"] (aj bY):=⟨rfl,rfl,rfl,by decide +kernel,rfl,by decide +kernel,by decide +kernel⟩
theorem Jn:aH ["tie"] ["tie"] (aj kI):=⟨rfl,rfl,rfl,by decide +kernel,rfl,by decide +kernel,by decide +kernel⟩
theorem JM{f f1 f0 g1 PL PS:Addr}{fd d1 d0 e1:FuncData} (F:Fun K "turned" "turned" kI f fd) (TL:CT K PL) (TS:CT K PS) (G_made:Cal P w K mg base 3 "made" ["kind","one","two","strength"] (r6 PL PS) f1 d1) (u0:Met P w K mg base 1 PL "wish" ["self"] (qo false) f0 d0) (u1:Met P w K mg base 1 PS "wish" ["self"] (qo true) g1 e1):FnOk P w K mg base CX0 4 f fd ["tie"] (xp PL PS):=by
 refine F.ok Jn (fun vs H Q E h=>?_) (fun cdv A outer s H vs Q E hr h=>?_)
 ·obtain⟨p,dx,e,k,rfl,_⟩:=h
  rfl
 obtain⟨p,dx,e,k,rfl,hp,k01,k0,ne,kk⟩:=h
 have CL0:=TL.cl
 have CL1:=TS.cl
 refine⟨_,(ak (aJ (ax G_made.ok (hr.mono (by decide)) rfl G_made.mg G_made.kp G_made.bn .nil aN (aa (kM (au eY (Ac (gh (pv 0) CL0 u0.me u0.ok (hr.mono (by decide)) u0.bn .nil aN) (gh (pv 0) CL1 u1.me u1.ok (hr.mono (by decide)) u1.bn .nil aN)) ai (aC _)) aM aM) (aa (bh (pv 0) rfl) (aa (bh (pv 0) rfl) (aa (bh (pv 0) rfl) af))))))),?_⟩
 obtain⟨n,hn⟩:∃ n:Nat,k.2=(n:Int):=⟨k.2.toNat,by omega⟩
 rw[hn]at hp kk
 have eb:(kS (1-k.1)=cE)↔1-k.1=1:=yD
 have fin:∀ C:Addr,CT K C->H p=some (.ins C dx (tf (e.1:Int) (e.2:Int) (n:Int)))->(bP (tFld K (tVar 0) "one") (bP (tFld K (tVar 0) "two") (bP (tFld K (tVar 0) "strength") tNil))) [some (.ref p)] H (fun vs H1=>r6 PL PS ((V.str (kS (1-k.1))::vs)++[]) H1 Q E0):=fun C CC hp=>by
  refine⟨_,rfl,p,C,dx,_,_,rfl,hp,CC.cl,CC.n1,lu _ _ _,_,rfl,p,C,dx,_,_,rfl,hp,CC.cl,CC.n2,rR _ _ _,_,rfl,p,C,dx,_,_,rfl,hp,CC.cl,CC.n3,Nn _ _ _,?_⟩
  refine⟨_,e.1,e.2,n,rfl,ne,fun p' dx' H' s' h'=>kk p' dx' H' s' ?_⟩
  rw[h',decide_eq_decide.mpr eb]
 by_cases c:k.1=1
 ·rw[decide_eq_true c]at hp
  refine .inr ⟨_,rfl,p,dx,_,rfl,hp,Mb _ _ _ (by decide +kernel) (by decide +kernel) (by decide +kernel),p,rfl,rfl,_,rfl,?_⟩
  have z:=fin PS TS hp
  rw[show kS (1-k.1)=(("pull" : String):Str) from by rw[c];rfl]at z
  exact iteT z
 ·rw[decide_eq_false c]at hp
  refine .inl ⟨_,rfl,p,dx,_,rfl,hp,Mb _ _ _ (by decide +kernel) (by decide +kernel) (by decide +kernel),p,rfl,rfl,_,rfl,?_⟩
  have z:=fin PL TL hp
  rw[show kS (1-k.1)=(("push" : String):Str) from by rw[show k.1=0 by omega];rfl]at z
  exact iteF z
theorem sk:aH ["web","kind","number","strength","ties"] ["web","kind","number","strength"] (aj fA):=⟨rfl,rfl,rfl,by decide +kernel,rfl,by decide +kernel,by decide +kernel⟩
end
end KF
namespace KF
open PySem L2 PyProof.Rows K8
local macro_rules | `(tactic| walk_at "cc") => `(tactic| first | exact ⟨by decide, by decide⟩ | (show (0 : Int) < _; decide) | (show (0 : Int) < _; omega) | (show (0 : Int) ≤ _; omega) | exact ⟨by decide, by decide, by decide⟩ | exact ⟨by omega, by omega, by decide⟩ | exact Or.inl ⟨by decide, by decide⟩ | exact Or.inl ⟨by omega, by omega⟩)
local macro_rules | `(tactic| walk_at "rd") => `(tactic| repeat (first | refine ⟨_, rfl, ?_⟩ | refine ⟨_, _, rfl, rfl, ?_⟩ | refine ⟨rfl, ?_⟩ | (refine ⟨?cc, ?_⟩; (case cc => walk_at "cc"))))
def flip1(ks:Kn)(t:Nat):Kn:=ks.set t (1-(ks.getD t (0,0)).1,(ks.getD t (0,0)).2)
def flipL(ks:Kn)(l:List Nat):Kn:=l.foldl flip1 ks
theorem pF(ks:Kn)(l:List Nat)(t:Nat):flipL ks (l++[t])=flip1 (flipL ks l) t:=by
 unfold flipL
 rw[List.foldl_append]
 rfl
theorem Ch.flip1{m:Nat}{es:En}{ts:List (List Nat)}{ks:Kn}(c:Ch m es ts ks){t:Nat}(h:t<es.length):Ch m es ts (flip1 ks t):=by
 have k:=c.wr.kk _ (kY (d:=(0,0)) (show t<ks.length by rw[c.wr.kl];exact h))
 exact c.set (by show 1-(ks.getD t (0,0)).1=0∨1-(ks.getD t (0,0)).1=1;omega) k.2.1 k.2.2
inductive Dd where
 |tie (kd:Int) (n s:Nat)
 |flip (p:Nat)
def flW:Str:=(("flip" : String):Str)
def ddK(ts:List (List Nat))(ks:Kn):Dd->Kn
 |.tie kd n s=>ks.set n (kd,(s:Int))
 |.flip p=>flipL ks (ts.getD p [])
def ddOk(m:Nat)(es:En):Dd->Prop
 |.tie kd n s=>(kd=0∨kd=1)/\n<es.length/\s<=10^30
 |.flip p=>p<m
section
variable{P:Program}{w:World}{K:P1}{mg:Str->Option Value}{base:Heap}
theorem oH:aH ["web","place","ties","number"] ["web","place"] (aj g9):=⟨rfl,rfl,rfl,by decide +kernel,rfl,by decide +kernel,by decide +kernel⟩
theorem oJ:aH ["web","row","word","numbers"] ["web","row"] (aj hG):=⟨rfl,rfl,rfl,by decide +kernel,rfl,by decide +kernel,by decide +kernel⟩
end
end KF
namespace KF
open PySem L2 PyProof.Rows K8
local macro_rules | `(tactic| walk_at "cc") => `(tactic| first | exact ⟨by decide, by decide⟩ | (show (0 : Int) < _; decide) | (show (0 : Int) < _; omega) | (show (0 : Int) ≤ _; omega) | exact ⟨by decide, by decide, by decide⟩ | exact ⟨by omega, by omega, by decide⟩ | exact Or.inl ⟨by decide, by decide⟩ | exact Or.inl ⟨by omega, by omega⟩)
local macro_rules | `(tactic| walk_at "rd") => `(tactic| repeat (first | refine ⟨_, rfl, ?_⟩ | refine ⟨_, _, rfl, rfl, ?_⟩ | refine ⟨rfl, ?_⟩ | (refine ⟨?cc, ?_⟩; (case cc => walk_at "cc"))))
structure CD(K:P1)(DC:Addr):Prop where
 cl:Cls K DC
 n1:f9 K DC "webs"
theorem Ks{n:Str}{v:V} (h:(n == ("webs" : Str))=false):RM n [(("webs" : Str),v)]=none:=by
 rw[S4,h]
 rfl
def cm:Str:=(("back" : String):Str)
def LY(DC:Addr)(H:Hp)(d L:Addr)(ps:List V):Prop:=∃ dx,H d=some (.ins DC dx [(("webs" : Str),.ref L)])/\H L=some (.lst ps)
def xG(K:P1)(PL PS WC:Addr):Sp:=fun vs H Q _=>∃(d DC dx:Addr)(m:Nat)(es:En)(ts:List (List Nat))(ks:Kn),vs = [.ref d,.str (webT m es ks ts)]/\H d=some (.ins DC dx [])/\CD K DC/\Ch m es ts ks /\
 ∀(L p:Addr)(H':Hp),LY DC H' d L [.ref p]->H L=none->L≠p->WebW (fun a=>H a≠none∨a=L) PL PS WC H' p m es ts ks->(∀ b o,H b=some o->b≠d->H' b=some o)->Q .non H'
def FC(DC:Addr):Sp:=fun vs H Q _=>∃(d L:Addr)(ps:List V),vs = [.ref d]/\LY DC H d L ps/\Q (.int ((ps.length:Int)-1)) H
def Jd(PL PS WC DC:Addr):Sp:=fun vs H Q _=>∃(d L p:Addr)(ps:List V)(S:Addr->Prop)(m:Nat)(es:En)(ts:List (List Nat))(ks:Kn),vs = [.ref d]/\LY DC H d L (ps++[.ref p])/\WebW S PL PS WC H p m es ts ks/\Wr m es ks ts/\∀ H',Same H H'->Q (.str (webT m es ks ts)) H'
section
variable{P:Program}{w:World}{K:P1}{mg:Str->Option Value}{base:Heap}
theorem lz:aH ["self","text"] ["self","text"] (aj bQ):=⟨rfl,rfl,rfl,by decide +kernel,rfl,by decide +kernel,by decide +kernel⟩
theorem MF{f f1 PL PS WC:Addr}{fd d1:FuncData} (F:Fun K "__init__" "Desk.__init__" bQ f fd) (G_read:Cal P w K mg base 7 "read" ["text"] (Cw PL PS WC) f1 d1):FnOk P w K mg base CX0 8 f fd ["self","text"] (xG K PL PS WC):=by
 refine F.ok lz (fun vs H Q E h=>?_) (fun cdv A outer s H vs Q E hr h=>?_)
 ·obtain⟨d,DC,dx,m,es,ts,ks,rfl,_⟩:=h
  rfl
 obtain⟨d,DC,dx,m,es,ts,ks,rfl,hd,cd,ch,kk⟩:=h
 refine⟨_,(ak (fO (pv 0) (bg (aa (ax G_read.ok (hr.mono (by decide)) rfl G_read.mg G_read.kp G_read.bn .nil aN (aa (pv 1) af)) af)) rfl)),?_⟩
 refine⟨_,rfl,m,es,ks,ts,rfl,ch.wr,ch.g,ch.pos,ch.few,fun p H1 s1 ww=>⟨(by show 1<=sizeLine;decide),fun L hL=>?_⟩⟩
 have sL:=ao hL (.lst [.ref p])
 have hd1:=sL _ _ (s1 _ _ hd)
 refine⟨_,rfl,d,DC,dx,[],rfl,hd1,cd.cl,cd.n1,(by show 0<1000;decide),?_⟩
 have dL:d≠L:=fun z=>by rw[← z,s1 _ _ hd]at hL;cases hL
 have pL:L≠p:=fun z=>by
  obtain⟨dxp,fsp,_,_,_,_,hp,_⟩:=ww
  rw[← z,hL]at hp;cases hp
 refine kk L p _ ⟨dx,ag,by rw[ar (Ne.symm dL),ag]⟩ (none_of s1 hL) pL ?_ (fun b o e n=>by rw[ar n];exact sL _ _ (s1 _ _ e))
 refine ww.mono2 (fun b o e n=>?_) (fun a xs z e=>z.elim id fun y=>by rw[y,hL]at e;cases e)
 have bd:b≠d:=fun z=>by
  rw[z,s1 _ _ hd]at e
  cases e
  rcases n with⟨⟨xs,q⟩,_⟩ | ⟨C,dx',fs,q,ne⟩
  ·cases q
  ·cases q
   exact ne rfl
 rw[ar bd]
 exact sL _ _ e
theorem zR:aH ["self"] ["self"] (aj dH):=⟨rfl,rfl,rfl,by decide +kernel,rfl,by decide +kernel,by decide +kernel⟩
theorem OQ{f DC:Addr}{fd:FuncData} (F:Fun K "left" "Desk.left" dH f fd) (T:Txt mg) (cd:CD K DC):FnOk P w K mg base CX0 1 f fd ["self"] (FC DC):=by
 refine F.ok zR (fun vs H Q E h=>?_) (fun cdv A outer s H vs Q E hr h=>?_)
 ·obtain⟨d,L,ps,rfl,_⟩:=h
  rfl
 obtain⟨d,L,ps,rfl,⟨dx,hd,hL⟩,kk⟩:=h
 refine⟨_,(ak (aJ (aE nA (aA aq (by rfl) T.n_len aT (aa (bh (pv 0) rfl) af)) ai))),?_⟩
 exact⟨_,rfl,d,DC,dx,_,_,rfl,hd,cd.cl,cd.n1,rfl,L,ps,rfl,.inl (SqL.of hL),_,_,rfl,rfl,kk⟩
theorem zQ:aH ["self"] ["self"] (aj dG):=⟨rfl,rfl,rfl,by decide +kernel,rfl,by decide +kernel,by decide +kernel⟩
theorem ON{f f1 DC PL PS WC:Addr}{fd d1:FuncData} (F:Fun K "text" "Desk.text" dG f fd) (cd:CD K DC) (G_written:Cal P w K mg base 3 "written" ["web"] (rW PL PS WC) f1 d1):FnOk P w K mg base CX0 4 f fd ["self"] (Jd PL PS WC DC):=by
 refine F.ok zQ (fun vs H Q E h=>?_) (fun cdv A outer s H vs Q E hr h=>?_)
 ·obtain⟨d,L,p,ps,S,m,es,ts,ks,rfl,_⟩:=h
  rfl
 obtain⟨d,L,p,ps,S,m,es,ts,ks,rfl,⟨dx,hd,hL⟩,ww,wr,kk⟩:=h
 refine⟨_,(ak (aJ (ax G_written.ok (hr.mono (by decide)) rfl G_written.mg G_written.kp G_written.bn .nil aN (aa (aG av (bh (pv 0) rfl) (GZ wk ai) (fun _ _=>rfl)) af)))),?_⟩
 exact⟨_,rfl,d,DC,dx,_,_,rfl,hd,cd.cl,cd.n1,rfl,_,rfl,L,_,-1,.ref p,rfl,rfl,SqL.of hL,zf _ _,S,p,m,es,ts,ks,rfl,ww,wr,kk⟩
theorem GL:aH ["self","row"] ["self","row"] (aj hU):=⟨rfl,rfl,rfl,by decide +kernel,rfl,by decide +kernel,by decide +kernel⟩
end
end KF
namespace KF
open PySem L2 PyProof.Rows K8
local macro_rules | `(tactic| walk_at "cc") => `(tactic| first | exact ⟨by decide, by decide⟩ | (show (0 : Int) < _; decide) | (show (0 : Int) < _; omega) | (show (0 : Int) ≤ _; omega) | exact ⟨by decide, by decide, by decide⟩ | exact ⟨by omega, by omega, by decide⟩ | exact Or.inl ⟨by decide, by decide⟩ | exact Or.inl ⟨by omega, by omega⟩)
local macro_rules | `(tactic| walk_at "rd") => `(tactic| repeat (first | refine ⟨_, rfl, ?_⟩ | refine ⟨_, _, rfl, rfl, ?_⟩ | refine ⟨rfl, ?_⟩ | (refine ⟨?cc, ?_⟩; (case cc => walk_at "cc"))))
theorem OG(m:Nat):(("places " : String):Str)++tx m=bare [plW,tx m]:=by
 have e:(("places " : String):Str)=plW++spS:=by decide +kernel
 rw[e]
 rfl
def Bq(H:Hp)(b:Addr)(es:En)(ts:List (List Nat))(ks:Kn):Prop:=∃(pe pt pk:Addr)(ys xs ws:List V),H b=some (.tup [.ref pe,.ref pt,.ref pk])/\H pe=some (.lst ys)/\cY H ys es/\H pt=some (.lst xs)/\bO H xs ts/\H pk=some (.lst ws)/\bJ H ws ks
def rX:Sp:=fun vs H Q _=>∃(b:Addr)(m:Nat)(es:En)(ks:Kn)(ts:List (List Nat)),vs = [.ref b]/\Bq H b es ts ks/\Wr m es ks ts/\∀ H',Same H H'->Q (.str (webT m es ks ts)) H'
theorem IQ(m:Nat)(es:En)(ks:Kn)(ts:List (List Nat)):Str.join nlS ((aO m es ks ts).map bare)++nlS=webT m es ks ts:=by
 have e:(aO m es ks ts).map rowT=((aO m es ks ts).map bare).map fun b=>b++nlS:=by rw[Ra];rfl
 unfold webT
 rw[e,Eo,nM nlS Str.empty (by unfold aO;simp),Str.append_empty]
def bsTo(m:Nat)(es:En)(ks:Kn)(ts:List (List Nat))(i j:Nat):List V:=V.str (bare [plW,tx m])::((QW i).map (fun i=>V.str (bare (tieW (es.getD i (0,0)) (ks.getD i (0,0)))))++(QW j).map fun i=>V.str (bare (abRW i (ts.getD i []))))
theorem Gj{m:Nat}{es:En}{ks:Kn}{ts:List (List Nat)}{i j:Nat}:(bsTo m es ks ts i j).length=1+i+j:=by
 unfold bsTo
 rw[Qz,P2,P5,P5,QH,QH]
 omega
theorem Nf{m:Nat}{es:En}{ks:Kn}{ts:List (List Nat)}{i:Nat}:bsTo m es ks ts i 0++[V.str (bare (tieW (es.getD i (0,0)) (ks.getD i (0,0))))]=bsTo m es ks ts (i+1) 0:=by
 unfold bsTo
 rw[RX,List.range_zero,List.map_nil,Rl,Rl,QE]
 rfl
theorem PQ{m:Nat}{es:En}{ks:Kn}{ts:List (List Nat)}{i j:Nat}:bsTo m es ks ts i j++[V.str (bare (abRW j (ts.getD j [])))]=bsTo m es ks ts i (j+1):=by
 unfold bsTo
 rw[RX (n:=j),QE,S6,Su]
 rfl
section
variable{P:Program}{w:World}{K:P1}{mg:Str->Option Value}{base:Heap}
theorem b7:aH ["built","rows","k","word","place"] ["built"] (aj bZ):=⟨rfl,rfl,rfl,by decide +kernel,rfl,by decide +kernel,by decide +kernel⟩
theorem G4{f:Addr}{fd:FuncData} (F:Fun K "_law_web_text" "_law_web_text" bZ f fd) (T:Txt mg):FnOk P w K mg base CX0 1 f fd ["built"] rX:=by
 refine F.ok b7 (fun vs H Q E h=>?_) (fun cdv A outer s H vs Q E hr h=>?_)
 ·obtain⟨b0,m,es,ks,ts,rfl,_⟩:=h
  rfl
 obtain⟨b0,m,es,ks,ts,rfl,⟨pe,pt,pk,ys,xs,ws,hb0,hpe,hE,hpt,hR,hpk,tk⟩,wr,kk⟩:=h
 refine⟨_,(ae (ay (i:=1) b7.nd rfl (Or.inl rfl) (bg (aa (aE hZ aM (aW bC (by rfl) T.n_str lH (aa (aA aq (by rfl) T.n_len aT (aa (aG a8 (pv 0) ai (fun _ _=>rfl)) af)) af))) af)))
   (ae (cF PassesOwn.never rfl (bV rfl T.n_range (aa (aA aq (by rfl) T.n_len aT (aa (aG a8 (pv 0) ai (fun _ _=>rfl)) af)) af)) (aV (i:=2) b7.nd rfl (Or.inl rfl)) (ae (ay (i:=3) b7.nd rfl (Or.inl rfl) (aG av (bg (aa aM (aa aM af))) (aG a8 (aG av (aG a8 (pv 0) ai (fun _ _=>rfl)) (pv 2) (fun _ _=>rfl)) ai (fun _ _=>rfl)) (fun _ _=>rfl)))
   (ak (aU (bK Qg Qs Qr aZ (pv 1) (aa (bK QV Rk Ry o5 aM (aa (bg (aa (pv 3) (aa (aW bC (by rfl) T.n_str lH (aa (aG a8 (aG av (aG a8 (pv 0) ai (fun _ _=>rfl)) (pv 2) (fun _ _=>rfl)) ai (fun _ _=>rfl)) af)) (aa (aW bC (by rfl) T.n_str lH (aa (aG a8 (aG av (aG a8 (pv 0) ai (fun _ _=>rfl)) (pv 2) (fun _ _=>rfl)) ai (fun _ _=>rfl)) af)) (aa (aW bC (by rfl) T.n_str lH (aa (aG a8 (aG av (aG a8 (pv 0) ai (fun _ _=>rfl)) (pv 2) (fun _ _=>rfl)) ai (fun _ _=>rfl)) af)) af))))) af)) af))))))
   (ae (cF PassesOwn.never rfl (bV rfl T.n_range (aa (aA aq (by rfl) T.n_len aT (aa (aG a8 (pv 0) ai (fun _ _=>rfl)) af)) af)) (aV (i:=4) b7.nd rfl (Or.inl rfl)) (ak (aU (bK Qg Qs Qr aZ (pv 1) (aa (bK QV Rk Ry o5 aM (aa (aE JJ (bg (aa aM (aa (aW bC (by rfl) T.n_str lH (aa (pv 4) af)) af))) (iw rfl (fr:=[]) (by exact cq.plain (by rfl) (by decide +kernel) (by rfl) (by decide +kernel) (by rfl) (by decide +kernel)) (b4 (aG av (aG a8 (pv 0) ai (fun _ _=>rfl)) (pv 4) (fun _ _=>rfl))) (fun C ex s H=>(aW bC (by rfl) T.n_str lH (aa (pv 0) af))))) af)) af)))))
   (ak (aJ (aE hZ (bK QV Rk Ry o5 aM (aa (pv 1) af)) aM)))))),?_⟩
 have few:=wr.few
 have kl:=wr.kl
 have m40:=wr.m40
 have tl:=wr.tl
 have yl:ys.length=es.length:=hE.1
 have xl:xs.length=ts.length:=hR.1
 have s64:(400000:Nat)<=sizeLine:=by decide
 have l7:(("places " : String):Str).length=7:=by decide +kernel
 have lm:=tx2 (n:=m) (by omega)
 refine⟨_,rfl,b0,_,1,_,rfl,rfl,SqT.of hb0,at31,pt,_,rfl,.inl (SqL.of hpt),_,rfl,cG (n:=xs.length) (by omega),_,_,rfl,rfl,?_,?_⟩
 ·rw[l7]
  show 7+(tx xs.length).length<=_
  rw[xl,tl]
  omega
 have ep:V.str ((("places " : String):Str)++((toString ((xs.length:Nat):Int):String):Str))=V.str (bare [plW,tx m]):=by
  rw[xl,tl,← OG]
  rfl
 rw[ep]
 refine⟨(by show 1<=sizeLine;decide),fun q hq=>?_⟩
 have s1:=ao hq (.lst [V.str (bare [plW,tx m])])
 refine⟨_,rfl,b0,_,0,_,rfl,rfl,SqT.of (s1 _ _ hb0),at30,pe,ys,rfl,.inl (SqL.of (s1 _ _ hpe)),_,rfl,by omega,by omega,cH (n:=(ys.length:Int).toNat) (fun i σ H2=>∃(v2 v3 v4:Option V),σ = [some (.ref b0),some (.ref q),v2,v3,v4]/\Same H H2/\H2 q=some (.lst (bsTo m es ks ts i 0))) ⟨_,_,_,rfl,s1,ag⟩ ?_ ?_⟩
 ·rintro i σ H2 hi ⟨v2,v3,v4,rfl,s2,hq2⟩
  rw[Qy,yl]at hi
  rw[RB]
  obtain⟨pp,x1,x2⟩:=(hE.mono s2).2 i es[i] (PZ hi)
  obtain⟨k1,k2,pk',y1,y2⟩:=(tk.mono s2).2 i ks[i] (PZ (by omega))
  have e':=wr.ee es[i] (QO _)
  have k':=wr.kk ks[i] (QO _)
  have ge:es.getD i (0,0)=es[i]:=by rw[Qi,PZ hi];rfl
  have gk:ks.getD i (0,0)=ks[i]:=by rw[Qi,PZ (show i<ks.length by omega)];rfl
  obtain⟨n,hn⟩:∃ n:Nat,ks[i].2=(n:Int):=⟨ks[i].2.toNat,by omega⟩
  have tw:=wr.tw hi
  rw[ge,gk]at tw
  have sl:=ik tw
  rw[hn]at y2
  refine⟨(by show 2<=sizeLine;decide),fun l hl=>?_⟩
  have sl':=ao hl (.lst [V.str (("pull" : String):Str),V.str (("push" : String):Str)])
  have hk1:atI [V.str (("pull" : String):Str),V.str (("push" : String):Str)] ks[i].1=some (V.str (kS ks[i].1)):=by
   rcases k1 with z | z<;>rw[z]<;>rfl
  refine⟨_,rfl,b0,_,2,_,rfl,rfl,SqT.of (sl' _ _ (s2 _ _ hb0)),at32,_,rfl,pk,ws,_,_,rfl,rfl,SqL.of (sl' _ _ (s2 _ _ hpk)),aQ y1,pk',_,0,_,rfl,rfl,SqT.of (sl' _ _ y2),at0,l,_,_,V.str (kS ks[i].1),rfl,rfl,SqL.of ag,hk1,?_⟩
  have s2':=s2.trans sl'
  have x2':=sl' _ _ x2
  have y2':=sl' _ _ y2
  have hq2':=sl' _ _ hq2
  generalize upd H2 l (.lst [V.str (("pull" : String):Str),V.str (("push" : String):Str)])=H2' at s2' x2' y2' hq2'
  refine⟨_,rfl,.inl ⟨rfl,_,SqL.of hq2'⟩,rfl,_,rfl,_,rfl,b0,_,0,_,rfl,rfl,SqT.of (s2' _ _ hb0),at30,_,rfl,pe,ys,_,_,rfl,rfl,SqL.of (s2' _ _ hpe),aQ x1,pp,_,0,_,rfl,rfl,SqT.of x2',at0,_,rfl,cG (by omega),_,rfl,b0,_,0,_,rfl,rfl,SqT.of (s2' _ _ hb0),at30,_,rfl,pe,ys,_,_,rfl,rfl,SqL.of (s2' _ _ hpe),aQ x1,pp,_,1,_,rfl,rfl,SqT.of x2',at1,_,rfl,cG (by omega),_,rfl,b0,_,2,_,rfl,rfl,SqT.of (s2' _ _ hb0),at32,_,rfl,pk,ws,_,_,rfl,rfl,SqL.of (s2' _ _ hpk),aQ y1,pk',_,1,_,rfl,rfl,SqT.of y2',at1,_,rfl,cG (by omega),(by show 4<=sizeLine;decide),fun a ha=>?_⟩
  have en:ks[i].2.toNat=n:=by omega
  have ew : [V.str (kS ks[i].1),V.str ((toString ((es[i].1:Nat):Int):String):Str),V.str ((toString ((es[i].2:Nat):Int):String):Str),V.str ((toString ((n:Nat):Int):String):Str)]=(tieW es[i] ks[i]).map V.str:=by
   unfold tieW
   rw[en]
   rfl
  rw[ew]
  have sa:=ao ha (.lst ((tieW es[i] ks[i]).map V.str))
  refine⟨((" " : String):Str),a,tieW es[i] ks[i],rfl,rfl,SqL.of ag,?_,?_⟩
  ·have:(tieW es[i] ks[i]).length=4:=rfl
   rw[rV]
   show _+_*1<=_
   omega
  rw[rV]
  refine⟨q,_,_,rfl,rfl,sa _ _ hq2',aI (by rw[Gj];omega),_,_,_,rfl,aP (s2'.trans sa) hq _,?_⟩
  rw[ag,← Nf,ge,gk]
  rfl
 rintro σ H2 ⟨v2,v3,v4,rfl,s2,hq2⟩
 rw[Qy,yl]at hq2
 refine⟨_,rfl,b0,_,1,_,rfl,rfl,SqT.of (s2 _ _ hb0),at31,pt,xs,rfl,.inl (SqL.of (s2 _ _ hpt)),_,rfl,by omega,by omega,cH (n:=(xs.length:Int).toNat) (fun i σ H3=>∃(v2 v3 v4:Option V),σ = [some (.ref b0),some (.ref q),v2,v3,v4]/\Same H H3/\H3 q=some (.lst (bsTo m es ks ts es.length i))) ⟨_,_,_,rfl,s2,hq2⟩ ?_ ?_⟩
 ·rintro i σ H3 hi ⟨v2,v3,v4,rfl,s3,hq3⟩
  rw[Qy,xl]at hi
  rw[RB]
  obtain⟨pr,x1,x2⟩:=(hR.mono s3).2 i ts[i] (PZ hi)
  have gt:ts.getD i []=ts[i]:=by rw[Qi,PZ hi];rfl
  obtain⟨w1,w2⟩:=wr.aw hi
  rw[gt]at w1 w2
  have sl:=ik w1
  have r63:=wr.rl ts[i] (QO _)
  have l63:=r63.1
  refine⟨_,rfl,.inl ⟨rfl,_,SqL.of hq3⟩,rfl,_,rfl,_,rfl,cG (n:=i) (by omega),(by show 2<=sizeLine;decide),fun b hb=>?_⟩
  have sb:=ao hb (.lst [V.str abW,V.str (tx i)])
  have gb:(upd H3 b (.lst [V.str abW,V.str (tx i)])) b=some (.lst [V.str abW,V.str (tx i)]):=ag
  have eb:(upd H3 b (.lst [V.str (("about" : String):Str),V.str ((toString ((i:Nat):Int):String):Str)]))=upd H3 b (.lst [V.str abW,V.str (tx i)]):=rfl
  rw[eb]
  generalize upd H3 b (.lst [V.str abW,V.str (tx i)])=H4 at sb gb
  refine⟨_,rfl,b0,_,1,_,rfl,rfl,SqT.of (sb _ _ (s3 _ _ hb0)),at31,_,rfl,pt,xs,_,_,rfl,rfl,SqL.of (sb _ _ (s3 _ _ hpt)),aQ x1,pr,rfl,⟨_,SqL.of (sb _ _ x2)⟩,d8 (K:=K) (xs:=ts[i].map iV) (fun j zs H5=>zs=(ts[i].take j).map (fun t=>V.str (tx t))/\H5=H4) (by rw[P5];omega) ⟨rfl,rfl⟩ (fun j zs H5 _ z=>by rw[z.2];exact SqL.of (sb _ _ x2)) ?_ ?_⟩
  ·rintro j x zs H5 hx ⟨rfl,rfl⟩
   rw[Qd]at hx
   obtain⟨t,ht,rfl⟩:=QJ.mp hx
   have:=r63.2 t (P7 ht)
   refine⟨_,rfl,_,rfl,cG (n:=t) (by omega),?_,rfl⟩
   rw[QI,ht,QE]
   rfl
  rintro zs H5 _ ⟨rfl,rfl⟩ D hD
  rw[P5,QN]
  have sD:=ao hD (.lst (ts[i].map fun t=>V.str (tx t)))
  refine⟨b,D,_,_,rfl,rfl,SqL.of (sD _ _ gb),SqL.of ag,by rw[P5];show 2+_<=_;omega,fun c hc=>?_⟩
  have ec : [V.str abW,V.str (tx i)]++ts[i].map (fun t=>V.str (tx t))=(abRW i ts[i]).map V.str:=by
   unfold abRW
   rw[QA,QA,Ra]
   rfl
  rw[ec]
  have sc:=ao hc (.lst ((abRW i ts[i]).map V.str))
  have s6:=sb.trans (sD.trans sc)
  refine⟨((" " : String):Str),c,abRW i ts[i],rfl,rfl,SqL.of ag,?_,?_⟩
  ·rw[rV]
   show _+_*1<=_
   have:(abRW i ts[i]).length*5<=65*5:=Nat.mul_le_mul_right _ w2
   omega
  rw[rV]
  refine⟨q,_,_,rfl,rfl,s6 _ _ hq3,aI (by rw[Gj];omega),_,_,_,rfl,aP (s3.trans s6) hq _,?_⟩
  rw[ag,← PQ,gt]
  rfl
 rintro σ H3 ⟨v2,v3,v4,rfl,s3,hq3⟩
 rw[Qy,xl]at hq3
 have hb:bsTo m es ks ts es.length ts.length=((aO m es ks ts).map bare).map V.str:=by
  unfold bsTo aO
  rw[QA,QA,QE,QE,Ra,Ra,Ra,Ra]
  rfl
 rw[hb]at hq3
 have bl:∀ b∈(aO m es ks ts).map bare,b.length<=400:=fun b hb=>by
  obtain⟨ws',hw,rfl⟩:=Qv.mp hb
  have:=wr.rows.1 (rowT ws') (Qv.mpr ⟨ws',hw,rfl⟩)
  unfold rowT at this
  rw[Str.length_append]at this
  unfold bare
  omega
 have bn:((aO m es ks ts).map bare).length<=104:=by
  rw[P5,jQ]
  omega
 have sl:=ik bl
 have jl:=nN 10 ((aO m es ks ts).map bare)
 refine⟨rfl,_,rfl,(("\n" : String):Str),q,(aO m es ks ts).map bare,rfl,rfl,SqL.of hq3,?_,?_⟩
 ·rw[Ke]
  show _+_*1<=_
  omega
 rw[Ke]
 refine⟨_,_,rfl,rfl,?_,?_⟩
 ·show(Str.join ⟨#[10]⟩ ((aO m es ks ts).map bare)).length+1<=_
  omega
 rw[IQ]
 exact kk H3 s3
end
end KF
namespace KF
open PySem L2 PyProof.Rows K8
local macro_rules | `(tactic| walk_at "cc") => `(tactic| first | exact ⟨by decide, by decide⟩ | (show (0 : Int) < _; decide) | (show (0 : Int) < _; omega) | (show (0 : Int) ≤ _; omega) | exact ⟨by decide, by decide, by decide⟩ | exact ⟨by omega, by omega, by decide⟩ | exact Or.inl ⟨by decide, by decide⟩ | exact Or.inl ⟨by omega, by omega⟩)
local macro_rules | `(tactic| walk_at "rd") => `(tactic| repeat (first | refine ⟨_, rfl, ?_⟩ | refine ⟨_, _, rfl, rfl, ?_⟩ | refine ⟨rfl, ?_⟩ | (refine ⟨?cc, ?_⟩; (case cc => walk_at "cc"))))
def spEI(K:P1)(fI:Addr):Sp:=fun vs H Q _=>∃(x C:Addr)(v:V),vs = [.ref x,v]/\H x=some (excN x C none)/\ErS K C fI "at"/\∀ d,H d=none->d≠x->Q .non (upd (upd H x (excN x C (some d))) d (.xd [("at",v)]))
structure OwnI(P:Program)(w:World)(K:P1)(mg:Str->Option Value)(base:Heap)(n:Str)(C fI:Addr)(fd:FuncData):Prop where
 er:ErS K C fI "at"
 fn:Rg K (.ref fI)=true
 ok:FnOk P w K mg base CX0 1 fI fd ["self","at"] (spEI K fI)
 bn:gT K fd ["self","at"] []
 mg:mg n=some (.ref C)
theorem JH{K:P1}{C fI:Addr} (er:ErS K C fI "at") {n:Int} {H:Hp} {W:Option Addr->Hp->Prop} (hW:∀ d H',Same H H'->H' d=some (.xd [("at",.int n)])->W (some d) H') (x:Addr) (hx:H x=none):spEI K fI [.ref x,.int n] (upd H x (excN x C none)) (fun v H2=>v=.non/\∃ d,H2 x=some (excN x C d)/\W d (del H2 x)) E0:=by
 refine⟨x,C,.int n,rfl,ag,er,fun d hd ne=>⟨rfl,some d,?_,hW d _ (fun b u q=>?_) ?_⟩⟩
 ·rw[ar (Ne.symm ne),ag]
 ·have bx:b≠x:=aB q hx
  have bd:b≠d:=fun z=>by
   rw[ar ne]at hd
   rw[z,hd]at q
   cases q
  rw[nY bx,ar bd,ar bx,ar bx]
  exact q
 ·rw[nY ne,ag]
def Bad(BT:Addr)(E:Value->Option Addr->Hp->Prop)(H:Hp)(n:Int):Prop:=∀ d H',Same H H'->H' d=some (.xd [("at",.int n)])->E (.ref BT) (some d) H'
def rq(BT:Addr):Sp:=fun vs H Q E=>∃(v:V)(i:Int),vs = [v,.int i]/\(v≠.non->Q v H)/\(v=.non->Bad BT E H i)
def rn(K:P1)(BT:Addr):Sp:=fun vs H Q E=>∃(a:Addr)(xs:List V)(i:Nat),vs = [.ref a,.int (i:Int)]/\SqL K H a xs/\(∀ x,xs[i]?=some x->Q x H)/\(xs.length<=i->Bad BT E H ((xs.length:Int)+1))
section
variable{P:Program}{w:World}{K:P1}{mg:Str->Option Value}{base:Heap}
theorem oK:aH ["self","at"] ["self","at"] (aj bw):=⟨rfl,rfl,rfl,by decide +kernel,rfl,by decide +kernel,by decide +kernel⟩
theorem ok_bti{f:Addr}{fd:FuncData} (F:Fun K "__init__" "BadText.__init__" bw f fd):FnOk P w K mg base CX0 1 f fd ["self","at"] (spEI K f):=by
 refine F.ok oK (fun vs H Q E h=>?_) (fun cdv A outer s H vs Q E hr h=>?_)
 ·obtain⟨x,C,v,rfl,_⟩:=h
  rfl
 obtain⟨x,C,v,rfl,hx,es,kk⟩:=h
 refine⟨_,(ak (OC (fI:=f) rfl (pv 0) (pv 1) rfl)),?_⟩
 exact⟨_,rfl,_,rfl,x,C,rfl,hx,es,kk⟩
theorem JR{f g2 BT:Addr}{fd e2:FuncData} (F:Fun K "right" "right" lX f fd) (S_BadText:OwnI P w K mg base "BadText" BT g2 e2):FnOk P w K mg base (CXd P w) 3 f fd ["told","at"] (rq BT):=by
 refine F.okD FD (fun vs H Q E h=>?_) (fun cdv A outer s H vs Q E hr h=>?_)
 ·obtain⟨v,i,rfl,_⟩:=h
  rfl
 obtain⟨v,i,rfl,k1,k2⟩:=h
 refine⟨_,(ae (ba (au qq (pv 0) cW (aC _)) (ak (sv S_BadText.er S_BadText.fn S_BadText.ok S_BadText.bn (hr.mono (by decide)) S_BadText.mg rfl bE rfl rfl (aa (pv 1) af))) aL)
   (ak (aJ (pv 0)))),?_⟩
 refine⟨_,rfl,rfl,_,rfl,ite2 (fun c=>?_) (fun c=>⟨_,rfl,k1 fun z=>c (decide_eq_true z)⟩)⟩
 exact⟨_,rfl,(by decide:(1:Nat)<=sizeLine),fun x hx=>JH S_BadText.er (W:=fun d H'=>E (.ref BT) d H') (fun d H' s' hd=>k2 (of_decide_eq_true c) d H' s' hd) x hx⟩
theorem JP{f g2 BT:Addr}{fd e2:FuncData} (F:Fun K "row_at" "row_at" ir f fd) (T:Txt mg) (S_BadText:OwnI P w K mg base "BadText" BT g2 e2):FnOk P w K mg base (CXd P w) 3 f fd ["rows","number"] (rn K BT):=by
 refine F.okD zN (fun vs H Q E h=>?_) (fun cdv A outer s H vs Q E hr h=>?_)
 ·obtain⟨a,xs,i,rfl,_⟩:=h
  rfl
 obtain⟨a,xs,i,rfl,hS,k1,k2⟩:=h
 refine⟨_,(ae (ba (au G1 (pv 1) (aA aq (by rfl) T.n_len aT (aa (pv 0) af)) (aC _)) (ak (sv S_BadText.er S_BadText.fn S_BadText.ok S_BadText.bn (hr.mono (by decide)) S_BadText.mg rfl bE rfl rfl (aa (aE bj (aA aq (by rfl) T.n_len aT (aa (pv 0) af)) ai) af))) aL)
   (ak (aJ (aG av (pv 0) (pv 1) (fun _ _=>rfl))))),?_⟩
 refine⟨_,rfl,_,rfl,a,xs,rfl,.inl hS,_,_,rfl,rfl,_,rfl,ite2 (fun c=>?_) (fun c=>?_)⟩
 ·have c':(xs.length:Int)<=(i:Int):=of_decide_eq_true c
  exact⟨_,rfl,a,xs,rfl,.inl hS,_,_,rfl,rfl,(by decide:(1:Nat)<=sizeLine),fun x hx=>JH S_BadText.er (W:=fun d H'=>E (.ref BT) d H') (fun d H' s' hd=>k2 (by omega) d H' s' hd) x hx⟩
 ·have c':¬ ((xs.length:Int)<=(i:Int)):=fun z=>c (decide_eq_true z)
  have hi:i<xs.length:=by omega
  exact⟨_,rfl,_,rfl,a,xs,_,xs[i],rfl,rfl,hS,aQ (PZ hi),k1 _ (PZ hi)⟩
end
theorem Bad.mono{BT:Addr}{E:Value->Option Addr->Hp->Prop}{H H1:Hp}{n:Int}(h:Bad BT E H n)(s:Same H H1):Bad BT E H1 n:=fun d H' s' hd=>h d H' (s.trans s') hd
def xm(K:P1)(BT:Addr):Sp:=fun vs H Q E=>∃(r:Addr)(bs:List Str)(ts:List (List Nat))(m ah:Nat),vs = [iV m,.ref r,iV ah]/\SqL K H r (bs.map V.str)/\ts.length<=m/\m<=40/\(∀ i l,ts[i]?=some l->∃ b,bs[ah+i]?=some b/\Rw b/\d9 abW b 31=some (i::l)/\l.length<=63) /\
 (ts.length=m->∀(q:Addr)(zs:List V)(H':Hp),Same H H'->H' q=some (.lst zs)->bO H' zs ts->Q (.ref q) H')/\(ts.length<m->bs.length=ah+ts.length/\Bad BT E H ((bs.length:Int)+1))
section
variable{P:Program}{w:World}{K:P1}{mg:Str->Option Value}{base:Heap}
theorem JL{f f1 f2 f3 BT:Addr}{fd d1 d2 d3:FuncData} (F:Fun K "turns_told" "turns_told" b8 f fd) (T:Txt mg) (G_row_at:CalD P w K mg base 3 "row_at" ["rows","number"] (rn K BT) f1 d1) (G_turn_told:Cal P w K mg base 3 "turn_told" ["place","row"] xq f2 d2) (G_right:CalD P w K mg base 3 "right" ["told","at"] (rq BT) f3 d3):FnOk P w K mg base (CXd P w) 4 f fd ["many","rows","ahead"] (xm K BT):=by
 refine F.okD bA (fun vs H Q E h=>?_) (fun cdv A outer s H vs Q E hr h=>?_)
 ·obtain⟨r,bs,ts,m,ah,rfl,_⟩:=h
  rfl
 obtain⟨r,bs,ts,m,ah,rfl,hS,tl,m40,hd,kk,kb⟩:=h
 refine⟨_,(ae (ay (i:=3) bA.nd rfl (Or.inl rfl) (bg af))
   (ae (cF PassesOwn.leaving rfl (bV rfl T.n_range (aa (pv 0) af)) (aV (i:=4) bA.nd rfl (Or.inl rfl)) (ae (ay (i:=5) bA.nd rfl (Or.inl rfl) (aE bj (pv 2) (pv 4)))
   (ak (aU (bK Qg Qs Qr aZ (pv 3) (aa (dc G_right.ok (hr.mono (by decide)) rfl G_right.mg G_right.kp G_right.bn .nil bE rfl (aa (ax G_turn_told.ok (hr.mono (by decide)) rfl G_turn_told.mg G_turn_told.kp G_turn_told.bn .nil aN (aa (pv 4) (aa (dc G_row_at.ok (hr.mono (by decide)) rfl G_row_at.mg G_row_at.kp G_row_at.bn .nil bE rfl (aa (pv 1) (aa (pv 5) af))) af))) (aa (aE bj (pv 5) ai) af))) af))))))
   (ak (aJ (pv 3))))),?_⟩
 refine⟨(by show 0<=sizeLine;decide),fun q hq=>?_⟩
 have s1:=ao hq (.lst [])
 refine⟨_,rfl,_,rfl,by omega,by omega,cH (n:=m) (fun i σ H2=>i<=ts.length/\∃(v4 v5:Option V)(zs:List V),σ = [some (iV m),some (.ref r),some (iV ah),some (.ref q),v4,v5]/\Same H H2/\H2 q=some (.lst zs)/\dh (fun a=>a=q) H2 zs (ts.take i)) ⟨Q6 _,_,_,[],rfl,s1,ag,rfl,fun i l e=>by simp at e⟩ ?_ ?_⟩
 ·rintro i σ H2 hi ⟨ile,v4,v5,zs,rfl,s2,hq2,rz⟩
  rw[RB]
  have hS2:=s2.seq hS
  refine⟨_,rfl,_,rfl,_,_,rfl,rfl,?_⟩
  by_cases hi2:i<ts.length
  ·have zl:zs.length=i:=by rw[rz.1,QK];omega
   obtain⟨b,hb,rwb,be1,l63⟩:=hd i ts[i] (PZ hi2)
   have hb2:(bs.map V.str)[ah+i]?=some (V.str b):=by rw[Qd,hb];rfl
   refine⟨_,rfl,.inl ⟨rfl,_,SqL.of hq2⟩,_,rfl,_,rfl,_,rfl,r,_,ah+i,rfl,hS2,fun x hx=>?_,fun hz=>?_⟩
   rotate_left
   ·have:=(P0.mp hb2).1
    omega
   rw[hb2]at hx
   cases hx
   refine⟨b,i,ts[i],rfl,rwb,be1,by omega,fun p H5 s5 np hp=>?_⟩
   refine⟨_,rfl,_,_,rfl,rfl,_,_,rfl,fun _=>?_,fun z=>by cases z⟩
   have hq5:=s5 _ _ hq2
   refine⟨q,zs,_,rfl,rfl,hq5,aI (by omega),hi2,_,_,zs++[.ref p],rfl,aP (s2.trans s5) hq _,ag,?_⟩
   have pq:p≠q:=fun z=>by rw[z,hq2]at np;cases np
   rw[show ts.take (i+1)=ts.take i++[ts[i]] by rw[QI,PZ hi2];rfl]
   exact(rz.mono fun b u n e=>by rw[ar n];exact s5 _ _ e).snoc pq (by rw[ar pq];exact hp)
  ·have ei:i=ts.length:=by omega
   obtain⟨bl,bad⟩:=kb (by omega)
   refine⟨_,rfl,.inl ⟨rfl,_,SqL.of hq2⟩,_,rfl,_,rfl,_,rfl,r,_,ah+i,rfl,hS2,fun x hx=>?_,fun hz=>?_⟩
   ·have:=(P0.mp hx).1
    rw[P5]at this
    omega
   ·rw[P5]
    exact bad.mono s2
 ·rintro σ H2 ⟨_,v4,v5,zs,rfl,s2,hq2,rz⟩
  by_cases c:ts.length=m
  ·rw[← c,QN]at rz
   exact⟨_,rfl,kk c q zs H2 s2 hq2 rz.off⟩
  ·omega
end
end KF
namespace KF
open PySem L2 PyProof.Rows K8
local macro_rules | `(tactic| walk_at "cc") => `(tactic| first | exact ⟨by decide, by decide⟩ | (show (0 : Int) < _; decide) | (show (0 : Int) < _; omega) | (show (0 : Int) ≤ _; omega) | exact ⟨by decide, by decide, by decide⟩ | exact ⟨by omega, by omega, by decide⟩ | exact Or.inl ⟨by decide, by decide⟩ | exact Or.inl ⟨by omega, by omega⟩)
local macro_rules | `(tactic| walk_at "rd") => `(tactic| repeat (first | refine ⟨_, rfl, ?_⟩ | refine ⟨_, _, rfl, rfl, ?_⟩ | refine ⟨rfl, ?_⟩ | (refine ⟨?cc, ?_⟩; (case cc => walk_at "cc"))))
structure TxtX(mg:Str->Option Value)(NF BD FE:Addr):Prop extends Txt mg where
 n_sum:mg "sum" = none
 g_NotFlat:mg "NotFlat" = some (.ref NF)
 g_BadDeed:mg "BadDeed" = some (.ref BD)
 g_FloorError:mg "FloorError" = some (.ref FE)
 n_ValueError:mg "ValueError" = none
def es3:En:=[(0,1),(0,1),(0,1)]
def ts3:List (List Nat):=[[0,1,2],[0,1,2]]
def tf3:List (List Nat):=[[0,1,2],[2,1,0]]
theorem turn3(ts:List (List Nat))(h:ts=ts3∨ts=tf3):bW 2 es3 ts:=by
 refine⟨by rcases h with rfl | rfl<;>rfl,fun e he=>?_,fun p l hl=>?_,fun p l hl t=>?_⟩
 ·simp only[es3,P8,Q4,or_false]at he
  rcases he with rfl | rfl | rfl<;>decide
 ·rcases h with rfl | rfl<;>match p,hl with
   |0,hl=>cases hl;decide
   |1,hl=>cases hl;decide
   |p+2,hl=>cases hl
 ·have e:t∈([0,1,2]:List Nat)↔∃ e,es3[t]?=some e/\(e.1=0∨e.2=0):=by
   match t with
   |0=>exact⟨fun _=>⟨(0,1),rfl,.inl rfl⟩,fun _=>by decide⟩
   |1=>exact⟨fun _=>⟨(0,1),rfl,.inl rfl⟩,fun _=>by decide⟩
   |2=>exact⟨fun _=>⟨(0,1),rfl,.inl rfl⟩,fun _=>by decide⟩
   |t+3=>exact⟨fun z=>by simp at z,fun⟨e,z,_⟩=>by cases z⟩
  have e1:t∈([0,1,2]:List Nat)↔∃ e,es3[t]?=some e/\(e.1=1∨e.2=1):=by
   match t with
   |0=>exact⟨fun _=>⟨(0,1),rfl,.inr rfl⟩,fun _=>by decide⟩
   |1=>exact⟨fun _=>⟨(0,1),rfl,.inr rfl⟩,fun _=>by decide⟩
   |2=>exact⟨fun _=>⟨(0,1),rfl,.inr rfl⟩,fun _=>by decide⟩
   |t+3=>exact⟨fun z=>by simp at z,fun⟨e,z,_⟩=>by cases z⟩
  have e2:t∈([2,1,0]:List Nat)↔t∈([0,1,2]:List Nat):=by simp only[P8,Q4,or_false];omega
  rcases h with rfl | rfl
  ·match p,hl with
   |0,hl=>cases hl;exact e
   |1,hl=>cases hl;exact e1
   |p+2,hl=>cases hl
  ·match p,hl with
   |0,hl=>cases hl;exact e
   |1,hl=>cases hl;rw[e2];exact e1
   |p+2,hl=>cases hl
theorem part3:Part (fol es3 ts3) 6 [[0,3,4,1,2,5]]:=by
 refine⟨fun r hr=>?_,by decide,fun d hd=>?_⟩
 ·rw[QP.mp hr]
  exact⟨⟨0,[3,4,1,2,5],rfl,by decide,by decide,by decide,by decide,by decide,(by decide:fol es3 ts3 5=0)⟩,by decide,by decide⟩
 ·match d,hd with
  |0,_=>decide
  |1,_=>decide
  |2,_=>decide
  |3,_=>decide
  |4,_=>decide
  |5,_=>decide
theorem gr3:Gr 2 es3 tf3:=by
 refine⟨turn3 tf3 (.inr rfl),⟨[[0,5],[2,1],[4,3]],⟨fun r hr=>?_,by decide,fun d hd=>?_⟩,rfl⟩,fun S hS p q hp hq=>?_⟩
 ·simp only[P8,Q4,or_false]at hr
  rcases hr with rfl | rfl | rfl
  ·exact⟨⟨0,[5],rfl,by decide,(by decide:fol es3 tf3 5=0)⟩,by decide,by decide⟩
  ·exact⟨⟨2,[1],rfl,by decide,(by decide:fol es3 tf3 1=2)⟩,by decide,by decide⟩
  ·exact⟨⟨4,[3],rfl,by decide,(by decide:fol es3 tf3 3=4)⟩,by decide,by decide⟩
 ·match d,hd with
  |0,_=>decide
  |1,_=>decide
  |2,_=>decide
  |3,_=>decide
  |4,_=>decide
  |5,_=>decide
 ·have h:=hS (0,1) (by decide)
  match p,q,hp,hq with
  |0,0,_,_=>exact id
  |0,1,_,_=>exact h.mp
  |1,0,_,_=>exact h.mpr
  |1,1,_,_=>exact id
def xk(K:P1)(NF:Addr):Sp:=fun vs H _ E=>∃(p qt qh:Addr)(xs zs:List V),vs = [.ref p,.int 2,.ref qt,.ref qh]/\H qt=some (.lst xs)/\eg K H xs es3/\H qh=some (.lst zs)/\bO H zs ts3/\∀ H',Same H H'->E (.ref NF) none H'
section
variable{P:Program}{w:World}{K:P1}{mg:Str->Option Value}{base:Heap}
theorem JK{f f1 f2 f3 f4 f5 NF BD FE:Addr}{fd d1 d2 d3 d4 d5:FuncData} (F:Fun K "__init__" "Web.__init__" b9 f fd) (T:TxtX mg NF BD FE) (ecN:ExC K NF) (G_refuse_ends:Cal P w K mg base 1 "refuse_ends" ["many","ties"] (xy K) f1 d1) (G_refuse_turns:Cal P w K mg base 1 "refuse_turns" ["many","ties","turns"] (rA K) f2 d2) (G_refuse_parted:Cal P w K mg base 2 "refuse_parted" ["many","ties"] (xw K) f3 d3) (G_rounds_of:Cal P w K mg base 4 "rounds_of" ["ties","turns"] (rp K) f4 d4) (G_sides_of:Cal P w K mg base 1 "sides_of" ["ties","rounds"] (xt K) f5 d5):FnOk P w K mg base (CXd P w) 5 f fd ["self","many","ties","turns"] (xk K NF):=by
 refine F.okD eX (fun vs H Q E h=>?_) (fun cdv A outer s H vs Q E hr h=>?_)
 ·obtain⟨p,qt,qh,xs,zs,rfl,_⟩:=h
  rfl
 obtain⟨p,qt,qh,xs,zs,rfl,hqt,hT,hqh,hR,kk⟩:=h
 have w':=turn3 ts3 (.inl rfl)
 refine⟨_,(ae (aU (ax G_refuse_ends.ok (hr.mono (by decide)) rfl G_refuse_ends.mg G_refuse_ends.kp G_refuse_ends.bn .nil aN (aa (pv 1) (aa (pv 2) af))))
   (ae (aU (ax G_refuse_turns.ok (hr.mono (by decide)) rfl G_refuse_turns.mg G_refuse_turns.kp G_refuse_turns.bn .nil aN (aa (pv 1) (aa (pv 2) (aa (pv 3) af)))))
   (ae (aU (ax G_refuse_parted.ok (hr.mono (by decide)) rfl G_refuse_parted.mg G_refuse_parted.kp G_refuse_parted.bn .nil aN (aa (pv 1) (aa (pv 2) af))))
   (ae (ay (i:=4) eX.nd rfl (Or.inl rfl) (ax G_rounds_of.ok (hr.mono (by decide)) rfl G_rounds_of.mg G_rounds_of.kp G_rounds_of.bn .nil aN (aa (pv 2) (aa (pv 3) af))))
   (ae (ba (au fP (aE bj (aE nA (pv 1) (aA aq (by rfl) T.n_len aT (aa (pv 2) af))) (aA aq (by rfl) T.n_len aT (aa (pv 4) af))) ai (aC _)) (ak (hV ecN T.g_NotFlat rfl bE rfl rfl (aa aM af))) aL)
   (ae (fO (pv 0) (pv 1) rfl)
   (ae (fO (pv 0) (aW bN (by rfl) T.n_list jh (aa (pv 2) af)) rfl)
   (ae (fO (pv 0) (iw rfl (fr:=[]) (by exact cq.plain (by rfl) (by decide +kernel) (by rfl) (by decide +kernel) (by rfl) (by decide +kernel)) (b4 (pv 3)) (fun C ex s H=>(aW (wV (K:=K) rfl) (by rfl) T.n_list jh (aa (pv 0) af)))) rfl)
   (ae (fO (pv 0) (pv 4) rfl)
   (ak (fO (pv 0) (ax G_sides_of.ok (hr.mono (by decide)) rfl G_sides_of.mg G_sides_of.kp G_sides_of.bn .nil aN (aa (pv 2) (aa (pv 4) af))) rfl))))))))))),?_⟩
 refine⟨_,rfl,_,rfl,qt,xs,2,es3,rfl,SqL.of hqt,hT,fun e he=>⟨(w'.ends e he).1,(w'.ends e he).2.1⟩,?_⟩
 refine⟨_,rfl,_,rfl,_,rfl,qt,qh,xs,zs,2,es3,ts3,rfl,SqL.of hqt,hT,SqL.of hqh,hR,w',by decide,by decide,fun H1 s1=>?_⟩
 refine⟨_,rfl,_,rfl,qt,xs,2,es3,tf3,rfl,SqL.of (s1 _ _ hqt),hT.mono s1,gr3,by decide,by decide,by decide,fun H2 s2=>?_⟩
 have s12:=s1.trans s2
 refine⟨_,rfl,_,rfl,qt,qh,2,es3,ts3,rfl,⟨⟨xs,SqL.of (s12 _ _ hqt),hT.mono s12⟩,⟨zs,SqL.of (s12 _ _ hqh),hR.mono s12⟩,w',by decide⟩,fun qr vs rs H3 s3 hqr hrs ro=>?_⟩
 have s13:=s12.trans s3
 have cnt:rs.length=1:=by
  rw[← part3.same ro.part]
  rfl
 have hvl:vs.length=1:=by rw[hrs.1,cnt]
 have hul:xs.length=3:=hT.1
 refine⟨_,rfl,_,rfl,qt,xs,rfl,.inl (SqL.of (s13 _ _ hqt)),_,_,rfl,rfl,_,rfl,qr,vs,rfl,.inl (SqL.of hqr),_,_,rfl,rfl,rfl,_,rfl,?_⟩
 rw[hvl,hul]
 exact iteT ⟨(by decide:1<=sizeLine),kk H3 s13⟩
end
end KF
namespace KF
open PySem L2 PyProof.Rows K8
local macro_rules | `(tactic| walk_at "cc") => `(tactic| first | exact ⟨by decide, by decide⟩ | (show (0 : Int) < _; decide) | (show (0 : Int) < _; omega) | (show (0 : Int) ≤ _; omega) | exact ⟨by decide, by decide, by decide⟩ | exact ⟨by omega, by omega, by decide⟩ | exact Or.inl ⟨by decide, by decide⟩ | exact Or.inl ⟨by omega, by omega⟩)
local macro_rules | `(tactic| walk_at "rd") => `(tactic| repeat (first | refine ⟨_, rfl, ?_⟩ | refine ⟨_, _, rfl, rfl, ?_⟩ | refine ⟨rfl, ?_⟩ | (refine ⟨?cc, ?_⟩; (case cc => walk_at "cc"))))
structure MakD(P:Program)(w:World)(K:P1)(mg:Str->Option Value)(base:Heap)(k:Nat)(x:Str)(ps:List Str)(sp:Sp)(C f:Addr)(fd:FuncData):Prop where
 mkc:Mk K C f
 ok:FnOk P w K mg base (CXd P w) k f fd ps sp
 bn:gT K fd ps []
 mg:mg x=some (.ref C)
def bsK(m:Nat)(es:En)(ks:Kn)(ts:List (List Nat))(k:Nat):List Str:=((aO m es ks ts).take (1+es.length+k)).map bare
theorem PR{m:Nat}{es:En}{ks:Kn}{ts:List (List Nat)}{k:Nat}(h:k<=ts.length):(bsK m es ks ts k).length=1+es.length+k:=by
 unfold bsK
 rw[P5,QK,jQ]
 omega
theorem Gk{m:Nat}{es:En}{ks:Kn}{ts:List (List Nat)}{k i:Nat}{ws:List Str}(hw:(aO m es ks ts)[i]?=some ws)(h:i<1+es.length+k):(bsK m es ks ts k)[i]?=some (bare ws):=by
 unfold bsK
 rw[Qd,RY,if_pos h,hw]
 rfl
def lS(BT NF:Addr):Sp:=fun vs H _ E=>∃(text:Str)(m:Nat)(es:En)(ks:Kn)(ts:List (List Nat))(k:Nat)(ex:List Str)(un:Str),vs = [.str text]/\text.length<=400000/\Wr m es ks ts/\0<es.length/\(∀ e∈es,e.1≠e.2)/\1<=k/\k<=m/\QD text nlS=bsK m es ks ts k++ex++[un] /\
 ((k<m/\ex = []/\Bad BT E H (((1+es.length+k:Nat):Int)+1))∨(k=m/\ex≠[]/\Bad BT E H (((1+es.length+m:Nat):Int)+1)) ∨
  (k=m/\ex = []/\un=Str.empty/\m=2/\es=es3/\ts=ts3/\∀ H',Same H H'->E (.ref NF) none H'))
section
variable{P:Program}{w:World}{K:P1}{mg:Str->Option Value}{base:Heap}
theorem Mz{f f1 f2 f3 f4 f5 f6 fW PL PS WC BT NF g2:Addr}{fd d1 d2 d3 d4 d5 d6 dW e2:FuncData} (F:Fun K "read" "read" sq f fd) (T:Txt mg) (TL:CT K PL) (TS:CT K PS) (S_BadText:OwnI P w K mg base "BadText" BT g2 e2) (G_right:CalD P w K mg base 3 "right" ["told","at"] (rq BT) f1 d1) (G_row_at:CalD P w K mg base 3 "row_at" ["rows","number"] (rn K BT) f2 d2) (G_places_told:Cal P w K mg base 3 "places_told" ["row"] rB f3 d3) (G_ties_told:Cal P w K mg base 4 "ties_told" ["rows"] (kG K) f4 d4) (G_turns_told:CalD P w K mg base 4 "turns_told" ["many","rows","ahead"] (xm K BT) f5 d5) (G_made:Cal P w K mg base 3 "made" ["kind","one","two","strength"] (r6 PL PS) f6 d6) (M_Web:MakD P w K mg base 5 "Web" ["self","many","ties","turns"] (xk K NF) WC fW dW):FnOk P w K mg base (CXd P w) 7 f fd ["text"] (lS BT NF):=by
 refine F.okD c8 (fun vs H Q E h=>?_) (fun cdv A outer s H vs Q E hr h=>?_)
 ·obtain⟨text,m,es,ks,ts,k,ex,un,rfl,_⟩:=h
  rfl
 obtain⟨text,m,es,ks,ts,k,ex,un,rfl,hl,wr,e0,nes,k1,km,hsp,kase⟩:=h
 refine⟨_,(ae (ay (i:=1) c8.nd rfl (Or.inl rfl) (bK QV Rh R4 rE (pv 0) (aa aM af)))
   (ae (ay (i:=2) c8.nd rfl (Or.inl rfl) (FK Qg R7 R6 FU (pv 1)))
   (ae (ay (i:=3) c8.nd rfl (Or.inl rfl) (dc G_right.ok (hr.mono (by decide)) rfl G_right.mg G_right.kp G_right.bn .nil bE rfl (aa (ax G_places_told.ok (hr.mono (by decide)) rfl G_places_told.mg G_places_told.kp G_places_told.bn .nil aN (aa (dc G_row_at.ok (hr.mono (by decide)) rfl G_row_at.mg G_row_at.kp G_row_at.bn .nil bE rfl (aa (pv 1) (aa ai af))) af)) (aa ai af))))
   (ae (ay (i:=4) c8.nd rfl (Or.inl rfl) (ax G_ties_told.ok (hr.mono (by decide)) rfl G_ties_told.mg G_ties_told.kp G_ties_told.bn .nil aN (aa (pv 1) af)))
   (ae (ay (i:=5) c8.nd rfl (Or.inl rfl) (dc G_turns_told.ok (hr.mono (by decide)) rfl G_turns_told.mg G_turns_told.kp G_turns_told.bn .nil bE rfl (aa (pv 3) (aa (pv 1) (aa (aE bj ai (aA aq (by rfl) T.n_len aT (aa (pv 4) af))) af)))))
   (ae (ay (i:=6) c8.nd rfl (Or.inl rfl) (aE bj (aE bj ai (aA aq (by rfl) T.n_len aT (aa (pv 4) af))) (pv 3)))
   (ae (ba (PW.pt (gy (au l6 (aA aq (by rfl) T.n_len aT (aa (pv 1) af)) (pv 6) (aC _)) (fN (au fP (pv 2) aM (aC _))))) (ak (sv S_BadText.er S_BadText.fn S_BadText.ok S_BadText.bn (hr.mono (by decide)) S_BadText.mg rfl bE rfl rfl (aa (aE bj (pv 6) ai) af))) aL)
   (ak (aJ (FI M_Web.mkc M_Web.ok (hr.mono (by decide)) rfl M_Web.mg M_Web.bn .nil (LZ bE) (C5 rfl) (aa (pv 3) (aa (x4 rfl (fr:=[]) (xs:=["kind","one","two","strength"]) (wj.of (by rfl) (by decide +kernel) (by rfl) (by decide +kernel) (fun p hp=>nomatch hp) (by decide +kernel) (fun p hp=>nomatch hp)) (b4 (pv 4)) (fun C ex s H=>(Dl (n:=4) (K:=K) rfl rfl (bH (aV (i:=0) (show(["kind","one","two","strength"]:List Str).Nodup from by decide +kernel) rfl (Or.inl rfl)) (bH (aV (i:=1) (show(["kind","one","two","strength"]:List Str).Nodup from by decide +kernel) rfl (Or.inl rfl)) (bH (aV (i:=2) (show(["kind","one","two","strength"]:List Str).Nodup from by decide +kernel) rfl (Or.inl rfl)) (bH (aV (i:=3) (show(["kind","one","two","strength"]:List Str).Nodup from by decide +kernel) rfl (Or.inl rfl)) oR)))))) (fun C ex s H=>C1) (fun C ex s H=>(ax G_made.ok (hr.mono (by decide)) rfl G_made.mg G_made.kp G_made.bn .nil aN (aa (pv 0) (aa (pv 1) (aa (pv 2) (aa (pv 3) af))))))) (aa (pv 5) af))))))))))))),?_⟩
 rw[Ke,Bg]
 have few:=wr.few
 have kl:=wr.kl
 have m2:=wr.m2
 have m40:=wr.m40
 have tl:=wr.tl
 have s64:(400000:Nat)<=sizeLine:=by decide
 have bkl:=PR (m:=m) (es:=es) (ks:=ks) (ts:=ts) (k:=k) (by omega)
 generalize hbs:bsK m es ks ts k++ex=bs at hsp
 have hat:∀{i:Nat}{b:Str},(bsK m es ks ts k)[i]?=some b->bs[i]?=some b:=fun{i b} h=>by
  rw[← hbs,P6 (P0.mp h).1]
  exact h
 refine⟨_,rfl,rfl,text,nlS,rfl,rfl,rfl,by omega,fun r hr'=>?_⟩
 rw[hsp,QE]
 have sr:=ao hr' (.lst (bs.map V.str++[un].map V.str))
 refine⟨_,rfl,.inl ⟨rfl,_,SqL.of ag⟩,r,_,V.str un,rfl,rfl,ag,by simp,?_⟩
 have ed:List.dropLast (bs.map V.str++[un].map V.str)=bs.map V.str:=by simp
 rw[ed]
 have sR:=aP sr hr' (.lst (bs.map V.str))
 have gR:(upd (upd H r (.lst (bs.map V.str++[un].map V.str))) r (.lst (bs.map V.str))) r=some (.lst (bs.map V.str)):=ag
 generalize upd (upd H r (.lst (bs.map V.str++[un].map V.str))) r (.lst (bs.map V.str))=H1 at sR gR
 have hp0 : [plW,tx m]∈aO m es ks ts:=Ql ..
 have b0:bs[0]?=some (bare [plW,tx m]):=hat (Gk (i:=0) rfl (by omega))
 have b0':(bs.map V.str)[0]?=some (V.str (bare [plW,tx m])):=by rw[Qd,b0];rfl
 refine⟨_,rfl,r,_,0,rfl,SqL.of gR,fun x hx=>?_,fun hz=>?_⟩
 rotate_left
 ·have:=(P0.mp b0').1
  omega
 rw[b0']at hx
 cases hx
 refine⟨bare [plW,tx m],m,rfl,mY wr hp0,?_,m2,m40,fun H2 s2=>?_⟩
 ·exact oj (first:=plW) (ns:=[m]) (by decide +kernel) fun n hn=>by
   rw[QP.mp hn]
   omega
 refine⟨_,1,rfl,fun _=>?_,fun z=>by cases z⟩
 have gR2:=s2 _ _ gR
 refine⟨_,rfl,r,bs,(QW es.length).map (tdOf es ks),rfl,SqL.of gR2,by rw[P5,QH];omega,fun i d hd=>?_,?_,fun q zs H3 s3 hq tz=>?_⟩
 ·rw[Qd]at hd
  obtain⟨j,hj,rfl⟩:=QJ.mp hd
  have hi:=(P0.mp hj).1
  rw[QH]at hi
  rw[Q8 hi]at hj
  cases hj
  exact⟨_,hat (Gk (rP hi) (by omega)),Js wr hi⟩
 ·rw[P5,QH]
  have h0:0<ts.length:=by omega
  have hw:=rk (m:=m) (es:=es) (ks:=ks) h0
  have hf:fw (bare (abRW 0 (ts.getD 0 [])))=abW:=Er (by unfold Gz;decide +kernel) _
  refine⟨_,hat (Gk (i:=es.length+1) (by rw[show es.length+1=1+es.length+0 by omega];exact hw) (by omega)),(mY wr (P7 hw)).1,?_,?_⟩
  ·rw[hf];decide +kernel
  ·rw[hf];decide +kernel
 have zl:zs.length=es.length:=by rw[tz.1,P5,QH]
 have gR3:=s3 _ _ gR2
 have bl:bs.length=1+es.length+k+ex.length:=by rw[← hbs,P2,bkl]
 refine⟨_,rfl,_,rfl,_,rfl,q,_,rfl,.inl (SqL.of hq),_,_,rfl,rfl,r,bs,ts.take k,m,1+es.length,?_,SqL.of gR3,by rw[QK];omega,m40,fun i l hl=>?_,fun hk qt zt H4 s4 hqt rt=>?_,fun hk=>?_⟩
 ·rw[zl]
  rfl
 ·rw[RY]at hl
  by_cases hik:i<k
  ·rw[if_pos hik]at hl
   have hi:=(P0.mp hl).1
   have hw:=rk (m:=m) (es:=es) (ks:=ks) hi
   have gl:ts.getD i []=l:=by rw[Qi,hl];rfl
   rw[gl]at hw
   have rl:=wr.rl l (P7 hl)
   refine⟨_,hat (Gk hw (by omega)),mY wr (P7 hw),?_,rl.1⟩
   exact oj (first:=abW) (ns:=i::l) (by decide +kernel) fun n hn=>by
    rcases P8.mp hn with rfl | hn
    ·omega
    ·have:=rl.2 n hn
     omega
  ·rw[if_neg hik]at hl
   cases hl
 ·rw[QK]at hk
  have kkm:k=m:=by omega
  have gR4:=s4 _ _ gR3
  have hq4:=s4 _ _ hq
  have tz4:TdAt H4 zs _:=tz.mono fun b xs e=>s4 _ _ e
  have sA:=sR.trans (s2.trans (s3.trans s4))
  refine⟨_,rfl,q,_,rfl,.inl (SqL.of hq4),_,_,rfl,rfl,_,rfl,_,_,rfl,rfl,?_⟩
  refine⟨_,rfl,r,_,rfl,.inl (SqL.of gR4),_,rfl,_,_,rfl,rfl,_,rfl,?_⟩
  rcases kase with⟨z,_⟩ | ⟨_,exn,bad⟩ | ⟨_,rfl,rfl,rfl,rfl,rfl,kn⟩
  ·omega
  ·have exl:0<ex.length:=List.length_pos_iff.mpr exn
   refine ite2 (fun _=>iteT ?_) (fun c=>absurd (decide_eq_true ?_) c)
   rotate_left
   ·show(1+(zs.length:Int)+(m:Int))<(((bs.map V.str).length:Nat):Int)
    rw[P5,bl,zl]
    omega
   refine⟨_,rfl,_,_,rfl,rfl,(by decide:(1:Nat)<=sizeLine),fun x hx=>JH S_BadText.er (W:=fun d H'=>E (.ref BT) d H') (fun d H' s' hd=>?_) x hx⟩
   refine bad.mono sA d H' s' ?_
   rw[hd,zl]
   rfl
  ·have bl2:bs.length=6:=by rw[bl,kkm];rfl
   refine ite2 (fun c=>absurd (of_decide_eq_true c) ?_) (fun _=>?_)
   ·rw[P5,bl2,zl]
    decide
   refine⟨_,rfl,rfl,_,rfl,ite2 (fun z=>?_) (fun _=>?_)⟩
   ·simp at z
   refine⟨_,rfl,_,rfl,q,rfl,⟨_,SqL.of hq4⟩,wJ (K:=K) (xs:=zs) (fun i us H5=>Same H4 H5/\fZ PL PS H5 us (es3.take i) ks) (by omega) ⟨fun _ _ z=>z,rfl,fun i e k z=>by simp at z⟩ (fun i us H5 _ z=>SqL.of (z.1 _ _ hq4)) ?_ ?_ (fun i us H5 z=>by rw[z.2.1,QK];omega)⟩
   ·rintro i x us H5 hx ⟨s5,tt⟩
    have hi:i<es3.length:=by rw[← zl];exact(P0.mp hx).1
    obtain⟨t,x1,x2⟩:=tz4.2 i (tdOf es3 ks i) (by rw[Qd,Q8 hi];rfl)
    rw[hx]at x1
    cases x1
    have ge:es3.getD i (0,0)=es3[i]:=by rw[Qi,PZ hi];rfl
    have gk:ks.getD i (0,0)=ks[i]:=by rw[Qi,PZ (show i<ks.length by omega)];rfl
    have k':=wr.kk ks[i] (QO _)
    have ne:=nes es3[i] (QO _)
    unfold tdOf at x2
    rw[ge,gk]at x2
    refine⟨t,_,rfl,SqT.of (s5 _ _ x2),rfl,_,_,rfl,_,_,rfl,_,_,rfl,_,_,rfl,rfl,rfl,yesT ?_⟩
    refine⟨_,rfl,_,rfl,_,rfl,_,rfl,_,_,_,_,rfl,ne,fun p dx H6 s6 hp=>⟨s5.trans s6,?_⟩⟩
    refine fZ.snoc (tt.mono s6) (PZ hi) (PZ (show i<ks.length by omega)) (dx:=dx) ?_
    rw[hp,show(((ks[i].2.toNat:Nat)):Int)=ks[i].2 by omega,decide_eq_decide.mpr (yD (k:=ks[i].1))]
   rintro us H5 ⟨s5,tt⟩ D hD
   rw[zl,QN]at tt
   have sD:=ao hD (.lst us)
   have hDD:(upd H5 D (.lst us)) D=some (.lst us):=ag
   have s4D:=s5.trans sD
   have ttD:=tt.mono sD
   generalize upd H5 D (.lst us)=HD at sD s4D hDD ttD
   have hqtD:=s4D _ _ hqt
   have rtD:=rt.mono s4D
   rw[kkm]at rtD
   refine⟨_,rfl,?_⟩
   intro x dx nx ndx nex
   have up:∀ b o,HD b=some o->(upd (upd HD dx (.own x)) x (.ins WC dx [])) b=some o:=fun b o z=>by rw[ar (aB z nx),ar (aB z ndx)];exact z
   exact⟨x,D,qt,us,zt,rfl,up _ _ hDD,(ttD.at kl TL TS).mono up,up _ _ hqtD,rtD.mono up,fun H' s'=>kn H' (sA.trans (s4D.trans ((fun b o z=>s' _ _ (up _ _ z)))))⟩
 ·rw[QK]at hk
  rcases kase with⟨_,rfl,bad⟩ | ⟨z,_⟩ | ⟨z,_⟩
  ·rw[Rl]at hbs
   refine⟨by rw[QK];rw[← hbs,bkl];omega,?_⟩
   rw[← hbs,bkl]
   exact bad.mono (sR.trans (s2.trans s3))
  ·omega
  ·omega
end
end KF
namespace KF
open PySem L2 PyProof.Rows K8
local macro_rules | `(tactic| walk_at "cc") => `(tactic| first | exact ⟨by decide, by decide⟩ | (show (0 : Int) < _; decide) | (show (0 : Int) < _; omega) | (show (0 : Int) ≤ _; omega) | exact ⟨by decide, by decide, by decide⟩ | exact ⟨by omega, by omega, by decide⟩ | exact Or.inl ⟨by decide, by decide⟩ | exact Or.inl ⟨by omega, by omega⟩)
local macro_rules | `(tactic| walk_at "rd") => `(tactic| repeat (first | refine ⟨_, rfl, ?_⟩ | refine ⟨_, _, rfl, rfl, ?_⟩ | refine ⟨rfl, ?_⟩ | (refine ⟨?cc, ?_⟩; (case cc => walk_at "cc"))))
theorem FG{BT NF:Addr}{vs:List V}{H H1:Hp}{Q Q':VK}{E E':XK}(h:lS BT NF vs H Q E)(s:Same H H1)(he:∀ C d H',E C d H'->E' C d H'):lS BT NF vs H1 Q' E':=by
 obtain⟨text,m,es,ks,ts,k,ex,un,e,hl,wr,e0,nes,k1,km,hsp,kase⟩:=h
 refine⟨text,m,es,ks,ts,k,ex,un,e,hl,wr,e0,nes,k1,km,hsp,?_⟩
 rcases kase with⟨a,b,c⟩ | ⟨a,b,c⟩ | ⟨a1,a2,a3,a4,a5,a6,c⟩
 ·exact .inl ⟨a,b,fun d H' s' hd=>he _ _ _ (c d H' (s.trans s') hd)⟩
 ·exact .inr (.inl ⟨a,b,fun d H' s' hd=>he _ _ _ (c d H' (s.trans s') hd)⟩)
 ·exact .inr (.inr ⟨a1,a2,a3,a4,a5,a6,fun H' s'=>he _ _ _ (c H' (s.trans s'))⟩)
def xF(BT NF:Addr):Sp:=fun vs H Q E=>∃(d:Addr)(text:Str),vs = [.ref d,.str text]/\lS BT NF [.str text] H Q E
structure ErF(K:P1)(mg:Str->Option Value)(NL FE:Addr):Prop where
 er:ErC K NL
 na:Qm K (.ref NL) "at" = some none
 up:QR K NL (.ref NL)=some true
 k0:Rb K (.ref NL) (.ref FE)=some true
 kv:Rb K (.ref NL) (.type "ValueError")=some true
structure NfF(K:P1)(BT NF:Addr):Prop where
 no:QR K NF (.ref BT)=some false
 up:QR K NF (.ref NF)=some true
theorem Mp{X:Cx}{K:P1}{f:Str}{e:Expr}{ta:TE}{pos:Pos}(hK:X.K=K)(he:PE X e ta)(hb:attributeBase e f X.env (eval e X.env)=eval e X.env):PE X (.Attribute e f pos) (tFldE K ta f):=by subst hK;exact OH he hb
def xA(BT NF:Addr):Sp:=fun vs H Q _=>∃(text:Str)(r:Int),vs = [.str text]/\(∀ H',Same H H'->Q (.int r) H') /\
 lS BT NF [.str text] H (fun _ _=>False) fun C d H'=>Same H H'/\((C=.ref BT/\∃ dd,d=some dd/\H' dd=some (.xd [("at",.int r)]))∨(C=.ref NF/\r = -1))
section
variable{P:Program}{w:World}{K:P1}{mg:Str->Option Value}{base:Heap}
theorem JW{f f1 BT NF:Addr}{fd d1:FuncData} (F:Fun K "__init__" "Desk.__init__" bQ f fd) (G_read:CalD P w K mg base 7 "read" ["text"] (lS BT NF) f1 d1):FnOk P w K mg base (CXd P w) 8 f fd ["self","text"] (xF BT NF):=by
 refine F.okD lz (fun vs H Q E h=>?_) (fun cdv A outer s H vs Q E hr h=>?_)
 ·obtain⟨d,text,rfl,_⟩:=h
  rfl
 obtain⟨d,text,rfl,h⟩:=h
 refine⟨_,(ak (fO (pv 0) (bg (aa (dc G_read.ok (hr.mono (by decide)) rfl G_read.mg G_read.kp G_read.bn .nil bE rfl (aa (pv 1) af)) af)) rfl)),?_⟩
 exact⟨_,rfl,FG (Q':=fun _ _=>False) h (fun _ _ e=>e) fun _ _ _ e=>e⟩
theorem cD:aH ["text","at","e"] ["text"] (aj cB):=⟨rfl,rfl,rfl,by decide +kernel,rfl,by decide +kernel,by decide +kernel⟩
theorem JT{f f1 g2 BT NF BD FE DC:Addr}{fd d1 e2:FuncData} (F:Fun K "_law_no_desk" "_law_no_desk" cB f fd) (T:TxtX mg NF BD FE) (S_BadText:OwnI P w K mg base "BadText" BT g2 e2) (ef:ErF K mg BT FE) (nf:NfF K BT NF) (ecN:ExC K NF) (M_Desk:MakD P w K mg base 8 "Desk" ["self","text"] (xF BT NF) DC f1 d1):FnOk P w K mg base CX0 10 f fd ["text"] (xA BT NF):=by
 have hCs:∀ x,x=BT->QR K x (.ref BT)=some true:=fun x e=>by subst e;exact ef.up
 have hCs2:∀ x,x=NF->QR K x (.ref BT)=some false/\QR K x (.ref NF)=some true:=fun x e=>by subst e;exact⟨nf.no,nf.up⟩
 refine F.ok cD (fun vs H Q E h=>?_) (fun cdv A outer s H vs Q E hr h=>?_)
 ·obtain⟨text,r,rfl,_⟩:=h
  rfl
 obtain⟨text,r,rfl,kk,h⟩:=h
 refine⟨_,(ae (ay (i:=1) cD.nd rfl (Or.inl rfl) ai)
   (ae (OB (ie:=2) (Cs:=(fun c=>c=BT)) (Cs2:=(fun c=>c=NF)) rfl rfl rfl cD.nd rfl rfl rfl S_BadText.mg S_BadText.er.ei hCs rfl T.g_NotFlat ecN hCs2 (fun pins XE W ws=>(ak (aU (FI M_Desk.mkc M_Desk.ok (hr.mono (by decide)) rfl M_Desk.mg M_Desk.bn .nil ws (C5 rfl) (aa (pv 0) af))))) (fun v=>(ak (ay (i:=1) cD.nd rfl (Or.inl rfl) (Mp (K:=K) rfl (pv 2) rfl)))) (fun v=>(ak (ay (i:=1) cD.nd rfl (Or.inl rfl) (GZ wk ai)))))
   (ak (aJ (pv 1))))),?_⟩
 refine⟨_,rfl,?_⟩
 intro x dx nx ndx nex
 have up:Same H (upd (upd H dx (.own x)) x (.ins DC dx [])):=fun b o z=>by rw[ar (aB z nx),ar (aB z ndx)];exact z
 refine⟨x,text,rfl,FG (Q':=fun _ _=>False) h up fun C d H' ⟨s',q⟩=>?_⟩
 rcases q with⟨rfl,dd,rfl,hdd⟩ | ⟨rfl,rfl⟩
 ·refine⟨BT,rfl,.inl ⟨rfl,fun y hy=>?_⟩⟩
  have sy:=ao hy (excD y BT (some dd))
  refine⟨_,rfl,y,BT,dd,_,_,rfl,ag,ef.er,ef.na,sy _ _ hdd,rfl,?_⟩
  exact⟨_,rfl,kk _ (s'.trans sy)⟩
 ·refine⟨NF,rfl,.inr ⟨rfl,?_⟩⟩
  exact⟨_,rfl,_,rfl,kk _ s'⟩
end
end KF
namespace KF
open PySem L2 PyProof.Rows K8
local macro_rules | `(tactic| walk_at "cc") => `(tactic| first | exact ⟨by decide, by decide⟩ | (show (0 : Int) < _; decide) | (show (0 : Int) < _; omega) | (show (0 : Int) ≤ _; omega) | exact ⟨by decide, by decide, by decide⟩ | exact ⟨by omega, by omega, by decide⟩ | exact Or.inl ⟨by decide, by decide⟩ | exact Or.inl ⟨by omega, by omega⟩)
local macro_rules | `(tactic| walk_at "rd") => `(tactic| repeat (first | refine ⟨_, rfl, ?_⟩ | refine ⟨_, _, rfl, rfl, ?_⟩ | refine ⟨rfl, ?_⟩ | (refine ⟨?cc, ?_⟩; (case cc => walk_at "cc"))))
def oz(BD:Addr):Sp:=fun vs H Q E=>∃(word row:Str)(k:Nat),vs = [.str word,.str row,iV k]/\Rw row/\(∀ ns,d9 word row 31=some ns->ns.length=k->∀ a H',Same H H'->H' a=some (.lst (ns.map iV))->Q (.ref a) H')/\((∀ ns,d9 word row 31=some ns->ns.length≠k)->∀ H',Same H H'->E (.ref BD) none H')
def oy(PL PS WC BD:Addr):Sp:=fun vs H Q E=>∃(S:Addr->Prop)(p:Addr)(m:Nat)(es:En)(ts:List (List Nat))(ks:Kn)(kd:Int)(n s:Nat),vs = [.ref p,.str (kS kd),iV n,iV s]/\WebW S PL PS WC H p m es ts ks/\Ch m es ts ks/\(kd=0∨kd=1) /\
 (n<es.length->s<=10^30->∀(p':Addr)(H':Hp),Same H H'->WebW (fun a=>H a≠none) PL PS WC H' p' m es ts (ks.set n (kd,(s:Int)))->Q (.ref p') H')/\(¬ (n<es.length/\s<=10^30)->∀ H',Same H H'->E (.ref BD) none H')
def oA(PL PS WC BD:Addr):Sp:=fun vs H Q E=>∃(S:Addr->Prop)(p:Addr)(m:Nat)(es:En)(ts:List (List Nat))(ks:Kn)(pl:Nat),vs = [.ref p,iV pl]/\WebW S PL PS WC H p m es ts ks/\Ch m es ts ks /\
 (pl<m->∀(p':Addr)(H':Hp),Same H H'->WebW (fun a=>H a≠none) PL PS WC H' p' m es ts (flipL ks (ts.getD pl []))->Q (.ref p') H')/\(¬ pl<m->∀ H',Same H H'->E (.ref BD) none H')
section
variable{P:Program}{w:World}{K:P1}{mg:Str->Option Value}{base:Heap}
theorem Dp{f f1 NF BD FE:Addr}{fd d1:FuncData} (F:Fun K "numbers_told" "numbers_told" bY f fd) (T:TxtX mg NF BD FE) (ecB:ExC K BD) (G_numbers_behind:Cal P w K mg base 2 "numbers_behind" ["first","row","figures"] Gv f1 d1):FnOk P w K mg base (CXd P w) 3 f fd ["word","row","many"] (oz BD):=by
 refine F.okD jB (fun vs H Q E h=>?_) (fun cdv A outer s H vs Q E hr h=>?_)
 ·obtain⟨word,row,k,rfl,_⟩:=h
  rfl
 obtain⟨word,row,k,rfl,hR,kk,kx⟩:=h
 refine⟨_,(ae (ay (i:=3) jB.nd rfl (Or.inl rfl) (ax G_numbers_behind.ok (hr.mono (by decide)) rfl G_numbers_behind.mg G_numbers_behind.kp G_numbers_behind.bn .nil aN (aa (pv 0) (aa (pv 1) (aa (nv rfl T.figd) af)))))
   (ae (ba (PW.pt (gy (au qq (pv 3) cW (aC _)) (fN (au fP (aA aq (by rfl) T.n_len aT (aa (pv 3) af)) (pv 2) (aC _))))) (ak (hV ecB T.g_BadDeed rfl bE rfl rfl (aa aM af))) aL)
   (ak (aJ (pv 3))))),?_⟩
 refine⟨_,rfl,_,rfl,_,row,31,rfl,by decide,hR.1,hR.2,fun v H1 s1 hv=>?_⟩
 cases hb:d9 word row 31 with
 |none =>
  rw[hb]at hv
  cases (show v=.non from hv)
  refine⟨_,rfl,rfl,_,rfl,ite2 (fun _=>iteT ⟨(by decide:1<=sizeLine),kx (fun ns z=>by rw[hb]at z;cases z) H1 s1⟩) (fun c=>absurd (decide_eq_true rfl) c)⟩
 |some ns =>
  rw[hb]at hv
  obtain⟨a,rfl,ha⟩:=hv
  refine⟨_,rfl,rfl,_,rfl,ite2 (fun c=>absurd (of_decide_eq_true c) (by intro z;cases z)) (fun _=>?_)⟩
  refine⟨_,rfl,a,_,rfl,.inl (SqL.of ha),_,rfl,rfl,_,rfl,?_⟩
  rw[P5]
  by_cases c:ns.length=k
  ·rw[decide_eq_true (show V.int ((ns.length:Nat):Int)=iV k by rw[c];rfl)]
   exact iteF ⟨_,rfl,kk ns hb c a H1 s1 ha⟩
  ·rw[decide_eq_false (fun z=>c (by have:=V.int.inj z;omega))]
   exact iteT ⟨(by decide:1<=sizeLine),kx (fun ns' z=>by rw[hb]at z;cases z;exact c) H1 s1⟩
theorem Dm{f f1 fW PL PS WC NF BD FE:Addr}{fd d1 dW:FuncData} (F:Fun K "with_tie" "with_tie" fA f fd) (T:TxtX mg NF BD FE) (ecB:ExC K BD) (cw:CW K WC) (TL:CT K PL) (TS:CT K PS) (G_made:Cal P w K mg base 3 "made" ["kind","one","two","strength"] (r6 PL PS) f1 d1) (M_Web:Mak P w K mg base 5 "Web" ["self","many","ties","turns"] (lQ K) WC fW dW):FnOk P w K mg base (CXd P w) 7 f fd ["web","kind","number","strength"] (oy PL PS WC BD):=by
 refine F.okD sk (fun vs H Q E h=>?_) (fun cdv A outer s H vs Q E hr h=>?_)
 ·obtain⟨S,p,m,es,ts,ks,kd,n,s',rfl,_⟩:=h
  rfl
 obtain⟨S,p,m,es,ts,ks,kd,n,s',rfl,⟨dx,fs,q1,xs,qt,zt,hp,many,lk,_,hq1,tk,lt,_,hqt,rt⟩,ch,k01,kq,kx⟩:=h
 have few:=ch.few
 have xl:=tk.1
 have kl:=ch.wr.kl
 refine⟨_,(ae (ba (PW.pt (gy (au G1 (pv 2) (aA aq (by rfl) T.n_len aT (aa (bh (pv 0) rfl) af)) (aC _)) (fN (au l6 (pv 3) (aE Ad ai ai) (aC _))))) (ak (hV ecB T.g_BadDeed rfl bE rfl rfl (aa aM af))) aL)
   (ae (ay (i:=4) sk.nd rfl (Or.inl rfl) (aW bN (by rfl) T.n_list jh (aa (bh (pv 0) rfl) af)))
   (ae (wz (ax G_made.ok (hr.mono (by decide)) rfl G_made.mg G_made.kp G_made.bn .nil aN (aa (pv 1) (aa (bh (aG av (pv 4) (pv 2) (fun _ _=>rfl)) rfl) (aa (bh (aG av (pv 4) (pv 2) (fun _ _=>rfl)) rfl) (aa (pv 3) af))))) (wB (pv 4) (pv 2) kH))
   (ak (aJ (oS M_Web.mkc M_Web.ok (hr.mono (by decide)) rfl M_Web.mg M_Web.bn .nil aN (aa (bh (pv 0) rfl) (aa (pv 4) (aa (bh (pv 0) rfl) af))))))))),?_⟩
 have e30:(10:Int)^(30:Int).toNat=((10^30:Nat):Int):=by decide
 refine⟨_,rfl,_,rfl,p,WC,dx,fs,_,rfl,hp,cw.cl,cw.n2,lk,q1,xs,rfl,.inl (SqL.of hq1),_,_,rfl,rfl,_,rfl,ite2 (fun c=>iteT ⟨(by decide:1<=sizeLine),kx (fun z=>by have:=of_decide_eq_true c;omega) H fun _ _ e=>e⟩) (fun c0=>?_)⟩
 have hn:n<es.length:=by
  have c0':¬ ((xs.length:Int)<=(n:Int)):=fun z=>c0 (decide_eq_true z)
  omega
 refine⟨_,rfl,_,_,rfl,rfl,⟨by decide,by decide,by decide⟩,_,_,rfl,rfl,_,rfl,ite2 (fun c=>⟨(by decide:1<=sizeLine),kx (fun z=>by have c':=of_decide_eq_true c;rw[e30]at c';omega) H fun _ _ e=>e⟩) (fun c1=>?_)⟩
 have hs:s'<=10^30:=by
  have c1':¬ ((10:Int)^(30:Int).toNat<(s':Int)):=fun z=>c1 (decide_eq_true z)
  rw[e30]at c1'
  omega
 have kk:=kq hn hs
 refine⟨_,rfl,p,WC,dx,fs,_,rfl,hp,cw.cl,cw.n2,lk,q1,xs,rfl,.inl (SqL.of hq1),fun t ht=>?_⟩
 have st:=ao ht (.lst xs)
 have gt:(upd H t (.lst xs)) t=some (.lst xs):=ag
 generalize upd H t (.lst xs)=H1 at st gt
 obtain⟨p',dx',a1,a2⟩:=(tk.mono st).2 n es[n] ks[n] (PZ hn) (PZ (by omega))
 have CC:CT K (cls PL PS (decide (ks[n].1=1))):=by
  unfold cls
  split
  ·exact TS
  ·exact TL
 have ne:=(ch.g.w.ends es[n] (QO _)).2.2
 refine⟨_,rfl,_,rfl,_,rfl,t,xs,_,_,rfl,rfl,SqL.of gt,aQ a1,p',_,dx',_,_,rfl,a2,CC.cl,CC.n1,lu _ _ _,?_⟩
 refine⟨_,rfl,_,rfl,t,xs,_,_,rfl,rfl,SqL.of gt,aQ a1,p',_,dx',_,_,rfl,a2,CC.cl,CC.n2,rR _ _ _,_,rfl,kS kd,es[n].1,es[n].2,s',rfl,ne,fun y dy H2 s2 hy=>?_⟩
 have gt2:=s2 _ _ gt
 refine⟨_,rfl,_,rfl,t,xs,_,n,rfl,rfl,gt2,pD (by omega),?_⟩
 have sH:=aP (st.trans s2) ht (.lst (xs.set n (.ref y)))
 have nt:∀{b:Addr}{o:HO},H b=some o->b≠t:=fun z=>aB z ht
 have hyt:y≠t:=fun z=>by rw[z,gt2]at hy;cases hy
 have tk':fZ PL PS (upd H2 t (.lst (xs.set n (.ref y)))) (xs.set n (.ref y)) es (ks.set n (kd,(s':Int))):=by
  refine fZ.set (dx:=dy) (tk.mono sH) (PZ hn) ?_
  rw[ar hyt,hy,decide_eq_decide.mpr (yD (k:=kd))]
 refine⟨_,rfl,p,WC,dx,fs,_,rfl,sH _ _ hp,cw.cl,cw.n1,many,_,rfl,_,rfl,p,WC,dx,fs,_,rfl,sH _ _ hp,cw.cl,cw.n3,lt,?_⟩
 exact NB cw TL TS kk sH ag tk' (sH _ _ hqt) (rt.off.mono sH) (ch.set k01 (by show(0:Int)<=(s':Int);omega) (by show((s':Nat):Int)<=10^30;omega))
theorem Dr{f f1 fW PL PS WC NF BD FE:Addr}{fd d1 dW:FuncData} (F:Fun K "flipped" "flipped" g9 f fd) (T:TxtX mg NF BD FE) (ecB:ExC K BD) (cw:CW K WC) (TL:CT K PL) (TS:CT K PS) (G_turned:Cal P w K mg base 4 "turned" ["tie"] (xp PL PS) f1 d1) (M_Web:Mak P w K mg base 5 "Web" ["self","many","ties","turns"] (lQ K) WC fW dW):FnOk P w K mg base (CXd P w) 7 f fd ["web","place"] (oA PL PS WC BD):=by
 refine F.okD oH (fun vs H Q E h=>?_) (fun cdv A outer s H vs Q E hr h=>?_)
 ·obtain⟨S,p,m,es,ts,ks,pl,rfl,_⟩:=h
  rfl
 obtain⟨S,p,m,es,ts,ks,pl,rfl,⟨dx,fs,q1,xs,qt,zt,hp,many,lk,_,hq1,tk,lt,_,hqt,rt⟩,ch,kq,kx⟩:=h
 have few:=ch.few
 have kl:=ch.wr.kl
 have tl:=ch.wr.tl
 refine⟨_,(ae (ba (au G1 (pv 1) (bh (pv 0) rfl) (aC _)) (ak (hV ecB T.g_BadDeed rfl bE rfl rfl (aa aM af))) aL)
   (ae (ay (i:=2) oH.nd rfl (Or.inl rfl) (aW bN (by rfl) T.n_list jh (aa (bh (pv 0) rfl) af)))
   (ae (cF PassesOwn.leaving rfl (b4 (aG av (bh (pv 0) rfl) (pv 1) (fun _ _=>rfl))) (aV (i:=3) oH.nd rfl (Or.inl rfl)) (ak (wz (ax G_turned.ok (hr.mono (by decide)) rfl G_turned.mg G_turned.kp G_turned.bn .nil aN (aa (aG av (pv 2) (pv 3) (fun _ _=>rfl)) af)) (wB (pv 2) (pv 3) kH))))
   (ak (aJ (oS M_Web.mkc M_Web.ok (hr.mono (by decide)) rfl M_Web.mg M_Web.bn .nil aN (aa (bh (pv 0) rfl) (aa (pv 2) (aa (bh (pv 0) rfl) af))))))))),?_⟩
 refine⟨_,rfl,_,rfl,p,WC,dx,fs,_,rfl,hp,cw.cl,cw.n1,many,_,_,rfl,rfl,_,rfl,ite2 (fun c=>⟨(by decide:1<=sizeLine),kx (fun z=>by have:=of_decide_eq_true c;omega) H fun _ _ e=>e⟩) (fun c0=>?_)⟩
 have hn:pl<m:=by
  have c0':¬ ((m:Int)<=(pl:Int)):=fun z=>c0 (decide_eq_true z)
  omega
 have kk:=kq hn
 have hpl:pl<ts.length:=by omega
 have gl:ts.getD pl []=ts[pl]:=by rw[Qi,PZ hpl];rfl
 rw[gl]at kk
 obtain⟨r,r1,_,r2⟩:=rt.2 pl ts[pl] (PZ hpl)
 have l63:=(ch.wr.rl ts[pl] (QO _)).1
 refine⟨_,rfl,p,WC,dx,fs,_,rfl,hp,cw.cl,cw.n2,lk,q1,xs,rfl,.inl (SqL.of hq1),fun t ht=>?_⟩
 have st:=ao ht (.lst xs)
 refine⟨_,rfl,p,WC,dx,fs,_,rfl,st _ _ hp,cw.cl,cw.n3,lt,_,rfl,qt,zt,_,_,rfl,rfl,SqL.of (st _ _ hqt),aQ r1,r,rfl,⟨_,SqL.of (st _ _ r2)⟩,iY (K:=K) (xs:=ts[pl].map iV) (fun i σ H2=>∃(v3:Option V)(ys:List V),σ = [some (.ref p),some (iV pl),some (.ref t),v3]/\Same H H2/\H2 t=some (.lst ys)/\fZ PL PS H2 ys es (flipL ks (ts[pl].take i))/\Ch m es ts (flipL ks (ts[pl].take i))) ⟨_,xs,rfl,st,ag,tk.mono st,ch⟩ (fun i σ H2 _ ⟨_,_,_,z,_⟩=>SqL.of (z _ _ r2)) ?_ ?_⟩
 ·rintro i x σ H2 hx ⟨v3,ys,rfl,s2,ht2,tk2,ch2⟩
  rw[Qd]at hx
  obtain⟨n,hn',rfl⟩:=QJ.mp hx
  obtain⟨e,he,_⟩:=(ch.g.w.mem pl ts[pl] (PZ hpl) n).mp (P7 hn')
  have hne:=(P0.mp he).1
  have kl2:=ch2.wr.kl
  generalize hK:flipL ks (ts[pl].take i)=k2 at tk2 ch2 kl2
  obtain⟨p',dx',a1,a2⟩:=tk2.2 n e k2[n] he (PZ (by omega))
  have kq:=ch2.wr.kk k2[n] (QO _)
  have ne:=(ch.g.w.ends e (P7 he)).2.2
  have yl:=tk2.1
  have gk:k2.getD n (0,0)=k2[n]:=by rw[Qi,PZ (show n<k2.length by omega)];rfl
  refine⟨_,rfl,_,rfl,t,ys,_,_,rfl,rfl,SqL.of ht2,aQ a1,p',dx',e,k2[n],rfl,a2,kq.1,kq.2.1,ne,fun y dy H3 s3 hy=>?_⟩
  have ht3:=s3 _ _ ht2
  refine⟨_,rfl,_,rfl,t,ys,_,n,rfl,rfl,ht3,pD (by omega),?_⟩
  have hyt:y≠t:=fun z=>by rw[z,ht3]at hy;cases hy
  refine⟨_,_,rfl,aP (s2.trans s3) ht _,ag,?_,?_⟩
  ·rw[QI,hn']
   show fZ PL PS _ _ es (flipL ks (ts[pl].take i++[n]))
   rw[pF,hK]
   unfold flip1
   rw[gk]
   refine fZ.set (dx:=dy) ⟨yl,fun j e' k' h1 h2=>?_⟩ he (by rw[ar hyt];exact hy)
   obtain⟨b,db,b1,b2⟩:=tk2.2 j e' k' h1 h2
   exact⟨b,db,b1,by rw[ar (fun z=>by rw[z,ht2]at b2;cases b2)];exact s3 _ _ b2⟩
  ·rw[QI,hn']
   show Ch m es ts (flipL ks (ts[pl].take i++[n]))
   rw[pF,hK]
   exact ch2.flip1 hne
 rintro σ H2 ⟨v3,ys,rfl,s2,ht2,tk2,ch2⟩
 rw[P5,QN]at tk2 ch2
 refine⟨_,rfl,p,WC,dx,fs,_,rfl,s2 _ _ hp,cw.cl,cw.n1,many,_,rfl,_,rfl,p,WC,dx,fs,_,rfl,s2 _ _ hp,cw.cl,cw.n3,lt,?_⟩
 exact NB cw TL TS kk s2 ht2 tk2 (s2 _ _ hqt) (rt.off.mono s2) ch2
end
end KF
namespace KF
open PySem L2 PyProof.Rows K8
local macro_rules | `(tactic| walk_at "cc") => `(tactic| first | exact ⟨by decide, by decide⟩ | (show (0 : Int) < _; decide) | (show (0 : Int) < _; omega) | (show (0 : Int) ≤ _; omega) | exact ⟨by decide, by decide, by decide⟩ | exact ⟨by omega, by omega, by decide⟩ | exact Or.inl ⟨by decide, by decide⟩ | exact Or.inl ⟨by omega, by omega⟩)
local macro_rules | `(tactic| walk_at "rd") => `(tactic| repeat (first | refine ⟨_, rfl, ?_⟩ | refine ⟨_, _, rfl, rfl, ?_⟩ | refine ⟨rfl, ?_⟩ | (refine ⟨?cc, ?_⟩; (case cc => walk_at "cc"))))
def jx(ws:List Str):Option (List Nat):=if(ws.map (nOf 31)).all Rz=true then some (ws.map fun z=>(nOf 31 z).getD 0) else none
theorem Ng{row w:Str}{ws:List Str}(h:QD row spS=w::ws)(f:Str):d9 f row 31=if w=f then jx ws else none:=by
 unfold d9 jx
 rw[h]
 show(if w=f/\_ then _ else _)=_
 by_cases c:w=f
 ·rw[if_pos c]
  by_cases d:(ws.map (nOf 31)).all Rz=true
  ·rw[if_pos ⟨c,d⟩,if_pos d]
  ·rw[if_neg (fun z=>d z.2),if_neg d]
 ·rw[if_neg c,if_neg (fun z=>c z.1)]
theorem Po{z:Str}(hn:32∉z.cps.toList)(ws:List Str):fw (bare (z::ws))=z:=by
 cases ws with
 |nil=>exact FO (c:=32) hn
 |cons a r =>
  have e:(bare (z::a::r)).cps.toList=z.cps.toList++32::(Str.join spS (a::r)).cps.toList:=by
   show(z++spS++Str.join spS (a::r)).cps.toList=_
   rw[lP,lP,Su]
   rfl
  exact(FP (c:=32) hn e).trans (lO rfl)
theorem M1{row w:Str}{ws:List Str}(h:QD row spS=w::ws):fw row=w:=by
 have e:=StrLaws.join_split row spS
 rw[h]at e
 rw[← e]
 exact Po (StrLaws.split_free row 32 _ (by show _∈QD row spS;rw[h];exact Ql ..)) ws
def ddIn(w:Str)(ns:List Nat):Option Dd:=if w=flW then(match ns with | [p]=>some (.flip p) | _=>none) else if w=lZ∨w=cE then(match ns with | [n,s]=>some (.tie (if w=cE then 1 else 0) n s) | _=>none) else none
def ddOf(row:Str):Option Dd:=match QD row spS with
 |[]=>none
 |w::ws=>(jx ws).bind (ddIn w)
theorem Pz{w:Str}{ns:List Nat}{dd:Dd}(c:w=flW)(h:ddIn w ns=some dd):∃ q,ns = [q]/\dd=.flip q:=by
 unfold ddIn at h
 rw[if_pos c]at h
 revert h
 match ns with
 |[]=>intro z;cases z
 |[q]=>intro z;cases z;exact⟨q,rfl,rfl⟩
 |_::_::_=>intro z;cases z
theorem Px{w:Str}{ns:List Nat}{dd:Dd}(c:¬ w=flW)(d:w=lZ∨w=cE)(h:ddIn w ns=some dd):∃ n s,ns = [n,s]/\dd=.tie (if w=cE then 1 else 0) n s:=by
 unfold ddIn at h
 rw[if_neg c,if_pos d]at h
 revert h
 match ns with
 |[]=>intro z;cases z
 |[_]=>intro z;cases z
 |[n,s]=>intro z;cases z;exact⟨n,s,rfl,rfl⟩
 |_::_::_::_=>intro z;cases z
theorem Py{w:Str}{ns:List Nat}(c:¬ w=flW)(d:¬ (w=lZ∨w=cE)):ddIn w ns=none:=by
 unfold ddIn
 rw[if_neg c,if_neg d]
theorem j4{row w:Str}{ws:List Str}{dd:Dd}(h:QD row spS=w::ws)(hd:ddOf row=some dd):∃ ns,jx ws=some ns/\ddIn w ns=some dd:=by
 unfold ddOf at hd
 rw[h]at hd
 exact Option.bind_eq_some_iff.1 hd
theorem M7{row w:Str}{ws:List Str}{ns:List Nat}(h:QD row spS=w::ws)(hn:jx ws=some ns):ddOf row=ddIn w ns:=by
 unfold ddOf
 rw[h]
 show(jx ws).bind _=_
 rw[hn]
 rfl
def oB(PL PS WC BD:Addr):Sp:=fun vs H Q E=>∃(S:Addr->Prop)(p:Addr)(m:Nat)(es:En)(ts:List (List Nat))(ks:Kn)(row:Str),vs = [.ref p,.str row]/\Rw row/\WebW S PL PS WC H p m es ts ks/\Ch m es ts ks /\
 (∀ dd,ddOf row=some dd->ddOk m es dd->∀(p':Addr)(H':Hp),Same H H'->WebW (fun a=>H a≠none) PL PS WC H' p' m es ts (ddK ts ks dd)->Q (.ref p') H')/\((∀ dd,ddOf row=some dd->¬ ddOk m es dd)->∀ H',Same H H'->E (.ref BD) none H')
def Oj(PL PS WC DC BD:Addr):Sp:=fun vs H Q E=>∃(d L:Addr)(ps:List V)(p:Addr)(row:Str)(S:Addr->Prop)(m:Nat)(es:En)(ts:List (List Nat))(ks:Kn),vs = [.ref d,.str row]/\LY DC H d L (ps++[.ref p])/\ps.length<=100/\Rw row/\WebW S PL PS WC H p m es ts ks/\Ch m es ts ks /\
 (row=cm->ps≠[]->∀ H1,Same H H1->Q .non (upd H1 L (.lst ps)))/\(row=cm->ps = []->∀ H1,Same H H1->E (.ref BD) none H1) /\
 (row≠cm->∀ dd,ddOf row=some dd->ddOk m es dd->∀(p':Addr)(H1:Hp),Same H H1->WebW (fun a=>H a≠none) PL PS WC H1 p' m es ts (ddK ts ks dd)->Q .non (upd H1 L (.lst (ps++[.ref p]++[.ref p'])))) /\
 (row≠cm->(∀ dd,ddOf row=some dd->¬ ddOk m es dd)->∀ H1,Same H H1->E (.ref BD) none H1)
def rZ(PL PS WC DC:Addr):Sp:=fun vs H Q _=>∃(d L:Addr)(ps:List V)(p:Addr)(row:Str)(S:Addr->Prop)(m:Nat)(es:En)(ts:List (List Nat))(ks:Kn),vs = [.ref d,.str row]/\LY DC H d L (ps++[.ref p])/\ps.length<=100/\Rw row/\WebW S PL PS WC H p m es ts ks/\Ch m es ts ks /\
 (row=cm->ps≠[]->∀ H1,Same H H1->Q (.bl false) (upd H1 L (.lst ps)))/\(row=cm->ps = []->∀ H1,Same H H1->Q (.bl true) H1) /\
 (row≠cm->∀ dd,ddOf row=some dd->ddOk m es dd->∀(p':Addr)(H1:Hp),Same H H1->WebW (fun a=>H a≠none) PL PS WC H1 p' m es ts (ddK ts ks dd)->Q (.bl false) (upd H1 L (.lst (ps++[.ref p]++[.ref p'])))) /\
 (row≠cm->(∀ dd,ddOf row=some dd->¬ ddOk m es dd)->∀ H1,Same H H1->Q (.bl true) H1)
structure BdF(K:P1)(BD FE:Addr):Prop where
 er:ErC K BD
 up:QR K BD (.ref BD)=some true
 k0:Rb K (.ref BD) (.ref FE)=some true
 kv:Rb K (.ref BD) (.type "ValueError")=some true
theorem y8:bootBuiltins "ValueError" = some (.type "ValueError"):=by decide +kernel
theorem Iq{X:Cx}{K:P1}(hK:X.K=K):jy X (.builtin "isinstance") (fun xs H Q=>∃ x c dx d b,xs = [.ref x,.ref d]/\H x=some (excD x c dx)/\ErC K c/\Rb K (.ref c) (.ref d)=some b/\Q (.bl b) H):=by subst hK;exact Lr
theorem ET{X:Cx}{K:P1}(hK:X.K=K):jy X (.builtin "isinstance") (fun xs H Q=>∃ x c dx T b,xs = [.ref x,.ty T]/\H x=some (excD x c dx)/\ErC K c/\Rb K (.ref c) (.type T)=some b/\Q (.bl b) H):=by subst hK;exact Ip
section
variable{P:Program}{w:World}{K:P1}{mg:Str->Option Value}{base:Heap}
theorem Dt{f f1 f2 f3 f4 PL PS WC NF BD FE:Addr}{fd d1 d2 d3 d4:FuncData} (F:Fun K "changed" "changed" hG f fd) (T:TxtX mg NF BD FE) (ecB:ExC K BD) (G_first_word:Cal P w K mg base 1 "first_word" ["row"] spFW f1 d1) (G_numbers_told:CalD P w K mg base 3 "numbers_told" ["word","row","many"] (oz BD) f2 d2) (G_with_tie:CalD P w K mg base 7 "with_tie" ["web","kind","number","strength"] (oy PL PS WC BD) f3 d3) (G_flipped:CalD P w K mg base 7 "flipped" ["web","place"] (oA PL PS WC BD) f4 d4):FnOk P w K mg base (CXd P w) 8 f fd ["web","row"] (oB PL PS WC BD):=by
 refine F.okD oJ (fun vs H Q E h=>?_) (fun cdv A outer s H vs Q E hr h=>?_)
 ·obtain⟨S,p,m,es,ts,ks,row,rfl,_⟩:=h
  rfl
 obtain⟨S,p,m,es,ts,ks,row,rfl,hR,ww,ch,kk,kx⟩:=h
 obtain⟨w0,ws,ew⟩:=Rt (xj row 32)
 have ew':QD row spS=w0::ws:=ew
 have e1:=M1 ew'
 have eb:d9 w0 row 31=jx ws:=by rw[Ng ew',if_pos rfl]
 have wmono:∀{H1 H':Hp}{p':Addr}{k:Kn},Same H H1->WebW (fun a=>H1 a≠none) PL PS WC H' p' m es ts k->WebW (fun a=>H a≠none) PL PS WC H' p' m es ts k:=fun{H1 H' p' k} s12 w'=>w'.mono (KpL.of fun _ _ e=>e) fun a z=>(by
  intro y
  cases u:H a with
  |none=>exact z u
  |some o=>rw[s12 _ _ u]at y;cases y)
 refine⟨_,(ae (ay (i:=2) oJ.nd rfl (Or.inl rfl) (ax G_first_word.ok (hr.mono (by decide)) rfl G_first_word.mg G_first_word.kp G_first_word.bn .nil aN (aa (pv 1) af)))
   (ae (ba (au eY (pv 2) aM (aC _)) (ak (aJ (dc G_flipped.ok (hr.mono (by decide)) rfl G_flipped.mg G_flipped.kp G_flipped.bn .nil bE rfl (aa (pv 0) (aa (aG av (dc G_numbers_told.ok (hr.mono (by decide)) rfl G_numbers_told.mg G_numbers_told.kp G_numbers_told.bn .nil bE rfl (aa (pv 2) (aa (pv 1) (aa ai af)))) ai (fun _ _=>rfl)) af))))) aL)
   (ae (ba (au jE (pv 2) (eS (aa aM (aa aM af))) (by with_unfolding_all rfl)) (ae (ay (i:=3) oJ.nd rfl (Or.inl rfl) (dc G_numbers_told.ok (hr.mono (by decide)) rfl G_numbers_told.mg G_numbers_told.kp G_numbers_told.bn .nil bE rfl (aa (pv 2) (aa (pv 1) (aa ai af)))))
   (ak (aJ (dc G_with_tie.ok (hr.mono (by decide)) rfl G_with_tie.mg G_with_tie.kp G_with_tie.bn .nil bE rfl (aa (pv 0) (aa (pv 2) (aa (aG av (pv 3) ai (fun _ _=>rfl)) (aa (aG av (pv 3) ai (fun _ _=>rfl)) af)))))))) aL)
   (ak (hV ecB T.g_BadDeed rfl bE rfl rfl (aa aM af)))))),?_⟩
 refine⟨_,rfl,_,rfl,hR.1,fun H1 s1=>?_⟩
 show tSeq _ _ _ (List.set _ _ (some (V.str (fw row)))) _
 rw[e1]
 refine⟨_,rfl,rfl,_,rfl,ite2 (fun c=>?_) (fun c=>?_)⟩
 ·have c':w0=flW:=V.str.inj (of_decide_eq_true c)
  refine⟨_,rfl,_,rfl,_,rfl,w0,row,1,rfl,hR,fun ns hb hl a H2 s2 ha=>?_,fun hx H2 s2=>?_⟩
  ·rw[eb]at hb
   match ns,hl with
   |[q],_ =>
    have ed':ddOf row=some (.flip q):=by rw[M7 ew' hb];unfold ddIn;rw[if_pos c']
    have s12:=s1.trans s2
    refine⟨a,_,0,_,rfl,rfl,SqL.of ha,mZ,S,p,m,es,ts,ks,q,rfl,ww.mono (KpL.of s12) (fun a z=>z),ch,fun hq p' H' s' w'=>kk _ ed' hq p' H' (s12.trans s') (wmono s12 w'),fun hq H' s'=>kx (fun dd hd=>?_) H' (s12.trans s')⟩
    rw[ed']at hd
    cases hd
    exact hq
  ·refine kx (fun dd hd=>?_) H2 (s1.trans s2)
   obtain⟨ns,hn,hd⟩:=j4 ew' hd
   obtain⟨q,rfl,_⟩:=Pz c' hd
   exact absurd rfl (hx _ (by rw[eb,hn]))
 ·have c':¬ w0=flW:=fun z=>c (decide_eq_true (congrArg V.str z))
  refine⟨_,rfl,(by show 2<=sizeLine;decide),fun t ht=>?_⟩
  have st:=ao ht (.tup [V.str (("pull" : String):Str),V.str (("push" : String):Str)])
  refine⟨t,_,rfl,.inr (SqT.of ag),rfl,rfl,_,rfl,?_⟩
  show(if(inV (.str w0) [.str lZ,.str cE])=true then _ else _)
  rw[KQ]
  by_cases cw:w0=lZ∨w0=cE
  ·rw[decide_eq_true cw]
   refine iteT ?_
   have hkd:w0=kS (if w0=cE then 1 else 0):=by
    by_cases z:w0=cE
    ·rw[if_pos z,z];rfl
    ·rw[if_neg z]
     exact cw.elim id fun y=>absurd y z
   refine⟨_,rfl,_,rfl,w0,row,2,rfl,hR,fun ns hb hl a H2 s2 ha=>?_,fun hx H2 s2=>?_⟩
   ·rw[eb]at hb
    match ns,hl,ha,hb with
    |[n,s'],_,ha,hb =>
     have ed':ddOf row=some (.tie (if w0=cE then 1 else 0) n s'):=by rw[M7 ew' hb];unfold ddIn;rw[if_neg c',if_pos cw]
     have s12:=s1.trans (st.trans s2)
     refine⟨_,rfl,_,rfl,_,rfl,a,_,0,_,rfl,rfl,SqL.of ha,(rfl:atI [iV n,iV s'] 0=some (iV n)),_,rfl,a,_,1,_,rfl,rfl,SqL.of ha,(rfl:atI [iV n,iV s'] 1=some (iV s')),S,p,m,es,ts,ks,(if w0=cE then 1 else 0),n,s',by rw[← hkd];rfl,ww.mono (KpL.of s12) (fun a z=>z),ch,?_,fun h1 h2 p' H' s' w'=>kk _ ed' ⟨?_,h1,h2⟩ p' H' (s12.trans s') (wmono s12 w'),fun hq H' s''=>kx (fun dd hd=>?_) H' (s12.trans s'')⟩
     ·split<;>simp
     ·split<;>simp
     ·rw[ed']at hd
      cases hd
      exact fun z=>hq z.2
   ·refine kx (fun dd hd=>?_) H2 (s1.trans (st.trans s2))
    obtain⟨ns,hn,hd⟩:=j4 ew' hd
    obtain⟨q,q',rfl,_⟩:=Px c' cw hd
    exact absurd rfl (hx _ (by rw[eb,hn]))
  ·rw[decide_eq_false cw]
   refine iteF ⟨(by decide:1<=sizeLine),kx (fun dd hd=>?_) _ (s1.trans st)⟩
   obtain⟨ns,hn,hd⟩:=j4 ew' hd
   rw[Py c' cw]at hd
   cases hd
end
end KF
namespace KF
open PySem L2 PyProof.Rows K8
local macro_rules | `(tactic| walk_at "cc") => `(tactic| first | exact ⟨by decide, by decide⟩ | (show (0 : Int) < _; decide) | (show (0 : Int) < _; omega) | (show (0 : Int) ≤ _; omega) | exact ⟨by decide, by decide, by decide⟩ | exact ⟨by omega, by omega, by decide⟩ | exact Or.inl ⟨by decide, by decide⟩ | exact Or.inl ⟨by omega, by omega⟩)
local macro_rules | `(tactic| walk_at "rd") => `(tactic| repeat (first | refine ⟨_, rfl, ?_⟩ | refine ⟨_, _, rfl, rfl, ?_⟩ | refine ⟨rfl, ?_⟩ | (refine ⟨?cc, ?_⟩; (case cc => walk_at "cc"))))
structure MetD(P:Program)(w:World)(K:P1)(mg:Str->Option Value)(base:Heap)(k:Nat)(C:Addr)(m:Str)(ps:List Str)(sp:Sp)(f:Addr)(fd:FuncData):Prop where
 me:Meth K C m f
 ok:FnOk P w K mg base (CXd P w) k f fd ps sp
 bn:gT K fd ps []
section
variable{P:Program}{w:World}{K:P1}{mg:Str->Option Value}{base:Heap}
theorem ok_doX{f f1 f2 DC PL PS WC NF BD FE:Addr}{fd d1 d2:FuncData} (F:Fun K "do" "Desk.do" hU f fd) (T:TxtX mg NF BD FE) (ecB:ExC K BD) (cd:CD K DC) (G_changed:CalD P w K mg base 9 "changed" ["web","row"] (oB PL PS WC BD) f1 d1) (m_left:Met P w K mg base 1 DC "left" ["self"] (FC DC) f2 d2):FnOk P w K mg base (CXd P w) 10 f fd ["self","row"] (Oj PL PS WC DC BD):=by
 refine F.okD GL (fun vs H Q E h=>?_) (fun cdv A outer s H vs Q E hr h=>?_)
 ·obtain⟨d,L,ps,p,row,S,m,es,ts,ks,rfl,_⟩:=h
  rfl
 obtain⟨d,L,ps,p,row,S,m,es,ts,ks,rfl,⟨dx,hd,hL⟩,l100,hR,ww,ch,k1,k2,k3,k4⟩:=h
 have CL:=cd.cl
 refine⟨_,(ak (ba (au fP (pv 1) aM (aC _)) (ak (aU (bK Qg Qs Qr aZ (bh (pv 0) rfl) (aa (dc G_changed.ok (hr.mono (by decide)) rfl G_changed.mg G_changed.kp G_changed.bn .nil bE rfl (aa (aG av (bh (pv 0) rfl) (GZ wk ai) (fun _ _=>rfl)) (aa (pv 1) af))) af)))) (ak (ba (au l6 (gh (pv 0) CL m_left.me m_left.ok (hr.mono (by decide)) m_left.bn .nil aN) ai (aC _)) (ak (aU (FK Qg R7 R6 FU (bh (pv 0) rfl)))) (ak (hV ecB T.g_BadDeed rfl bE rfl rfl (aa aM af))))))),?_⟩
 refine⟨_,rfl,rfl,_,rfl,ite2 (fun c=>?_) (fun c=>?_)⟩
 ·have ne:row≠cm:=fun z=>by
   have c':(!decide (V.str row=V.str cm))=true:=c
   rw[decide_eq_true (congrArg V.str z)]at c'
   cases c'
  refine⟨_,rfl,d,DC,dx,_,_,rfl,hd,cd.cl,cd.n1,rfl,.inl ⟨rfl,_,SqL.of hL⟩,_,rfl,d,DC,dx,_,_,rfl,hd,cd.cl,cd.n1,rfl,_,rfl,L,_,-1,.ref p,rfl,rfl,SqL.of hL,zf _ _,_,rfl,S,p,m,es,ts,ks,row,rfl,hR,ww,ch,fun dd e ok p' H1 s1 w1=>⟨L,_,_,rfl,rfl,s1 _ _ hL,aI (by rw[P2,Qa];omega),k3 ne dd e ok p' H1 s1 w1⟩,fun no H1 s1=>k4 ne no H1 s1⟩
 ·have eq:row=cm:=Classical.byContradiction fun z=>c (by
   show(!decide (V.str row=V.str cm))=true
   rw[decide_eq_false (fun y=>z (V.str.inj y))]
   rfl)
  refine⟨_,rfl,d,dx,_,rfl,hd,Ks (by decide +kernel),d,L,_,rfl,⟨dx,hd,hL⟩,_,_,rfl,rfl,_,rfl,ite2 (fun c=>?_) (fun c=>?_)⟩
  ·have c':(0:Int)<(((ps++[V.ref p]).length:Nat):Int)-1:=of_decide_eq_true c
   rw[P2,Qa]at c'
   refine⟨_,rfl,d,DC,dx,_,_,rfl,hd,cd.cl,cd.n1,rfl,.inl ⟨rfl,_,SqL.of hL⟩,L,_,.ref p,rfl,rfl,hL,by simp,?_⟩
   rw[List.dropLast_concat]
   exact k1 eq (fun z=>by rw[z]at c';exact absurd c' (by decide)) H fun _ _ e=>e
  ·have c':¬ (0:Int)<(((ps++[V.ref p]).length:Nat):Int)-1:=fun z=>c (decide_eq_true z)
   rw[P2,Qa]at c'
   exact⟨(by decide:1<=sizeLine),k2 eq (S5 (by omega)) H fun _ _ e=>e⟩
theorem dJ:aH ["desk","row","refused","e"] ["desk","row"] (aj cy):=⟨rfl,rfl,rfl,by decide +kernel,rfl,by decide +kernel,by decide +kernel⟩
theorem G5{f f1 DC PL PS WC NF BD FE:Addr}{fd d1:FuncData} (F:Fun K "_law_refused" "_law_refused" cy f fd) (T:TxtX mg NF BD FE) (ecB:ExC K BD) (bf:BdF K BD FE) (cd:CD K DC) (m_do:MetD P w K mg base 10 DC "do" ["self","row"] (Oj PL PS WC DC BD) f1 d1):FnOk P w K mg base CX0 12 f fd ["desk","row"] (rZ PL PS WC DC):=by
 have hCs:∀ x,x=BD->QR K x (.ref BD)=some true:=fun x e=>by subst e;exact bf.up
 refine F.ok dJ (fun vs H Q E h=>?_) (fun cdv A outer s H vs Q E hr h=>?_)
 ·obtain⟨d,L,ps,p,row,S,m,es,ts,ks,rfl,_⟩:=h
  rfl
 obtain⟨d,L,ps,p,row,S,m,es,ts,ks,rfl,dl,l100,hR,ww,ch,k1,k2,k3,k4⟩:=h
 have CL:=cd.cl
 refine⟨_,(ae (ay (i:=2) dJ.nd rfl (Or.inl rfl) G0)
   (ae (Ju (ie:=3) (Cs:=(fun c=>c=BD)) rfl rfl rfl dJ.nd rfl rfl rfl T.g_BadDeed ecB hCs (fun pins XE W ws=>(ak (aU (Mo (pv 0) CL m_do.me m_do.ok (hr.mono (by decide)) m_do.bn .nil ws (C5 rfl) (aa (pv 1) af))))) (fun v=>(ak (ay (i:=2) dJ.nd rfl (Or.inl rfl) (Nw (aA (Iq (K:=K) rfl) (by rfl) T.n_isinstance oi (aa (pv 3) (aa (JC (v:=.ref _) rfl T.g_FloorError rfl) af))) (Nv (aA (ET (K:=K) rfl) (by rfl) T.n_isinstance oi (aa (pv 3) (aa (OI (v:=.ty "ValueError") rfl T.n_ValueError y8 rfl) af)))))))))
   (ak (aJ (pv 2))))),?_⟩
 obtain⟨dx,hd,hL⟩:=id dl
 refine⟨_,rfl,d,dx,_,rfl,hd,Ks (by decide +kernel),_,rfl,d,L,ps,p,row,S,m,es,ts,ks,rfl,dl,l100,hR,ww,ch,fun e ne H1 s1=>?_,fun e ne H1 s1=>?_,fun e dd ed ok p' H1 s1 w1=>?_,fun e no H1 s1=>?_⟩
 ·exact⟨_,rfl,k1 e ne H1 s1⟩
 ·refine⟨BD,rfl,rfl,fun x hx=>?_⟩
  have sx:=ao hx (excD x BD none)
  refine⟨_,rfl,x,BD,none,FE,_,rfl,ag,bf.er,bf.k0,_,rfl,iteT ?_⟩
  refine⟨_,rfl,x,BD,none,"ValueError",_,rfl,ag,bf.er,bf.kv,?_⟩
  exact⟨_,rfl,k2 e ne _ (s1.trans sx)⟩
 ·exact⟨_,rfl,k3 e dd ed ok p' H1 s1 w1⟩
 ·refine⟨BD,rfl,rfl,fun x hx=>?_⟩
  have sx:=ao hx (excD x BD none)
  refine⟨_,rfl,x,BD,none,FE,_,rfl,ag,bf.er,bf.k0,_,rfl,iteT ?_⟩
  refine⟨_,rfl,x,BD,none,"ValueError",_,rfl,ag,bf.er,bf.kv,?_⟩
  exact⟨_,rfl,k4 e no _ (s1.trans sx)⟩
end
end KF
namespace KF
open PySem L2 PyProof.Rows K8
local macro_rules | `(tactic| walk_at "cc") => `(tactic| first | exact ⟨by decide, by decide⟩ | (show (0 : Int) < _; decide) | (show (0 : Int) < _; omega) | (show (0 : Int) ≤ _; omega) | exact ⟨by decide, by decide, by decide⟩ | exact ⟨by omega, by omega, by decide⟩ | exact Or.inl ⟨by decide, by decide⟩ | exact Or.inl ⟨by omega, by omega⟩)
local macro_rules | `(tactic| walk_at "rd") => `(tactic| repeat (first | refine ⟨_, rfl, ?_⟩ | refine ⟨_, _, rfl, rfl, ?_⟩ | refine ⟨rfl, ?_⟩ | (refine ⟨?cc, ?_⟩; (case cc => walk_at "cc"))))
theorem IX{X:Cx}{x:Str}{es:List Expr}{pos pos':Pos}{l:Nat}:swapsWith (.List es pos) (some (.Name x pos')) l X.env=pure false:=rfl
theorem sw_sub{X:Cx}{x:Str}{a b:Expr}{pos pos':Pos}{l:Nat}:swapsWith (.Subscript a b pos) (some (.Name x pos')) l X.env=pure false:=rfl
theorem rD{X:Cx}{c:Const}{j:Nat}{p:Pos}{es:List Expr}{te:TE}{t:TA}(ha:PE X (.Constant c j p) te)(hr:PA X es t):PA X (.Constant c j p::es) (bP te t):=aa ha hr
theorem iy{X:Cx}{a b:Expr}{o:Operator}{p:Pos}{es:List Expr}{te:TE}{t:TA}(ha:PE X (.BinOp a o b p) te)(hr:PA X es t):PA X (.BinOp a o b p::es) (bP te t):=aa ha hr
def Sh(z:Str):Prop:=z.length<=40/\Asc z
theorem Ot{n:Nat}(h:n<10^31):Sh (tx n):=by
 refine⟨by have:=Fz (k:=30) h;omega,?_⟩
 unfold Asc
 rw[← R9,QX]
 exact fun c hc=>decide_eq_true (Em n c hc).2
def kD:List Str:=[(("" : String):Str),(("01" : String):Str),(("-1" : String):Str),(("+1" : String):Str),(("1a" : String):Str),(("1 " : String):Str),(("a" : String):Str),(("00" : String):Str),⟨(Q0 32 (("9" : String):Str).cps).foldl (·++·) #[]⟩,(("1" : String):Str)++⟨(Q0 31 (("0" : String):Str).cps).foldl (·++·) #[]⟩,(("1_0" : String):Str),(("1." : String):Str),((" 1" : String):Str)]
theorem GG:∀ z∈kD,Sh z:=by
 have h:kD.all (fun z=>decide (z.length<=40)&&z.cps.all (· < 128))=true:=by decide +kernel
 intro z hz
 have:=QX.mp h z hz
 rw[QT]at this
 exact⟨of_decide_eq_true this.1,this.2⟩
def Md:TA:=fun _ H Q=>Q (kD.map V.str) H
theorem JG{X:Cx}{es:List Expr}{t t':TA}(h:PA X es t)(i:∀ σ H Q,t' σ H Q->t σ H Q):PA X es t':=fun pos pins s σ H Q I q=>h pos pins s σ H Q I (i σ H Q q)
def Jb:Sp:=fun vs H Q _=>∃ c:Int,vs = [.int c]/\∀ z H',Same H H'->Sh z->Q (.str z) H'
def Jh(K:P1):Sp:=fun vs H Q _=>∃(a:Addr)(c0 c1 c2:Int),vs = [.ref a]/\SqL K H a [.int c0,.int c1,.int c2]/\∀ row H',Same H H'->row.length<=200->Asc row->Q (.str row) H'
def rowU(K:P1)(H:Hp)(a:Addr)(c0 c1 c2:Int)(n:Nat):TS:=fun D σ H'=>∃(l:Addr)(us:List Str)(cnt:Int),σ = [some (.ref a),some (.ref l),some (.int cnt)]/\Same H H'/\H l=none/\H' l=some (.lst (us.map V.str))/\us.length<=n/\(∀ z∈us,Sh z)/\SqL K H' a [.int c0,.int c1,.int c2]/\∀ row H'',Same H H''->row.length<=200->Asc row->D.rt (.str row) H''
theorem yI{c k:Int}(h:0<k):∃ n:Nat,c%k=(n:Int)/\(n:Int)<k:=⟨(c%k).toNat,by have:=Ro c (show k≠0 by omega);omega,by have:=Rm c h;have:=Ro c (show k≠0 by omega);omega⟩
section
variable{P:Program}{w:World}{K:P1}{mg:Str->Option Value}{base:Heap}
theorem so:aH ["cell","strange"] ["cell"] (aj cx):=⟨rfl,rfl,rfl,by decide +kernel,rfl,by decide +kernel,by decide +kernel⟩
theorem OL{f:Addr}{fd:FuncData} (F:Fun K "_law_word" "_law_word" cx f fd) (T:Txt mg):FnOk P w K mg base CX0 1 f fd ["cell"] Jb:=by
 refine F.ok so (fun vs H Q E h=>?_) (fun cdv A outer s H vs Q E hr h=>?_)
 ·obtain⟨c,rfl,_⟩:=h
  rfl
 obtain⟨c,rfl,kk⟩:=h
 obtain⟨es,q1,q2,q3,hes,e⟩:∃ es q1 q2 q3,PA (cxOf CX0 P w K mg base ["cell","strange"] "_law_word" (aj cx) f cdv A outer s H E).nox es Md/\aD cx=Stmt.Assign [.Name "strange" q1] (.List es q2) q3::(aD cx).drop 1:=by
  refine⟨_,_,_,_,?_,rfl⟩
  refine JG (t:=(bP (tC (.str (("" : String):Str))) (bP (tC (.str (("01" : String):Str))) (bP (tC (.str (("-1" : String):Str))) (bP (tC (.str (("+1" : String):Str))) (bP (tC (.str (("1a" : String):Str))) (bP (tC (.str (("1 " : String):Str))) (bP (tC (.str (("a" : String):Str))) (bP (tC (.str (("00" : String):Str))) (bP (tOp (fun x y H Q=>∃(z:Str)(n:Nat),x=.str z/\y=.int (n:Int)/\1<n/\z.length≠0/\z.length*n<=1000000/\Q (.str ⟨(Q0 n z.cps).foldl (·++·) #[]⟩) H) (tC (.str (("9" : String):Str))) (tC (.int 32))) (bP (tOp (fun x y H Q=>∃ i j,x=.str i/\y=.str j/\i.length+j.length<=sizeLine/\Q (.str (i++j)) H) (tC (.str (("1" : String):Str))) (tOp (fun x y H Q=>∃(z:Str)(n:Nat),x=.str z/\y=.int (n:Int)/\1<n/\z.length≠0/\z.length*n<=1000000/\Q (.str ⟨(Q0 n z.cps).foldl (·++·) #[]⟩) H) (tC (.str (("0" : String):Str))) (tC (.int 31)))) (bP (tC (.str (("1_0" : String):Str))) (bP (tC (.str (("1." : String):Str))) (bP (tC (.str ((" 1" : String):Str))) tNil)))))))))))))) ?a ?b
  case a =>
   iterate 8 (refine rD ?_ ?_;exact aM)
   refine iy ?_ ?_
   ·exact aE wC aM ai
   refine iy ?_ ?_
   ·exact aE hZ aM (aE wC aM ai)
   iterate 3 (refine rD ?_ ?_;exact aM)
   exact af
  case b =>
   intro σ H Q h
   refine⟨_,32,rfl,rfl,by decide,by decide +kernel,by decide +kernel,_,31,rfl,rfl,by decide,by decide +kernel,by decide +kernel,_,_,rfl,rfl,by decide +kernel,?_⟩
   exact h
 rw[e]
 refine⟨_,(ae (ay (i:=1) so.nd rfl (Or.inl rfl) (bg hes) IX)
   (ae (ba (au eY (aE bB (pv 0) ai) ai (aC _)) (ak (aJ (aW bC (by rfl) T.n_str lH (iy (aE bB (aE bR (pv 0) ai) ai) af)))) aL)
   (ae (ba (au eY (aE bB (pv 0) ai) ai (aC _)) (ak (aJ (aW bC (by rfl) T.n_str lH (iy (aE bB (aE bR (pv 0) ai) (aE Ad ai ai)) af)))) aL)
   (ak (aJ (aG av (pv 1) (aE bB (aE bR (pv 0) ai) ai) (fun _ _=>rfl))))))),?_⟩
 have l13:kD.length=13:=rfl
 refine⟨by rw[P5,l13];decide,fun l hl=>?_⟩
 have sl:=ao hl (.lst (kD.map V.str))
 refine⟨_,rfl,_,_,rfl,rfl,(by show(0:Int)<3;decide),rfl,_,rfl,ite2 (fun _=>?_) (fun _=>?_)⟩
 ·obtain⟨n,en,ln⟩:=yI (c:=c/3) (k:=9) (by decide)
  refine⟨_,rfl,_,_,rfl,rfl,⟨by decide,by decide⟩,_,_,rfl,rfl,(by show(0:Int)<9;decide),?_⟩
  refine⟨c/3%9,rfl,by rw[en];exact cG (n:=n) (by omega),?_⟩
  rw[en]
  exact kk _ _ sl (Ot (by omega))
 refine⟨_,rfl,_,_,rfl,rfl,(by show(0:Int)<3;decide),rfl,_,rfl,ite2 (fun _=>?_) (fun _=>?_)⟩
 ·have e31:(10:Int)^(31:Int).toNat=((10^31:Nat):Int):=by decide
  obtain⟨n,en,ln⟩:=yI (c:=c/3) (k:=(10:Int)^(31:Int).toNat) (by decide)
  refine⟨_,rfl,_,_,rfl,rfl,⟨by decide,by decide⟩,_,_,rfl,rfl,⟨by decide,by decide,by decide⟩,_,_,rfl,rfl,(by show(0:Int)<10^(31:Int).toNat;decide),?_⟩
  rw[e31]at ln
  refine⟨c/3%10^(31:Int).toNat,rfl,by rw[en];exact cG (n:=n) (by omega),?_⟩
  rw[en]
  exact kk _ _ sl (Ot (by omega))
 ·obtain⟨n,en,ln⟩:=yI (c:=c/3) (k:=13) (by decide)
  have hn:n<kD.length:=by omega
  refine⟨_,rfl,_,rfl,_,_,rfl,rfl,⟨by decide,by decide⟩,_,_,rfl,rfl,(by show(0:Int)<13;decide),?_⟩
  exact⟨l,_,c/3%13,_,rfl,rfl,SqL.of ag,by rw[en];exact aQ (by rw[Qd,PZ hn];rfl),kk _ _ sl (GG _ (QO hn))⟩
end
end KF
namespace KF
open PySem L2 PyProof.Rows K8
local macro_rules | `(tactic| walk_at "cc") => `(tactic| first | exact ⟨by decide, by decide⟩ | (show (0 : Int) < _; decide) | (show (0 : Int) < _; omega) | (show (0 : Int) ≤ _; omega) | exact ⟨by decide, by decide, by decide⟩ | exact ⟨by omega, by omega, by decide⟩ | exact Or.inl ⟨by decide, by decide⟩ | exact Or.inl ⟨by omega, by omega⟩)
local macro_rules | `(tactic| walk_at "rd") => `(tactic| repeat (first | refine ⟨_, rfl, ?_⟩ | refine ⟨_, _, rfl, rfl, ?_⟩ | refine ⟨rfl, ?_⟩ | (refine ⟨?cc, ?_⟩; (case cc => walk_at "cc"))))
def fK:List Str:=[(("pull" : String):Str),(("push" : String):Str),(("flip" : String):Str),(("back" : String):Str),(("Pull" : String):Str),(("hang" : String):Str),(("" : String):Str)]
def BH:List Int:=[2,2,1,0,2,1,1]
theorem Mi:∀ z∈fK,Sh z:=by
 have h:fK.all (fun z=>decide (z.length<=40)&&z.cps.all (· < 128))=true:=by decide +kernel
 intro z hz
 have:=QX.mp h z hz
 rw[QT]at this
 exact⟨of_decide_eq_true this.1,this.2⟩
theorem pe_imp{X:Cx}{e:Expr}{t t':TE}(h:PE X e t)(i:∀ σ H Q,t' σ H Q->t σ H Q):PE X e t':=fun pins s σ H Q I q=>h pins s σ H Q I (i σ H Q q)
def ix14(K:P1)(a:Addr)(c0 c1 c2:Int):TE:=fun σ H Q=>σ[0]?=some (some (V.ref a))/\SqL K H a [.int c0,.int c1,.int c2]/\Q (.int (c0%14/2)) H
theorem Nj{us:List Str}(h:∀ z∈us,Asc z):Asc (Str.join spS us):=by
 unfold Asc
 rw[← R9,QX]
 intro c hc
 rw[show(Str.join spS us).cps.toList=jn 32 (us.map (·.cps.toList)) from nO ..]at hc
 have:∀{P:List (List Nat)},c∈jn 32 P->c=32∨∃ p∈P,c∈p:=fun{P}=>by
  induction P with
  |nil=>intro z;cases z
  |cons a r ih =>
   cases r with
   |nil=>exact fun z=>.inr ⟨a,Ql ..,z⟩
   |cons b r =>
    intro z
    have z:c∈a++32::jn 32 (b::r):=z
    rcases Qf.mp z with z | z
    ·exact .inr ⟨a,Ql ..,z⟩
    ·rcases P8.mp z with z | z
     ·exact .inl z
     ·rcases ih z with y | ⟨p,hp,y⟩
      ·exact .inl y
      ·exact .inr ⟨p,Qe _ hp,y⟩
 rcases this hc with rfl | ⟨p,hp,y⟩
 ·rfl
 ·obtain⟨z,hz,rfl⟩:=Qv.mp hp
  have:=h z hz
  unfold Asc at this
  rw[← R9,QX]at this
  exact this c y
section
variable{P:Program}{w:World}{K:P1}{mg:Str->Option Value}{base:Heap}
theorem c9:aH ["cells","words","count"] ["cells"] (aj aS):=⟨rfl,rfl,rfl,by decide +kernel,rfl,by decide +kernel,by decide +kernel⟩
theorem OU{f f1:Addr}{fd d1:FuncData} (F:Fun K "_law_deed_row" "_law_deed_row" aS f fd) (T:Txt mg) (G_law_word:Cal P w K mg base 1 "_law_word" ["cell"] Jb f1 d1):FnOk P w K mg base CX0 2 f fd ["cells"] (Jh K):=by
 refine F.ok c9 (fun vs H Q E h=>?_) (fun cdv A outer s H vs Q E hr h=>?_)
 ·obtain⟨a,c0,c1,c2,rfl,_⟩:=h
  rfl
 obtain⟨a,c0,c1,c2,rfl,hS,kk⟩:=h
 have hix:∀{ix:Expr}{t:TE},PE (cxOf CX0 P w K mg base ["cells","words","count"] "_law_deed_row" (aj aS) f cdv A outer s H E).nox ix t->t=tOp (rI CDiv fun i j=>.int (i/j)) (tOp (rI (fun _ j=>0<j) fun i j=>.int (i%j)) (tOp (rIxL K) (tVar 0) (tC (.int 0))) (tC (.int 14))) (tC (.int 2))->PE (cxOf CX0 P w K mg base ["cells","words","count"] "_law_deed_row" (aj aS) f cdv A outer s H E).nox ix (ix14 K a c0 c1 c2):=fun h e=>pe_imp h fun σ H Q ⟨g1,g2,g3⟩=>by
  rw[e]
  exact⟨_,g1,a,_,0,_,rfl,rfl,g2,mZ,_,_,rfl,rfl,(by show(0:Int)<14;decide),_,_,rfl,rfl,⟨by decide,by decide⟩,g3⟩
 obtain⟨es1,ix1,es2,ix2,q1,q2,q3,q4,q5,q6,q7,q8,q9,h1,hx1,h2,hx2,p1,p2,e⟩:∃ es1 ix1 es2 ix2 q1 q2 q3 q4 q5 q6 q7 q8 q9,PA (cxOf CX0 P w K mg base ["cells","words","count"] "_law_deed_row" (aj aS) f cdv A outer s H E).nox es1 (fun _ H Q=>Q (fK.map V.str) H)/\PE (cxOf CX0 P w K mg base ["cells","words","count"] "_law_deed_row" (aj aS) f cdv A outer s H E).nox ix1 (ix14 K a c0 c1 c2)/\PA (cxOf CX0 P w K mg base ["cells","words","count"] "_law_deed_row" (aj aS) f cdv A outer s H E).nox es2 (fun _ H Q=>Q (BH.map V.int) H)/\PE (cxOf CX0 P w K mg base ["cells","words","count"] "_law_deed_row" (aj aS) f cdv A outer s H E).nox ix2 (ix14 K a c0 c1 c2)/\Fw ix1/\Fw ix2/\aD aS=Stmt.Assign [.Name "words" q1] (.List [.Subscript (.List es1 q2) ix1 q3] q4) q5::Stmt.Assign [.Name "count" q6] (.Subscript (.List es2 q7) ix2 q8) q9::(aD aS).drop 2:=by
  refine⟨_,_,_,_,_,_,_,_,_,_,_,_,_,?_,?_,?_,?_,fun _ _=>rfl,fun _ _=>rfl,rfl⟩
  ·refine JG (t:=(bP (tC (.str (("pull" : String):Str))) (bP (tC (.str (("push" : String):Str))) (bP (tC (.str (("flip" : String):Str))) (bP (tC (.str (("back" : String):Str))) (bP (tC (.str (("Pull" : String):Str))) (bP (tC (.str (("hang" : String):Str))) (bP (tC (.str (("" : String):Str))) tNil)))))))) ?a ?b
   case a =>
    iterate 7 (refine rD ?_ ?_;exact aM)
    exact af
   case b=>exact fun σ H Q h=>h
  ·exact hix (aE bR (aE bB (aG av (pv 0) ai (fun _ _=>rfl)) ai) ai) rfl
  ·refine JG (t:=(bP (tC (.int 2)) (bP (tC (.int 2)) (bP (tC (.int 1)) (bP (tC (.int 0)) (bP (tC (.int 2)) (bP (tC (.int 1)) (bP (tC (.int 1)) tNil)))))))) ?a ?b
   case a =>
    iterate 7 (refine rD ?_ ?_;exact ai)
    exact af
   case b=>exact fun σ H Q h=>h
  ·exact hix (aE bR (aE bB (aG av (pv 0) ai (fun _ _=>rfl)) ai) ai) rfl
 have fin:∀{n:Nat}{D:Ends}(l:Addr)(us:List Str)(cnt:Int)(z:Str)(H1:Hp),Same H H1->H l=none->us.length+1<=n->(∀ z∈us,Sh z)->Sh z->SqL K H1 a [.int c0,.int c1,.int c2]->(∀ row H'',Same H H''->row.length<=200->Asc row->D.rt (.str row) H'')->rowU K H a c0 c1 c2 n D [some (.ref a),some (.ref l),some (.int cnt)] (upd H1 l (.lst (us.map V.str++[.str z]))):=fun{n D} l us cnt z H1 s1 nl le sh hz hc k=>by
  refine⟨l,us++[z],cnt,rfl,aP s1 nl _,nl,by rw[ag,QE];rfl,by rw[P2,Qa];exact le,fun y hy=>?_,?_,k⟩
  ·rcases Qf.mp hy with y' | y'
   ·exact sh y y'
   ·rw[QP.mp y'];exact hz
  ·exact(aP s1 nl _).seq hS
 rw[e]
 refine⟨_,(ae (ay (i:=1) c9.nd rfl (Or.inl rfl) (bg (aa (aG av (bg h1) hx1 p1) af)) IX)
   (ae (ay (i:=2) c9.nd rfl (Or.inl rfl) (aG av (bg h2) hx2 p2) sw_sub)
   (ae (ba (au eY (aE bB (aG av (pv 0) ai (fun _ _=>rfl)) ai) ai (aC _)) (ak (ay (i:=2) c9.nd rfl (Or.inl rfl) (aE bB (aE bR (aG av (pv 0) ai (fun _ _=>rfl)) ai) ai))) aL)
   (jD (t2:=(rowU K H a c0 c1 c2 1)) (ae (ba (au l6 (pv 2) ai (aC _)) (ak (aU (bK Qg Qs Qr aZ (pv 1) (aa (kM (au l6 (aE bB (aG av (pv 0) ai (fun _ _=>rfl)) ai) ai (aC _)) (aW bC (by rfl) T.n_str lH (iy (aE bB (aE bR (aG av (pv 0) ai (fun _ _=>rfl)) ai) ai) af)) (ax G_law_word.ok (hr.mono (by decide)) rfl G_law_word.mg G_law_word.kp G_law_word.bn .nil aN (iy (aE bR (aG av (pv 0) ai (fun _ _=>rfl)) ai) af))) af)))) aL)
   (jD (t2:=(rowU K H a c0 c1 c2 2)) (ae (ba (au l6 (pv 2) ai (aC _)) (ak (aU (bK Qg Qs Qr aZ (pv 1) (aa (ax G_law_word.ok (hr.mono (by decide)) rfl G_law_word.mg G_law_word.kp G_law_word.bn .nil aN (aa (aG av (pv 0) ai (fun _ _=>rfl)) af)) af)))) aL)
   (jD (t2:=(rowU K H a c0 c1 c2 3)) (ae (ba (au l6 (pv 2) ai (aC _)) (ak (aU (bK Qg Qs Qr aZ (pv 1) (aa (ax G_law_word.ok (hr.mono (by decide)) rfl G_law_word.mg G_law_word.kp G_law_word.bn .nil aN (iy (aE bR (aG av (pv 0) ai (fun _ _=>rfl)) ai) af)) af)))) aL)
   (jD (t2:=(rowU K H a c0 c1 c2 4)) (ak (aJ (bK QV Rk Ry o5 aM (aa (pv 1) af)))) (fun D0 S0 H0 h0=>?r4))) (fun D0 S0 H0 h0=>?r3))) (fun D0 S0 H0 h0=>?r2))) (fun D0 S0 H0 h0=>?r1))))),?_⟩
 case r4 =>
  obtain⟨l,us,cnt,rfl,sm,nl,hl,le,sh,hc,k⟩:=h0
  have sl:=ik (ws:=us) (k:=40) fun z hz=>(sh z hz).1
  have jl:=nN 32 us
  refine⟨rfl,_,rfl,((" " : String):Str),l,us,rfl,rfl,SqL.of hl,?_,?_⟩
  ·rw[rV]
   show _+us.length*1<=_
   omega
  ·rw[rV]
   exact k _ _ sm (by show(Str.join ⟨#[32]⟩ us).length<=200;omega) (Nj fun z hz=>(sh z hz).2)
 case r3 =>
  obtain⟨l,us,cnt,rfl,sm,nl,hl,le,sh,hc,k⟩:=h0
  refine⟨_,rfl,_,_,rfl,rfl,_,rfl,ite2 (fun _=>?_) (fun _=>⟨l,us,cnt,rfl,sm,nl,hl,by omega,sh,hc,k⟩)⟩
  refine⟨_,rfl,.inl ⟨rfl,_,SqL.of hl⟩,_,rfl,a,_,2,_,rfl,rfl,hc,(rfl:atI [V.int c0,V.int c1,V.int c2] 2=some (V.int c2)),_,_,rfl,rfl,⟨by decide,by decide⟩,c2/7,rfl,fun z H1 s1 hz=>?_⟩
  exact⟨l,_,_,rfl,rfl,s1 _ _ hl,aI (by rw[P5];omega),fin l us cnt z H1 (sm.trans s1) nl (by omega) sh hz (s1.seq hc) k⟩
 case r2 =>
  obtain⟨l,us,cnt,rfl,sm,nl,hl,le,sh,hc,k⟩:=h0
  refine⟨_,rfl,_,_,rfl,rfl,_,rfl,ite2 (fun _=>?_) (fun _=>⟨l,us,cnt,rfl,sm,nl,hl,by omega,sh,hc,k⟩)⟩
  refine⟨_,rfl,.inl ⟨rfl,_,SqL.of hl⟩,_,rfl,a,_,2,_,rfl,rfl,hc,(rfl:atI [V.int c0,V.int c1,V.int c2] 2=some (V.int c2)),c2,rfl,fun z H1 s1 hz=>?_⟩
  exact⟨l,_,_,rfl,rfl,s1 _ _ hl,aI (by rw[P5];omega),fin l us cnt z H1 (sm.trans s1) nl (by omega) sh hz (s1.seq hc) k⟩
 case r1 =>
  obtain⟨l,us,cnt,rfl,sm,nl,hl,le,sh,hc,k⟩:=h0
  refine⟨_,rfl,_,_,rfl,rfl,_,rfl,ite2 (fun _=>?_) (fun _=>⟨l,us,cnt,rfl,sm,nl,hl,by omega,sh,hc,k⟩)⟩
  refine⟨_,rfl,.inl ⟨rfl,_,SqL.of hl⟩,_,rfl,a,_,1,_,rfl,rfl,hc,(rfl:atI [V.int c0,V.int c1,V.int c2] 1=some (V.int c1)),_,_,rfl,rfl,(by show(0:Int)<5;decide),_,_,rfl,rfl,_,rfl,ite2 (fun _=>?_) (fun _=>?_)⟩
  ·obtain⟨n,en,ln⟩:=yI (c:=c1/5) (k:=9) (by decide)
   refine⟨_,rfl,a,_,1,_,rfl,rfl,hc,(rfl:atI [V.int c0,V.int c1,V.int c2] 1=some (V.int c1)),_,_,rfl,rfl,⟨by decide,by decide⟩,_,_,rfl,rfl,(by show(0:Int)<9;decide),c1/5%9,rfl,by rw[en];exact cG (n:=n) (by omega),?_⟩
   refine⟨l,_,_,rfl,rfl,hl,aI (by rw[P5];omega),?_⟩
   rw[en]
   exact fin l us cnt _ _ sm nl (by omega) sh (Ot (by omega)) hc k
  ·refine⟨_,rfl,a,_,1,_,rfl,rfl,hc,(rfl:atI [V.int c0,V.int c1,V.int c2] 1=some (V.int c1)),_,_,rfl,rfl,⟨by decide,by decide⟩,c1/5,rfl,fun z H1 s1 hz=>?_⟩
   exact⟨l,_,_,rfl,rfl,s1 _ _ hl,aI (by rw[P5];omega),fin l us cnt z H1 (sm.trans s1) nl (by omega) sh hz (s1.seq hc) k⟩
 have w7:fK.length=7:=rfl
 have k7:BH.length=7:=rfl
 obtain⟨n,en,ln⟩:∃ n:Nat,c0%14/2=(n:Int)/\n<7:=⟨(c0%14/2).toNat,by omega,by omega⟩
 refine⟨by rw[P5,w7];decide,fun l1 hl1=>?_⟩
 have s1:=ao hl1 (.lst (fK.map V.str))
 refine⟨rfl,s1.seq hS,l1,_,_,V.str fK[n],rfl,rfl,SqL.of ag,by rw[en];exact aQ (by rw[Qd,PZ (by omega)];rfl),(by show 1<=sizeLine;decide),fun l hl=>?_⟩
 have s2:=s1.trans (ao hl (.lst [V.str fK[n]]))
 have nl:H l=none:=none_of s1 hl
 have h2l:(upd (upd H l1 (.lst (fK.map V.str))) l (.lst [V.str fK[n]])) l=some (.lst [V.str fK[n]]):=ag
 generalize upd (upd H l1 (.lst (fK.map V.str))) l (.lst [V.str fK[n]])=H2 at s2 h2l
 refine⟨by rw[P5,k7];decide,fun l2 hl2=>?_⟩
 have s3:=ao hl2 (.lst (BH.map V.int))
 have s03:=s2.trans s3
 refine⟨rfl,s03.seq hS,l2,_,_,V.int BH[n],rfl,rfl,SqL.of ag,by rw[en];exact aQ (by rw[Qd,PZ (by omega)];rfl),?_⟩
 have h3l:=s3 _ _ h2l
 generalize upd H2 l2 (.lst (BH.map V.int))=H3 at s3 s03 h3l
 have one:∀ z∈[fK[n]],Sh z:=fun z hz=>by
  rw[QP.mp hz]
  exact Mi _ (QO _)
 refine⟨_,rfl,a,_,0,_,rfl,rfl,s03.seq hS,mZ,_,_,rfl,rfl,(by show(0:Int)<2;decide),rfl,_,rfl,ite2 (fun _=>?_) (fun _=>?_)⟩
 ·refine⟨_,rfl,a,_,0,_,rfl,rfl,s03.seq hS,mZ,_,_,rfl,rfl,⟨by decide,by decide⟩,_,_,rfl,rfl,(by show(0:Int)<4;decide),?_⟩
  exact⟨l,[fK[n]],_,rfl,s03,nl,h3l,P9 _,one,s03.seq hS,kk⟩
 ·exact⟨l,[fK[n]],_,rfl,s03,nl,h3l,P9 _,one,s03.seq hS,kk⟩
end
end KF
namespace KF
open PySem L2 PyProof.Rows K8
local macro_rules | `(tactic| walk_at "cc") => `(tactic| first | exact ⟨by decide, by decide⟩ | (show (0 : Int) < _; decide) | (show (0 : Int) < _; omega) | (show (0 : Int) ≤ _; omega) | exact ⟨by decide, by decide, by decide⟩ | exact ⟨by omega, by omega, by decide⟩ | exact Or.inl ⟨by decide, by decide⟩ | exact Or.inl ⟨by omega, by omega⟩)
local macro_rules | `(tactic| walk_at "rd") => `(tactic| repeat (first | refine ⟨_, rfl, ?_⟩ | refine ⟨_, _, rfl, rfl, ?_⟩ | refine ⟨rfl, ?_⟩ | (refine ⟨?cc, ?_⟩; (case cc => walk_at "cc"))))
def CA(K:P1):Sp:=fun vs H Q _=>∃(a:Addr)(ws:List Str),vs = [.ref a]/\SqL K H a (ws.map V.str)/\ws.length<=300/\(∀ z∈ws,Asc z/\z.length<=400000)/\∀ v H',Same H H'->lV H' v (jx ws)->Q v H'
theorem nOf_no{k:Nat}{w:Str}(h:w.cps.toList.head?=some 48/\w.length≠1):nOf k w=none:=by
 unfold nOf
 rw[if_pos h]
 split<;>rfl
theorem Pj(d:Nat):(!(Builtin.Str.occurrences (("0123456789" : String):Str) ⟨#[d]⟩ 0 (("0123456789" : String):Str).length 1).isEmpty)=(decide (48<=d)&&decide (d<=57)):=by
 have fo:=StrLaws.found_one (("0123456789" : String):Str) d
 have e10:(("0123456789" : String):Str).cps.toList = [48,49,50,51,52,53,54,55,56,57]:=by decide +kernel
 rw[e10]at fo
 rw[fo,Rp,QT,decide_eq_true_iff,decide_eq_true_iff,decide_eq_true_iff]
 simp only[P8,Q4,or_false]
 omega
theorem Kd{ws:List Str}{i:Nat}{z:Str}(h:ws[i]?=some z)(n:nOf 31 z=none):jx ws=none:=by
 unfold jx
 rw[if_neg]
 intro c
 have:=QX.mp c (nOf 31 z) (Qv.mpr ⟨z,P7 h,rfl⟩)
 rw[n]at this
 cases this
theorem MJ{ws:List Str}(h:∀ (i:Nat) (z:Str),ws[i]?=some z->(nOf 31 z).isSome=true):jx ws=some (ws.map fun z=>(nOf 31 z).getD 0):=by
 unfold jx
 rw[if_pos]
 rw[QX]
 intro x hx
 obtain⟨z,hz,rfl⟩:=Qv.mp hx
 obtain⟨i,hi,rfl⟩:=Sd hz
 exact h i _ (PZ hi)
def wordT(a:Addr):TS:=fun D σ Hc=>∃(l:Addr)(w:Str)(ns:List Nat)(v3:Option V),σ = [some (.ref a),some (.ref l),some (.str w),v3]/\w.length<=31/\Asc w/\w.cps.toList≠[]/\¬ (w.cps.toList.head?=some 48/\w.length≠1)/\Hc l=some (.lst (ns.map iV))/\ns.length<=300 /\
 (nOf 31 w=none->D.rt .non Hc)/\(∀ n v3,nOf 31 w=some n->D.nx [some (.ref a),some (.ref l),some (.str w),v3] (upd Hc l (.lst (ns.map iV++[iV n]))))
section
variable{P:Program}{w:World}{K:P1}{mg:Str->Option Value}{base:Heap}
theorem dM:aH ["words","found","word","sign"] ["words"] (aj cA):=⟨rfl,rfl,rfl,by decide +kernel,rfl,by decide +kernel,by decide +kernel⟩
theorem MB{f:Addr}{fd:FuncData} (F:Fun K "_law_numbers" "_law_numbers" cA f fd) (T:Txt mg):FnOk P w K mg base CX0 1 f fd ["words"] (CA K):=by
 refine F.ok dM (fun vs H Q E h=>?_) (fun cdv A outer s H vs Q E hr h=>?_)
 ·obtain⟨a,ws,rfl,_⟩:=h
  rfl
 obtain⟨a,ws,rfl,hS,len,hw,kk⟩:=h
 have s64:(400000:Nat)<=sizeLine:=by decide
 refine⟨_,(ae (ay (i:=1) dM.nd rfl (Or.inl rfl) (bg af))
   (ae (cF PassesOwn.never rfl (b4 (pv 0)) (aV (i:=2) dM.nd rfl (Or.inl rfl)) (ae (ba (PW.pt (gy (au eY (pv 2) aM (aC _)) (gy (au l6 (aA kc (by rfl) T.n_len aT (aa (pv 2) af)) ai (aC _)) (fN (PW.pt (lA (au eY (aG NM (pv 2) ai (fun _ _=>rfl)) aM (aC _)) (oN (au l6 (aA kc (by rfl) T.n_len aT (aa (pv 2) af)) ai (aC _))))))))) (ak (aJ cW)) aL)
   (jD (t2:=(wordT a)) (ae (cF PassesOwn.never rfl (Nu (pv 2)) (aV (i:=3) dM.nd rfl (Or.inl rfl)) (ak (ba (au Ae (pv 3) aM (by with_unfolding_all rfl)) (ak (aJ cW)) aL)))
   (ak (aU (bK Qg Qs Qr aZ (pv 1) (aa (aW BO (by rfl) T.n_int Gi (aa (pv 2) af)) af))))) (fun D0 S0 H0 h0=>?lp))))
   (ak (aJ (pv 1))))),?_⟩
 case lp =>
  obtain⟨l,w,ns,v1,rfl,le,ha,ne,nz,hl,nl,kN,kS'⟩:=h0
  refine⟨_,rfl,w,rfl,ha,Pp (x:=w) (fun i σ H2=>∃ v1:Option V,σ = [some (.ref a),some (.ref l),some (.str w),v1]/\H2=H0/\(w.cps.toList.take i).all (fun c=>decide (48<=c)&&decide (c<=57))=true) ⟨_,rfl,rfl,rfl⟩ ?_ ?_⟩
  ·rintro i d σ H2 hd ⟨v1,rfl,rfl,al⟩
   refine⟨_,rfl,_,_,rfl,rfl,_,rfl,?_⟩
   rw[Pj]
   have hd':w.cps.toList[i]?=some d:=by rw[SM];exact hd
   cases hb:(decide (48<=d)&&decide (d<=57)) with
   |false =>
    have dn:dig w=false:=by
     cases z:dig w with
     |false=>rfl
     |true =>
      have:=QX.mp z d (P7 hd')
      rw[hb]at this
      cases this
    exact iteT (kN (if_pos (.inr (.inr dn))))
   |true =>
    refine iteF ⟨_,rfl,rfl,?_⟩
    rw[QI,hd',List.all_append,al]
    show(true&&([d].all fun c=>decide (48<=c)&&decide (c<=57)))=true
    rw[Sb,hb]
    rfl
  ·rintro σ H2 ⟨v1,rfl,rfl,al⟩
   have eT:w.cps.toList.take w.cps.size=w.cps.toList:=by rw[← Rq,QN]
   rw[eT]at al
   have hd:dig w=true:=al
   have ad:Tp w.cps.toList:=fun c hc=>by
    have:=QX.mp hd c hc
    rw[QT]at this
    exact⟨of_decide_eq_true this.1,of_decide_eq_true this.2⟩
   have e:nOf 31 w=some (Sv w.cps.toList):=by
    unfold nOf
    rw[if_neg,if_neg nz]
    rintro(z | z | z)
    ·exact ne z
    ·omega
    ·rw[hd]at z;cases z
   exact⟨_,rfl,.inl ⟨rfl,_,SqL.of hl⟩,_,rfl,w,_,rfl,intText_digits ad ne (by omega),by omega,l,_,_,rfl,rfl,hl,aI (by rw[P5];omega),kS' _ _ e⟩
 refine⟨(by show 0<=sizeLine;decide),fun l hl=>?_⟩
 have sl:=ao hl (.lst [])
 refine⟨_,rfl,a,rfl,⟨_,sl.seq hS⟩,iY (K:=K) (xs:=ws.map V.str) (fun i σ H2=>∃ v2 v3:Option V,σ = [some (.ref a),some (.ref l),v2,v3]/\Same H H2/\H2 l=some (.lst (((ws.take i).map fun z=>(nOf 31 z).getD 0).map iV))/\(∀(j:Nat)(z:Str),j<i->ws[j]?=some z->(nOf 31 z).isSome=true)) ⟨_,_,rfl,sl,ag,fun j _ hj=>absurd hj (RK _)⟩ (fun i σ H2 _ ⟨_,_,_,s2,_⟩=>s2.seq hS) ?_ ?_⟩
 ·rintro i x σ H2 hx ⟨v2,v3,rfl,s2,h2,al⟩
  obtain⟨w,hw',rfl⟩:∃ w,ws[i]?=some w/\V.str w=x:=by
   rw[Qd]at hx
   exact QJ.mp hx
  obtain⟨ha,hl4⟩:=hw w (P7 hw')
  have il:=(P0.mp hw').1
  have eE:decide (V.str w=V.str (("" : String):Str))=decide (w.cps.toList = []):=decide_eq_decide.mpr ⟨fun z=>by rw[V.str.inj z,Bg];rfl,fun z=>by rw[Bg,lO (a:=w) (b:=Str.empty) z]⟩
  have kN:nOf 31 w=none->Q .non H2:=fun z=>kk .non H2 s2 (by rw[Kd hw' z];rfl)
  have nx:∀ n v3,nOf 31 w=some n->∃ v2 v3',[some (.ref a),some (.ref l),some (.str w),v3] = [some (V.ref a),some (V.ref l),v2,v3']/\Same H (upd H2 l (.lst (((ws.take i).map fun z=>(nOf 31 z).getD 0).map iV++[iV n])))/\(upd H2 l (.lst (((ws.take i).map fun z=>(nOf 31 z).getD 0).map iV++[iV n]))) l=some (.lst (((ws.take (i+1)).map fun z=>(nOf 31 z).getD 0).map iV))/\(∀(j:Nat)(z:Str),j<i+1->ws[j]?=some z->(nOf 31 z).isSome=true):=fun n v3 e=>by
   refine⟨_,_,rfl,aP s2 hl _,?_,fun j z hj e'=>?_⟩
   ·rw[ag,QI,hw',QE,QE]
    show _=some (HO.lst (_++[iV ((nOf 31 w).getD 0)]))
    rw[e]
    rfl
   ·by_cases c:j=i
    ·subst c
     rw[hw']at e'
     cases e'
     rw[e]
     rfl
    ·exact al j z (by omega) e'
  refine⟨_,rfl,rfl,_,rfl,?_⟩
  rw[eE]
  refine ite2 (fun c=>iteT (kN (if_pos (.inl (of_decide_eq_true c))))) (fun c=>?_)
  have ne:w.cps.toList≠[]:=fun z=>c (decide_eq_true z)
  refine⟨_,rfl,w,rfl,QG hl4 s64,_,_,rfl,rfl,_,rfl,ite2 (fun c2=>iteT (kN (if_pos (.inr (.inl (by have:=of_decide_eq_true c2;omega)))))) (fun c2=>?_)⟩
  have le:w.length<=31:=by
   have:¬ ((31:Int)<(w.length:Int)):=fun z=>c2 (decide_eq_true z)
   omega
  obtain⟨h0,tl,ew⟩:=Rt ne
  have e48:(("0" : String):Str).cps.toList = [48]:=by decide +kernel
  have tl300:((ws.take i).map fun z=>(nOf 31 z).getD 0).length<=300:=by
   rw[P5,QK]
   omega
  refine⟨_,rfl,w,0,h0,rfl,rfl,QG hl4 s64,by rw[ew];exact mZ,rfl,_,rfl,ite2 (fun c3=>?_) (fun c3=>?_)⟩
  ·have e0:h0=48:=by
    have z2:=congrArg (fun s:Str=>s.cps.toList) (V.str.inj (of_decide_eq_true c3))
    rw[e48]at z2
    exact(R0 z2).1
   refine⟨_,rfl,w,rfl,QG hl4 s64,_,_,rfl,rfl,_,rfl,ite2 (fun c4=>kN (nOf_no ⟨by rw[ew,e0];rfl,by have:(1:Int)<(w.length:Int):=of_decide_eq_true c4;omega⟩)) (fun c4=>?_)⟩
   refine⟨l,w,_,_,rfl,le,ha,ne,fun z=>?_,h2,tl300,kN,nx⟩
   have:¬ ((1:Int)<(w.length:Int)):=fun z=>c4 (decide_eq_true z)
   have l0:w.length≠0:=by rw[rT,ew];simp
   omega
  ·refine iteF ⟨l,w,_,_,rfl,le,ha,ne,fun z=>c3 (decide_eq_true ?_),h2,tl300,kN,nx⟩
   have z1:=z.1
   rw[ew]at z1
   cases z1
   have:(⟨#[48]⟩:Str)=(("0" : String):Str):=by decide +kernel
   rw[this]
 ·rintro σ H2 ⟨v2,v3,rfl,s2,h2,al⟩
  rw[P5]at h2 al
  rw[QN]at h2
  refine⟨_,rfl,kk _ _ s2 ?_⟩
  rw[MJ fun i z e=>al i z (P0.mp e).1 e]
  exact⟨l,rfl,h2⟩
end
end KF
namespace KF
open PySem L2 PyProof.Rows K8
local macro_rules | `(tactic| walk_at "cc") => `(tactic| first | exact ⟨by decide, by decide⟩ | (show (0 : Int) < _; decide) | (show (0 : Int) < _; omega) | (show (0 : Int) ≤ _; omega) | exact ⟨by decide, by decide, by decide⟩ | exact ⟨by omega, by omega, by decide⟩ | exact Or.inl ⟨by decide, by decide⟩ | exact Or.inl ⟨by omega, by omega⟩)
local macro_rules | `(tactic| walk_at "rd") => `(tactic| repeat (first | refine ⟨_, rfl, ?_⟩ | refine ⟨_, _, rfl, rfl, ?_⟩ | refine ⟨rfl, ?_⟩ | (refine ⟨?cc, ?_⟩; (case cc => walk_at "cc"))))
def fk(k:Int×Int):Int×Int:=(1-k.1,k.2)
theorem K2{ks:Kn}{t:Nat}(h:t<ks.length)(j:Nat):(flip1 ks t)[j]?=if j=t then ks[j]?.map fk else ks[j]?:=by
 unfold flip1
 by_cases c:j=t
 ·subst c
  rw[if_pos rfl,Ri h,PZ h,Qi,PZ h]
  rfl
 ·rw[if_neg c,Rf (Ne.symm c)]
theorem K1(ks:Kn)(t:Nat):(flip1 ks t).length=ks.length:=QM ..
theorem tV:∀{l:List Nat}{ks:Kn},l.Nodup->(∀ t∈l,t<ks.length)->∀ j,(flipL ks l)[j]?=if j∈l then ks[j]?.map fk else ks[j]?
 |[],ks,_,_,j=>by rw[if_neg (by simp)];rfl
 |t::l,ks,nd,hl,j=>by
  obtain⟨n1,n2⟩:=Qp.mp nd
  have ht:=hl t (Ql ..)
  show(flipL (flip1 ks t) l)[j]?=_
  rw[tV n2 (fun x hx=>by rw[K1];exact hl x (Qe _ hx)) j,K2 ht]
  by_cases c:j=t
  ·subst c
   rw[if_neg n1,if_pos rfl,if_pos (Ql ..)]
  ·rw[if_neg c]
   by_cases d:j∈l
   ·rw[if_pos d,if_pos (Qe _ d)]
   ·rw[if_neg d,if_neg (fun z=>(P8.mp z).elim c d)]
def incB(es:En)(p t:Nat):Bool:=decide ((es.getD t (0,0)).1=p∨(es.getD t (0,0)).2=p)
theorem K0{m:Nat}{es:En}{ts:List (List Nat)}{ks:Kn}(c:Ch m es ts ks){p:Nat}(hp:p<ts.length):flipL ks ((QW es.length).filter (incB es p))=flipL ks (ts.getD p []):=by
 have gl:ts.getD p []=ts[p]:=by rw[Qi,PZ hp];rfl
 have hm:=c.g.w.mem p ts[p] (PZ hp)
 have kl:=c.wr.kl
 rw[gl]
 refine List.ext_getElem? fun j=>?_
 rw[tV (List.Nodup.sublist List.filter_sublist List.nodup_range) (fun t ht=>by have:=RI.mp (SH.mp ht).1;omega),tV (c.g.w.nd p ts[p] (PZ hp)) (fun t ht=>by
  obtain⟨e,he,_⟩:=(hm t).mp ht
  have:=(P0.mp he).1
  omega)]
 have iff:j∈(QW es.length).filter (incB es p)↔j∈ts[p]:=by
  rw[hm j,SH,RI]
  constructor
  ·rintro⟨h1,h2⟩
   refine⟨es[j],PZ h1,?_⟩
   have:=of_decide_eq_true h2
   rwa[Qi,PZ h1]at this
  ·rintro⟨e,he,h⟩
   refine⟨(P0.mp he).1,decide_eq_true ?_⟩
   rw[Qi,he]
   exact h
 by_cases d:j∈ts[p]
 ·rw[if_pos d,if_pos (iff.mpr d)]
 ·rw[if_neg d,if_neg (fun z=>d (iff.mp z))]
theorem bJ.set{H:Hp}{ws:List V}{ks:Kn}{k:Int×Int}{n:Nat}{p:Addr}(t:bJ H ws ks)(h:H p=some (.tup [.int k.1,.int k.2]))(h1:k.1=0∨k.1=1)(h2:0<=k.2):bJ H (ws.set n (.ref p)) (ks.set n k):=by
 refine⟨by rw[QM,QM,t.1],fun i x e=>?_⟩
 by_cases c:n=i
 ·subst c
  have hn:=(P0.mp e).1
  rw[QM]at hn
  rw[Ri hn]at e
  cases e
  exact⟨h1,h2,p,by rw[Ri (by rw[t.1];exact hn)],h⟩
 ·rw[Rf c]at e
  obtain⟨a,b,q,c1,c2⟩:=t.2 i x e
  exact⟨a,b,q,by rw[Rf c];exact c1,c2⟩
theorem Ph(x a b:Nat):inV (iV x) [iV a,iV b]=decide (a=x∨b=x):=by
 unfold inV
 rw[RA,RA,List.any_nil,Tr]
 show(((a:Int) == (x:Int))||((b:Int) == (x:Int)))=_
 rw[Rp,Bool.or_eq_true,beq_iff_eq,beq_iff_eq,decide_eq_true_iff]
 omega
theorem rN{row w:Str}{ws:List Str}(h:QD row spS=w::ws):row=cm↔w=cm/\ws = []:=by
 constructor
 ·intro e
  rw[e]at h
  have:QD cm spS = [cm]:=by decide +kernel
  rw[this]at h
  cases h
  exact⟨rfl,rfl⟩
 ·rintro⟨rfl,rfl⟩
  have e:=StrLaws.join_split row spS
  rw[h]at e
  exact e.symm
theorem MI{ws:List Str}(h:jx ws=some []):ws = []:=by
 unfold jx at h
 split at h
 ·exact SS.mp (Qt h)
 ·cases h
def Oi:Sp:=fun vs H Q _=>∃(b kp:Addr)(zs:List V)(row:Str)(m:Nat)(es:En)(ts:List (List Nat))(ks:Kn),vs = [.ref b,.ref kp,.str row]/\Bq H b es ts ks/\H kp=some (.lst zs)/\row.length<=200/\Asc row/\Ch m es ts ks /\
 (row=cm->zs = []->∀ H',Same H H'->Q .non H')/\(row=cm->∀ zs' x,zs=zs'++[x]->∀ H',Same H H'->Q x H') /\
 (row≠cm->∀ dd,ddOf row=some dd->ddOk m es dd->∀ pk' ws' H',Same H H'->H pk'=none->H' pk'=some (.lst ws')->bJ H' ws' (ddK ts ks dd)->Q (.ref pk') H') /\
 (row≠cm->(∀ dd,ddOf row=some dd->¬ ddOk m es dd)->∀ H',Same H H'->Q .non H')
end KF
namespace KF
open PySem L2 PyProof.Rows K8
local macro_rules | `(tactic| walk_at "cc") => `(tactic| first | exact ⟨by decide, by decide⟩ | (show (0 : Int) < _; decide) | (show (0 : Int) < _; omega) | (show (0 : Int) ≤ _; omega) | exact ⟨by decide, by decide, by decide⟩ | exact ⟨by omega, by omega, by decide⟩ | exact Or.inl ⟨by decide, by decide⟩ | exact Or.inl ⟨by omega, by omega⟩)
local macro_rules | `(tactic| walk_at "rd") => `(tactic| repeat (first | refine ⟨_, rfl, ?_⟩ | refine ⟨_, _, rfl, rfl, ?_⟩ | refine ⟨rfl, ?_⟩ | (refine ⟨?cc, ?_⟩; (case cc => walk_at "cc"))))
def dueU(H:Hp)(b kp:Addr)(row w0:Str)(rs:List Str)(m:Nat)(es:En)(ts:List (List Nat))(ks:Kn)(C:Prop):TS:=fun D σ Hc=>∃(q qn l:Addr)(ns:List Nat)(ws:List V)(v6:Option V),σ = [some (.ref b),some (.ref kp),some (.str row),some (.ref q),some (.ref qn),some (.ref l),v6]/\Same H Hc/\H l=none/\Hc l=some (.lst ws)/\bJ Hc ws ks/\Hc q=some (.lst ((w0::rs).map V.str))/\Hc qn=some (.lst (ns.map iV))/\qn≠l/\jx rs=some ns/\C /\
 (∀ dd,ddOf row=some dd->ddOk m es dd->∀ ws' H',Same H H'->H' l=some (.lst ws')->bJ H' ws' (ddK ts ks dd)->D.rt (.ref l) H')/\((∀ dd,ddOf row=some dd->¬ ddOk m es dd)->∀ H',Same H H'->D.rt .non H')
theorem O6:jx []=some []:=rfl
theorem M8:ddOf cm=none:=by decide +kernel
section
variable{P:Program}{w:World}{K:P1}{mg:Str->Option Value}{base:Heap}
theorem gW:aH ["built","kept","row","words","numbers","told","k"] ["built","kept","row"] (aj g8):=⟨rfl,rfl,rfl,by decide +kernel,rfl,by decide +kernel,by decide +kernel⟩
theorem ok_due{f f1:Addr}{fd d1:FuncData} (F:Fun K "_law_due" "_law_due" g8 f fd) (T:Txt mg) (G_law_numbers:Cal P w K mg base 1 "_law_numbers" ["words"] (CA K) f1 d1):FnOk P w K mg base CX0 2 f fd ["built","kept","row"] Oi:=by
 refine F.ok gW (fun vs H Q E h=>?_) (fun cdv A outer s H vs Q E hr h=>?_)
 ·obtain⟨b,kp,zs,row,m,es,ts,ks,rfl,_⟩:=h
  rfl
 obtain⟨b,kp,zs,row,m,es,ts,ks,rfl,⟨pe,pt,pk,ys,xs,ws,hb,hpe,hE,hpt,hR,hpk,tk⟩,hkp,r200,ra,ch,k1,k2,k3,k4⟩:=h
 have hu64:=hr.units
 obtain⟨w0,rs,ew⟩:=Rt (xj row 32)
 have ew':QD row spS=w0::rs:=ew
 have sl:=split_le row spS
 have rl:(QD row spS).length<=row.length+2:=sl
 rw[ew',Qz]at rl
 have aw:∀ z∈w0::rs,Asc z/\z.length<=row.length:=fun z hz=>zA (c:=32) ra (by show z∈QD row spS;rw[ew'];exact hz)
 have few:=ch.few
 have pos:=ch.pos
 have kl:=ch.wr.kl
 have tl:=ch.wr.tl
 have m2:=ch.wr.m2
 have m40:=ch.wr.m40
 have wl:=tk.1
 have yl:ys.length=es.length:=hE.1
 have xl:xs.length=ts.length:=hR.1
 refine⟨_,(ae (ay (i:=3) gW.nd rfl (Or.inl rfl) (bK QV Rh R4 rE (pv 2) (aa aM af)))
   (ae (ay (i:=4) gW.nd rfl (Or.inl rfl) (ax G_law_numbers.ok (hr.mono (by decide)) rfl G_law_numbers.mg G_law_numbers.kp G_law_numbers.bn .nil aN (aa (gg lU (pv 3) (iu ai) l5) af)))
   (ae (ay (i:=5) gW.nd rfl (Or.inl rfl) (aW bN (by rfl) T.n_list jh (aa (aG a8 (pv 0) ai (fun _ _=>rfl)) af)))
   (ae (ba (au qq (pv 4) cW (aC _)) (ak (aJ cW)) aL)
   (ae (ba (PW.pt (lA (au eY (aG av (pv 3) ai (fun _ _=>rfl)) aM (aC _)) (lA (au (Nx hu64) (pv 4) (bg af) (aC _)) (oN (au l6 (aA aq (by rfl) T.n_len aT (aa (pv 1) af)) ai (aC _)))))) (ak (aJ (aG av (pv 1) (GZ wk ai) (fun _ _=>rfl)))) aL)
   (jD (t2:=(dueU H b kp row w0 rs m es ts ks True)) (ae (ba (PW.pt (lA (au jE (aG av (pv 3) ai (fun _ _=>rfl)) (bg (aa aM (aa aM af))) (by with_unfolding_all rfl)) (lA (au eY (aA aq (by rfl) T.n_len aT (aa (pv 4) af)) ai (aC _)) (lA (au Af (aG av (pv 4) ai (fun _ _=>rfl)) (aA aq (by rfl) T.n_len aT (aa (pv 5) af)) (aC _)) (oN (au op_le (aG av (pv 4) ai (fun _ _=>rfl)) (aE Ad ai ai) (aC _))))))) (ae (wz (eS (aa (aW BP (by rfl) T.n_int Gi (aa (sM eY (aG av (pv 3) ai (fun _ _=>rfl)) aM (aC _)) af)) (aa (aG av (pv 4) ai (fun _ _=>rfl)) af))) (wB (pv 5) (aG av (pv 4) ai (fun _ _=>rfl)) kH))
   (ak (aJ (pv 5)))) aL)
   (jD (t2:=(dueU H b kp row w0 rs m es ts ks (∀ kd n s,ddOf row=some (.tie kd n s)->¬ ddOk m es (.tie kd n s)))) (ae (ba (PW.pt (lA (au eY (aG av (pv 3) ai (fun _ _=>rfl)) aM (aC _)) (lA (au eY (aA aq (by rfl) T.n_len aT (aa (pv 4) af)) ai (aC _)) (oN (au Af (aG av (pv 4) ai (fun _ _=>rfl)) (aA aq (by rfl) T.n_len aT (aa (aG a8 (pv 0) ai (fun _ _=>rfl)) af)) (aC _)))))) (ae (cF PassesOwn.never rfl (bV rfl T.n_range (aa (aA aq (by rfl) T.n_len aT (aa (pv 5) af)) af)) (aV (i:=6) gW.nd rfl (Or.inl rfl)) (ak (ba (au jE (aG av (pv 4) ai (fun _ _=>rfl)) (aG av (aG a8 (pv 0) ai (fun _ _=>rfl)) (pv 6) (fun _ _=>rfl)) (by with_unfolding_all rfl)) (ak (wz (eS (aa (aE nA ai (aG a8 (aG av (pv 5) (pv 6) (fun _ _=>rfl)) ai (fun _ _=>rfl))) (aa (aG a8 (aG av (pv 5) (pv 6) (fun _ _=>rfl)) ai (fun _ _=>rfl)) af))) (wB (pv 5) (pv 6) kH))) aL)))
   (ak (aJ (pv 5)))) aL)
   (ak (aJ cW))) (fun D0 S0 H0 h0=>?d3))) (fun D0 S0 H0 h0=>?d2))))))),?_⟩
 case d2 =>
  obtain⟨q,qn,l,ns,us,v6,rfl,sA,nl,gl,tkA,hq,hqn,nql,hn,_,kk,kn⟩:=h0
  refine⟨_,rfl,q,_,0,_,rfl,rfl,SqL.of hq,mZ,(by show 2<=sizeLine;decide),fun e he=>?_⟩
  have se:=ao he (.lst [V.str (("pull" : String):Str),V.str (("push" : String):Str)])
  refine⟨e,_,rfl,.inl (SqL.of ag),rfl,rfl,_,rfl,?_⟩
  show(if(inV (.str w0) [.str lZ,.str cE])=true then _ else _)
  rw[KQ]
  have sB:=sA.trans se
  have gl':=se _ _ gl
  have hq':=se _ _ hq
  have hqn':=se _ _ hqn
  have tkB:=tkA.mono se
  generalize upd H0 e (.lst [V.str (("pull" : String):Str),V.str (("push" : String):Str)])=HB at se sB gl' hq' hqn' tkB
  have ul:=tkB.1
  by_cases cw:w0=lZ∨w0=cE
  ·rw[decide_eq_true cw]
   have c':¬ w0=flW:=by
    rcases cw with z | z<;>rw[z]<;>decide +kernel
   have ed:∀ n s,ns = [n,s]->ddOf row=some (.tie (if w0=cE then 1 else 0) n s):=fun n s z=>by rw[M7 ew' hn,z];unfold ddIn;rw[if_neg c',if_pos cw]
   have nt2:(∀ n s,ns = [n,s]->¬ (n<es.length/\s<=10^30))->∀ kd n s,ddOf row=some (.tie kd n s)->¬ ddOk m es (.tie kd n s):=fun hx kd n s z ok=>by
    obtain⟨ns',hn',hd⟩:=j4 ew' z
    rw[hn]at hn'
    cases hn'
    obtain⟨n',s',e1,e2⟩:=Px c' cw hd
    cases e2
    exact hx n s e1 ok.2
   refine iteT ⟨_,rfl,qn,_,rfl,.inl (SqL.of hqn'),rfl,_,rfl,ite2 (fun c2=>?_) (fun c2=>iteF ⟨q,qn,l,ns,us,_,rfl,sB,nl,gl',tkB,hq',hqn',nql,hn,nt2 fun n s z=>?_,kk,kn⟩)⟩
   rotate_left
   ·rw[z]at c2
    exact absurd (decide_eq_true rfl) c2
   have l2:ns.length=2:=by
    have:=V.int.inj (of_decide_eq_true c2)
    rw[P5]at this
    omega +splitDisjunctions
   match ns,l2,hn,hqn',nt2,ed with
   |[n,s'],_,hn,hqn',nt2,ed =>
   have ed':=ed n s' rfl
   refine⟨_,rfl,qn,_,0,_,rfl,rfl,SqL.of hqn',(rfl:atI [iV n,iV s'] 0=some (iV n)),_,rfl,l,us,rfl,.inl (SqL.of gl'),_,_,rfl,rfl,_,rfl,ite2 (fun cn=>?_) (fun cn=>iteF ⟨q,qn,l,_,us,_,rfl,sB,nl,gl',tkB,hq',hqn',nql,hn,nt2 fun n s z=>?_,kk,kn⟩)⟩
   rotate_left
   ·cases z
    rintro⟨z,_⟩
    exact cn (decide_eq_true (by show(n:Int)<(us.length:Int);omega +splitDisjunctions))
   have cn':(n:Int)<(us.length:Int):=of_decide_eq_true cn
   refine⟨_,rfl,qn,_,1,_,rfl,rfl,SqL.of hqn',(rfl:atI [iV n,iV s'] 1=some (iV s')),_,_,rfl,rfl,⟨by decide,by decide,by decide⟩,_,_,rfl,rfl,_,rfl,ite2 (fun cs=>?_) (fun cs=>⟨q,qn,l,_,us,_,rfl,sB,nl,gl',tkB,hq',hqn',nql,hn,nt2 fun n s z=>?_,kk,kn⟩)⟩
   rotate_left
   ·cases z
    rintro⟨_,z⟩
    exact cs (decide_eq_true (by show(s':Int)<=(10:Int)^(30:Int).toNat;rw[show(10:Int)^(30:Int).toNat=10^30 by decide];omega +splitDisjunctions))
   have cs':(s':Int)<=(10:Int)^(30:Int).toNat:=of_decide_eq_true cs
   rw[show(10:Int)^(30:Int).toNat=10^30 by decide]at cs'
   refine⟨_,rfl,q,_,0,_,rfl,rfl,SqL.of hq',mZ,rfl,.inr ⟨_,rfl,_,rfl,qn,_,1,_,rfl,rfl,SqL.of hqn',(rfl:atI [iV n,iV s'] 1=some (iV s')),(by show 2<=sizeLine;decide),fun t ht=>?_⟩⟩
   have ek:(if(decide (V.str w0=V.str (("push" : String):Str)))=true then(1:Int) else 0)=(if w0=cE then 1 else 0):=by
    by_cases z:w0=cE
    ·rw[if_pos z,decide_eq_true (show V.str w0=V.str (Str.ofString "push") from congrArg V.str z),if_pos rfl]
    ·rw[if_neg z,decide_eq_false (show ¬ V.str w0=V.str (Str.ofString "push") from fun y=>z (V.str.inj y))];rfl
   rw[ek]
   have hk1:(if w0=cE then(1:Int) else 0)=0∨(if w0=cE then(1:Int) else 0)=1:=by split<;>simp
   generalize (if w0=cE then(1:Int) else 0)=kd at ed' hk1 ek
   have st:=ao ht (.tup [V.int kd,V.int (s':Int)])
   have tlne:t≠l:=fun z=>by rw[z,gl']at ht;cases ht
   refine⟨_,rfl,_,rfl,qn,_,0,_,rfl,rfl,SqL.of (st _ _ hqn'),(rfl:atI [iV n,iV s'] 0=some (iV n)),l,us,_,n,rfl,rfl,st _ _ gl',pD (by omega +splitDisjunctions),?_⟩
   exact⟨_,rfl,kk _ ed' ⟨hk1,by omega +splitDisjunctions,by omega +splitDisjunctions⟩ _ _ (aP (sB.trans st) nl _) ag (bJ.set (k:=(kd,(s':Int))) ((tkB.mono st).put (st _ _ gl')) (by rw[ar tlne];exact ag) hk1 (by show(0:Int)<=(s':Int);omega +splitDisjunctions))⟩
  ·rw[decide_eq_false cw]
   refine iteF (iteF ⟨q,qn,l,ns,us,_,rfl,sB,nl,gl',tkB,hq',hqn',nql,hn,fun kd n s z=>?_,kk,kn⟩)
   obtain⟨ns',_,hd⟩:=j4 ew' z
   by_cases cf:w0=flW
   ·obtain⟨_,_,z'⟩:=Pz cf hd
    cases z'
   ·rw[Py cf cw]at hd
    cases hd
 case d3 =>
  obtain⟨q,qn,l,ns,us,v6,rfl,sA,nl,gl,tkA,hq,hqn,nql,hn,nt,kk,kn⟩:=h0
  refine⟨_,rfl,q,_,0,_,rfl,rfl,SqL.of hq,mZ,rfl,_,rfl,ite2 (fun cf=>?_) (fun cf=>iteF ?_)⟩
  ·have cf':w0=flW:=V.str.inj (of_decide_eq_true cf)
   have no:(∀ p,ns = [p]->¬ p<m)->∀ dd,ddOf row=some dd->¬ ddOk m es dd:=fun hx dd hd ok=>by
    obtain⟨ns',hn',hd⟩:=j4 ew' hd
    rw[hn]at hn'
    cases hn'
    obtain⟨p,e1,e2⟩:=Pz cf' hd
    cases e2
    exact hx p e1 ok
   refine⟨_,rfl,qn,_,rfl,.inl (SqL.of hqn),rfl,_,rfl,ite2 (fun c2=>?_) (fun c2=>iteF (kn (no fun p z=>?_) _ sA))⟩
   rotate_left
   ·rw[z]at c2
    exact absurd (decide_eq_true rfl) c2
   have l2:ns.length=1:=by
    have:=V.int.inj (of_decide_eq_true c2)
    rw[P5]at this
    omega +splitDisjunctions
   match ns,l2,hn,hqn,no with
   |[pl],_,hn,hqn,no =>
   have ed':ddOf row=some (.flip pl):=by rw[M7 ew' hn];unfold ddIn;rw[if_pos cf']
   refine⟨_,rfl,qn,_,0,_,rfl,rfl,SqL.of hqn,(rfl:atI [iV pl] 0=some (iV pl)),_,rfl,b,_,1,_,rfl,rfl,SqT.of (sA _ _ hb),at31,pt,xs,rfl,.inl (SqL.of (sA _ _ hpt)),_,_,rfl,rfl,_,rfl,ite2 (fun cp=>?_) (fun cp=>kn (no fun p z=>?_) _ sA)⟩
   rotate_left
   ·cases z
    exact fun z=>cp (decide_eq_true (by show(pl:Int)<(xs.length:Int);omega +splitDisjunctions))
   have cp':(pl:Int)<(xs.length:Int):=of_decide_eq_true cp
   have hpl:pl<ts.length:=by omega +splitDisjunctions
   have ul0:=tkA.1
   refine⟨_,rfl,l,us,rfl,.inl (SqL.of gl),_,rfl,by omega +splitDisjunctions,by omega +splitDisjunctions,cH (n:=(us.length:Int).toNat) (fun i σ H2=>∃(v8:Option V)(us:List V),σ = [some (.ref b),some (.ref kp),some (.str row),some (.ref q),some (.ref qn),some (.ref l),v8]/\Same H H2/\H2 l=some (.lst us)/\H2 qn=some (.lst [iV pl])/\bJ H2 us (flipL ks ((QW i).filter (incB es pl)))/\Ch m es ts (flipL ks ((QW i).filter (incB es pl)))) ⟨_,us,rfl,sA,gl,hqn,tkA,ch⟩ ?_ ?_⟩
   ·rintro i σ H2 hi ⟨v8,us,rfl,s2,g2,hn2,tk2,ch2⟩
    rw[Qy]at hi
    rw[RB]
    have hi2:i<es.length:=by omega +splitDisjunctions
    obtain⟨pp,x1,x2⟩:=(hE.mono s2).2 i es[i] (PZ hi2)
    have kl2:=ch2.wr.kl
    generalize hK:flipL ks ((QW i).filter (incB es pl))=k2 at tk2 ch2 kl2
    have ul:=tk2.1
    obtain⟨k1',k0,pk',y1,y2⟩:=tk2.2 i k2[i] (PZ (by omega +splitDisjunctions))
    have gk:k2.getD i (0,0)=k2[i]:=by rw[Qi,PZ (show i<k2.length by omega +splitDisjunctions)];rfl
    have ge:es.getD i (0,0)=es[i]:=by rw[Qi,PZ hi2];rfl
    have ei:incB es pl i=decide (es[i].1=pl∨es[i].2=pl):=by unfold incB;rw[ge]
    refine⟨_,rfl,qn,_,0,_,rfl,rfl,SqL.of hn2,(rfl:atI [iV pl] 0=some (iV pl)),_,rfl,b,_,0,_,rfl,rfl,SqT.of (s2 _ _ hb),at30,_,rfl,pe,ys,_,_,rfl,rfl,SqL.of (s2 _ _ hpe),aQ x1,pp,_,rfl,.inr (SqT.of x2),rfl,rfl,_,rfl,?_⟩
    show(if(inV (iV pl) [iV es[i].1,iV es[i].2])=true then _ else _)
    rw[Ph,← ei]
    cases hI:incB es pl i with
    |false =>
     refine iteF ⟨_,us,rfl,s2,g2,hn2,?_⟩
     rw[RX,List.filter_append,List.filter_cons,hI,if_neg (by decide),List.filter_nil,Rl,hK]
     exact⟨tk2,ch2⟩
    |true =>
     refine iteT ⟨_,rfl,_,rfl,l,us,_,_,rfl,rfl,SqL.of g2,aQ y1,pk',_,0,_,rfl,rfl,SqT.of y2,at0,_,_,rfl,rfl,_,rfl,_,rfl,l,us,_,_,rfl,rfl,SqL.of g2,aQ y1,pk',_,1,_,rfl,rfl,SqT.of y2,at1,(by show 2<=sizeLine;decide),fun t ht=>?_⟩
     have st:=ao ht (.tup [V.int (1-k2[i].1),V.int k2[i].2])
     have tlne:t≠l:=fun z=>by rw[z,g2]at ht;cases ht
     refine⟨_,rfl,_,rfl,l,us,_,i,rfl,rfl,st _ _ g2,pD (by omega +splitDisjunctions),_,_,rfl,aP (s2.trans st) nl _,ag,by rw[ar nql];exact st _ _ hn2,?_⟩
     rw[RX,List.filter_append,List.filter_cons,hI,if_pos rfl,List.filter_nil,pF,hK]
     refine⟨?_,ch2.flip1 hi2⟩
     unfold flip1
     rw[gk]
     exact bJ.set ((tk2.mono st).put (st _ _ g2)) (by rw[ar tlne];exact ag) (by show 1-k2[i].1=0∨1-k2[i].1=1;omega +splitDisjunctions) k0
   ·rintro σ H2 ⟨v8,us',rfl,s2,g2,hn2,tk2,ch2⟩
    rw[Qy,ul0,kl,K0 ch hpl]at tk2
    exact⟨_,rfl,kk (.flip pl) ed' (by show pl<m;omega +splitDisjunctions) us' H2 s2 g2 tk2⟩
  ·refine kn (fun dd hd=>?_) _ sA
   obtain⟨ns',_,hd'⟩:=j4 ew' hd
   cases dd with
   |tie kd n s=>exact nt kd n s hd
   |flip p =>
    exfalso
    have cf':¬ w0=flW:=fun z=>cf (decide_eq_true (congrArg V.str z))
    by_cases cw:w0=lZ∨w0=cE
    ·obtain⟨_,_,_,z'⟩:=Px cf' cw hd'
     cases z'
    ·rw[Py cf' cw]at hd'
     cases hd'
 rw[rV]
 refine⟨_,rfl,rfl,row,spS,rfl,rfl,rfl,by omega +splitDisjunctions,fun q hq=>?_⟩
 rw[ew']
 have s1:=ao hq (.lst ((w0::rs).map V.str))
 have h1q:(upd H q (.lst ((w0::rs).map V.str))) q=some (.lst ((w0::rs).map V.str)):=ag
 generalize upd H q (.lst ((w0::rs).map V.str))=H1 at s1 h1q
 refine⟨_,rfl,_,rfl,q,_,rfl,SqL.of h1q,fun q2 hq2=>?_⟩
 have s2:=ao hq2 (.lst (cutV ((w0::rs).map V.str) (some 1) none))
 have ec:cutV ((w0::rs).map V.str) (some 1) none=rs.map V.str:=yT _
 refine⟨q2,rs,rfl,SqL.of (by rw[ag,ec]),by omega +splitDisjunctions,fun z hz=>⟨(aw z (Qe _ hz)).1,by have:=(aw z (Qe _ hz)).2;omega +splitDisjunctions⟩,fun v H2 s3 hv=>?_⟩
 have s12:=s1.trans (s2.trans s3)
 have h2q:=s3 _ _ (s2 _ _ h1q)
 refine⟨_,rfl,b,_,2,_,rfl,rfl,SqT.of (s12 _ _ hb),at32,pk,ws,rfl,.inl (SqL.of (s12 _ _ hpk)),fun l hl=>?_⟩
 have s4:=ao hl (.lst ws)
 have sA:=s12.trans s4
 have gl:(upd H2 l (.lst ws)) l=some (.lst ws):=ag
 have nl:H l=none:=none_of s12 hl
 have hqA:=s4 _ _ h2q
 have tkA:=tk.mono sA
 have nb:jx rs=none->row≠cm:=fun z e=>by
  rw[((rN ew').mp e).2]at z
  cases z
 cases hn:jx rs with
 |none =>
  rw[hn]at hv
  have ev:v=.non:=hv
  subst ev
  refine⟨_,rfl,rfl,_,rfl,ite2 (fun _=>k4 (nb hn) (fun dd hd=>?_) _ sA) (fun c=>absurd (decide_eq_true rfl) c)⟩
  obtain⟨ns,z,_⟩:=j4 ew' hd
  rw[hn]at z
  cases z
 |some ns =>
  rw[hn]at hv
  obtain⟨qn,rfl,hqn⟩:=hv
  have hnA:=s4 _ _ hqn
  have nql:qn≠l:=fun z=>by rw[z,hl]at hqn;cases hqn
  generalize upd H2 l (.lst ws)=HA at sA gl hqA tkA hnA
  have kk':(row=cm->zs = [])->∀ dd,ddOf row=some dd->ddOk m es dd->∀ ws' H',Same H H'->H' l=some (.lst ws')->bJ H' ws' (ddK ts ks dd)->Q (.ref l) H':=fun _ dd hd ok ws' H' s' g' t'=>k3 (fun e=>by rw[e,M8]at hd;cases hd) dd hd ok l ws' H' s' nl g' t'
  have kn':(row=cm->zs = [])->(∀ dd,ddOf row=some dd->¬ ddOk m es dd)->∀ H',Same H H'->Q .non H':=fun z no H' s'=>by
   by_cases e:row=cm
   ·exact k1 e (z e) H' s'
   ·exact k4 e no H' s'
  refine⟨_,rfl,rfl,_,rfl,ite2 (fun c=>absurd (of_decide_eq_true c) (by intro z;cases z)) (fun _=>?_)⟩
  refine⟨_,rfl,q,_,0,_,rfl,rfl,SqL.of hqA,mZ,rfl,_,rfl,ite2 (fun cb=>?_) (fun cb=>iteF ?_)⟩
  ·have cb':w0=cm:=V.str.inj (of_decide_eq_true cb)
   refine⟨_,rfl,(by show 0<=sizeLine;decide),fun e he=>?_⟩
   have se:=ao he (.lst [])
   refine⟨_,_,o4 (ps:=ns) (SqL.of (se _ _ hnA)),o4 (ps:=[]) (SqL.of ag),iU _,iU _,_,rfl,?_⟩
   rw[F9]
   have sB:=sA.trans se
   refine ite2 (fun cn=>?_) (fun cn=>iteF ?_)
   ·refine⟨_,rfl,kp,zs,rfl,.inl (SqL.of (sB _ _ hkp)),_,_,rfl,rfl,_,rfl,ite2 (fun cz=>?_) (fun cz=>?_)⟩
    ·have z0:0<zs.length:=by
      have c2':(0:Int)<(zs.length:Int):=of_decide_eq_true cz
      omega +splitDisjunctions
     rcases SJ zs with e' | ⟨zs',x,e'⟩
     ·rw[e']at z0
      cases z0
     rw[SK]at e'
     have en:ns = []:=SS.mp (of_decide_eq_true cn)
     have er:row=cm:=(rN ew').mpr ⟨cb',MI (by rw[hn,en])⟩
     exact⟨_,rfl,_,rfl,kp,zs,-1,x,rfl,rfl,SqL.of (sB _ _ hkp),by rw[e'];exact zf _ _,k2 er zs' x e' _ sB⟩
    ·have hz:row=cm->zs = []:=fun _=>by
      rcases zs with _ | ⟨x,zs⟩
      ·rfl
      ·exact absurd (decide_eq_true (by show(0:Int)<(((x::zs).length:Nat):Int);rw[Qz];omega +splitDisjunctions)) cz
     exact⟨q,qn,l,ns,ws,_,rfl,sB,nl,se _ _ gl,tkA.mono se,se _ _ hqA,se _ _ hnA,nql,hn,trivial,kk' hz,kn' hz⟩
   ·have hz:row=cm->zs = []:=fun e'=>by
     have e2:=((rN ew').mp e').2
     rw[e2,O6]at hn
     cases hn
     exact absurd (decide_eq_true rfl) cn
    exact⟨q,qn,l,ns,ws,_,rfl,sB,nl,se _ _ gl,tkA.mono se,se _ _ hqA,se _ _ hnA,nql,hn,trivial,kk' hz,kn' hz⟩
  ·have hz:row=cm->zs = []:=fun e=>absurd (decide_eq_true (congrArg V.str ((rN ew').mp e).1)) cb
   exact⟨q,qn,l,ns,ws,_,rfl,sA,nl,gl,tkA,hqA,hnA,nql,hn,trivial,kk' hz,kn' hz⟩
end
end KF
namespace KF
open PySem L2 PyProof.Rows K8
local macro_rules | `(tactic| walk_at "cc") => `(tactic| first | exact ⟨by decide, by decide⟩ | (show (0 : Int) < _; decide) | (show (0 : Int) < _; omega) | (show (0 : Int) ≤ _; omega) | exact ⟨by decide, by decide, by decide⟩ | exact ⟨by omega, by omega, by decide⟩ | exact Or.inl ⟨by decide, by decide⟩ | exact Or.inl ⟨by omega, by omega⟩)
local macro_rules | `(tactic| walk_at "rd") => `(tactic| repeat (first | refine ⟨_, rfl, ?_⟩ | refine ⟨_, _, rfl, rfl, ?_⟩ | refine ⟨rfl, ?_⟩ | (refine ⟨?cc, ?_⟩; (case cc => walk_at "cc"))))
theorem Mg(x:Str):PySem.Txt.slice (x++nlS) none (some (-1))=x:=by
 have l1:(x++nlS).length=x.length+1:=by rw[Str.length_append];rfl
 rw[beq_iff_eq.mp (PyProof.Rows.slice_closes_to_neg (x:=x++nlS) (j:=-1) (k:=(x.length:Int)) (by decide) (by rw[l1];omega) (by rw[l1];omega))]
 refine lO ?_
 show(List.take ((x.length:Int)-0).toNat (List.drop (0:Int).toNat (x++nlS).cps.toList))=_
 rw[show(0:Int).toNat=0 from rfl,List.drop_zero,show((x.length:Int)-0).toNat=x.cps.toList.length by rw[Rq];show((x.length:Int)-0).toNat=x.length;omega,lP,List.take_left']
 rfl
theorem Kf{m:Nat}{es:En}{ks:Kn}{ts:List (List Nat)}{b:Str}(h:b∈(aO m es ks ts).map bare):10∉b.cps.toList:=fun z=>by
 obtain⟨ws,hws,rfl⟩:=Qv.mp h
 have:=EV (ox ws hws) z
 omega
theorem Ly{m:Nat}{es:En}{ks:Kn}{ts:List (List Nat)}(h:ts.length=m):bsK m es ks ts m=(aO m es ks ts).map bare:=by
 unfold bsK
 rw[Rr (by rw[jQ];omega)]
theorem Ja{m:Nat}{es:En}{ks:Kn}{ts:List (List Nat)}(h:ts.length=m)(m2:2<=m):∃ un,QD (PySem.Txt.slice (webT m es ks ts) none (some (-1))) nlS=bsK m es ks ts (m-1)++[]++[un]:=by
 rw[← IQ,Mg]
 have e:=kE (c:=10) (ws:=(aO m es ks ts).map bare) (by unfold aO;simp) fun w hw=>Kf hw
 have e':QD (Str.join nlS ((aO m es ks ts).map bare)) nlS=(aO m es ks ts).map bare:=e
 rw[e']
 have ll:=jQ (m:=m) (es:=es) (ks:=ks) (ts:=ts)
 have l1:1+es.length+(m-1)<((aO m es ks ts).map bare).length:=by rw[P5,ll];omega
 refine⟨((aO m es ks ts).map bare)[1+es.length+(m-1)],?_⟩
 unfold bsK
 rw[Rl,Sy]
 generalize hb:(aO m es ks ts).map bare=bs at l1
 have lb:bs.length=1+es.length+(m-1)+1:=by rw[← hb,P5,ll];omega
 refine(RL (1+es.length+(m-1)) bs).symm.trans (congrArg _ ?_)
 rw[Tg l1,List.drop_eq_nil_of_le (by omega)]
def bkS:Str:=(("back\n" : String):Str)
theorem Gu{m:Nat}{es:En}{ks:Kn}{ts:List (List Nat)}(h:ts.length=m):QD (webT m es ks ts++bkS) nlS=bsK m es ks ts m++[cm]++[Str.empty]:=by
 have e:webT m es ks ts++bkS=Str.join nlS ((aO m es ks ts).map bare++[cm]++[Str.empty]):=by
  rw[← IQ,nM _ _ (by simp),nM _ _ (by unfold aO;simp),Str.append_empty,show bkS=cm++nlS by decide +kernel,Str.append_assoc]
  simp only[Str.append_assoc]
 rw[e,Ly h]
 refine kE (c:=10) (by simp) fun w hw=>?_
 rcases Qf.mp hw with hw | hw
 ·rcases Qf.mp hw with hw | hw
  ·exact Kf hw
  ·rw[QP.mp hw]
   decide +kernel
 ·rw[QP.mp hw]
  exact fun z=>by cases z
def ks3:Kn:=[(0,1),(0,1),(0,1)]
def twS:Str:=(("places 2\npull 0 1 1\npull 0 1 1\npull 0 1 1\nabout 0 0 1 2\nabout 1 0 1 2\n" : String):Str)
theorem tw_eq:twS=webT 2 es3 ks3 ts3:=by decide +kernel
theorem wr3:Wr 2 es3 ks3 ts3:=⟨rfl,by decide,by decide,by decide,rfl,by decide,by decide,by decide⟩
theorem Me:QD twS nlS=bsK 2 es3 ks3 ts3 2++[]++[Str.empty]:=by
 rw[tw_eq,zv,Ly (show ts3.length=2 from rfl),Rl]
def b0S:Str:=(("back 0" : String):Str)
theorem dd_b0:ddOf b0S=none:=by decide +kernel
theorem Bq.mono{H H':Hp}{b:Addr}{es:En}{ts:List (List Nat)}{ks:Kn}(h:Bq H b es ts ks)(s:Same H H'):Bq H' b es ts ks:=by
 obtain⟨pe,pt,pk,ys,xs,ws,a1,a2,a3,a4,a5,a6,a7⟩:=h
 exact⟨pe,pt,pk,ys,xs,ws,s _ _ a1,s _ _ a2,a3.mono s,s _ _ a4,a5.mono s,s _ _ a6,a7.mono s⟩
structure Dsk(H1:Hp)(kp L d PL PS WC DC:Addr)(m:Nat)(es:En)(ts:List (List Nat))(H:Hp)(front:List Kn)(cur:Kn)(ps zs:List V)(pkc:Addr):Prop where
 sm:Same H1 H
 hd:∃ dx,H d=some (.ins DC dx [(("webs" : Str),.ref L)])
 hL:H L=some (.lst ps)
 hk:H kp=some (.lst zs)
 ne:L≠kp
 pl:ps.length=front.length+1
 zl:zs.length=front.length
 wb:∀(i:Nat)(ks:Kn),(front++[cur])[i]?=some ks->∃ p,ps[i]?=some (V.ref p)/\WebW (fun a=>a=L∨a=kp) PL PS WC H p m es ts ks
 tl:∀(i:Nat)(ks:Kn),front[i]?=some ks->∃ q ws,zs[i]?=some (V.ref q)/\q≠L/\q≠kp/\H q=some (.lst ws)/\bJ H ws ks
 pk:pkc≠L/\pkc≠kp/\∃ ws,H pkc=some (.lst ws)/\bJ H ws cur
 ch:∀ ks∈front++[cur],Ch m es ts ks
section
variable{H1:Hp}{kp L d PL PS WC DC:Addr}{m:Nat}{es:En}{ts:List (List Nat)}{H H':Hp}{front:List Kn}{cur:Kn}{ps zs:List V}{pkc:Addr}
def Kx(L kp:Addr)(H H':Hp):Prop:=∀ b o,H b=some o->b≠L->b≠kp->H' b=some o
theorem Kx.of(s:Same H H'):Kx L kp H H':=fun b o e _ _=>s _ _ e
theorem O8(k:Kx L kp H H')(hL:H L=some (.lst ps))(hk:H kp=some (.lst zs)){p:Addr}{ks:Kn}(w:WebW (fun a=>a=L∨a=kp) PL PS WC H p m es ts ks):WebW (fun a=>a=L∨a=kp) PL PS WC H' p m es ts ks:=by
 refine w.mono2 (fun b o e n=>?_) (fun a _ z _=>z)
 rcases n with⟨_,n⟩ | ⟨C,dx,fs,rfl,_⟩
 ·exact k b o e (fun z=>n (.inl z)) (fun z=>n (.inr z))
 ·exact k b _ e (fun z=>by rw[z,hL]at e;cases e) (fun z=>by rw[z,hk]at e;cases e)
theorem Ky(k:Kx L kp H H')(hL:H L=some (.lst ps))(hk:H kp=some (.lst zs)){ws:List V}{ks:Kn}(t:bJ H ws ks):bJ H' ws ks:=⟨t.1,fun i x e=>by
 obtain⟨a,b,p,c1,c2⟩:=t.2 i x e
 exact⟨a,b,p,c1,k _ _ c2 (fun z=>by rw[z,hL]at c2;cases c2) (fun z=>by rw[z,hk]at c2;cases c2)⟩⟩
theorem O9(k:Kx L kp H H')(hL:H L=some (.lst ps))(hk:H kp=some (.lst zs)) (h:∃ dx,H d=some (.ins DC dx [(("webs" : Str),.ref L)])):∃ dx,H' d=some (.ins DC dx [(("webs" : Str),.ref L)]):=by
 obtain⟨dx,a⟩:=h
 exact⟨dx,k _ _ a (fun z=>by rw[z,hL]at a;cases a) (fun z=>by rw[z,hk]at a;cases a)⟩
theorem Dsk.same(h:Dsk H1 kp L d PL PS WC DC m es ts H front cur ps zs pkc)(s:Same H H'):Dsk H1 kp L d PL PS WC DC m es ts H' front cur ps zs pkc:=by
 have k:Kx L kp H H':=Kx.of s
 refine⟨h.sm.trans s,O9 k h.hL h.hk h.hd,s _ _ h.hL,s _ _ h.hk,h.ne,h.pl,h.zl,fun i ks e=>?_,fun i ks e=>?_,?_,h.ch⟩
 ·obtain⟨p,a,b⟩:=h.wb i ks e
  exact⟨p,a,O8 k h.hL h.hk b⟩
 ·obtain⟨q,ws,a,b,c,e1,e2⟩:=h.tl i ks e
  exact⟨q,ws,a,b,c,s _ _ e1,e2.mono s⟩
 ·obtain⟨a,b,ws,c1,c2⟩:=h.pk
  exact⟨a,b,ws,s _ _ c1,c2.mono s⟩
theorem Dsk.push(h:Dsk H1 kp L d PL PS WC DC m es ts H front cur ps zs pkc)(k:Kx L kp H H')(sm:Same H1 H'){p' pk':Addr}{new:Kn}{ws':List V}(hL:H' L=some (.lst (ps++[.ref p'])))(hk:H' kp=some (.lst (zs++[.ref pkc])))(w:WebW (fun a=>a=L∨a=kp) PL PS WC H' p' m es ts new)(n1:pk'≠L)(n2:pk'≠kp)(hp:H' pk'=some (.lst ws'))(tp:bJ H' ws' new)(c:Ch m es ts new):Dsk H1 kp L d PL PS WC DC m es ts H' (front++[cur]) new (ps++[.ref p']) (zs++[.ref pkc]) pk':=by
 have pl:=h.pl
 have zl:=h.zl
 refine⟨sm,O9 k h.hL h.hk h.hd,hL,hk,h.ne,?_,?_,fun i ks e=>?_,fun i ks e=>?_,⟨n1,n2,ws',hp,tp⟩,fun ks hks=>?_⟩
 ·rw[P2,P2,pl];rfl
 ·rw[P2,P2,zl];rfl
 ·by_cases hi:i<(front++[cur]).length
  ·rw[P6 hi]at e
   obtain⟨p,a,b⟩:=h.wb i ks e
   exact⟨p,by rw[P6 (P0.mp a).1];exact a,O8 k h.hL h.hk b⟩
  ·have hl:=(P0.mp e).1
   rw[P2,P2,Qa,Qa]at hl
   rw[P2,Qa]at hi
   have ei:i=front.length+1:=by omega
   rw[P4 (by rw[P2,Qa];omega),P2,Qa,ei,Qu]at e
   cases e
   exact⟨p',by rw[ei,← pl,P4 (P9 _),Qu];rfl,w⟩
 ·by_cases hi:i<front.length
  ·rw[P6 hi]at e
   obtain⟨q,ws,a,b,c',e1,e2⟩:=h.tl i ks e
   exact⟨q,ws,by rw[P6 (by omega)];exact a,b,c',k _ _ e1 b c',Ky k h.hL h.hk e2⟩
  ·have hl:=(P0.mp e).1
   rw[P2,Qa]at hl
   have ei:i=front.length:=by omega
   rw[P4 (by omega),ei,Qu]at e
   cases e
   obtain⟨a,b,ws,c1,c2⟩:=h.pk
   exact⟨pkc,ws,by rw[ei,← zl,P4 (P9 _),Qu];rfl,a,b,k _ _ c1 a b,Ky k h.hL h.hk c2⟩
 ·rcases Qf.mp hks with hks | hks
  ·exact h.ch ks hks
  ·rw[QP.mp hks];exact c
theorem Dsk.pop{f':List Kn}{k':Kn}{ps' zs':List V}{x y:V}(h:Dsk H1 kp L d PL PS WC DC m es ts H (f'++[k']) cur (ps'++[x]) (zs'++[y]) pkc)(k:Kx L kp H H')(sm:Same H1 H')(hL:H' L=some (.lst ps'))(hk:H' kp=some (.lst zs')):∃ q,y=.ref q/\Dsk H1 kp L d PL PS WC DC m es ts H' f' k' ps' zs' q:=by
 have pl:=h.pl
 have zl:=h.zl
 rw[P2,P2,Qa,Qa]at pl zl
 obtain⟨q,ws,a,b,c,e1,e2⟩:=h.tl f'.length k' (by rw[P4 (P9 _),Qu];rfl)
 have zq:f'.length=zs'.length:=by omega
 rw[zq,P4 (P9 _),Qu]at a
 cases a
 refine⟨q,rfl,sm,O9 k h.hL h.hk h.hd,hL,hk,h.ne,by omega,by omega,fun i ks e=>?_,fun i ks e=>?_,⟨b,c,ws,k _ _ e1 b c,Ky k h.hL h.hk e2⟩,fun ks hks=>h.ch ks (QF _ hks)⟩
 ·have hl:=(P0.mp e).1
  obtain⟨p,a1,b1⟩:=h.wb i ks (by rw[P6 hl];exact e)
  rw[P2,Qa]at hl
  rw[P6 (by omega)]at a1
  exact⟨p,a1,O8 k h.hL h.hk b1⟩
 ·have hl:=(P0.mp e).1
  obtain⟨q',ws',a1,a2,a3,a4,a5⟩:=h.tl i ks (by rw[P6 hl];exact e)
  rw[P6 (by omega)]at a1
  exact⟨q',ws',a1,a2,a3,k _ _ a4 a2 a3,Ky k h.hL h.hk a5⟩
theorem Dsk.top(h:Dsk H1 kp L d PL PS WC DC m es ts H front cur ps zs pkc):∃ ps0 p,ps=ps0++[V.ref p]/\ps0.length=front.length/\WebW (fun a=>a=L∨a=kp) PL PS WC H p m es ts cur:=by
 have pl:=h.pl
 obtain⟨p,a,b⟩:=h.wb front.length cur (by rw[P4 (P9 _),Qu];rfl)
 rcases SJ ps with e | ⟨l,y,e⟩
 ·rw[e]at pl
  cases pl
 ·rw[SK]at e
  subst e
  rw[P2,Qa]at pl
  have ll:l.length=front.length:=by omega
  rw[← ll,P4 (P9 _),Qu]at a
  cases a
  exact⟨l,p,rfl,ll,b⟩
theorem Ch.flipL(c:Ch m es ts cur):∀{l:List Nat},(∀ t∈l,t<es.length)->Ch m es ts (flipL cur l):=by
 intro l
 induction l generalizing cur with
 |nil=>exact fun _=>c
 |cons t l ih=>exact fun h=>ih (c.flip1 (h t (Ql ..))) fun x hx=>h x (Qe _ hx)
theorem Ch.dd(c:Ch m es ts cur){dd:Dd}(ok:ddOk m es dd):Ch m es ts (ddK ts cur dd):=by
 cases dd with
 |tie kd n s =>
  obtain⟨a,b,e⟩:=(show(kd=0∨kd=1)/\n<es.length/\s<=10^30 from ok)
  exact c.set a (by show(0:Int)<=(s:Int);omega) (by show((s:Nat):Int)<=10^30;omega)
 |flip q =>
  have hq:q<ts.length:=by rw[c.wr.tl];exact ok
  have gl:ts.getD q []=ts[q]:=by rw[Qi,PZ hq];rfl
  show Ch m es ts (KF.flipL cur (ts.getD q []))
  rw[gl]
  refine c.flipL fun t ht=>?_
  obtain⟨e,he,_⟩:=(c.g.w.mem q ts[q] (PZ hq) t).mp ht
  exact(P0.mp he).1
end
end KF
namespace KF
open PySem L2 PyProof.Rows K8
local macro_rules | `(tactic| walk_at "cc") => `(tactic| first | exact ⟨by decide, by decide⟩ | (show (0 : Int) < _; decide) | (show (0 : Int) < _; omega) | (show (0 : Int) ≤ _; omega) | exact ⟨by decide, by decide, by decide⟩ | exact ⟨by omega, by omega, by decide⟩ | exact Or.inl ⟨by decide, by decide⟩ | exact Or.inl ⟨by omega, by omega⟩)
local macro_rules | `(tactic| walk_at "rd") => `(tactic| repeat (first | refine ⟨_, rfl, ?_⟩ | refine ⟨_, _, rfl, rfl, ?_⟩ | refine ⟨rfl, ?_⟩ | (refine ⟨?cc, ?_⟩; (case cc => walk_at "cc"))))
theorem bt_min:bootBuiltins "min" = some (.builtin "min"):=L2.bt_min
theorem rsz{lo m c:Int}{j:Nat}(hc:0<c)(h:j<(Builtin.Range.rangeSize lo m c).toNat):lo+(j:Int)*c<m:=by
 unfold Builtin.Range.rangeSize at h
 rw[if_pos hc]at h
 split at h
 ·have h2:(j:Int)<=(m-lo-1)/c:=by omega
  have h3:=Int.mul_le_of_le_ediv hc h2
  omega
 ·exact absurd h (RK _)
theorem cut_to(ns:List Int)(hi:Nat):∃ cs:List Int,cutV (ns.map V.int) none (some (hi:Int))=cs.map V.int/\cs.length<=ns.length:=by
 unfold cutV
 have q2:=HT.sIx_nat (ns.map V.int).length (ns.map V.int).length hi
 rw[q2,← SY,← Sy]
 refine⟨_,rfl,?_⟩
 rw[QK,Rx]
 omega
theorem cut3{ns:List Int}{k:Nat}(h:k+2<ns.length):cutV (ns.map V.int) (some (k:Int)) (some ((k:Int)+3)) = [V.int ns[k],V.int ns[k+1],V.int ns[k+2]]:=by
 unfold cutV
 have q1:=HT.sIx_nat (ns.map V.int).length 0 k
 have q2:=HT.sIx_nat (ns.map V.int).length (ns.map V.int).length (k+3)
 rw[show((k:Int)+3)=((k+3:Nat):Int) from rfl,q1,q2,P5,RW (by omega),RW (by omega)]
 rw[Sx]
 refine List.ext_getElem? fun i=>?_
 rw[RY]
 match i with
 |0=>rw[if_pos (by decide),Sf,Qd,PZ (by omega)];rfl
 |1=>rw[if_pos (by decide),Sf,Qd,PZ (by omega)];rfl
 |2=>rw[if_pos (by decide),Sf,Qd,PZ (by omega)];rfl
 |i+3=>rw[if_neg (by omega)];rfl
def xB(K:P1):Sp:=fun vs H Q _=>∃(a:Addr)(ns:List Int),vs = [.ref a]/\SqL K H a (ns.map V.int)/\ns.length<=63/\∀ H',Q (.bl true) H'
def tailT(PL PS WC DC:Addr):TS:=fun D σ H=>∃(H1:Hp)(kp L d bt pkc:Addr)(m:Nat)(es:En)(ts:List (List Nat))(front:List Kn)(cur:Kn)(ps zs:List V)(v0 v2 v3 v4 v7 v8 v9:Option V),σ = [v0,some (.ref bt),v2,v3,v4,some (.ref d),some (.ref kp),v7,v8,v9]/\Dsk H1 kp L d PL PS WC DC m es ts H front cur ps zs pkc/\Bq H bt es ts cur/\∀ H',Same H H'->D.nx σ H'
section
variable{P:Program}{w:World}{K:P1}{mg:Str->Option Value}{base:Heap}
theorem jC:aH ["script","built","text","rows","twisted","desk","kept","k","row","due"] ["script"] (aj xS):=⟨rfl,rfl,rfl,by decide +kernel,rfl,by decide +kernel,by decide +kernel⟩
theorem ok_law{f f1 f2 f3 f4 f5 f6 fD fT fL PL PS WC DC BT NF:Addr}{fd d1 d2 d3 d4 d5 d6 dD dT dL:FuncData} (F:Fun K "law" "law" xS f fd) (T:Txt mg) (cd:CD K DC) (G_law_built:Cal P w K mg base 5 "_law_built" ["script","first","most"] (xE K) f1 d1) (G_law_web_text:Cal P w K mg base 1 "_law_web_text" ["built"] rX f2 d2) (G_law_no_desk:Cal P w K mg base 10 "_law_no_desk" ["text"] (xA BT NF) f3 d3) (G_law_deed_row:Cal P w K mg base 2 "_law_deed_row" ["cells"] (Jh K) f4 d4) (G_law_due:Cal P w K mg base 2 "_law_due" ["built","kept","row"] Oi f5 d5) (G_law_refused:Cal P w K mg base 12 "_law_refused" ["desk","row"] (rZ PL PS WC DC) f6 d6) (M_Desk:Mak P w K mg base 8 "Desk" ["self","text"] (xG K PL PS WC) DC fD dD) (m_text:Met P w K mg base 4 DC "text" ["self"] (Jd PL PS WC DC) fT dT) (m_left:Met P w K mg base 1 DC "left" ["self"] (FC DC) fL dL):FnOk P w K mg base CX0 13 f fd ["script"] (xB K):=by
 refine F.ok jC (fun vs H Q E h=>?_) (fun cdv A outer s H vs Q E hr h=>?_)
 ·obtain⟨a,ns,rfl,_⟩:=h
  rfl
 obtain⟨a,ns,rfl,hS,h63,kq⟩:=h
 have CL:=cd.cl
 refine⟨_,(ae (ay (i:=1) jC.nd rfl (Or.inl rfl) (ax G_law_built.ok (hr.mono (by decide)) rfl G_law_built.mg G_law_built.kp G_law_built.bn .nil aN (aa (gg lU (pv 0) l5 (iu ai)) (aa ai (aa ai af)))))
   (ae (ay (i:=2) jC.nd rfl (Or.inl rfl) (ax G_law_web_text.ok (hr.mono (by decide)) rfl G_law_web_text.mg G_law_web_text.kp G_law_web_text.bn .nil aN (aa (pv 1) af)))
   (ae (ay (i:=3) jC.nd rfl (Or.inl rfl) (aE bj (aE bj ai (aA aq (by rfl) T.n_len aT (aa (aG a8 (pv 1) ai (fun _ _=>rfl)) af))) (aA aq (by rfl) T.n_len aT (aa (aG a8 (pv 1) ai (fun _ _=>rfl)) af))))
   (ae (ba (PW.pt (gy (au fP (ax G_law_no_desk.ok (hr.mono (by decide)) rfl G_law_no_desk.mg G_law_no_desk.kp G_law_no_desk.bn .nil aN (aa (gg sl_str (pv 2) l5 (iu (GZ wk ai))) af)) (pv 3) (aC _)) (fN (au fP (ax G_law_no_desk.ok (hr.mono (by decide)) rfl G_law_no_desk.mg G_law_no_desk.kp G_law_no_desk.bn .nil aN (aa (aE hZ (pv 2) aM) af)) (aE bj (pv 3) ai) (aC _))))) (ak (aJ G0)) aL)
   (ae (ay (i:=4) jC.nd rfl (Or.inl rfl) aM)
   (ae (ba (au fP (ax G_law_no_desk.ok (hr.mono (by decide)) rfl G_law_no_desk.mg G_law_no_desk.kp G_law_no_desk.bn .nil aN (aa (pv 4) af)) (GZ wk ai) (aC _)) (ak (aJ G0)) aL)
   (ae (ay (i:=5) jC.nd rfl (Or.inl rfl) (oS M_Desk.mkc M_Desk.ok (hr.mono (by decide)) rfl M_Desk.mg M_Desk.bn .nil aN (aa (pv 2) af)))
   (ae (ay (i:=6) jC.nd rfl (Or.inl rfl) (bg af))
   (ae (cF PassesOwn.never rfl (Ab rfl T.n_range (aa ai (aa (aA (BN rfl) (by rfl) T.n_min bt_min (aa (aE nA (aA aq (by rfl) T.n_len aT (aa (pv 0) af)) ai) (aa ai af))) (aa ai af)))) (aV (i:=7) jC.nd rfl (Or.inl rfl)) (ae (ay (i:=8) jC.nd rfl (Or.inl rfl) (ax G_law_deed_row.ok (hr.mono (by decide)) rfl G_law_deed_row.mg G_law_deed_row.kp G_law_deed_row.bn .nil aN (aa (gg lU (pv 0) (iu (pv 7)) (iu (aE bj (pv 7) ai))) af)))
   (ae (ay (i:=9) jC.nd rfl (Or.inl rfl) (ax G_law_due.ok (hr.mono (by decide)) rfl G_law_due.mg G_law_due.kp G_law_due.bn .nil aN (aa (pv 1) (aa (pv 6) (aa (pv 8) af)))))
   (ae (ba (au fP (ax G_law_refused.ok (hr.mono (by decide)) rfl G_law_refused.mg G_law_refused.kp G_law_refused.bn .nil aN (aa (pv 5) (aa (pv 8) af))) (sM qq (pv 9) cW (aC _)) (aC _)) (ak (aJ G0)) aL)
   (ae (ba (au OJ (pv 9) cW (aC _)) (ae (ba (au eY (pv 8) aM (aC _)) (ak (aU (FK Qg R7 R6 FU (pv 6)))) (ak (aU (bK Qg Qs Qr aZ (pv 6) (aa (aG a8 (pv 1) ai (fun _ _=>rfl)) af)))))
   (ak (ay (i:=1) jC.nd rfl (Or.inl rfl) (eS (aa (aG a8 (pv 1) ai (fun _ _=>rfl)) (aa (aG a8 (pv 1) ai (fun _ _=>rfl)) (aa (pv 9) af))))))) aL)
   (jD (t2:=(tailT PL PS WC DC)) (ak (ba (PW.pt (gy (au fP (gh (pv 5) CL m_text.me m_text.ok (hr.mono (by decide)) m_text.bn .nil aN) (ax G_law_web_text.ok (hr.mono (by decide)) rfl G_law_web_text.mg G_law_web_text.kp G_law_web_text.bn .nil aN (aa (pv 1) af)) (aC _)) (fN (au fP (gh (pv 5) CL m_left.me m_left.ok (hr.mono (by decide)) m_left.bn .nil aN) (aA aq (by rfl) T.n_len aT (aa (pv 6) af)) (aC _))))) (ak (aJ G0)) aL)) (fun D0 S0 H0 h0=>?tl)))))))
   (ak (aJ (Nw (ax G_law_refused.ok (hr.mono (by decide)) rfl G_law_refused.mg G_law_refused.kp G_law_refused.bn .nil aN (aa (pv 5) (aa aM af))) (Nv (sM eY (gh (pv 5) CL m_text.me m_text.ok (hr.mono (by decide)) m_text.bn .nil aN) (ax G_law_web_text.ok (hr.mono (by decide)) rfl G_law_web_text.mg G_law_web_text.kp G_law_web_text.bn .nil aN (aa (pv 1) af)) (aC _))))))))))))))),?_⟩
 case tl =>
  obtain⟨H1,kp,L,d,bt,pkc,m,es,ts,front,cur,ps,zs,v0,v2,v3,v4,v7,v8,v9,rfl,D6,bq6,kN⟩:=h0
  obtain⟨psT,pT,ePs,lT,wT⟩:=D6.top
  obtain⟨dx,hd⟩:=D6.hd
  have hL:=D6.hL
  have hk:=D6.hk
  have zl:=D6.zl
  have chc:Ch m es ts cur:=D6.ch cur (by simp)
  rw[ePs]at hL
  refine⟨_,rfl,d,dx,_,rfl,hd,Ks (by decide +kernel),d,L,pT,psT,_,m,es,ts,cur,rfl,⟨dx,hd,hL⟩,wT,chc.wr,fun H7 s7=>?_⟩
  refine⟨_,rfl,bt,m,es,cur,ts,rfl,bq6.mono s7,chc.wr,fun H8 s8=>⟨rfl,_,rfl,ite2 (fun z=>absurd z (by rw[decide_eq_true rfl];decide)) (fun _=>?_)⟩⟩
  have s78:=s7.trans s8
  refine⟨_,rfl,d,dx,_,rfl,s78 _ _ hd,Ks (by decide +kernel),d,L,_,rfl,⟨dx,s78 _ _ hd,s78 _ _ hL⟩,_,rfl,kp,zs,rfl,.inl (SqL.of (s78 _ _ hk)),rfl,_,rfl,ite2 (fun z=>absurd z ?_) (fun _=>kN H8 s78)⟩
  have e:V.int ((((psT++[V.ref pT]).length:Nat):Int)-1)=V.int ((zs.length:Nat):Int):=by
   rw[P2,Qa,zl,← lT]
   exact congrArg V.int (by omega +splitDisjunctions)
  rw[decide_eq_true e]
  decide
 refine⟨_,rfl,_,rfl,a,_,rfl,hS,fun b hb=>?_⟩
 obtain⟨cs,ecs,csl⟩:=cut_to ns 13
 rw[show cutV (ns.map V.int) none (some 13)=cs.map V.int from ecs]
 have sb:=ao hb (.lst (cs.map V.int))
 refine⟨b,cs,rfl,SqL.of ag,by omega +splitDisjunctions,fun t0 pe pt pk m es ts ks H1 s1 bp=>?_⟩
 obtain⟨ht0,⟨⟨ys,hpe,hE⟩,⟨xs,hpt,hR⟩,g⟩,⟨ws,hpk,tk⟩,few,kl,kb,pos⟩:=bp
 have m2:=g.two pos
 have m40:m<=40:=by
  obtain⟨rs',p',c⟩:=g.part
  omega +splitDisjunctions
 have bq:Bq H1 t0 es ts ks:=⟨pe,pt,pk,ys,xs,ws,ht0,hpe,hE,hpt,hR,hpk,tk⟩
 have wr:Wr m es ks ts:=⟨kl,by omega +splitDisjunctions,m2,m40,g.w.len,fun k hk=>by
  obtain⟨i,hi,rfl⟩:=Sd hk
  obtain⟨a1,a2,_⟩:=tk.2 i _ (PZ hi)
  exact⟨a1,a2,kb _ (QO hi)⟩,fun e he=>by
  have:=g.w.ends e he
  omega +splitDisjunctions,fun l hl=>by
  obtain⟨i,hi,rfl⟩:=Sd hl
  have:=gU g.w (by omega +splitDisjunctions) (PZ hi)
  exact⟨by omega +splitDisjunctions,fun t ht=>by have:=this.1 t ht;omega +splitDisjunctions⟩⟩
 have ch:Ch m es ts ks:=⟨wr,g,pos,few⟩
 have s01:=sb.trans s1
 have yl:ys.length=es.length:=hE.1
 have xl:xs.length=ts.length:=hR.1
 have tl:=wr.tl
 have nes:∀ e∈es,e.1≠e.2:=fun e he=>(g.w.ends e he).2.2
 have wl:=IS wr
 have s64:(400000:Nat)<=sizeLine:=by decide
 refine⟨_,rfl,t0,m,es,ks,ts,rfl,bq,wr,fun H2 s2=>?_⟩
 have s12:=s2
 refine⟨_,rfl,t0,_,0,_,rfl,rfl,SqT.of (s2 _ _ ht0),at30,pe,ys,rfl,.inl (SqL.of (s2 _ _ hpe)),_,_,rfl,rfl,_,rfl,t0,_,1,_,rfl,rfl,SqT.of (s2 _ _ ht0),at31,pt,xs,rfl,.inl (SqL.of (s2 _ _ hpt)),_,_,rfl,rfl,?_⟩
 have er:(1+(ys.length:Int)+(xs.length:Int))=(((1+es.length+m:Nat):Int)):=by omega +splitDisjunctions
 have er1:(((1+es.length+(m-1):Nat):Int)+1)=(((1+es.length+m:Nat):Int)):=by omega +splitDisjunctions
 obtain⟨un,hun⟩:=Ja (m:=m) (es:=es) (ks:=ks) (ts:=ts) tl m2
 have sl1:=PySem.Txt.slice_le (webT m es ks ts) none (some (-1))
 have bl5:(("back\n" : String):Str).length=5:=by decide +kernel
 have l2:(webT m es ks ts++(("back\n" : String):Str)).length<=400000:=by rw[Str.length_append,bl5];omega +splitDisjunctions
 refine⟨_,rfl,_,rfl,_,rfl,_,rfl,by omega +splitDisjunctions,_,(((1+es.length+m:Nat):Int)),rfl,fun H3 s3=>?_,⟨_,m,es,ks,ts,m-1,[],un,rfl,by omega +splitDisjunctions,wr,pos,nes,by omega +splitDisjunctions,by omega +splitDisjunctions,hun,.inl ⟨by omega +splitDisjunctions,rfl,fun d H' s' h'=>⟨s',.inl ⟨rfl,d,rfl,by rw[← er1];exact h'⟩⟩⟩⟩⟩
 refine⟨_,rfl,rfl,_,rfl,ite2 (fun z=>absurd z (by rw[decide_eq_true (congrArg V.int er.symm)];decide)) (fun _=>?_)⟩
 refine⟨_,rfl,_,_,rfl,rfl,by rw[bl5];omega +splitDisjunctions,_,(((1+es.length+m:Nat):Int)+1),rfl,fun H4 s4=>?_,⟨_,m,es,ks,ts,m,[cm],Str.empty,rfl,l2,wr,pos,nes,by omega +splitDisjunctions,P9 _,Gu tl,.inr (.inl ⟨rfl,by simp,fun d H' s' h'=>⟨s',.inl ⟨rfl,d,rfl,h'⟩⟩⟩)⟩⟩
 refine⟨_,rfl,_,_,rfl,rfl,rfl,_,rfl,ite2 (fun z=>absurd z (by rw[decide_eq_true (congrArg V.int (congrArg (·+1) er.symm))];decide)) (fun _=>?_)⟩
 refine⟨_,rfl,_,-1,rfl,fun H5 s5=>?_,⟨twS,2,es3,ks3,ts3,2,[],Str.empty,rfl,(by decide +kernel),wr3,(by decide),(by decide),(by decide),(by decide),Me,.inr (.inr ⟨rfl,rfl,rfl,rfl,rfl,rfl,fun H' s'=>⟨s',.inr ⟨rfl,rfl⟩⟩⟩)⟩⟩
 refine⟨_,rfl,rfl,_,rfl,ite2 (fun z=>absurd z (by rw[decide_eq_true rfl];decide)) (fun _=>?_)⟩
 have sH:Same H1 H5:=s2.trans (s3.trans (s4.trans s5))
 refine⟨_,rfl,?_⟩
 intro d dx nd ndx nex
 refine⟨d,DC,dx,m,es,ts,ks,rfl,ag,cd,ch,fun L p H6 dl nL nLp ww h6=>⟨rfl,?_⟩⟩
 have up5:∀ b o,H5 b=some o->(upd (upd H5 dx (.own d)) d (.ins DC dx [])) b=some o:=fun b o z=>by rw[ar (aB z nd),ar (aB z ndx)];exact z
 have s56:Same H5 H6:=fun b o z=>h6 b o (up5 _ _ z) (aB z nd)
 have nL5:H5 L=none:=by
  cases u:H5 L with
  |none=>rfl
  |some o=>rw[up5 _ _ u]at nL;cases nL
 obtain⟨dxd,hd6,hL6⟩:=id dl
 refine⟨(by show 0<=sizeLine;decide),fun kp hkp=>?_⟩
 have s67:=ao hkp (.lst [])
 have nk:∀{b:Addr}{x:HO},H6 b=some x->b≠kp:=fun z=>aB z hkp
 have s15:=sH.trans (s56.trans s67)
 have h1L:H1 L=none:=none_of sH nL5
 have h1k:H1 kp=none:=none_of (sH.trans s56) hkp
 have ne1:∀{b:Addr}{x:HO},H1 b=some x->b≠L/\b≠kp:=fun z=>⟨aB z h1L,aB z h1k⟩
 have D0:Dsk H1 kp L d PL PS WC DC m es ts (upd H6 kp (.lst [])) [] ks [.ref p] [] pk:=by
  refine⟨s15,⟨dxd,s67 _ _ hd6⟩,s67 _ _ hL6,ag,nk hL6,rfl,rfl,fun i k e=>?_,fun i k e=>by simp at e,⟨(ne1 hpk).1,(ne1 hpk).2,ws,s15 _ _ hpk,tk.mono s15⟩,fun k hk=>?_⟩
  ·match i,e with
   |0,e =>
    cases e
    refine⟨p,rfl,ww.mono2 (fun b x e _=>s67 _ _ e) (fun a' xs' z e=>?_)⟩
    rcases z with rfl | rfl
    ·exact .inr rfl
    ·rw[hkp]at e;cases e
  ·have:k=ks:=by simpa using hk
   rw[this]
   exact ch
 generalize upd H6 kp (.lst [])=H7 at D0 s67 s15
 have hS7:SqL K H7 a (ns.map V.int):=(s01.trans s15).seq hS
 refine⟨_,rfl,a,_,rfl,.inl hS7,_,_,rfl,rfl,_,_,rfl,?_⟩
 obtain⟨M,eM⟩:∃ M:Int,(if(133:Int)<(((ns.map V.int).length:Nat):Int)-2 then(133:Int) else(((ns.map V.int).length:Nat):Int)-2)=M:=⟨_,rfl⟩
 rw[eM]
 rw[P5]at eM
 have hM:M<=(ns.length:Int)-2/\-3<=M:=by
  split at eM<;>omega +splitDisjunctions
 have cb:(Builtin.Range.rangeSize 13 M 3).toNat<=17:=by
  by_cases z:(Builtin.Range.rangeSize 13 M 3).toNat<=17
  ·exact z
  ·have:=rsz (lo:=13) (m:=M) (c:=3) (j:=17) (by decide) (by omega +splitDisjunctions)
   omega +splitDisjunctions
 refine⟨13,M,3,(Builtin.Range.rangeSize 13 M 3).toNat,rfl,by omega +splitDisjunctions,by omega +splitDisjunctions,by omega +splitDisjunctions,by omega +splitDisjunctions,⟨by omega +splitDisjunctions,by omega +splitDisjunctions⟩,PyProof.Rows.rangeSize_toNat _ _ _,HR (lo:=13) (c:=3) (n:=(Builtin.Range.rangeSize 13 M 3).toNat) (fun i σ H6=>∃(bt pkc:Addr)(front:List Kn)(cur:Kn)(ps zs:List V)(v7 v8 v9:Option V),σ = [some (.ref a),some (.ref bt),some (.str (webT m es ks ts)),some (.int (1+(ys.length:Int)+(xs.length:Int))),some (.str twS),some (.ref d),some (.ref kp),v7,v8,v9]/\Dsk H1 kp L d PL PS WC DC m es ts H6 front cur ps zs pkc/\H6 bt=some (.tup [.ref pe,.ref pt,.ref pkc])/\front.length<=i) ⟨t0,pk,[],ks,[.ref p],[],none,none,none,rfl,D0,s15 _ _ ht0,P9 _⟩ ?_ ?_⟩
 ·rintro i σ H6 hi ⟨bt,pkc,front,cur,ps,zs,v7,v8,v9,rfl,D6,hbt,fl⟩
  have hb':=rsz (lo:=13) (m:=M) (c:=3) (j:=i) (by decide) hi
  have kx:(13+3*i)+2<ns.length:=by omega +splitDisjunctions
  have ei:(13:Int)+(i:Int)*3=((13+3*i:Nat):Int):=by push_cast;omega +splitDisjunctions
  have hS6:SqL K H6 a (ns.map V.int):=(s01.trans D6.sm).seq hS
  refine⟨_,rfl,_,rfl,_,rfl,_,rfl,_,_,rfl,rfl,_,rfl,a,_,rfl,hS6,fun c hc=>?_⟩
  rw[ei,cut3 kx]
  have sc:=ao hc (.lst [V.int ns[13+3*i],V.int ns[13+3*i+1],V.int ns[13+3*i+2]])
  have D7:=D6.same sc
  have hbt7:=sc _ _ hbt
  have gc:(upd H6 c (.lst [V.int ns[13+3*i],V.int ns[13+3*i+1],V.int ns[13+3*i+2]])) c=some (.lst [V.int ns[13+3*i],V.int ns[13+3*i+1],V.int ns[13+3*i+2]]):=ag
  generalize upd H6 c (.lst [V.int ns[13+3*i],V.int ns[13+3*i+1],V.int ns[13+3*i+2]])=H7 at sc D7 hbt7 gc
  refine⟨c,_,_,_,rfl,SqL.of gc,fun row H8 s8 r200 ra=>?_⟩
  have D8:=D7.same s8
  have hbt8:=s8 _ _ hbt7
  obtain⟨_,_,wc,hpc,tkc⟩:=D8.pk
  have bq8:Bq H8 bt es ts cur:=⟨pe,pt,pkc,ys,xs,wc,hbt8,D8.sm _ _ hpe,hE.mono D8.sm,D8.sm _ _ hpt,hR.mono D8.sm,hpc,tkc⟩
  have chc:Ch m es ts cur:=D8.ch cur (by simp)
  have hRw:Rw row:=⟨by omega +splitDisjunctions,ra⟩
  refine⟨_,rfl,_,rfl,_,rfl,bt,kp,zs,row,m,es,ts,cur,rfl,bq8,D8.hk,r200,ra,chc,fun rb ez H9 s9=>?_,fun rb zs' x ez H9 s9=>?_,fun rb dd hdd ok pk' ws' H9 s9 npk hpk' told=>?_,fun rb no H9 s9=>?_⟩
  ·have D9:=D8.same s9
   obtain⟨ps0,p6,eps,lp,w9⟩:=D9.top
   obtain⟨dx9,hd9⟩:=D9.hd
   have hL9:=D9.hL
   have zl9:=D9.zl
   subst eps
   have pn:ps0 = []:=S5 (by rw[lp,← zl9,ez];rfl)
   refine⟨_,rfl,_,rfl,d,L,ps0,p6,row,_,m,es,ts,cur,rfl,⟨dx9,hd9,hL9⟩,by omega +splitDisjunctions,hRw,w9,chc,fun _ z=>absurd pn z,fun _ _ HA sA=>?_,fun z=>absurd rb z,fun z=>absurd rb z⟩
   have D10:=D9.same sA
   have hbt10:=sA _ _ (s9 _ _ hbt8)
   refine⟨_,rfl,rfl,rfl,_,rfl,ite2 (fun z=>absurd z (by decide)) (fun _=>?_)⟩
   refine⟨_,rfl,rfl,_,rfl,ite2 (fun z=>absurd z (by decide)) (fun _=>?_)⟩
   exact⟨H1,kp,L,d,bt,pkc,m,es,ts,front,cur,_,zs,_,_,_,_,_,_,_,rfl,D10,bq8.mono (s9.trans sA),fun H' s'=>⟨bt,pkc,front,cur,_,zs,_,_,_,rfl,D10.same s',s' _ _ hbt10,by omega +splitDisjunctions⟩⟩
  ·have D9:=D8.same s9
   have hbt9:=s9 _ _ hbt8
   obtain⟨ps0,p6,eps,lp,w9⟩:=D9.top
   obtain⟨dx9,hd9⟩:=D9.hd
   have hL9:=D9.hL
   have hk9:=D9.hk
   have zl9:=D9.zl
   subst eps
   subst ez
   rw[P2,Qa]at zl9
   rcases SJ front with e | ⟨f',k',e⟩
   ·rw[e]at zl9
    cases zl9
   rw[SK]at e
   subst e
   rw[P2,Qa]at lp zl9 fl
   obtain⟨q0,_,xe,_⟩:=D9.tl f'.length k' (by rw[P4 (P9 _),Qu];rfl)
   rw[show f'.length=zs'.length by omega +splitDisjunctions,P4 (P9 _),Qu]at xe
   cases xe
   refine⟨_,rfl,_,rfl,d,L,ps0,p6,row,_,m,es,ts,cur,rfl,⟨dx9,hd9,hL9⟩,by omega +splitDisjunctions,hRw,w9,chc,fun _ _ HA sA=>?_,fun _ z=>(by rw[z]at lp;cases lp),fun z=>absurd rb z,fun z=>absurd rb z⟩
   refine⟨_,rfl,rfl,rfl,_,rfl,ite2 (fun z=>absurd z (by rw[decide_eq_false (show ¬ (V.ref q0=V.non) from fun y=>by cases y)];decide)) (fun _=>?_)⟩
   refine⟨_,rfl,rfl,_,rfl,ite2 (fun _=>?_) (fun z=>absurd rfl z)⟩
   have hLA:=sA _ _ hL9
   have hkA:=sA _ _ hk9
   have tup9:∀{b:Addr}{xs:List V},H9 b=some (.tup xs)->b≠L/\b≠kp:=fun z=>⟨fun y=>(by rw[y,hL9]at z;cases z),fun y=>(by rw[y,hk9]at z;cases z)⟩
   have hk10:(upd HA L (.lst ps0)) kp=some (.lst (zs'++[V.ref q0])):=by rw[ar (Ne.symm D9.ne)];exact hkA
   refine⟨_,rfl,rfl,_,rfl,ite2 (fun _=>?_) (fun z=>absurd (decide_eq_true (congrArg V.str rb)) z)⟩
   refine⟨_,rfl,.inl ⟨rfl,_,SqL.of hk10⟩,kp,_,V.ref q0,rfl,rfl,hk10,by simp,?_⟩
   rw[List.dropLast_concat]
   have kx8:Kx L kp H9 (upd (upd HA L (.lst ps0)) kp (.lst zs')):=fun b o' e n1 n2=>by rw[ar n2,ar n1];exact sA _ _ e
   have sm11:Same H1 (upd (upd HA L (.lst ps0)) kp (.lst zs')):=aP (aP (D9.sm.trans sA) h1L _) h1k _
   obtain⟨q,eq,D11⟩:=D9.pop kx8 sm11 (by rw[ar D9.ne];exact ag) ag
   cases eq
   have hbt11:=kx8 _ _ hbt9 (tup9 hbt9).1 (tup9 hbt9).2
   generalize upd (upd HA L (.lst ps0)) kp (.lst zs')=H11 at D11 hbt11
   refine⟨_,rfl,bt,_,0,_,rfl,rfl,SqT.of hbt11,at30,_,rfl,bt,_,1,_,rfl,rfl,SqT.of hbt11,at31,_,rfl,(by show 3<=sizeLine;decide),fun bt' hbt'=>?_⟩
   have s12:=ao hbt' (.tup [.ref pe,.ref pt,.ref q0])
   have D12:=D11.same s12
   have hb12:(upd H11 bt' (.tup [.ref pe,.ref pt,.ref q0])) bt'=some (.tup [.ref pe,.ref pt,.ref q0]):=ag
   generalize upd H11 bt' (.tup [.ref pe,.ref pt,.ref q0])=H12 at s12 D12 hb12
   obtain⟨_,_,wsN,hpN,tkN⟩:=D12.pk
   have bq12:Bq H12 bt' es ts k':=⟨pe,pt,q0,ys,xs,wsN,hb12,D12.sm _ _ hpe,hE.mono D12.sm,D12.sm _ _ hpt,hR.mono D12.sm,hpN,tkN⟩
   exact⟨H1,kp,L,d,bt',q0,m,es,ts,f',k',_,_,_,_,_,_,_,_,_,rfl,D12,bq12,fun H' s'=>⟨bt',q0,f',k',_,_,_,_,_,rfl,D12.same s',s' _ _ hb12,by omega +splitDisjunctions⟩⟩
  ·have D9:=D8.same s9
   have hbt9:=s9 _ _ hbt8
   obtain⟨ps0,p6,eps,lp,w9⟩:=D9.top
   obtain⟨dx9,hd9⟩:=D9.hd
   have hL9:=D9.hL
   have hk9:=D9.hk
   have zl9:=D9.zl
   subst eps
   have nL9:pk'≠L:=fun z=>by rw[z,D8.hL]at npk;cases npk
   have nk9:pk'≠kp:=fun z=>by rw[z,D8.hk]at npk;cases npk
   refine⟨_,rfl,_,rfl,d,L,ps0,p6,row,_,m,es,ts,cur,rfl,⟨dx9,hd9,hL9⟩,by omega +splitDisjunctions,hRw,w9,chc,fun z=>absurd z rb,fun z=>absurd z rb,fun _ dd' hdd' ok' p' HA sA wA=>?_,fun _ no=>absurd ok (no dd hdd)⟩
   rw[hdd]at hdd'
   cases hdd'
   refine⟨_,rfl,rfl,rfl,_,rfl,ite2 (fun z=>absurd z (by rw[decide_eq_false (show ¬ (V.ref pk'=V.non) from fun y=>by cases y)];decide)) (fun _=>?_)⟩
   refine⟨_,rfl,rfl,_,rfl,ite2 (fun _=>?_) (fun z=>absurd rfl z)⟩
   have hLA:=sA _ _ hL9
   have hkA:=sA _ _ hk9
   have tup9:∀{b:Addr}{xs:List V},H9 b=some (.tup xs)->b≠L/\b≠kp:=fun z=>⟨fun y=>(by rw[y,hL9]at z;cases z),fun y=>(by rw[y,hk9]at z;cases z)⟩
   have hk10:(upd HA L (.lst (ps0++[.ref p6]++[.ref p']))) kp=some (.lst zs):=by rw[ar (Ne.symm D9.ne)];exact hkA
   have hbt10:(upd HA L (.lst (ps0++[.ref p6]++[.ref p']))) bt=some (.tup [.ref pe,.ref pt,.ref pkc]):=by rw[ar (tup9 hbt9).1];exact sA _ _ hbt9
   refine⟨_,rfl,rfl,_,rfl,ite2 (fun z=>absurd (V.str.inj (of_decide_eq_true z)) rb) (fun _=>?_)⟩
   refine⟨_,rfl,.inl ⟨rfl,_,SqL.of hk10⟩,_,rfl,bt,_,2,_,rfl,rfl,SqT.of hbt10,at32,kp,zs,_,rfl,rfl,hk10,aI (by omega +splitDisjunctions),?_⟩
   have kx8:Kx L kp H9 (upd (upd HA L (.lst (ps0++[.ref p6]++[.ref p']))) kp (.lst (zs++[.ref pkc]))):=fun b o' e n1 n2=>by rw[ar n2,ar n1];exact sA _ _ e
   have sm11:Same H1 (upd (upd HA L (.lst (ps0++[.ref p6]++[.ref p']))) kp (.lst (zs++[.ref pkc]))):=aP (aP (D9.sm.trans sA) h1L _) h1k _
   have w11:WebW (fun a=>a=L∨a=kp) PL PS WC (upd (upd HA L (.lst (ps0++[.ref p6]++[.ref p']))) kp (.lst (zs++[.ref pkc]))) p' m es ts (ddK ts cur dd):=by
    refine wA.mono2 (fun b x e n=>?_) (fun a' xs' z _=>?_)
    ·have bL:b≠L/\b≠kp:=by
      rcases n with⟨_,n⟩ | ⟨C,dx,fs,rfl,_⟩
      ·exact⟨fun z=>n (by show H9 b≠none;rw[z,hL9];simp),fun z=>n (by show H9 b≠none;rw[z,hk9];simp)⟩
      ·exact⟨fun z=>(by rw[z,hLA]at e;cases e),fun z=>(by rw[z,hkA]at e;cases e)⟩
     rw[ar bL.2,ar bL.1]
     exact e
    ·rcases z with rfl | rfl
     ·show H9 _≠none
      rw[hL9];simp
     ·show H9 _≠none
      rw[hk9];simp
   have D11:=D9.push kx8 sm11 (by rw[ar D9.ne];exact ag) ag w11 nL9 nk9 (kx8 _ _ hpk' nL9 nk9) (Ky kx8 hL9 hk9 told) (chc.dd ok)
   have hbt11:=kx8 _ _ hbt9 (tup9 hbt9).1 (tup9 hbt9).2
   generalize upd (upd HA L (.lst (ps0++[.ref p6]++[.ref p']))) kp (.lst (zs++[.ref pkc]))=H11 at D11 hbt11
   refine⟨_,rfl,bt,_,0,_,rfl,rfl,SqT.of hbt11,at30,_,rfl,bt,_,1,_,rfl,rfl,SqT.of hbt11,at31,_,rfl,(by show 3<=sizeLine;decide),fun bt' hbt'=>?_⟩
   have s12:=ao hbt' (.tup [.ref pe,.ref pt,.ref pk'])
   have D12:=D11.same s12
   have hb12:(upd H11 bt' (.tup [.ref pe,.ref pt,.ref pk'])) bt'=some (.tup [.ref pe,.ref pt,.ref pk']):=ag
   generalize upd H11 bt' (.tup [.ref pe,.ref pt,.ref pk'])=H12 at s12 D12 hb12
   obtain⟨_,_,wsN,hpN,tkN⟩:=D12.pk
   have bq12:Bq H12 bt' es ts (ddK ts cur dd):=⟨pe,pt,pk',ys,xs,wsN,hb12,D12.sm _ _ hpe,hE.mono D12.sm,D12.sm _ _ hpt,hR.mono D12.sm,hpN,tkN⟩
   exact⟨H1,kp,L,d,bt',pk',m,es,ts,front++[cur],(ddK ts cur dd),_,_,_,_,_,_,_,_,_,rfl,D12,bq12,fun H' s'=>⟨bt',pk',front++[cur],(ddK ts cur dd),_,_,_,_,_,rfl,D12.same s',s' _ _ hb12,by rw[P2,Qa];omega +splitDisjunctions⟩⟩
  ·have D9:=D8.same s9
   obtain⟨ps0,p6,eps,lp,w9⟩:=D9.top
   obtain⟨dx9,hd9⟩:=D9.hd
   have hL9:=D9.hL
   have zl9:=D9.zl
   subst eps
   refine⟨_,rfl,_,rfl,d,L,ps0,p6,row,_,m,es,ts,cur,rfl,⟨dx9,hd9,hL9⟩,by omega +splitDisjunctions,hRw,w9,chc,fun z=>absurd z rb,fun z=>absurd z rb,fun _ dd hdd ok=>absurd ok (no dd hdd),fun _ _ HA sA=>?_⟩
   have D10:=D9.same sA
   have hbt10:=sA _ _ (s9 _ _ hbt8)
   refine⟨_,rfl,rfl,rfl,_,rfl,ite2 (fun z=>absurd z (by decide)) (fun _=>?_)⟩
   refine⟨_,rfl,rfl,_,rfl,ite2 (fun z=>absurd z (by decide)) (fun _=>?_)⟩
   exact⟨H1,kp,L,d,bt,pkc,m,es,ts,front,cur,_,zs,_,_,_,_,_,_,_,rfl,D10,bq8.mono (s9.trans sA),fun H' s'=>⟨bt,pkc,front,cur,_,zs,_,_,_,rfl,D10.same s',s' _ _ hbt10,by omega +splitDisjunctions⟩⟩
 ·rintro σ H6 ⟨bt,pkc,front,cur,ps,zs,v7,v8,v9,rfl,D6,hbt,fl⟩
  obtain⟨psT,pT,ePs,lT,wT⟩:=D6.top
  obtain⟨dx6,hd⟩:=D6.hd
  have hL:=D6.hL
  have chc:Ch m es ts cur:=D6.ch cur (by simp)
  rw[ePs]at hL
  obtain⟨_,_,wc,hpc,tkc⟩:=D6.pk
  have bq6:Bq H6 bt es ts cur:=⟨pe,pt,pkc,ys,xs,wc,hbt,D6.sm _ _ hpe,hE.mono D6.sm,D6.sm _ _ hpt,hR.mono D6.sm,hpc,tkc⟩
  have nb:b0S≠cm:=by decide +kernel
  have b6:b0S.length<=300000:=by decide +kernel
  refine⟨_,rfl,d,L,psT,pT,b0S,_,m,es,ts,cur,rfl,⟨dx6,hd,hL⟩,by omega +splitDisjunctions,⟨b6,(show b0S.cps.all (· < 128)=true by decide +kernel)⟩,wT,chc,fun z=>absurd z nb,fun z=>absurd z nb,fun _ dd hdd=>(by rw[dd_b0]at hdd;cases hdd),fun _ _ HA sA=>⟨_,rfl,iteT ?_⟩⟩
  have DA:=D6.same sA
  refine⟨_,rfl,d,dx6,_,rfl,sA _ _ hd,Ks (by decide +kernel),d,L,pT,psT,_,m,es,ts,cur,rfl,⟨dx6,sA _ _ hd,sA _ _ hL⟩,wT.mono (KpL.of sA) (fun a z=>z),chc.wr,fun H7 s7=>?_⟩
  refine⟨_,rfl,bt,m,es,cur,ts,rfl,bq6.mono (sA.trans s7),chc.wr,fun H8 s8=>⟨rfl,?_⟩⟩
  rw[decide_eq_true rfl]
  exact kq H8
end
end KF
namespace KF
open PySem L2 PyProof.Rows K8
def ercB(K:P1)(D:Addr):Bool:=Qm K (.ref D) "__getattribute__" == some (some (.builtin "BaseException.__getattribute__"))&&Qm K (.ref D) "__getattr__" == some none&&QR K D (.type "BaseException") == some true&&Q5 K D
 && Qm K (.ref D) "__class__" == some (some (.builtin "object.__class__"))&&PySem.W.specialIn K (.builtin "object.__class__") "__get__" == some (some (.builtin "getset_descriptor.__get__"))&&PySem.W.takesIn K (.builtin "object.__class__") == some true&&QR K D (.type "object") == some true
theorem NO{K:P1}{D:Addr}(h:ercB K D=true):ErC K D:=by
 unfold ercB at h
 simp only[QT,beq_iff_eq]at h
 obtain⟨⟨⟨⟨⟨⟨⟨a,b⟩,c⟩,d⟩,e⟩,f⟩,g⟩,i⟩:=h
 exact⟨a,b,c,d,e,f,g,i⟩
def ersB(K:P1)(C fI:Addr):Bool:=wH K C fI&&Qm K (.ref C) "__setattr__" == some (some (.builtin "object.__setattr__"))&&Qm K (.ref C) "at" == some none&&Q5 K C
theorem ers_of{K:P1}{C fI:Addr}(h:ersB K C fI=true):ErS K C fI "at":=by
 unfold ersB at h
 simp only[QT,beq_iff_eq]at h
 obtain⟨⟨⟨a,b⟩,c⟩,d⟩:=h
 exact⟨a,b,c,d⟩
def nlB(K:P1)(NL FE:Addr):Bool:=ercB K NL&&Qm K (.ref NL) "at" == some none&&QR K NL (.ref NL) == some true&&Rb K (.ref NL) (.ref FE) == some true&&Rb K (.ref NL) (.type "ValueError") == some true
theorem nl_of{K:P1}{mg:Str->Option Value}{NL FE:Addr}(h:nlB K NL FE=true):ErF K mg NL FE:=by
 unfold nlB at h
 simp only[QT,beq_iff_eq]at h
 obtain⟨⟨⟨⟨a,b⟩,c⟩,d⟩,e⟩:=h
 exact⟨NO a,b,c,d,e⟩
def bdB(K:P1)(BD FE:Addr):Bool:=ercB K BD&&QR K BD (.ref BD) == some true&&Rb K (.ref BD) (.ref FE) == some true&&Rb K (.ref BD) (.type "ValueError") == some true
theorem bd_of{K:P1}{BD FE:Addr}(h:bdB K BD FE=true):BdF K BD FE:=by
 unfold bdB at h
 simp only[QT,beq_iff_eq]at h
 obtain⟨⟨⟨a,c⟩,d⟩,e⟩:=h
 exact⟨NO a,c,d,e⟩
def nfB(K:P1)(BT NF:Addr):Bool:=QR K NF (.ref BT) == some false&&QR K NF (.ref NF) == some true
theorem nf_of{K:P1}{BT NF:Addr}(h:nfB K BT NF=true):NfF K BT NF:=by
 unfold nfB at h
 simp only[QT,beq_iff_eq]at h
 exact⟨h.1,h.2⟩
theorem all_mk{l:S9}{w:World}{K:P1}{h:Heap}{mg:Str->Option Value}{fa cZ bD di cJ bG bF cC eh bz nS bM ia fR F8 nU lj gu i3 k9 fm dR df cj rL nQ nP i4 gw cM fq k8 iZ tW nR i0 d7 F7 Bf dS kZ rK nW nX bT jZ fU fS lh lg gv i5 i7 i6 cN i8 dU la dX fu nV ft fz Pr:Addr}(X:K.In h)(G:h.Ns mainGlobals mg) (hfa:mg "law" = some (.ref fa))
  {oX qa Hb IF yc zm DD Fp Aq Ce OZ PX Hd IG DB Fo x8 zh Ak B8 Dw Fj vh vY sN uC qS rj yb zk JZ LO Ha IE G9 ID Al B9 ya zj oU pY vi vZ Dv Fi Ai B0 MG Nk J1 LP Aj B7 x5 zg OY PV OX PU sO uD Du Fh JY LN Hf II Hg IJ vn wg Hh IK As Cg Ar Cf Dz Fn Dy Fm x9 zi Am Ca Ao Cc An Cb oW pZ Ap Cd sP uE Dx Fl sQ uF vk wd He IH vj wa vm we od_law NU:Option Addr} {oG Gy xP CN zK Oq GA CM xK zE CH uZ r8 qP xO Jk Gx Gw zF xN oE u4 CG zC Mh Jl zD xJ Oo Om r9 CF Jj GC GD va GF zM zL CK CJ xM zG zI zH oF zJ sf CI sg u6 GB u5 u9 sl_law:Array (Option Value)} {o3 pC pJ oQ ig pN Hk HJ HW GQ wM Ig yi yC yS xZ oh yZ DM Ef EF Dg uq EO AD AZ Bs z4 qE BE O2 Pe PF OF Lp PM Hl HK HX GU wN Ih DL Ee EE Df uo EN ye yy yO xV n8 yV Aw AS Bl zU qy Bx DG Ea EA C8 ui EJ vo vB vI vb lB vO sS tN t6 sF j6 ub qT qX qY qR jt qZ yh yB yR xY og yY Ka KD Lb Jz BL Li Hj HI HV GP wL Ie Hi HH HU GO wK Ic Ax AU Bm zV qz By yg yA yQ xX oa yX oY pA pH oO ib pK vp vC vJ vc lC vP DF D5 Ez C7 uh EI Au AQ Bj zS qw Bv MH MT M9 Mn Gg Na Kb KG Lc JA BM Lj Av AR Bk zT qx Bw yd yx yN xU n0 yU O1 Pd PD OE Ln PK O0 Pc PB OD Lm PJ sU tO t8 sG j7 uc DE D4 Ey C6 ug EH J2 KC La Jy BK Lh Hn HM HZ GW wQ Ij Ho HN Ia GX wR Ik vw vG vN vg lG vT Hq HP Ib GY wU Il AF Ba Bu z9 qG BG AE A0 Bt z8 qF BF DJ Ed ED De um EM DI Ec EC Dc uk EL yf yz yP xW n9 yW Ay AV Bn zW qA Bz AA AX Bp zY qC BB Az AW Bo zX qB BA oZ pB pI oP ic pM AB AY Br zZ qD BC sV tP t9 sI j8 ud DH Eb EB C9 uj EK sW tQ ua sJ j9 ue vt vE vL ve lE vR Hm HL HY GV wO Ii vq vD vK vd lD vQ vv vF vM vf lF vS oc_law NG NR Nt Lo NS:Value}
  {ti_gF ti_gD ti_gL:Tok}
  (jq:Qc K mainGlobals "FloorError" = some (some (.ref cZ)))
  (ql:Qc K mainGlobals "BadText" = some (some (.ref bD)))
  (qk:Qc K mainGlobals "NotFlat" = some (some (.ref di)))
  (qm:Qc K mainGlobals "BadDeed" = some (some (.ref cJ)))
  (Ft:Qc K mainGlobals "Pull" = some (some (.ref bG)))
  (Fs:Qc K mainGlobals "Push" = some (some (.ref bF)))
  (Fu:Qc K mainGlobals "Desk" = some (some (.ref cC)))
  (LU:Qc K mainGlobals "Web" = some (some (.ref eh)))
  (jP:Qm K (.ref bD) "__init__" = some (some (.ref bz)))
  (jM:Qm K (.ref bG) "__init__" = some (some (.ref bM)))
  (jL:Qm K (.ref bG) "wish" = some (some (.ref ia)))
  (jK:Qm K (.ref bF) "__init__" = some (some (.ref bM)))
  (jJ:Qm K (.ref bF) "wish" = some (some (.ref fR)))
  (gj:Qm K (.ref cC) "__init__" = some (some (.ref bT)))
  (o6:Qm K (.ref cC) "do" = some (some (.ref jZ)))
  (jO:Qm K (.ref cC) "left" = some (some (.ref fU)))
  (jN:Qm K (.ref cC) "text" = some (some (.ref fS)))
  (iA:Qm K (.ref eh) "__init__" = some (some (.ref cj)))
  (eF:K.lookup bz=some ⟨o3,oX,.func (Qk "__init__" "BadText.__init__" (aF bw) (aD bw) (aj bw) .none pC pJ oQ qa ig pN),oG⟩)
  (eO:Qh K ig "BadText.__init__" = true)
  (eG:Qb K (.ref bz)=true)
  (eI:Rg K (.ref bz)=true)
  (uI:Qc K mainGlobals "reached" = some (some (.ref nS)))
  (tF:K.lookup nS=some ⟨Hk,Hb,.func (Qk "reached" "reached" (aF gZ) (aD gZ) (aj gZ) .none HJ HW GQ IF wM Ig),Gy⟩)
  (uv:Qh K wM "reached" = true)
  (nF:Qb K (.ref nS)=true)
  (jW:K.lookup bM=some ⟨yi,yc,.func (Qk "__init__" "Tie.__init__" (aF cV) (aD cV) (aj cV) .none yC yS xZ zm oh yZ),xP⟩)
  (kj:Qh K oh "Tie.__init__" = true)
  (jY:Qb K (.ref bM)=true)
  (gs:Rg K (.ref bM)=true)
  (pz:K.lookup ia=some ⟨DM,DD,.func (Qk "wish" "Tie.wish" (aF fJ) (aD fJ) (aj fJ) .none Ef EF Dg Fp uq EO),CN⟩)
  (pX:Qh K uq "Tie.wish" = true)
  (kX:Qb K (.ref ia)=true)
  (pE:Rg K (.ref ia)=true)
  (mE:K.lookup fR=some ⟨AD,Aq,.func (Qk "wish" "Push.wish" (aF dE) (aD dE) (aj dE) .none AZ Bs z4 Ce qE BE),zK⟩)
  (mV:Qh K qE "Push.wish" = true)
  (iQ:Qb K (.ref fR)=true)
  (mH:Rg K (.ref fR)=true)
  (LS:Qc K mainGlobals "head" = some (some (.ref F8)))
  (Kw:K.lookup F8=some ⟨O2,OZ,.func (Qk "head" "head" (aF wy) (aD wy) (aj wy) .none Pe PF OF PX Lp PM),Oq⟩)
  (Lw:Qh K Lp "head" = true)
  (k_head:Qb K (.ref F8)=true)
  (uJ:Qc K mainGlobals "leaving" = some (some (.ref nU)))
  (tG:K.lookup nU=some ⟨Hl,Hd,.func (Qk "leaving" "leaving" (aF g7) (aD g7) (aj g7) .none HK HX GU IG wN Ih),GA⟩)
  (uw:Qh K wN "leaving" = true)
  (nG:Qb K (.ref nU)=true)
  (qj:Qc K mainGlobals "follower" = some (some (.ref lj)))
  (pj:K.lookup lj=some ⟨DL,DB,.func (Qk "follower" "follower" (aF fH) (aD fH) (aj fH) .none Ee EE Df Fo uo EN),CM⟩)
  (pW:Qh K uo "follower" = true)
  (kW:Qb K (.ref lj)=true)
  (kr:Qc K mainGlobals "round_from" = some (some (.ref gu)))
  (jS:K.lookup gu=some ⟨ye,x8,.func (Qk "round_from" "round_from" (aF cS) (aD cS) (aj cS) .none yy yO xV zh n8 yV),xK⟩)
  (kf:Qh K n8 "round_from" = true)
  (gm:Qb K (.ref gu)=true)
  (m7:Qc K mainGlobals "rounds_of" = some (some (.ref i3)))
  (mw:K.lookup i3=some ⟨Aw,Ak,.func (Qk "rounds_of" "rounds_of" (aF du) (aD du) (aj du) .none AS Bl zU B8 qy Bx),zE⟩)
  (mP:Qh K qy "rounds_of" = true)
  (iK:Qb K (.ref i3)=true)
  (qd:Qc K mainGlobals "sides_of" = some (some (.ref k9)))
  (o9:K.lookup k9=some ⟨DG,Dw,.func (Qk "sides_of" "sides_of" (aF fE) (aD fE) (aj fE) .none Ea EA C8 Fj ui EJ),CH⟩)
  (pR:Qh K ui "sides_of" = true)
  (kQ:Qb K (.ref k9)=true)
  (ji:Qc K mainGlobals "refuse_ends" = some (some (.ref fm)))
  (iC:K.lookup fm=some ⟨vo,vh,.func (Qk "refuse_ends" "refuse_ends" (aF cu) (aD cu) (aj cu) .none vB vI vb vY lB vO),uZ⟩)
  (jb:Qh K lB "refuse_ends" = true)
  (eZ:Qb K (.ref fm)=true)
  (gO:Qc K mainGlobals "refuse_turns" = some (some (.ref dR)))
  (gB:K.lookup dR=some ⟨sS,sN,.func (Qk "refuse_turns" "refuse_turns" (aF bX) (aD bX) (aj bX) .none tN t6 sF uC j6 ub),r8⟩)
  (gJ:Qh K j6 "refuse_turns" = true)
  (dN:Qb K (.ref dR)=true)
  (fY:Qc K mainGlobals "refuse_parted" = some (some (.ref df)))
  (fQ:K.lookup df=some ⟨qT,qS,.func (Qk "refuse_parted" "refuse_parted" (aF bI) (aD bI) (aj bI) .none qX qY qR rj jt qZ),qP⟩)
  (fX:Qh K jt "refuse_parted" = true)
  (de:Qb K (.ref df)=true)
  (jV:K.lookup cj=some ⟨yh,yb,.func (Qk "__init__" "Web.__init__" (aF b9) (aD b9) (aj b9) .none yB yR xY zk og yY),xO⟩)
  (ki:Qh K og "Web.__init__" = true)
  (jX:Qb K (.ref cj)=true)
  (gq:Rg K (.ref cj)=true)
  (zp:Qc K mainGlobals "row_of" = some (some (.ref rL)))
  (yu:K.lookup rL=some ⟨Ka,JZ,.func (Qk "row_of" "row_of" (aF kJ) (aD kJ) (aj kJ) .none KD Lb Jz LO BL Li),Jk⟩)
  (y6:Qh K BL "row_of" = true)
  (rH:Qb K (.ref rL)=true)
  (uH:Qc K mainGlobals "tie_row" = some (some (.ref nQ)))
  (tE:K.lookup nQ=some ⟨Hj,Ha,.func (Qk "tie_row" "tie_row" (aF gY) (aD gY) (aj gY) .none HI HV GP IE wL Ie),Gx⟩)
  (uu:Qh K wL "tie_row" = true)
  (nC:Qb K (.ref nQ)=true)
  (uG:Qc K mainGlobals "written" = some (some (.ref nP)))
  (tD:K.lookup nP=some ⟨Hi,G9,.func (Qk "written" "written" (aF gX) (aD gX) (aj gX) .none HH HU GO ID wK Ic),Gw⟩)
  (ur:Qh K wK "written" = true)
  (nB:Qb K (.ref nP)=true)
  (m8:Qc K mainGlobals "number_of" = some (some (.ref i4)))
  (my:K.lookup i4=some ⟨Ax,Al,.func (Qk "number_of" "number_of" (aF dv) (aD dv) (aj dv) .none AU Bm zV B9 qz By),zF⟩)
  (mQ:Qh K qz "number_of" = true)
  (iL:Qb K (.ref i4)=true)
  (ky:Qc K mainGlobals "first_word" = some (some (.ref gw)))
  (jU:K.lookup gw=some ⟨yg,ya,.func (Qk "first_word" "first_word" (aF cU) (aD cU) (aj cU) .none yA yQ xX zj oa yX),xN⟩)
  (kh:Qh K oa "first_word" = true)
  (gp:Qb K (.ref gw)=true)
  (eP:Qc K mainGlobals "numbers_behind" = some (some (.ref cM)))
  (eA:K.lookup cM=some ⟨oY,oU,.func (Qk "numbers_behind" "numbers_behind" (aF br) (aD br) (aj br) .none pA pH oO pY ib pK),oE⟩)
  (eJ:Qh K ib "numbers_behind" = true)
  (cK:Qb K (.ref cM)=true)
  (jj:Qc K mainGlobals "places_told" = some (some (.ref fq)))
  (iD:K.lookup fq=some ⟨vp,vi,.func (Qk "places_told" "places_told" (aF cv) (aD cv) (aj cv) .none vC vJ vc vZ lC vP),u4⟩)
  (jc:Qh K lC "places_told" = true)
  (e5:Qb K (.ref fq)=true)
  (qc:Qc K mainGlobals "tie_told" = some (some (.ref k8)))
  (o8:K.lookup k8=some ⟨DF,Dv,.func (Qk "tie_told" "tie_told" (aF fB) (aD fB) (aj fB) .none D5 Ez C7 Fi uh EI),CG⟩)
  (pQ:Qh K uh "tie_told" = true)
  (kP:Qb K (.ref k8)=true)
  (m5:Qc K mainGlobals "turn_told" = some (some (.ref iZ)))
  (mr:K.lookup iZ=some ⟨Au,Ai,.func (Qk "turn_told" "turn_told" (aF dm) (aD dm) (aj dm) .none AQ Bj zS B0 qw Bv),zC⟩)
  (mM:Qh K qw "turn_told" = true)
  (iI:Qb K (.ref iZ)=true)
  (Fq:Qc K mainGlobals "right" = some (some (.ref tW)))
  (DZ:K.lookup tW=some ⟨MH,MG,.func (Qk "right" "right" (aF lX) (aD lX) (aj lX) .none MT M9 Mn Nk Gg Na),Mh⟩)
  (EU:Qh K Gg "right" = true)
  (tM:Qb K (.ref tW)=true)
  (zr:Qc K mainGlobals "row_at" = some (some (.ref nR)))
  (yv:K.lookup nR=some ⟨Kb,J1,.func (Qk "row_at" "row_at" (aF ir) (aD ir) (aj ir) .none KG Lc JA LP BM Lj),Jl⟩)
  (y7:Qh K BM "row_at" = true)
  (nE:Qb K (.ref nR)=true)
  (m6:Qc K mainGlobals "ties_told" = some (some (.ref i0)))
  (mv:K.lookup i0=some ⟨Av,Aj,.func (Qk "ties_told" "ties_told" (aF dt) (aD dt) (aj dt) .none AR Bk zT B7 qx Bw),zD⟩)
  (mO:Qh K qx "ties_told" = true)
  (iJ:Qb K (.ref i0)=true)
  (ko:Qc K mainGlobals "turns_told" = some (some (.ref d7)))
  (jR:K.lookup d7=some ⟨yd,x5,.func (Qk "turns_told" "turns_told" (aF b8) (aD b8) (aj b8) .none yx yN xU zg n0 yU),xJ⟩)
  (ke:Qh K n0 "turns_told" = true)
  (dZ:Qb K (.ref d7)=true)
  (LR:Qc K mainGlobals "made" = some (some (.ref F7)))
  (Kv:K.lookup F7=some ⟨O1,OY,.func (Qk "made" "made" (aF wx) (aD wx) (aj wx) .none Pd PD OE PV Ln PK),Oo⟩)
  (Lv:Qh K Ln "made" = true)
  (F2:Qb K (.ref F7)=true)
  (LQ:Qc K mainGlobals "read" = some (some (.ref Bf)))
  (Ku:K.lookup Bf=some ⟨O0,OX,.func (Qk "read" "read" (aF sq) (aD sq) (aj sq) .none Pc PB OD PU Lm PJ),Om⟩)
  (Lu:Qh K Lm "read" = true)
  (AO:Qb K (.ref Bf)=true)
  (gP:Qc K mainGlobals "numbers_told" = some (some (.ref dS)))
  (gC:K.lookup dS=some ⟨sU,sO,.func (Qk "numbers_told" "numbers_told" (aF bY) (aD bY) (aj bY) .none tO t8 sG uD j7 uc),r9⟩)
  (gK:Qh K j7 "numbers_told" = true)
  (dO:Qb K (.ref dS)=true)
  (qb:Qc K mainGlobals "with_tie" = some (some (.ref kZ)))
  (o7:K.lookup kZ=some ⟨DE,Du,.func (Qk "with_tie" "with_tie" (aF fA) (aD fA) (aj fA) .none D4 Ey C6 Fh ug EH),CF⟩)
  (pP:Qh K ug "with_tie" = true)
  (kO:Qb K (.ref kZ)=true)
  (zo:Qc K mainGlobals "turned" = some (some (.ref rK)))
  (yt:K.lookup rK=some ⟨J2,JY,.func (Qk "turned" "turned" (aF kI) (aD kI) (aj kI) .none KC La Jy LN BK Lh),Jj⟩)
  (y4:Qh K BK "turned" = true)
  (rG:Qb K (.ref rK)=true)
  (uL:Qc K mainGlobals "flipped" = some (some (.ref nW)))
  (tI:K.lookup nW=some ⟨Hn,Hf,.func (Qk "flipped" "flipped" (aF g9) (aD g9) (aj g9) .none HM HZ GW II wQ Ij),GC⟩)
  (uy:Qh K wQ "flipped" = true)
  (nI:Qb K (.ref nW)=true)
  (uM:Qc K mainGlobals "changed" = some (some (.ref nX)))
  (tJ:K.lookup nX=some ⟨Ho,Hg,.func (Qk "changed" "changed" (aF hG) (aD hG) (aj hG) .none HN Ia GX IJ wR Ik),GD⟩)
  (uz:Qh K wR "changed" = true)
  (nJ:Qb K (.ref nX)=true)
  (iH:K.lookup bT=some ⟨vw,vn,.func (Qk "__init__" "Desk.__init__" (aF bQ) (aD bQ) (aj bQ) .none vG vN vg wg lG vT),va⟩)
  (jg:Qh K lG "Desk.__init__" = true)
  (iT:Qb K (.ref bT)=true)
  (fj:Rg K (.ref bT)=true)
  (tK:K.lookup jZ=some ⟨Hq,Hh,.func (Qk "do" "Desk.do" (aF hU) (aD hU) (aj hU) .none HP Ib GY IK wU Il),GF⟩)
  (uA:Qh K wU "Desk.do" = true)
  (nK:Qb K (.ref jZ)=true)
  (tU:Rg K (.ref jZ)=true)
  (mG:K.lookup fU=some ⟨AF,As,.func (Qk "left" "Desk.left" (aF dH) (aD dH) (aj dH) .none Ba Bu z9 Cg qG BG),zM⟩)
  (mX:Qh K qG "Desk.left" = true)
  (iS:Qb K (.ref fU)=true)
  (mJ:Rg K (.ref fU)=true)
  (mF:K.lookup fS=some ⟨AE,Ar,.func (Qk "text" "Desk.text" (aF dG) (aD dG) (aj dG) .none A0 Bt z8 Cf qF BF),zL⟩)
  (mW:Qh K qF "Desk.text" = true)
  (iR:Qb K (.ref fS)=true)
  (mI:Rg K (.ref fS)=true)
  (qi:Qc K mainGlobals "_law_cell" = some (some (.ref lh)))
  (ph:K.lookup lh=some ⟨DJ,Dz,.func (Qk "_law_cell" "_law_cell" (aF fG) (aD fG) (aj fG) .none Ed ED De Fn um EM),CK⟩)
  (pV:Qh K um "_law_cell" = true)
  (kU:Qb K (.ref lh)=true)
  (qg:Qc K mainGlobals "_law_head" = some (some (.ref lg)))
  (pf:K.lookup lg=some ⟨DI,Dy,.func (Qk "_law_head" "_law_head" (aF fF) (aD fF) (aj fF) .none Ec EC Dc Fm uk EL),CJ⟩)
  (pU:Qh K uk "_law_head" = true)
  (kT:Qb K (.ref lg)=true)
  (ku:Qc K mainGlobals "_law_behind" = some (some (.ref gv)))
  (jT:K.lookup gv=some ⟨yf,x9,.func (Qk "_law_behind" "_law_behind" (aF cT) (aD cT) (aj cT) .none yz yP xW zi n9 yW),xM⟩)
  (kg:Qh K n9 "_law_behind" = true)
  (gn:Qb K (.ref gv)=true)
  (m9:Qc K mainGlobals "_law_round" = some (some (.ref i5)))
  (mz:K.lookup i5=some ⟨Ay,Am,.func (Qk "_law_round" "_law_round" (aF dw) (aD dw) (aj dw) .none AV Bn zW Ca qA Bz),zG⟩)
  (mR:Qh K qA "_law_round" = true)
  (iM:Qb K (.ref i5)=true)
  (nh:Qc K mainGlobals "_law_grown" = some (some (.ref i7)))
  (mC:K.lookup i7=some ⟨AA,Ao,.func (Qk "_law_grown" "_law_grown" (aF dA) (aD dA) (aj dA) .none AX Bp zY Cc qC BB),zI⟩)
  (mT:Qh K qC "_law_grown" = true)
  (iO:Qb K (.ref i7)=true)
  (ng:Qc K mainGlobals "_law_order" = some (some (.ref i6)))
  (mB:K.lookup i6=some ⟨Az,An,.func (Qk "_law_order" "_law_order" (aF dz) (aD dz) (aj dz) .none AW Bo zX Cb qB BA),zH⟩)
  (mS:Qh K qB "_law_order" = true)
  (iN:Qb K (.ref i6)=true)
  (eQ:Qc K mainGlobals "_law_renumbered" = some (some (.ref cN)))
  (eB:K.lookup cN=some ⟨oZ,oW,.func (Qk "_law_renumbered" "_law_renumbered" (aF bu) (aD bu) (aj bu) .none pB pI oP pZ ic pM),oF⟩)
  (eK:Qh K ic "_law_renumbered" = true)
  (cL:Qb K (.ref cN)=true)
  (ni:Qc K mainGlobals "_law_built" = some (some (.ref i8)))
  (mD:K.lookup i8=some ⟨AB,Ap,.func (Qk "_law_built" "_law_built" (aF dB) (aD dB) (aj dB) .none AY Br zZ Cd qD BC),zJ⟩)
  (mU:Qh K qD "_law_built" = true)
  (iP:Qb K (.ref i8)=true)
  (gQ:Qc K mainGlobals "_law_web_text" = some (some (.ref dU)))
  (gE:K.lookup dU=some ⟨sV,sP,.func (Qk "_law_web_text" "_law_web_text" (aF bZ) (aD bZ) (aj bZ) .none tP t9 sI uE j8 ud),sf⟩)
  (gM:Qh K j8 "_law_web_text" = true)
  (dP:Qb K (.ref dU)=true)
  (qf:Qc K mainGlobals "_law_word" = some (some (.ref la)))
  (pd:K.lookup la=some ⟨DH,Dx,.func (Qk "_law_word" "_law_word" (aF cx) (aD cx) (aj cx) .none Eb EB C9 Fl uj EK),CI⟩)
  (pS:Qh K uj "_law_word" = true)
  (kR:Qb K (.ref la)=true)
  (gS:Qc K mainGlobals "_law_deed_row" = some (some (.ref dX)))
  (gG:K.lookup dX=some ⟨sW,sQ,.func (Qk "_law_deed_row" "_law_deed_row" (aF aS) (aD aS) (aj aS) .none tQ ua sJ uF j9 ue),sg⟩)
  (gN:Qh K j9 "_law_deed_row" = true)
  (dQ:Qb K (.ref dX)=true)
  (jm:Qc K mainGlobals "_law_numbers" = some (some (.ref fu)))
  (iF:K.lookup fu=some ⟨vt,vk,.func (Qk "_law_numbers" "_law_numbers" (aF cA) (aD cA) (aj cA) .none vE vL ve wd lE vR),u6⟩)
  (je:Qh K lE "_law_numbers" = true)
  (e9:Qb K (.ref fu)=true)
  (uK:Qc K mainGlobals "_law_due" = some (some (.ref nV)))
  (tH:K.lookup nV=some ⟨Hm,He,.func (Qk "_law_due" "_law_due" (aF g8) (aD g8) (aj g8) .none HL HY GV IH wO Ii),GB⟩)
  (ux:Qh K wO "_law_due" = true)
  (nH:Qb K (.ref nV)=true)
  (jk:Qc K mainGlobals "_law_refused" = some (some (.ref ft)))
  (iE:K.lookup ft=some ⟨vq,vj,.func (Qk "_law_refused" "_law_refused" (aF cy) (aD cy) (aj cy) .none vD vK vd wa lD vQ),u5⟩)
  (jd:Qh K lD "_law_refused" = true)
  (e8:Qb K (.ref ft)=true)
  (jo:Qc K mainGlobals "_law_no_desk" = some (some (.ref fz)))
  (iG:K.lookup fz=some ⟨vv,vm,.func (Qk "_law_no_desk" "_law_no_desk" (aF cB) (aD cB) (aj cB) .none vF vM vf we lF vS),u9⟩)
  (jf:Qh K lF "_law_no_desk" = true)
  (fi:Qb K (.ref fz)=true)
  (Nl:Qc K mainGlobals "law" = some (some (.ref Pr)))
  (O7:K.lookup Pr=some ⟨oc_law,od_law,.func (Qk "law" "law" (aF xS) (aD xS) (aj xS) .none NG NR Nt NU Lo NS),sl_law⟩)
  (PN:Qh K Lo "law" = true)
  (Pb:Qb K (.ref Pr)=true)
  (kC:SV K di veM "ValueError.__new__" = true)
  (cO:SV K cJ veM "ValueError.__new__" = true)
  (Dj:Ru K bG Str.empty=true)
  (Ek:Q5 K bG=true)
  (C3:RN K bG=true)
  (CV:Qm K (.ref bG) "__setattr__" = some (some (.builtin "object.__setattr__")))
  (DO:RS K bG=true)
  (D3:Qb K (.ref bG)=true)
  (mn:Qm K (.ref bG) "one" = some none)
  (mm:Qm K (.ref bG) "two" = some none)
  (eu:Qm K (.ref bG) "strength" = some none)
  (Di:Ru K bF Str.empty=true)
  (Ej:Q5 K bF=true)
  (C2:RN K bF=true)
  (CU:Qm K (.ref bF) "__setattr__" = some (some (.builtin "object.__setattr__")))
  (DN:RS K bF=true)
  (D1:Qb K (.ref bF)=true)
  (mh:Qm K (.ref bF) "one" = some none)
  (ma:Qm K (.ref bF) "two" = some none)
  (et:Qm K (.ref bF) "strength" = some none)
  (Dk:Ru K cC Str.empty=true)
  (El:Q5 K cC=true)
  (C4:RN K cC=true)
  (CY:Qm K (.ref cC) "__setattr__" = some (some (.builtin "object.__setattr__")))
  (yk:RS K cC=true)
  (yw:Qb K (.ref cC)=true)
  (jI:Qm K (.ref cC) "webs" = some none)
  (JB:Ru K eh Str.empty=true)
  (KU:Q5 K eh=true)
  (Jx:RN K eh=true)
  (Jq:Qm K (.ref eh) "__setattr__" = some (some (.builtin "object.__setattr__")))
  (FV:RS K eh=true)
  (F1:Qb K (.ref eh)=true)
  (l9:Qm K (.ref eh) "many" = some none)
  (l8:Qm K (.ref eh) "ties" = some none)
  (jG:Qm K (.ref eh) "turns" = some none)
  (iz:Qm K (.ref eh) "rounds" = some none)
  (jH:Qm K (.ref eh) "sides" = some none)
  (gi_gF:Qc K mainGlobals "MOST_FIGURES_texts" = some (some (.int 31 ti_gF)))
  (gi_gD:Qc K mainGlobals "MOST_FIGURES_desk" = some (some (.int 31 ti_gD)))
  (gi_gL:Qc K mainGlobals "MOST_TIES" = some (some (.int 80 ti_gL)))
  (kb_:nlB K bD cZ=true)
  (es2_:ersB K bD bz=true)
  (kd_:bdB K cJ cZ=true)
  (kn_:nfB K bD di=true)
  (N4:Qc K mainGlobals "len" = some none)
  (N5:Qc K mainGlobals "int" = some none)
  (NZ:Qc K mainGlobals "str" = some none)
  (IP:Qc K mainGlobals "bool" = some none)
  (IM:Qc K mainGlobals "list" = some none)
  (Cr:Qc K mainGlobals "tuple" = some none)
  (Ct:Qc K mainGlobals "range" = some none)
  (N7:Qc K mainGlobals "all" = some none)
  (lN:Qc K mainGlobals "enumerate" = some none)
  (jz:Qc K mainGlobals "isinstance" = some none)
  (N0:Qc K mainGlobals "min" = some none)
  (NY:Qc K mainGlobals "sum" = some none)
  (xg:Qc K mainGlobals "sorted" = some none)
  (N3:Qc K mainGlobals "max" = some none)
  (NX:Qc K mainGlobals "zip" = some none)
  (N6:Qc K mainGlobals "any" = some none)
  (jA:Qc K mainGlobals "ValueError" = some none)
  : ∃ fd:FuncData,(∀(s:Shared)(v:Value),BindsTo s fd ⟨[v],[]⟩ [("script",v)])/\∀ base:Heap,K.In base->base.Ns mainGlobals mg->FnOk l.prog w K mg base CX0 13 fa fd ["script"] (xB K):=by
 have e:=hfa.symm.trans (Qj X G Nl)
 cases e
 have jw:=aR (st:=bw) eF eO eG
 have rh:=jw.binds (ps:=["self","at"]) fun _ _ _ _ _ _ us hl=>by obtain⟨x0,x1,rfl⟩:=gA hl;rfl
 have Ck:=aR (st:=gZ) tF uv nF
 have LC:=Ck.binds (ps:=["start","pairs"]) fun _ _ _ _ _ _ us hl=>by obtain⟨x0,x1,rfl⟩:=gA hl;rfl
 have qN:=aR (st:=cV) jW kj jY
 have qJ:=qN.binds (ps:=["self","one","two","strength"]) fun _ _ _ _ _ _ us hl=>by obtain⟨x0,x1,x2,x3,rfl⟩:=Kt hl;rfl
 have xf:=aR (st:=fJ) pz pX kX
 have IC:=xf.binds (ps:=["self"]) fun _ _ _ _ _ _ us hl=>by obtain⟨x0,rfl⟩:=h9 hl;rfl
 have uV:=aR (st:=dE) mE mV iQ
 have Fc:=uV.binds (ps:=["self"]) fun _ _ _ _ _ _ us hl=>by obtain⟨x0,rfl⟩:=h9 hl;rfl
 have NW:=aR (st:=wy) Kw Lw k_head
 have b_head:=NW.binds (ps:=["ties","dart"]) fun _ _ _ _ _ _ us hl=>by obtain⟨x0,x1,rfl⟩:=gA hl;rfl
 have Cm:=aR (st:=g7) tG uw nG
 have LD:=Cm.binds (ps:=["ties","number","place"]) fun _ _ _ _ _ _ us hl=>by obtain⟨x0,x1,x2,rfl⟩:=qW hl;rfl
 have xc:=aR (st:=fH) pj pW kW
 have IB:=xc.binds (ps:=["ties","turns","dart"]) fun _ _ _ _ _ _ us hl=>by obtain⟨x0,x1,x2,rfl⟩:=qW hl;rfl
 have qK:=aR (st:=cS) jS kf gm
 have BX:=qK.binds (ps:=["ties","turns","first"]) fun _ _ _ _ _ _ us hl=>by obtain⟨x0,x1,x2,rfl⟩:=qW hl;rfl
 have uP:=aR (st:=du) mw mP iK
 have EY:=uP.binds (ps:=["ties","turns"]) fun _ _ _ _ _ _ us hl=>by obtain⟨x0,x1,rfl⟩:=gA hl;rfl
 have wZ:=aR (st:=fE) o9 pR kQ
 have Iw:=wZ.binds (ps:=["ties","rounds"]) fun _ _ _ _ _ _ us hl=>by obtain⟨x0,x1,rfl⟩:=gA hl;rfl
 have oo:=aR (st:=cu) iC jb eZ
 have y9:=oo.binds (ps:=["many","ties"]) fun _ _ _ _ _ _ us hl=>by obtain⟨x0,x1,rfl⟩:=gA hl;rfl
 have lJ:=aR (st:=bX) gB gJ dN
 have vU:=lJ.binds (ps:=["many","ties","turns"]) fun _ _ _ _ _ _ us hl=>by obtain⟨x0,x1,x2,rfl⟩:=qW hl;rfl
 have kA:=aR (st:=bI) fQ fX de
 have uB:=kA.binds (ps:=["many","ties"]) fun _ _ _ _ _ _ us hl=>by obtain⟨x0,x1,rfl⟩:=gA hl;rfl
 have kB:=aR (st:=b9) jV ki jX
 have qI:=kB.binds (ps:=["self","many","ties","turns"]) fun _ _ _ _ _ _ us hl=>by obtain⟨x0,x1,x2,x3,rfl⟩:=Kt hl;rfl
 have Gq:=aR (st:=kJ) yu y6 rH
 have Ni:=Gq.binds (ps:=["words"]) fun _ _ _ _ _ _ us hl=>by obtain⟨x0,rfl⟩:=h9 hl;rfl
 have Cj:=aR (st:=gY) tE uu nC
 have LA:=Cj.binds (ps:=["tie"]) fun _ _ _ _ _ _ us hl=>by obtain⟨x0,rfl⟩:=h9 hl;rfl
 have Ci:=aR (st:=gX) tD ur nB
 have Lz:=Ci.binds (ps:=["web"]) fun _ _ _ _ _ _ us hl=>by obtain⟨x0,rfl⟩:=h9 hl;rfl
 have uQ:=aR (st:=dv) my mQ iL
 have EZ:=uQ.binds (ps:=["word","figures"]) fun _ _ _ _ _ _ us hl=>by obtain⟨x0,x1,rfl⟩:=gA hl;rfl
 have qM:=aR (st:=cU) jU kh gp
 have BZ:=qM.binds (ps:=["row"]) fun _ _ _ _ _ _ us hl=>by obtain⟨x0,rfl⟩:=h9 hl;rfl
 have ju:=aR (st:=br) eA eJ cK
 have rf:=ju.binds (ps:=["first","row","figures"]) fun _ _ _ _ _ _ us hl=>by obtain⟨x0,x1,x2,rfl⟩:=qW hl;rfl
 have oq:=aR (st:=cv) iD jc e5
 have za:=oq.binds (ps:=["row"]) fun _ _ _ _ _ _ us hl=>by obtain⟨x0,rfl⟩:=h9 hl;rfl
 have wY:=aR (st:=fB) o8 pQ kP
 have Iv:=wY.binds (ps:=["row"]) fun _ _ _ _ _ _ us hl=>by obtain⟨x0,rfl⟩:=h9 hl;rfl
 have uN:=aR (st:=dm) mr mM iI
 have EW:=uN.binds (ps:=["place","row"]) fun _ _ _ _ _ _ us hl=>by obtain⟨x0,x1,rfl⟩:=gA hl;rfl
 have Fx:=aR (st:=lX) DZ EU tM
 have LB:=Fx.binds (ps:=["told","at"]) fun _ _ _ _ _ _ us hl=>by obtain⟨x0,x1,rfl⟩:=gA hl;rfl
 have zu:=aR (st:=ir) yv y7 nE
 have Gn:=zu.binds (ps:=["rows","number"]) fun _ _ _ _ _ _ us hl=>by obtain⟨x0,x1,rfl⟩:=gA hl;rfl
 have uO:=aR (st:=dt) mv mO iJ
 have EX:=uO.binds (ps:=["rows"]) fun _ _ _ _ _ _ us hl=>by obtain⟨x0,rfl⟩:=h9 hl;rfl
 have kz:=aR (st:=b8) jR ke dZ
 have qH:=kz.binds (ps:=["many","rows","ahead"]) fun _ _ _ _ _ _ us hl=>by obtain⟨x0,x1,x2,rfl⟩:=qW hl;rfl
 have NV:=aR (st:=wx) Kv Lv F2
 have b_made:=NV.binds (ps:=["kind","one","two","strength"]) fun _ _ _ _ _ _ us hl=>by obtain⟨x0,x1,x2,x3,rfl⟩:=Kt hl;rfl
 have LX:=aR (st:=sq) Ku Lu AO
 have NT:=LX.binds (ps:=["text"]) fun _ _ _ _ _ _ us hl=>by obtain⟨x0,rfl⟩:=h9 hl;rfl
 have lK:=aR (st:=bY) gC gK dO
 have vV:=lK.binds (ps:=["word","row","many"]) fun _ _ _ _ _ _ us hl=>by obtain⟨x0,x1,x2,rfl⟩:=qW hl;rfl
 have wX:=aR (st:=fA) o7 pP kO
 have Iu:=wX.binds (ps:=["web","kind","number","strength"]) fun _ _ _ _ _ _ us hl=>by obtain⟨x0,x1,x2,x3,rfl⟩:=Kt hl;rfl
 have Gp:=aR (st:=kI) yt y4 rG
 have Nh:=Gp.binds (ps:=["tie"]) fun _ _ _ _ _ _ us hl=>by obtain⟨x0,rfl⟩:=h9 hl;rfl
 have Co:=aR (st:=g9) tI uy nI
 have LH:=Co.binds (ps:=["web","place"]) fun _ _ _ _ _ _ us hl=>by obtain⟨x0,x1,rfl⟩:=gA hl;rfl
 have Cp:=aR (st:=hG) tJ uz nJ
 have LJ:=Cp.binds (ps:=["web","row"]) fun _ _ _ _ _ _ us hl=>by obtain⟨x0,x1,rfl⟩:=gA hl;rfl
 have jr:=aR (st:=bQ) iH jg iT
 have om:=jr.binds (ps:=["self","text"]) fun _ _ _ _ _ _ us hl=>by obtain⟨x0,x1,rfl⟩:=gA hl;rfl
 have Cq:=aR (st:=hU) tK uA nK
 have LK:=Cq.binds (ps:=["self","row"]) fun _ _ _ _ _ _ us hl=>by obtain⟨x0,x1,rfl⟩:=gA hl;rfl
 have uX:=aR (st:=dH) mG mX iS
 have Fe:=uX.binds (ps:=["self"]) fun _ _ _ _ _ _ us hl=>by obtain⟨x0,rfl⟩:=h9 hl;rfl
 have uW:=aR (st:=dG) mF mW iR
 have Fd:=uW.binds (ps:=["self"]) fun _ _ _ _ _ _ us hl=>by obtain⟨x0,rfl⟩:=h9 hl;rfl
 have xb:=aR (st:=fG) ph pV kU
 have IA:=xb.binds (ps:=["script","k"]) fun _ _ _ _ _ _ us hl=>by obtain⟨x0,x1,rfl⟩:=gA hl;rfl
 have w6:=aR (st:=fF) pf pU kT
 have Iz:=w6.binds (ps:=["ends","dart"]) fun _ _ _ _ _ _ us hl=>by obtain⟨x0,x1,rfl⟩:=gA hl;rfl
 have qL:=aR (st:=cT) jT kg gn
 have BY:=qL.binds (ps:=["ends","turns","dart"]) fun _ _ _ _ _ _ us hl=>by obtain⟨x0,x1,x2,rfl⟩:=qW hl;rfl
 have uR:=aR (st:=dw) mz mR iM
 have E7:=uR.binds (ps:=["ends","turns","dart"]) fun _ _ _ _ _ _ us hl=>by obtain⟨x0,x1,x2,rfl⟩:=qW hl;rfl
 have uT:=aR (st:=dA) mC mT iO
 have E9:=uT.binds (ps:=["cells"]) fun _ _ _ _ _ _ us hl=>by obtain⟨x0,rfl⟩:=h9 hl;rfl
 have uS:=aR (st:=dz) mB mS iN
 have E8:=uS.binds (ps:=["cell","many"]) fun _ _ _ _ _ _ us hl=>by obtain⟨x0,x1,rfl⟩:=gA hl;rfl
 have jv:=aR (st:=bu) eB eK cL
 have rg:=jv.binds (ps:=["grown","cell"]) fun _ _ _ _ _ _ us hl=>by obtain⟨x0,x1,rfl⟩:=gA hl;rfl
 have uU:=aR (st:=dB) mD mU iP
 have Fb:=uU.binds (ps:=["script","first","most"]) fun _ _ _ _ _ _ us hl=>by obtain⟨x0,x1,x2,rfl⟩:=qW hl;rfl
 have lL:=aR (st:=bZ) gE gM dP
 have vW:=lL.binds (ps:=["built"]) fun _ _ _ _ _ _ us hl=>by obtain⟨x0,rfl⟩:=h9 hl;rfl
 have w4:=aR (st:=cx) pd pS kR
 have Iy:=w4.binds (ps:=["cell"]) fun _ _ _ _ _ _ us hl=>by obtain⟨x0,rfl⟩:=h9 hl;rfl
 have lM:=aR (st:=aS) gG gN dQ
 have vX:=lM.binds (ps:=["cells"]) fun _ _ _ _ _ _ us hl=>by obtain⟨x0,rfl⟩:=h9 hl;rfl
 have ou:=aR (st:=cA) iF je e9
 have zc:=ou.binds (ps:=["words"]) fun _ _ _ _ _ _ us hl=>by obtain⟨x0,rfl⟩:=h9 hl;rfl
 have Cn:=aR (st:=g8) tH ux nH
 have LG:=Cn.binds (ps:=["built","kept","row"]) fun _ _ _ _ _ _ us hl=>by obtain⟨x0,x1,x2,rfl⟩:=qW hl;rfl
 have ot:=aR (st:=cy) iE jd e8
 have zb:=ot.binds (ps:=["desk","row"]) fun _ _ _ _ _ _ us hl=>by obtain⟨x0,x1,rfl⟩:=gA hl;rfl
 have ow:=aR (st:=cB) iG jf fi
 have ze:=ow.binds (ps:=["text"]) fun _ _ _ _ _ _ us hl=>by obtain⟨x0,rfl⟩:=h9 hl;rfl
 have F_law:=aR (st:=xS) O7 PN Pb
 refine⟨Qk "law" "law" (aF xS) (aD xS) (aj xS) .none NG NR Nt NU Lo NS,fun s v=>.of_eq rfl,fun base _ _=>?_⟩
 have Kj:=Qj X G uI
 have m_head:=Qj X G LS
 have Kk:=Qj X G uJ
 have HE:=Qj X G qj
 have AI:=Qj X G kr
 have DT:=Qj X G m7
 have Hx:=Qj X G qd
 have yn:=Qj X G ji
 have vx:=Qj X G gO
 have sZ:=Qj X G fY
 have MN:=Qj X G zp
 have Kh:=Qj X G uH
 have Kg:=Qj X G uG
 have DU:=Qj X G m8
 have AK:=Qj X G ky
 have qU:=Qj X G eP
 have yo:=Qj X G jj
 have Hw:=Qj X G qc
 have DR:=Qj X G m5
 have Ki:=Qj X G Fq
 have FX:=Qj X G zr
 have DS:=Qj X G m6
 have qv:=Qj X G ko
 have m_made:=Qj X G LR
 have NC:=Qj X G LQ
 have vy:=Qj X G gP
 have Hv:=Qj X G qb
 have MM:=Qj X G zo
 have Km:=Qj X G uL
 have Ko:=Qj X G uM
 have HC:=Qj X G qi
 have Hz:=Qj X G qg
 have AJ:=Qj X G ku
 have DV:=Qj X G m9
 have DX:=Qj X G nh
 have DW:=Qj X G ng
 have qV:=Qj X G eQ
 have DY:=Qj X G ni
 have vz:=Qj X G gQ
 have Hy:=Qj X G qf
 have vA:=Qj X G gS
 have yq:=Qj X G jm
 have Kl:=Qj X G uK
 have yp:=Qj X G jk
 have yr:=Qj X G jo
 have m_law:=Qj X G Nl
 have AL:=Qj X G jq
 have Kq:=Qj X G ql
 have Kp:=Qj X G qk
 have Kr:=Qj X G qm
 have m_Pull:=Qj X G Ft
 have m_Push:=Qj X G Fs
 have ND:=Qj X G Fu
 have m_Web:=Qj X G LU
 have gF:=Qj X G gi_gF
 have gD:=Qj X G gi_gD
 have gL:=Qj X G gi_gL
 have n_len:=QL X G N4
 have n_int:=QL X G N5
 have n_str:=QL X G NZ
 have n_bool:=QL X G IP
 have n_list:=QL X G IM
 have n_tuple:=QL X G Cr
 have n_range:=QL X G Ct
 have n_all:=QL X G N7
 have n_enumerate:=QL X G lN
 have n_isinstance:=QL X G jz
 have n_min:=QL X G N0
 have n_sum:=QL X G NY
 have n_sorted:=QL X G xg
 have n_max:=QL X G N3
 have n_zip:=QL X G NX
 have n_any:=QL X G N6
 have n_ValueError:=QL X G jA
 have TL:CT K bG:=⟨⟨Dj,Ek,C3,CV⟩,mn,mm,eu⟩
 have TS:CT K bF:=⟨⟨Di,Ej,C2,CU⟩,mh,ma,et⟩
 have cw:CW K eh:=⟨⟨JB,KU,Jx,Jq⟩,l9,l8,jG,iz,jH⟩
 have T:K8.Txt mg:=⟨n_max,n_all,n_zip,n_any,n_len,n_int,n_bool,n_list,n_tuple,n_range,n_enumerate,n_isinstance,n_min,n_sum,n_sorted⟩
 have GI:FnOk l.prog w K mg base CX0 1 bM _ _ (wm K):=OR qN
 have ML:Mak l.prog w K mg base 1 "Pull" _ (wm K) bG bM _:=⟨⟨DO,jM,gs,D3⟩,GI,qJ,m_Pull⟩
 have MS:Mak l.prog w K mg base 1 "Push" _ (wm K) bF bM _:=⟨⟨DN,jK,gs,D1⟩,GI,qJ,m_Push⟩
 have Gh:Cal l.prog w K mg base 1 "head" _ (Jf K) F8 _:=⟨OS NW,b_head,m_head,k_head⟩
 have Gl:Cal l.prog w K mg base 1 "leaving" _ (Je K) nU _:=⟨G7 Cm,LD,Kk,nG⟩
 have Gf:Cal l.prog w K mg base 2 "follower" _ (Oh K) lj _:=⟨Dq xc T Gh Gl,IB,HE,kW⟩
 have Gr:Cal l.prog w K mg base 3 "round_from" _ (Jg K) gu _:=⟨OT qK Gf,BX,AI,gm⟩
 have GR:Cal l.prog w K mg base 4 "rounds_of" _ (rp K) i3 _:=⟨JQ uP T Gr,EY,DT,iK⟩
 have GS:Cal l.prog w K mg base 1 "sides_of" _ (xt K) k9 _:=⟨Mu wZ T,Iw,Hx,kQ⟩
 have Ga:Cal l.prog w K mg base 1 "reached" _ (Cy K) nS _:=⟨G6 Ck,LC,Kj,nF⟩
 have R1:Cal l.prog w K mg base 1 "refuse_ends" _ (xy K) fm _:=⟨My oo,y9,yn,eZ⟩
 have R2:Cal l.prog w K mg base 1 "refuse_turns" _ (rA K) dR _:=⟨JO lJ T,vU,vx,dN⟩
 have R3:Cal l.prog w K mg base 2 "refuse_parted" _ (xw K) df _:=⟨Mv kA Ga,uB,sZ,de⟩
 have WI:FnOk l.prog w K mg base CX0 5 cj _ _ (lQ K):=Ms kB T R1 R2 R3 GR GS
 have MW:Mak l.prog w K mg base 5 "Web" _ (lQ K) eh cj _:=⟨⟨FV,iA,gq,F1⟩,WI,qI,m_Web⟩
 have Gc:Cal l.prog w K mg base 1 "_law_cell" _ (Ji K) lh _:=⟨OV xb T,IA,HC,kU⟩
 have L1:Cal l.prog w K mg base 1 "_law_head" _ (xD K) lg _:=⟨MC w6,Iz,Hz,kT⟩
 have L2':Cal l.prog w K mg base 2 "_law_behind" _ (xH K) gv _:=⟨G8 qL T L1,BY,AJ,gn⟩
 have L3:Cal l.prog w K mg base 3 "_law_round" _ (xC K) i5 _:=⟨JU uR L2',E7,DV,iM⟩
 have L4:Cal l.prog w K mg base 4 "_law_grown" _ (CB K) i7 _:=⟨ME uT T L3 L1,E9,DX,iO⟩
 have L5:Cal l.prog w K mg base 1 "_law_order" _ Cz i6 _:=⟨MA uS T,E8,DW,iN⟩
 have L6:Cal l.prog w K mg base 2 "_law_renumbered" _ Og cN _:=⟨ok_ren jv T L5,rg,qV,cL⟩
 have L7:Cal l.prog w K mg base 5 "_law_built" _ (xE K) i8 _:=⟨JV uU T L4 L6 Gc,Fb,DY,iP⟩
 have TT:KF.Txt mg:=⟨n_min,n_len,n_int,n_str,n_bool,n_list,n_tuple,n_range,n_all,n_enumerate,n_isinstance,⟨_,gF⟩,⟨_,gD⟩,⟨_,gL⟩⟩
 have u0:Met l.prog w K mg base 1 bG "wish" _ (qo false) ia _:=⟨⟨jL,pE,kX⟩,Mr xf,IC⟩
 have u1:Met l.prog w K mg base 1 bF "wish" _ (qo true) fR _:=⟨⟨jJ,mH,iQ⟩,Mq uV,Fc⟩
 have A1:Cal l.prog w K mg base 1 "row_of" _ (KF.spRow K) rL _:=⟨KF.ok_row Gq TT,Ni,MN,rH⟩
 have A2:Cal l.prog w K mg base 2 "tie_row" _ (xr bG bF) nQ _:=⟨JN Cj TL TS A1 u0 u1,LA,Kh,nC⟩
 have A3:Cal l.prog w K mg base 3 "written" _ (rW bG bF eh) nP _:=⟨G3 Ci TT cw A1 A2,Lz,Kg,nB⟩
 have A4:Cal l.prog w K mg base 1 "number_of" _ KF.spNum i4 _:=⟨KF.ok_num uQ TT,EZ,DU,iL⟩
 have A5:Cal l.prog w K mg base 1 "first_word" _ spFW gw _:=⟨ok_fw qM,BZ,AK,gp⟩
 have A6:Cal l.prog w K mg base 2 "numbers_behind" _ Gv cM _:=⟨ok_beh ju A4,rf,qU,cK⟩
 have A7:Cal l.prog w K mg base 3 "places_told" _ rB fq _:=⟨JS oq TT A6,za,yo,e5⟩
 have A8:Cal l.prog w K mg base 3 "tie_told" _ Jc k8 _:=⟨OM wY TT A5 A6,Iv,Hw,kP⟩
 have A9:Cal l.prog w K mg base 3 "turn_told" _ xq iZ _:=⟨Mt uN TT A6,EW,DR,iI⟩
 have B1:Cal l.prog w K mg base 1 "right" _ rY tW _:=⟨Mx Fx,LB,Ki,tM⟩
 have B2:Cal l.prog w K mg base 1 "row_at" _ (xu K) nR _:=⟨Mw zu TT,Gn,FX,nE⟩
 have B3:Cal l.prog w K mg base 4 "ties_told" _ (kG K) i0 _:=⟨Dn uO TT A5 A8 B1,EX,DS,iJ⟩
 have B4:Cal l.prog w K mg base 4 "turns_told" _ (lR K) d7 _:=⟨Ag kz TT B2 A9 B1,qH,qv,dZ⟩
 have B5:Cal l.prog w K mg base 3 "made" _ (r6 bG bF) F7 _:=⟨OP NV ML MS TL TS,b_made,m_made,F2⟩
 have B6:Cal l.prog w K mg base 7 "read" _ (Cw bG bF eh) Bf _:=⟨OO LX TT cw TL TS B1 B2 A7 B3 B4 B5 MW,NT,NC,AO⟩
 have cd:CD K cC:=⟨⟨Dk,El,C4,CY⟩,jI⟩
 have E2:Cal l.prog w K mg base 4 "turned" _ (xp bG bF) rK _:=⟨JM Gp TL TS B5 u0 u1,Nh,MM,rG⟩
 have E6:FnOk l.prog w K mg base CX0 8 bT _ _ (xG K bG bF eh):=MF jr B6
 have MD:Mak l.prog w K mg base 8 "Desk" _ (xG K bG bF eh) cC bT _:=⟨⟨yk,gj,fj,yw⟩,E6,om,ND⟩
 have ml:Met l.prog w K mg base 1 cC "left" _ (FC cC) fU _:=⟨⟨jO,mJ,iS⟩,OQ uX TT cd,Fe⟩
 have mt:Met l.prog w K mg base 4 cC "text" _ (Jd bG bF eh cC) fS _:=⟨⟨jN,mI,iR⟩,ON uW cd A3,Fd⟩
 have G2:Cal l.prog w K mg base 1 "_law_web_text" _ rX dU _:=⟨G4 lL TT,vW,vz,dP⟩
 have ef:ErF K mg bD cZ:=nl_of kb_
 have nf:NfF K bD di:=nf_of kn_
 have bf:BdF K cJ cZ:=bd_of kd_
 have TX:TxtX mg di cJ cZ:={ TT with n_sum:=n_sum,g_NotFlat:=Kp,g_BadDeed:=Kr,g_FloorError:=AL,n_ValueError:=n_ValueError }
 have SN:OwnI l.prog w K mg base "BadText" bD bz _:=⟨ers_of es2_,eI,ok_bti jw,rh,Kq⟩
 have X1:CalD l.prog w K mg base 3 "right" _ (rq bD) tW _:=⟨JR Fx SN,LB,Ki,tM⟩
 have X2:CalD l.prog w K mg base 3 "row_at" _ (rn K bD) nR _:=⟨JP zu TT SN,Gn,FX,nE⟩
 have X3:CalD l.prog w K mg base 4 "turns_told" _ (xm K bD) d7 _:=⟨JL kz TT X2 A9 X1,qH,qv,dZ⟩
 have XW:MakD l.prog w K mg base 5 "Web" _ (xk K di) eh cj _:=⟨⟨FV,iA,gq,F1⟩,JK kB TX kC R1 R2 R3 GR GS,qI,m_Web⟩
 have X4:CalD l.prog w K mg base 7 "read" _ (lS bD di) Bf _:=⟨Mz LX TT TL TS SN X1 X2 A7 B3 X3 B5 XW,NT,NC,AO⟩
 have XD:MakD l.prog w K mg base 8 "Desk" _ (xF bD di) cC bT _:=⟨⟨yk,gj,fj,yw⟩,JW jr X4,om,ND⟩
 have Y1:Cal l.prog w K mg base 10 "_law_no_desk" _ (xA bD di) fz _:=⟨JT ow TX SN ef nf kC XD,ze,yr,fi⟩
 have E1:CalD l.prog w K mg base 3 "numbers_told" _ (oz cJ) dS _:=⟨Dp lK TX cO A6,vV,vy,dO⟩
 have E3:CalD l.prog w K mg base 7 "with_tie" _ (oy bG bF eh cJ) kZ _:=⟨Dm wX TX cO cw TL TS B5 MW,Iu,Hv,kO⟩
 have E4:CalD l.prog w K mg base 7 "flipped" _ (oA bG bF eh cJ) nW _:=⟨Dr Co TX cO cw TL TS E2 MW,LH,Km,nI⟩
 have E5:CalD l.prog w K mg base 9 "changed" _ (oB bG bF eh cJ) nX _:=⟨(Dt Cp TX cO A5 E1 E3 E4).mono (by decide),LJ,Ko,nJ⟩
 have md:MetD l.prog w K mg base 10 cC "do" _ (Oj bG bF eh cC cJ) jZ _:=⟨⟨o6,tU,nK⟩,ok_doX Cq TX cO cd E5 ml,LK⟩
 have Y2:Cal l.prog w K mg base 12 "_law_refused" _ (rZ bG bF eh cC) ft _:=⟨G5 ot TX cO bf cd md,zb,yp,e8⟩
 have Y3:Cal l.prog w K mg base 1 "_law_word" _ Jb la _:=⟨OL w4 TT,Iy,Hy,kR⟩
 have Y4:Cal l.prog w K mg base 2 "_law_deed_row" _ (Jh K) dX _:=⟨OU lM TT Y3,vX,vA,dQ⟩
 have Y5:Cal l.prog w K mg base 1 "_law_numbers" _ (CA K) fu _:=⟨MB ou TT,zc,yq,e9⟩
 have Y6:Cal l.prog w K mg base 2 "_law_due" _ Oi nV _:=⟨ok_due Cn TT Y5,LG,Kl,nH⟩
 exact KF.ok_law F_law TT cd L7 G2 Y1 Y4 Y6 Y2 MD mt ml
theorem walk{l:S9}{q:Program}{loose:List Str}{XP:(Str->Option Value)->Heap->Prop}{YP:World->Heap->Prop}{d:DefRec}{K:Params->P1}(hn:l.most=some 63)(hdf:d.params.defaults = [])
  (hY:∀(w:World)(h:Heap),YP w h->(K w.params).In h)
  (F:∀(w:World)(mg:Str->Option Value)(fa:Addr)(h:Heap),(K w.params).In h->h.Ns mainGlobals mg->mg d.name=some (.ref fa) ->
   ∃ fd:FuncData,(∀(s:Shared)(u:Value),BindsTo s fd ⟨[u],[]⟩ [("script",u)])/\∀ base:Heap,(K w.params).In base->base.Ns mainGlobals mg->FnOk l.prog w (K w.params) mg base CX0 13 fa fd ["script"] (xB (K w.params))) :
  PySem.W.WalkO q loose XP YP l.row.toRowW d [] (fun f vs=>PySem.call f vs) :=
 L2.walk_of (n:=63) (k:=13) (x:="script") (CX:=fun _=>CX0) (sp:=fun w=>xB (K w.params)) hn (by decide) hdf ⟨rfl,by decide,by decide⟩ hY F (fun _ _ a ns hl _ hS=>⟨a,ns,rfl,hS,hl,fun _=>rfl⟩) fun _ _ _ _ _ z=>z
end KF
def PySem.W.Fast.tw613428289514913089:Nat:=0
def PySem.W.Fast.tw4420629122032211138:Nat:=0
def PySem.W.Fast.tw12931564409655821220:Nat:=0
def PySem.W.Fast.tw6620209559788831397:Nat:=0
def PySem.W.Fast.tw11194372662244917862:Nat:=0
def PySem.W.Fast.tw6728969262737209128:Nat:=0
def PySem.W.Fast.tw18215599496439752552:Nat:=0
def PySem.W.Fast.tw72865951696713803:Nat:=0
def PySem.W.Fast.tw10204702177335839404:Nat:=0
def PySem.W.Fast.tw15304275753258601008:Nat:=0
def PySem.W.Fast.tw10400928443820742518:Nat:=0
def PySem.W.Fast.tw4403697700896152311:Nat:=0
def PySem.W.Fast.tw8340476673279342872:Nat:=0
def PySem.W.Fast.tw1427732642325399802:Nat:=0
def PySem.W.Fast.tw10934214501450304859:Nat:=0
def PySem.W.Fast.tw14784772719802691644:Nat:=0
def PySem.W.Fast.tw4320899031344450876:Nat:=0
def PySem.W.Fast.tw11673890968250838588:Nat:=0
def PySem.W.Fast.tw3048231984121011358:Nat:=0
def PySem.W.Fast.tw17056036441368280703:Nat:=0
namespace PySem.W.Fast
def tw3613460312814313472:=0
def tw6351199632550595584:=0
def tw3713602279935429696:=0
def tw8567205081695607904:=0
def tw7059299993345060992:=0
def tw6765936814413799584:=0
def tw14894467782125343904:=0
def tw14660112282185898176:=0
def tw10209697937948781920:=0
def tw5771549169313741152:=0
def tw11640124392422413696:=0
def tw4964973820850218432:=0
def tw9887981750405508640:=0
def tw17463858933066866240:=0
def tw10283709658973427264:=0
def tw17638570109433439808:=0
def tw911659831306496736:=0
def tw13182748059042863904:=0
def tw5343570597624483712:=0
def tw9191303843788060576:=0
def tw13300550820623066369:=0
def tw16809080987464988001:=0
def tw11608818068851578305:=0
def tw3932133065858373089:=0
def tw672076383416333825:=0
def tw2388826213251664417:=0
def tw15978794931585918593:=0
def tw12938576531854261889:=0
def tw8413690891315705537:=0
def tw10084561970600409793:=0
def tw11409273494846893793:=0
def tw1192921966715731745:=0
def tw1435822923690728321:=0
def tw2189348153936211873:=0
def tw14168628990631873538:=0
def tw11256994340591669314:=0
def tw4099614751975110786:=0
def tw2497540766706526338:=0
def tw13586764431557108898:=0
def tw12095070691221024994:=0
def tw10270923982695445794:=0
def tw8390097850656268610:=0
def tw252070794810475874:=0
def tw12601633566402362754:=0
def tw15210884986143819138:=0
def tw12609093371909659202:=0
def tw3292690285722166850:=0
def tw14847610398683686530:=0
def tw9062561671263368866:=0
def tw6221423219486602978:=0
def tw1487921386407512834:=0
def tw15281155502397277986:=0
def tw16616165828691661698:=0
def tw4405763456467506050:=0
def tw754055026578617218:=0
def tw3098036590520730530:=0
def tw7287389827794116514:=0
def tw17154914929188259843:=0
def tw11496694661677537347:=0
def tw4718225460453319811:=0
def tw3192095006800363683:=0
def tw14586192603453429955:=0
def tw6540148890459862307:=0
def tw14061273225826307395:=0
def tw5431396983028494659:=0
def tw6676348693962228067:=0
def tw3998503947650356675:=0
def tw8279917380562600579:=0
def tw10651079831319095971:=0
def tw5407895642587482819:=0
def tw6923139193158362851:=0
def tw11684827517013672707:=0
def tw5509223939588280067:=0
def tw1638963913087237923:=0
def tw17764747640380387107:=0
def tw16604806621869645635:=0
def tw131487700220199875:=0
def tw11075558281115582435:=0
def tw18236903249093657571:=0
def tw7497518499122306148:=0
def tw5754096013640578180:=0
def tw3901322721430820996:=0
def tw16416235643463024900:=0
def tw5446145937282574596:=0
def tw5189392666036328772:=0
def tw17991736544144137604:=0
def tw7073391310206249444:=0
def tw11673817276765156836:=0
def tw4972827725779331556:=0
def tw13542054343547011780:=0
def tw10287853722126526180:=0
def tw2840954239839343364:=0
def tw6602850916932280068:=0
def tw12850811311589975812:=0
def tw16141104570891358084:=0
def tw14454096194078740356:=0
def tw6869320705932749700:=0
def tw18435232987113686948:=0
def tw17980520111672459236:=0
def tw2086584988413598789:=0
def tw10739932342230617317:=0
def tw6085896307659545861:=0
def tw5890545065433171269:=0
def tw7177262153300686181:=0
def tw1652561385397199269:=0
def tw2659328988585957893:=0
def tw5262567554882551333:=0
def tw12640232144215255589:=0
def tw14078413279734210213:=0
def tw10884453994795932389:=0
def tw8180535079600047877:=0
def tw8597598257828241189:=0
def tw16466647015406848837:=0
def tw4613288102544585669:=0
def tw3490919860451931174:=0
def tw153867662564788294:=0
def tw585649234400401510:=0
def tw14856255126489054374:=0
def tw8402874971722160422:=0
def tw15984890675672728870:=0
def tw4817561510833585478:=0
def tw10316840704929667430:=0
def tw6641914943644587366:=0
def tw7799637099492948358:=0
def tw2849506712105681318:=0
def tw1195669776560131494:=0
def tw14705569849089085862:=0
def tw9463062169308591526:=0
def tw10355738127876199878:=0
def tw3165409811788722822:=0
def tw2759219329932976838:=0
def tw10984410741304845062:=0
def tw8369598347912045318:=0
def tw960887997721915206:=0
def tw1042253011720625990:=0
def tw14478918194727478086:=0
def tw3154818906312647783:=0
def tw11598471679458745607:=0
def tw8487579928257792295:=0
def tw8505353066686606695:=0
def tw2469224878737486183:=0
def tw6089382545282857351:=0
def tw13069575816108318119:=0
def tw16916423903010761223:=0
def tw14339512877459478375:=0
def tw393330087223037799:=0
def tw6195480849018283975:=0
def tw5461019405300746215:=0
def tw15580503140812468232:=0
def tw981007211571750952:=0
def tw6825770757668981960:=0
def tw7030718142771711176:=0
def tw13671896414029283560:=0
def tw5787251555198595304:=0
def tw16259665520847896840:=0
def tw17038365544321143080:=0
def tw16907450863703551304:=0
def tw6506259368674550120:=0
def tw7977548673909726632:=0
def tw794431238149145064:=0
def tw2246766031324808712:=0
def tw16216338384081851912:=0
def tw15494596838085251592:=0
def tw10029984255812521512:=0
def tw2433952904107514472:=0
def tw4015682451139164872:=0
def tw5405019654904108776:=0
def tw11679040470916057960:=0
def tw8942749353554931688:=0
def tw12944722076840023049:=0
def tw12189595243399180393:=0
def tw15182621154332379369:=0
def tw8036384081644105993:=0
def tw8977042968298063113:=0
def tw14719738864826070345:=0
def tw7000480321733979529:=0
def tw13239501611388743081:=0
def tw17556256886472511945:=0
def tw16225953192377914921:=0
def tw16678820112623461929:=0
def tw7486535160247573065:=0
def tw13701641208127485577:=0
def tw16406685177769095849:=0
def tw1362844446198107849:=0
def tw11921303533867973353:=0
def tw14289269415733661481:=0
def tw1681508291473557321:=0
def tw5703915743832757065:=0
def tw2042258886223723433:=0
def tw13657605946099646409:=0
def tw13096835738121304041:=0
def tw9752616566716760138:=0
def tw17537184759438579786:=0
def tw15563583972060674122:=0
def tw6255705086607516746:=0
def tw16603753042783638666:=0
def tw3698724910272712906:=0
def tw17912282598460115146:=0
def tw16092177704050505962:=0
def tw15545590172382041386:=0
def tw3524235771828150858:=0
def tw8948952720811317834:=0
def tw10375746101835614890:=0
def tw6476310666450180778:=0
def tw4619820386443390666:=0
def tw12753291087284200266:=0
def tw18328820420020212586:=0
def tw8049293713065408362:=0
def tw18026925513509082026:=0
def tw1183890579797319626:=0
def tw3732495918233079786:=0
def tw2961513708061479947:=0
def tw5043055775209687083:=0
def tw14594544138361734187:=0
def tw1540293499671318603:=0
def tw6426282542188658923:=0
def tw2483377187032044875:=0
def tw16097292205008354699:=0
def tw11859506952206654891:=0
def tw14631540900155817387:=0
def tw14637933649220343243:=0
def tw13112950044717230539:=0
def tw18253813557023471051:=0
def tw7837031637975273995:=0
def tw8669704283478600203:=0
def tw4835807540967323179:=0
def tw7349796744240464523:=0
def tw8408103638413902507:=0
def tw14652695359874517675:=0
def tw10840371745572526827:=0
def tw15934445234221428459:=0
def tw14001776880276563691:=0
def tw4925158730115278571:=0
def tw14704927068468723467:=0
def tw16974521648982442763:=0
def tw14748767000867731211:=0
def tw3894455948821720939:=0
def tw6298384260136055691:=0
def tw13888515173890700171:=0
def tw9696262145508296587:=0
def tw11077881971623354347:=0
def tw635147171942182988:=0
def tw11750141097389238540:=0
def tw5457152749836738924:=0
def tw7372264485880261996:=0
def tw12569407769803098636:=0
def tw16982544288513338988:=0
def tw14937055287153911436:=0
def tw4503656426935564972:=0
def tw4340261116776786796:=0
def tw15118083902782564204:=0
def tw11405903951699120012:=0
def tw2600799825029799981:=0
def tw406691033487287437:=0
def tw9074252941901873325:=0
def tw14428743395756301:=0
def tw9624079791410236685:=0
def tw10682956739206537517:=0
def tw8024389532607096109:=0
def tw13863588410574052685:=0
def tw328722197254484301:=0
def tw14467029779345100141:=0
def tw1891340163441928621:=0
def tw356820727327374797:=0
def tw17314565217664405997:=0
def tw15606602077443243533:=0
def tw14477109397306359309:=0
def tw7421503338085235309:=0
def tw16759427049744728845:=0
def tw836563003259715341:=0
def tw8370699901296853869:=0
def tw1157738325992508301:=0
def tw7610100866786230221:=0
def tw1043296801342280685:=0
def tw17703327752202887214:=0
def tw4322518494795333742:=0
def tw6206644315289650318:=0
def tw12044769825865976046:=0
def tw677581622980490478:=0
def tw17693023502087601422:=0
def tw3213219761164601710:=0
def tw16451437018729146734:=0
def tw9198806692680089966:=0
def tw1434009055988460974:=0
def tw8437652536024795598:=0
def tw18346794419441317358:=0
def tw6248903441728887342:=0
def tw17883266883478033134:=0
def tw5705180962251751182:=0
def tw3319064203063121774:=0
def tw16661261414074955630:=0
def tw6956674655940822926:=0
def tw5221417499674166158:=0
def tw13040696328929872814:=0
def tw13591342424861955054:=0
def tw15510631628636889103:=0
def tw8182771590193963023:=0
def tw8059096958582611023:=0
def tw2519871759176164495:=0
def tw5591542919964461295:=0
def tw4574619864515540239:=0
def tw14480847904538820911:=0
def tw3032472968268649775:=0
def tw16376886735330986383:=0
def tw17619166171978379855:=0
def tw4886697534148660911:=0
def tw9333251932841241359:=0
def tw7562692882980813615:=0
def tw6088699274006005615:=0
def tw10556140170629592015:=0
def tw2412999582803178512:=0
def tw14089656648364432432:=0
def tw14537956243530525776:=0
def tw4312547422540189840:=0
def tw764306744757477552:=0
def tw10573763960156380496:=0
def tw9634142447994040912:=0
def tw17011541486018058864:=0
def tw2894217700328865392:=0
def tw17448263203959594736:=0
def tw15907953670448882576:=0
def tw13276498494905963408:=0
def tw8645772201435166672:=0
def tw14780222920160721009:=0
def tw1103520735089464529:=0
def tw7533066291348085041:=0
def tw10221016056787207505:=0
def tw5911981368420201809:=0
def tw13738711439897446833:=0
def tw7616126280064636401:=0
def tw13728616020498368177:=0
def tw6416638700793065201:=0
def tw8114101266480159537:=0
def tw17709267717348879185:=0
def tw13995706964942624657:=0
def tw6358825089126883346:=0
def tw5473633572641717298:=0
def tw9715537283209724978:=0
def tw5022411255709069394:=0
def tw10707665344131136594:=0
def tw6465156958559096946:=0
def tw9498042920528241906:=0
def tw5821187990825421074:=0
def tw16890897063325325650:=0
def tw13391007344090081650:=0
def tw2452875282290913746:=0
def tw9149544253184760274:=0
def tw10375451451275341330:=0
def tw1378665402872390194:=0
def tw18387416973673614002:=0
def tw16207636452190673618:=0
def tw12883150445418110706:=0
def tw7720525046668642098:=0
def tw16873256052417657682:=0
def tw8021345426600079250:=0
def tw7892807317722425234:=0
def tw12482371461134817202:=0
def tw5906207161233938547:=0
def tw12198415427151572115:=0
def tw5250738248714779923:=0
def tw7263214452072246579:=0
def tw3120351857079427411:=0
def tw12926048729850721683:=0
def tw12947555722892604819:=0
def tw8182171273103672755:=0
def tw13707416672702394867:=0
def tw11949176803155260947:=0
def tw7286346907147566611:=0
def tw17407706410757296723:=0
def tw16220681128331295315:=0
def tw4230188703215750771:=0
def tw14496516422773716595:=0
def tw1309372258265747059:=0
def tw12830389397291691699:=0
def tw16703696231001658067:=0
def tw18056255238506870547:=0
def tw10613226709845086003:=0
def tw13305820221318876051:=0
def tw11124297497949813683:=0
def tw15962961173353578483:=0
def tw8271276349640527892:=0
def tw16733834559817735284:=0
def tw7378638448288042132:=0
def tw247465831804418196:=0
def tw3609011206380505268:=0
def tw12542644552873917620:=0
def tw8902913997673142484:=0
def tw5437558260523630996:=0
def tw16494004829671628212:=0
def tw5183781022376537588:=0
def tw13839476077435306484:=0
def tw11450173238586917492:=0
def tw8475910323972015796:=0
def tw10616134177499751092:=0
def tw2283853458433214196:=0
def tw3083183114578417396:=0
def tw3100567865093391124:=0
def tw6845477864146885492:=0
def tw11745045639327088596:=0
def tw11867412416791274484:=0
def tw18375559048654362612:=0
def tw16764784833131953173:=0
def tw289233771402585109:=0
def tw10565245438447786069:=0
def tw4064836157608580277:=0
def tw6239836486667690197:=0
def tw15004144574111967541:=0
def tw8052386983092101429:=0
def tw5415804915586580821:=0
def tw18231928340532024693:=0
def tw3034868210655960469:=0
def tw3979082365888646549:=0
def tw15248434826506099189:=0
def tw8907845022606116373:=0
def tw1297512038283791893:=0
def tw2064183056001823413:=0
def tw18239888212301404885:=0
def tw8560294787191762645:=0
def tw14513664503419453301:=0
def tw16545822584810978197:=0
def tw659720412221395893:=0
def tw1274346308812041238:=0
def tw9674214399488606230:=0
def tw9797241592095121462:=0
def tw4218698616515792022:=0
def tw6127203396453375126:=0
def tw15670882242587847830:=0
def tw11414598234053733590:=0
def tw6664058477111505142:=0
def tw5687015542509199638:=0
def tw5607854886032780630:=0
def tw639295077765012822:=0
def tw13642613161581809014:=0
def tw5714313405595154806:=0
def tw12165831938796377558:=0
def tw5723362479216740854:=0
def tw11842945136666962422:=0
def tw551589162971264502:=0
def tw8178925012197117462:=0
def tw2545263648528389814:=0
def tw10488877205217821398:=0
def tw17546372586727496406:=0
def tw2779763932882295542:=0
def tw14093904303534753590:=0
def tw7649682804400419670:=0
def tw5556707994685835094:=0
def tw8032175528808626038:=0
def tw3640915978816607158:=0
def tw15451563302902021110:=0
def tw5621443319864639511:=0
def tw797811631246351447:=0
def tw3525730410195560535:=0
def tw7151541296040449143:=0
def tw373867291094683799:=0
def tw3554270340964421815:=0
def tw11880149868312454391:=0
def tw8283646983159563511:=0
def tw9916445190167936311:=0
def tw10516015657122179383:=0
def tw9594215418259649911:=0
def tw13852888461598349687:=0
def tw13905625141915158903:=0
def tw5487165300215429527:=0
def tw8551910397766793751:=0
def tw5779274328504589911:=0
def tw422140843226175127:=0
def tw1062000009796059895:=0
def tw16281125373729773303:=0
def tw5838959021418990327:=0
def tw18429414025981889303:=0
def tw4582701937605187383:=0
def tw3082042709947425719:=0
def tw13461443928832039863:=0
def tw15994997368154513399:=0
def tw15078042033374916632:=0
def tw8296938529444451384:=0
def tw8519138253498651736:=0
def tw9900142246588107864:=0
def tw9551198461972198520:=0
def tw9331556570730731736:=0
def tw16148505835613678872:=0
def tw10074474376035564856:=0
def tw3665899796885900632:=0
def tw16947538076749531512:=0
def tw815434000074515832:=0
def tw3795423153587852728:=0
def tw11942109229678113272:=0
def tw8966337209767127768:=0
def tw7903732885954903864:=0
def tw2401985794426412888:=0
def tw5475050287040651160:=0
def tw11783241827013792696:=0
def tw7325314703460359096:=0
def tw18184294296689397720:=0
def tw7196695490630254584:=0
def tw8053398048601006105:=0
def tw9505565200059263097:=0
def tw13903048891070837913:=0
def tw13908294930509193401:=0
def tw13735498900269458649:=0
def tw8354793017517099321:=0
def tw9830595897431321945:=0
def tw12376569452432626073:=0
def tw16594303578100700569:=0
def tw9448345806951504313:=0
def tw2014042574571184665:=0
def tw11114463525127615033:=0
def tw11123185335404596793:=0
def tw11761722606631518777:=0
def tw5572654796165689049:=0
def tw2002411586534032313:=0
def tw863085344737773626:=0
def tw7967599466947504282:=0
def tw14411866747998964986:=0
def tw9214045138140597530:=0
def tw12570555022981100858:=0
def tw9097049296482741594:=0
def tw2519814110958969242:=0
def tw3362091011549458874:=0
def tw17844356041191621114:=0
def tw1411786378464895514:=0
def tw13019678943527196218:=0
def tw18436239653889957498:=0
def tw15577059294754773626:=0
def tw2157063847975185050:=0
def tw65923049337756346:=0
def tw3924220882996094682:=0
def tw12884095361572793050:=0
def tw4997459660840719162:=0
def tw5188333683336463226:=0
def tw11889214800059037658:=0
def tw4098206293012791387:=0
def tw1030277501949046875:=0
def tw15918271288543446139:=0
def tw10274271032363133275:=0
def tw16372268403240970587:=0
def tw6956377942834704763:=0
def tw4666115203056103963:=0
def tw4664787843603337787:=0
def tw5329055728901551739:=0
def tw8808406149421427387:=0
def tw3067209781705005851:=0
def tw15458795349446445915:=0
def tw11798471053542636411:=0
def tw13503403750974073723:=0
def tw5798535734437875643:=0
def tw11832216565447235515:=0
def tw6678496776697104572:=0
def tw18025328955552020732:=0
def tw4213427953660986620:=0
def tw10414126736667082076:=0
def tw4114581856512496988:=0
def tw12044357244836612572:=0
def tw730640143255968284:=0
def tw2693750652746509884:=0
def tw14047527378638287420:=0
def tw1676203811752900188:=0
def tw15537844207365637756:=0
def tw3717065504241996412:=0
def tw15746259660676135548:=0
def tw7229110460236793596:=0
def tw12952157078663183132:=0
def tw18434637716335512348:=0
def tw14022670373387460380:=0
def tw11962901705209771836:=0
def tw15348185755106844540:=0
def tw10777540300572009372:=0
def tw15224963862968649660:=0
def tw12922265831137665053:=0
def tw6757603085309570173:=0
def tw655139233052835005:=0
def tw7668835927673154813:=0
def tw9224001488280989949:=0
def tw11752865773731869949:=0
def tw1880423776878784797:=0
def tw6858840296608972093:=0
def tw1652373266963043709:=0
def tw16804248784877364605:=0
def tw9131858019225915901:=0
def tw1618436032256302653:=0
def tw661973341485163069:=0
def tw17682832310549358237:=0
def tw15959235352316820125:=0
def tw11114992644362355389:=0
def tw3966106286358035197:=0
def tw12805631600337230653:=0
def tw15183349247310384957:=0
def tw5949903107887984509:=0
def tw17210501725134309277:=0
def tw15776120194431914941:=0
def tw12328837434900708349:=0
def tw11711722932310783038:=0
def tw17580628428074477726:=0
def tw15738147370167492862:=0
def tw18276618269754078494:=0
def tw14801020855617746238:=0
def tw8776597474622129502:=0
def tw13636717235501287934:=0
def tw17012515770936124990:=0
def tw9799393626967513694:=0
def tw8264754985656848126:=0
def tw7032467221779276606:=0
def tw16082277517367319390:=0
def tw16494805613396444062:=0
def tw6091965707094604702:=0
def tw14265980285795666942:=0
def tw15290524091578346591:=0
def tw211723880150761599:=0
def tw16400761205834819711:=0
def tw2043682914339388575:=0
def tw499215749121048767:=0
def tw8392157618180305087:=0
def tw14473851497288217791:=0
def tw11600915240502886623:=0
def tw13724892773747972351:=0
def tw15084770750687200991:=0
def tw15852286408800340799:=0
def tw14644863209704942399:=0
def tw13877683136936685471:=0
def tw11111020316678029311:=0
def tw14602453829911529471:=0
def tw14767372402585297828:=0
end PySem.W.Fast
open PySem PySem.W PyProof.Rows
set_option maxRecDepth 100000 in
set_option maxHeartbeats 0 in
theorem PySem.Challenge.cw_spinfloor_k64_deeds_refused_holds : PySem.Challenge.rw_spinfloor_k64_deeds_refused.Holds := by
 w_on;o_law;k_head;(case hw=>w_witness2)
 k_fill
 refine KF.walk (l:=PySem.Challenge.rw_spinfloor_k64_deeds_refused) rfl rfl (fun w h Y=>PySem.W.kIn_of Y) ?F
 case F =>
  intro w mg fa h KX G hmg
  refine' KF.all_mk KX G hmg ?jq ?ql ?qk ?qm ?Ft ?Fs ?Fu ?LU ?jP ?jM ?jL ?jK ?jJ ?gj ?o6 ?jO ?jN ?iA ?eF ?eO ?eG ?eI ?uI ?tF ?uv ?nF ?jW ?kj ?jY ?gs ?pz ?pX ?kX ?pE ?mE ?mV ?iQ ?mH ?LS ?Kw ?Lw ?k_head ?uJ ?tG ?uw ?nG ?qj ?pj ?pW ?kW ?kr ?jS ?kf ?gm ?m7 ?mw ?mP ?iK ?qd ?o9 ?pR ?kQ ?ji ?iC ?jb ?eZ ?gO ?gB ?gJ ?dN ?fY ?fQ ?fX ?de ?jV ?ki ?jX ?gq ?zp ?yu ?y6 ?rH ?uH ?tE ?uu ?nC ?uG ?tD ?ur ?nB ?m8 ?my ?mQ ?iL ?ky ?jU ?kh ?gp ?eP ?eA ?eJ ?cK ?jj ?iD ?jc ?e5 ?qc ?o8 ?pQ ?kP ?m5 ?mr ?mM ?iI ?Fq ?DZ ?EU ?tM ?zr ?yv ?y7 ?nE ?m6 ?mv ?mO ?iJ ?ko ?jR ?ke ?dZ ?LR ?Kv ?Lv ?F2 ?LQ ?Ku ?Lu ?AO ?gP ?gC ?gK ?dO ?qb ?o7 ?pP ?kO ?zo ?yt ?y4 ?rG ?uL ?tI ?uy ?nI ?uM ?tJ ?uz ?nJ ?iH ?jg ?iT ?fj ?tK ?uA ?nK ?tU ?mG ?mX ?iS ?mJ ?mF ?mW ?iR ?mI ?qi ?ph ?pV ?kU ?qg ?pf ?pU ?kT ?ku ?jT ?kg ?gn ?m9 ?mz ?mR ?iM ?nh ?mC ?mT ?iO ?ng ?mB ?mS ?iN ?eQ ?eB ?eK ?cL ?ni ?mD ?mU ?iP ?gQ ?gE ?gM ?dP ?qf ?pd ?pS ?kR ?gS ?gG ?gN ?dQ ?jm ?iF ?je ?e9 ?uK ?tH ?ux ?nH ?jk ?iE ?jd ?e8 ?jo ?iG ?jf ?fi ?Nl ?O7 ?PN ?Pb ?kC ?cO ?Dj ?Ek ?C3 ?CV ?DO ?D3 ?mn ?mm ?eu ?Di ?Ej ?C2 ?CU ?DN ?D1 ?mh ?ma ?et ?Dk ?El ?C4 ?CY ?yk ?yw ?jI ?JB ?KU ?Jx ?Jq ?FV ?F1 ?l9 ?l8 ?jG ?iz ?jH ?gi_gF ?gi_gD ?gi_gL ?kb_ ?es2_ ?kd_ ?kn_ ?N4 ?N5 ?NZ ?IP ?IM ?Cr ?Ct ?N7 ?lN ?jz ?N0 ?NY ?xg ?N3 ?NX ?N6 ?jA
  (case jq=>k_is)
  (case ql=>k_is)
  (case qk=>k_is)
  (case qm=>k_is)
  (case Ft=>k_is)
  (case Fs=>k_is)
  (case Fu=>k_is)
  (case LU=>k_is)
  (case jP=>k_is)
  (case jM=>k_is)
  (case jL=>k_is)
  (case jK=>k_is)
  (case jJ=>k_is)
  (case gj=>k_is)
  (case o6=>k_is)
  (case jO=>k_is)
  (case jN=>k_is)
  (case iA=>k_is)
  (case eF=>k_is)
  (case eO=>k_is)
  (case eG=>k_is)
  (case eI=>k_is)
  (case uI=>k_is)
  (case tF=>k_is)
  (case uv=>k_is)
  (case nF=>k_is)
  (case jW=>k_is)
  (case kj=>k_is)
  (case jY=>k_is)
  (case gs=>k_is)
  (case pz=>k_is)
  (case pX=>k_is)
  (case kX=>k_is)
  (case pE=>k_is)
  (case mE=>k_is)
  (case mV=>k_is)
  (case iQ=>k_is)
  (case mH=>k_is)
  (case LS=>k_is)
  (case Kw=>k_is)
  (case Lw=>k_is)
  (case k_head=>k_is)
  (case uJ=>k_is)
  (case tG=>k_is)
  (case uw=>k_is)
  (case nG=>k_is)
  (case qj=>k_is)
  (case pj=>k_is)
  (case pW=>k_is)
  (case kW=>k_is)
  (case kr=>k_is)
  (case jS=>k_is)
  (case kf=>k_is)
  (case gm=>k_is)
  (case m7=>k_is)
  (case mw=>k_is)
  (case mP=>k_is)
  (case iK=>k_is)
  (case qd=>k_is)
  (case o9=>k_is)
  (case pR=>k_is)
  (case kQ=>k_is)
  (case ji=>k_is)
  (case iC=>k_is)
  (case jb=>k_is)
  (case eZ=>k_is)
  (case gO=>k_is)
  (case gB=>k_is)
  (case gJ=>k_is)
  (case dN=>k_is)
  (case fY=>k_is)
  (case fQ=>k_is)
  (case fX=>k_is)
  (case de=>k_is)
  (case jV=>k_is)
  (case ki=>k_is)
  (case jX=>k_is)
  (case gq=>k_is)
  (case zp=>k_is)
  (case yu=>k_is)
  (case y6=>k_is)
  (case rH=>k_is)
  (case uH=>k_is)
  (case tE=>k_is)
  (case uu=>k_is)
  (case nC=>k_is)
  (case uG=>k_is)
  (case tD=>k_is)
  (case ur=>k_is)
  (case nB=>k_is)
  (case m8=>k_is)
  (case my=>k_is)
  (case mQ=>k_is)
  (case iL=>k_is)
  (case ky=>k_is)
  (case jU=>k_is)
  (case kh=>k_is)
  (case gp=>k_is)
  (case eP=>k_is)
  (case eA=>k_is)
  (case eJ=>k_is)
  (case cK=>k_is)
  (case jj=>k_is)
  (case iD=>k_is)
  (case jc=>k_is)
  (case e5=>k_is)
  (case qc=>k_is)
  (case o8=>k_is)
  (case pQ=>k_is)
  (case kP=>k_is)
  (case m5=>k_is)
  (case mr=>k_is)
  (case mM=>k_is)
  (case iI=>k_is)
  (case Fq=>k_is)
  (case DZ=>k_is)
  (case EU=>k_is)
  (case tM=>k_is)
  (case zr=>k_is)
  (case yv=>k_is)
  (case y7=>k_is)
  (case nE=>k_is)
  (case m6=>k_is)
  (case mv=>k_is)
  (case mO=>k_is)
  (case iJ=>k_is)
  (case ko=>k_is)
  (case jR=>k_is)
  (case ke=>k_is)
  (case dZ=>k_is)
  (case LR=>k_is)
  (case Kv=>k_is)
  (case Lv=>k_is)
  (case F2=>k_is)
  (case LQ=>k_is)
  (case Ku=>k_is)
  (case Lu=>k_is)
  (case AO=>k_is)
  (case gP=>k_is)
  (case gC=>k_is)
  (case gK=>k_is)
  (case dO=>k_is)
  (case qb=>k_is)
  (case o7=>k_is)
  (case pP=>k_is)
  (case kO=>k_is)
  (case zo=>k_is)
  (case yt=>k_is)
  (case y4=>k_is)
  (case rG=>k_is)
  (case uL=>k_is)
  (case tI=>k_is)
  (case uy=>k_is)
  (case nI=>k_is)
  (case uM=>k_is)
  (case tJ=>k_is)
  (case uz=>k_is)
  (case nJ=>k_is)
  (case iH=>k_is)
  (case jg=>k_is)
  (case iT=>k_is)
  (case fj=>k_is)
  (case tK=>k_is)
  (case uA=>k_is)
  (case nK=>k_is)
  (case tU=>k_is)
  (case mG=>k_is)
  (case mX=>k_is)
  (case iS=>k_is)
  (case mJ=>k_is)
  (case mF=>k_is)
  (case mW=>k_is)
  (case iR=>k_is)
  (case mI=>k_is)
  (case qi=>k_is)
  (case ph=>k_is)
  (case pV=>k_is)
  (case kU=>k_is)
  (case qg=>k_is)
  (case pf=>k_is)
  (case pU=>k_is)
  (case kT=>k_is)
  (case ku=>k_is)
  (case jT=>k_is)
  (case kg=>k_is)
  (case gn=>k_is)
  (case m9=>k_is)
  (case mz=>k_is)
  (case mR=>k_is)
  (case iM=>k_is)
  (case nh=>k_is)
  (case mC=>k_is)
  (case mT=>k_is)
  (case iO=>k_is)
  (case ng=>k_is)
  (case mB=>k_is)
  (case mS=>k_is)
  (case iN=>k_is)
  (case eQ=>k_is)
  (case eB=>k_is)
  (case eK=>k_is)
  (case cL=>k_is)
  (case ni=>k_is)
  (case mD=>k_is)
  (case mU=>k_is)
  (case iP=>k_is)
  (case gQ=>k_is)
  (case gE=>k_is)
  (case gM=>k_is)
  (case dP=>k_is)
  (case qf=>k_is)
  (case pd=>k_is)
  (case pS=>k_is)
  (case kR=>k_is)
  (case gS=>k_is)
  (case gG=>k_is)
  (case gN=>k_is)
  (case dQ=>k_is)
  (case jm=>k_is)
  (case iF=>k_is)
  (case je=>k_is)
  (case e9=>k_is)
  (case uK=>k_is)
  (case tH=>k_is)
  (case ux=>k_is)
  (case nH=>k_is)
  (case jk=>k_is)
  (case iE=>k_is)
  (case jd=>k_is)
  (case e8=>k_is)
  (case jo=>k_is)
  (case iG=>k_is)
  (case jf=>k_is)
  (case fi=>k_is)
  (case Nl=>k_is)
  (case O7=>k_is)
  (case PN=>k_is)
  (case Pb=>k_is)
  (case kC=>k_exc)
  (case cO=>k_exc)
  (case Dj=>k_is)
  (case Ek=>k_is)
  (case C3=>k_is)
  (case CV=>k_is)
  (case DO=>k_is)
  (case D3=>k_is)
  (case mn=>k_is)
  (case mm=>k_is)
  (case eu=>k_is)
  (case Di=>k_is)
  (case Ej=>k_is)
  (case C2=>k_is)
  (case CU=>k_is)
  (case DN=>k_is)
  (case D1=>k_is)
  (case mh=>k_is)
  (case ma=>k_is)
  (case et=>k_is)
  (case Dk=>k_is)
  (case El=>k_is)
  (case C4=>k_is)
  (case CY=>k_is)
  (case yk=>k_is)
  (case yw=>k_is)
  (case jI=>k_is)
  (case JB=>k_is)
  (case KU=>k_is)
  (case Jx=>k_is)
  (case Jq=>k_is)
  (case FV=>k_is)
  (case F1=>k_is)
  (case l9=>k_is)
  (case l8=>k_is)
  (case jG=>k_is)
  (case iz=>k_is)
  (case jH=>k_is)
  (case gi_gF=>k_is)
  (case gi_gD=>k_is)
  (case gi_gL=>k_is)
  (case kb_=>kernel_rfl)
  (case es2_=>kernel_rfl)
  (case kd_=>kernel_rfl)
  (case kn_=>kernel_rfl)
  (case N4=>k_is)
  (case N5=>k_is)
  (case NZ=>k_is)
  (case IP=>k_is)
  (case IM=>k_is)
  (case Cr=>k_is)
  (case Ct=>k_is)
  (case N7=>k_is)
  (case lN=>k_is)
  (case jz=>k_is)
  (case N0=>k_is)
  (case NY=>k_is)
  (case xg=>k_is)
  (case N3=>k_is)
  (case NX=>k_is)
  (case N6=>k_is)
  (case jA=>k_is)
