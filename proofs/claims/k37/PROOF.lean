import PyProof.Rows.All
import Wide.All
import OpenK.AllK
import Wide.FinOn
import Lean
import PyProof.EqAt
import PyProof.EqKinds
import PyProof.TupleCall
import PySem.Challenge.RW_spinfloor_k37_ties_that_are_set
open Array renaming length_toList → Rp, getElem?_eq_getElem → S5
open Bool renaming false_ne_true → Qe, true_and → QL, false_and → Q7, false_xor → Ru, false_eq_true → Rw, xor_false → RQ, and_false → RS, eq_iff_iff → Ss, xor_self → SG, xor_comm → SH, xor_assoc → S4, true_xor → Ti, and_true → Tj
open Classical renaming choose_spec → Sr, propDecidable → Th
open Int renaming toNat_natCast → PQ, zero_add → QR, le_refl → QV, emod_lt_of_pos → QW, toNat_of_nonneg → QZ, emod_nonneg → Ra, natCast_nonneg → RN, natCast_pow → Sq, add_zero → SM, one_mul → SU, fdiv_eq_ediv_of_nonneg → SW
open List renaming getElem?_eq_some_iff → Pp, getElem?_eq_getElem → Pq, mem_of_getElem? → Pr, getElem?_append_right → Pu, mem_cons → Pw, length_append → Px, getElem?_append_left → Py, length_map → PB, mem_cons_of_mem → PD, nodup_cons → PF, mem_cons_self → PH, mem_append → PM, getElem?_map → PR, replicate → PU, length_singleton → PY, nodup_append → PZ, mem_append_right → P0, map_cons → P7, size_toArray → P8, flatten_cons → P9, length_set → Qa, length_cons → Qc, take_add_one → Qf, getElem?_set → Qh, getD_eq_getElem?_getD → Qm, take_length → Qn, mem_flatten → Qo, length_take → Qr, mem_map → Qv, map_append → Qw, mem_singleton → Qy, mem_iff_getElem? → Qz, mem_append_left → QC, not_mem_nil → QH, take_of_length_le → QK, perm_ext_iff_of_nodup → QM, flatten_append → QO, perm_append_comm → QP, getElem?_replicate → QU, length_drop → QX, length_replicate → Q4, getElem?_of_mem → Q6, range → Q8, getElem_of_mem → Q9, length_pos_of_mem → Rc, cons_append → Rf, take_append_drop → Rh, sum_cons → Ri, nodup_nil → Rk, erase_cons_head → Rl, length_range → Rn, append_assoc → Ro, mem_range → Rt, replicate_succ' → RF, mem_or_eq_of_mem_set → RH, find?_cons → RK, append_nil → RL, map_map → RU, length_filter_le → RV, map_take → RW, map_drop → RX, getElem?_eraseIdx_of_lt → RY, getElem?_eraseIdx_of_ge → RZ, mem_filter → R4, map_congr_left → R5, lookup → R6, getElem?_range → R7, mem_replicate → R8, append_of_mem → R9, idxOf_lt_length_iff → Sb, foldl_append → Sd, filter_cons → Si, getElem?_set_self → Sj, length_nil → Sn, getElem?_eq_none → So, set_append_left → Sv, idxOf_cons_self → Sw, getElem?_set_ne → Sx, filterMap_cons → SA, map → SE, getElem?_drop → SF, map_set → SK, eq_nil_of_length_eq_zero → SO, of_mem_zip → SS, length_eraseIdx_of_lt → SV, take_zero → S2, drop_zero → S3, mem_of_mem_eraseIdx → Ta, length_erase_of_mem → Tc, length_eq_zero_iff → Tf, any_cons → Tg
open List.Pairwise renaming nil → Se
open Nat renaming le_refl → Pz, sub_self → P1, testBit_two_pow → Qb, lt_of_lt_of_le → Qd, ne_of_lt → Qk, le_of_lt → Ql, lt_irrefl → Qs, eq_of_testBit_eq → Qt, zero_testBit → Qu, not_lt_zero → QA, xor_assoc → QB, pow_le_pow_right → QD, lt_succ_self → QE, testBit_xor → QF, le_trans → QG, pow_lt_pow_right → QI, zero_le → QJ, two_pow_pos → QT, testBit_or → Q0, testBit_and → Q3, mod_eq_of_lt → Q5, xor_lt_two_pow → Rg, le_succ → Rj, testBit_lt_two_pow → Rv, xor_zero → Rx, xor_self → Ry, testBit_two_pow_sub_one → Rz, ne_of_gt → RA, min_eq_left → RB, lt_succ_of_lt → RE, lt_pow_two_of_testBit → RG, testBit → RI, xor_comm → RT, or_lt_two_pow → Sa, le_of_not_lt → Sf, le_add_right → Sh, mod_self → Sm, mul_le_mul_right → Su, one_lt_two_pow → SD, testBit_eq_decide_div_mod_eq → SI, not_lt_of_le → SN, left_le_or → S1, mod_lt → S9
open Option renaming map_eq_some_iff → Qp, map_some → Sl, isSome_iff_exists → S8
open Option.some renaming inj → P5
open PySem renaming Spec → P6, mem_of_lookup → QN
open PySem.F renaming plainAttrs_list → P4, type_list_append → Qi, slot_list_append → Qj, plain_min_loop → Qq, entry_min_loop → Rb, plain_extend_loop → SY, type_list_insert → S6, slot_list_insert → S7, type_list_index → Td, slot_list_index → Te
open PySem.W renaming Frag → Pt, keepIn → PJ, nsIn → PK, codeIn → PN, mg_of → PV, fnOf → PX, findIn → Qg, mg_none_of → Qx, kia_one → QS, emptyDict → QY, instObj → Rm, plainGet → Rq, CodeHd → Rr, tabIn → RC, hasDictIn → RD, isFn → RJ, plainOver → RO, kitOne → RP, makesIn → R0, kla_obj → Sk, lookIn → Sy, plainGet_of → Sz, methodObj → SJ, takerIn → SQ, OpenLaw → SR, tabObj → SX
set_option Elab.async false
set_option linter.all false
set_option maxRecDepth 100000
local macro_rules | `(tactic| omega) => `(tactic| first | assumption | lia | omega +splitDisjunctions)
namespace L2
open PySem PySem.Spec PyProof.Rows
abbrev Key:=Sum Int Str
def zJ:Key->Value->Bool
 |.inl k,v=>Value.isInt k v
 |.inr x,v=>Value.isStrOf x v
def keyH(w:World):Key->Int
 |.inl k=>hashInt k
 |.inr x=>hashStr w x
theorem bh:∀{k:Key}{v:Value},zJ k v=true->(∃ i t,k=Sum.inl i/\v=Value.int i t)∨(∃ x t,k=Sum.inr x/\v=Value.str x t)
 |.inl i,v,h=>by
  obtain⟨t,e⟩:=Value.isInt_shape (k:=i) (v:=v) h
  exact .inl ⟨i,t,rfl,e⟩
 |.inr x,v,h=>by
  obtain⟨t,e⟩:=Value.isStrOf_shape (x:=x) (v:=v) h
  exact .inr ⟨x,t,rfl,e⟩
theorem Jm(i:Int)(t:Tok):zJ (.inl i) (.int i t)=true:=by simp[zJ,Value.isInt]
theorem Jl(x:Str)(t:Tok):zJ (.inr x) (.str x t)=true:=by simp[zJ,Value.isStrOf]
theorem key_ll(a b:Int):decide ((Sum.inl a:Key)=Sum.inl b)=(a == b):=by
 by_cases e:a=b
 ·subst e;simp
 ·have h:¬ (Sum.inl a:Key)=Sum.inl b:=fun q=>e (Sum.inl.inj q)
  rw[decide_eq_false h]
  exact(beq_eq_false_iff_ne.mpr e).symm
theorem key_rr(a b:Str):decide ((Sum.inr a:Key)=Sum.inr b)=decide (a=b):=by
 by_cases e:a=b
 ·subst e;simp
 ·have h:¬ (Sum.inr a:Key)=Sum.inr b:=fun q=>e (Sum.inr.inj q)
  rw[decide_eq_false h,decide_eq_false e]
theorem key_lr(a:Int)(b:Str):decide ((Sum.inl a:Key)=Sum.inr b)=false:=decide_eq_false (fun q=>nomatch q)
theorem key_rl(a:Str)(b:Int):decide ((Sum.inr a:Key)=Sum.inl b)=false:=decide_eq_false (fun q=>nomatch q)
def bN(prog:Program)(w:World):PySem.KeyKind prog w Key where
 is:=zJ
 hash:=keyH w
 inj:=fun v a b ha hb=>by
  rcases bh ha with⟨i,t,rfl,rfl⟩ | ⟨x,t,rfl,rfl⟩
  ·rcases bh hb with⟨j,u,rfl,e⟩ | ⟨y,u,rfl,e⟩
   ·injection e with e1 _;rw[e1]
   ·exact nomatch e
  ·rcases bh hb with⟨j,u,rfl,e⟩ | ⟨y,u,rfl,e⟩
   ·exact nomatch e
   ·injection e with e1 _;rw[e1]
 byValue:=fun k v h=>by
  rcases bh h with⟨i,t,rfl,rfl⟩ | ⟨x,t,rfl,rfl⟩<;>rfl
 pyHash:=fun hv h=>by
  rcases bh hv with⟨i,t,rfl,rfl⟩ | ⟨x,t,rfl,rfl⟩
  ·exact wpAny_pyHash_int h
  ·exact wpAny_pyHash_str h
 eqBool:=fun hu hv h=>by
  rcases bh hu with⟨i,t,rfl,rfl⟩ | ⟨x,t,rfl,rfl⟩
  ·rcases bh hv with⟨j,u,rfl,rfl⟩ | ⟨y,u,rfl,rfl⟩
   ·rw[key_ll]at h;exact wpAny_eqBool_int h
   ·rw[key_lr]at h;exact SeqAt.EqAt.int_str i t y u _ _ _ _ h
  ·rcases bh hv with⟨j,u,rfl,rfl⟩ | ⟨y,u,rfl,rfl⟩
   ·rw[key_rl]at h;exact SeqAt.EqAt.str_int x t j u _ _ _ _ h
   ·rw[key_rr]at h;exact wpAny_eqBool_str h
 «strs»:=fun k x t v h=>by
  rcases bh h with⟨i,u,rfl,e⟩ | ⟨y,u,rfl,e⟩
  ·exact nomatch e
  ·injection e with e1 _
   subst e1
   cases v<;>rfl
theorem CO(prog:Program)(w:World)(i:Int)(t:Tok):(bN prog w).is (.inl i) (.int i t)=true:=Jm i t
theorem CN(prog:Program)(w:World)(x:Str)(t:Tok):(bN prog w).is (.inr x) (.str x t)=true:=Jl x t
end L2
namespace L2
open PySem PySem.Spec PyProof.Rows
inductive V where
 |non | bl (b:Bool) | int (i:Int) | str (x:Str) | byt (b:Array UInt8) | flt (b:UInt64) | ref (a:Addr) | ty (n:String)
 deriving DecidableEq
def RelV:V->Value->Prop
 |.non,u=>u=Value.none
 |.bl b,u=>u=Value.bool b
 |.int i,u=>∃ t,u=Value.int i t
 |.str x,u=>∃ t,u=Value.str x t
 |.byt b,u=>∃ t,u=Value.bytes b t
 |.flt b,u=>∃ t,u=Value.float b t
 |.ref a,u=>u=Value.ref a
 |.ty n,u=>u=Value.type n
abbrev Vals:List V->List Value->Prop:=Paired RelV
theorem Vals.length{xs:List V}{us:List Value}(r:Vals xs us):xs.length=us.length:=Paired.length r
theorem Vals.get:∀{xs:List V}{us:List Value}{i:Nat}{x:V},Vals xs us->xs[i]?=some x->∃ u,us[i]?=some u/\RelV x u
 |_,_,_,_,.nil,e=>by simp at e
 |_,_,0,_,.cons r _,e=>by simp at e;subst e;exact⟨_,rfl,r⟩
 |_,_,i+1,x,.cons _ t,e=>by
  obtain⟨u,h1,h2⟩:=Vals.get (i:=i) (x:=x) t (by simpa using e)
  exact⟨u,by simpa using h1,h2⟩
theorem Vals.set{x:V}{u:Value}(r:RelV x u):∀{xs:List V}{us:List Value}(i:Nat),Vals xs us->Vals (xs.set i x) (us.set i u)
 |_,_,_,.nil=>.nil
 |_,_,0,.cons _ t=>.cons r t
 |_,_,i+1,.cons q t=>.cons q (Vals.set r i t)
theorem Vals.append:∀{xs ys:List V}{us ws:List Value},Vals xs us->Vals ys ws->Vals (xs++ys) (us++ws)
 |_,_,_,_,.nil,s=>s
 |_,_,_,_,.cons r t,s=>.cons r (Vals.append t s)
theorem Vals.take:∀{xs:List V}{us:List Value}(n:Nat),Vals xs us->Vals (xs.take n) (us.take n)
 |_,_,0,_=>.nil
 |_,_,_+1,.nil=>.nil
 |_,_,n+1,.cons r t=>.cons r (Vals.take n t)
theorem Vals.drop:∀{xs:List V}{us:List Value}(n:Nat),Vals xs us->Vals (xs.drop n) (us.drop n)
 |_,_,0,r=>r
 |_,_,_+1,.nil=>.nil
 |_,_,n+1,.cons _ t=>Vals.drop n t
def RelO:Option V->Option Value->Prop
 |some v,some u=>RelV v u
 |none,none=>True
 |_,_=>False
def KV{κ:Type}:List (κ×V)->List (κ×Value)->Prop:=Paired fun(p:κ×V) (q:κ×Value)=>p.1=q.1/\RelV p.2 q.2
def kV:Key->V
 |.inl i=>.int i
 |.inr x=>.str x
inductive HO where
  |lst (xs:List V)
  |tup (xs:List V)
  |dK (kvs:List (Key×V)) | dT (kvs:List (List Key×V))
  |set (S:Int->Bool) (n:Nat)
  |ins (C dx:Addr) (fs:List (Str×V))
  |own (x:Addr)
  |xd (fs:List (Str×V))
  |met (f x:Addr)
  |rng (lo hi:Int)
  |frz (o:Obj) (u:HO)
  |tbl (ps:Array Value)
  |ext (φ:Heap->Prop)
abbrev Hp:=Addr->Option HO
def upd(H:Hp)(a:Addr)(o:HO):Hp:=fun b=>if b=a then some o else H b
theorem af{H:Hp}{a:Addr}{o:HO}:upd H a o a=some o:=by unfold upd;rw[if_pos rfl]
theorem ao{H:Hp}{a b:Addr}{o:HO}(h:b≠a):upd H a o b=H b:=by unfold upd;rw[if_neg h]
theorem ne_of{H:Hp}{a b:Addr}{o u:HO}(h:H a=some o)(h':H b=some u)(d:o≠u):a≠b:=by
 intro e;subst e;rw[h]at h';exact d (P5 h')
theorem aM{H:Hp}{a b:Addr}{o:HO}(h:H a=some o)(h':H b=none):a≠b:=by
 intro e;subst e;rw[h]at h';cases h'
section
variable(P:Program)(w:World)
def cf(H:Hp)(h:Heap)(a:Addr):HO->Prop
 |.lst xs=>xs.length<=sizeLine/\∃(its:List Value)(n:Nat),Vals xs its/\h.get? a=some { cls:=.type "list",data:=.seq its.toArray n }
 |.tup xs=>xs.length<=sizeLine/\∃ its:List Value,Vals xs its/\IsTup h a its.toArray
 |.dK kvs=>kvs.length<=sizeLine/\(a == sysModules)=false/\∃ vs,KV kvs vs/\h.DictOf (bN P w) a vs
 |.dT kvs=>kvs.length<=sizeLine/\(a == sysModules)=false/\∃ xs:List (List Key×Addr×Value),
   Paired (fun(p:List Key×V) (q:List Key×Addr×Value)=>p.1=q.1/\H q.2.1=some (.tup (p.1.map kV))/\RelV p.2 q.2.2) kvs xs /\
   ∃ o es ep,h.get? a=some o/\o.ExactDict/\o.data=.dict es ep/\es.toList=xs.map (entryOfKey (tupleKind (bN P w)))/\(xs.map (·.1)).Nodup
 |.set S n=>h.SetOf (intKind P w) a S n
 |.ins C dx fs=>H dx=some (.own a)/\fs.length<=1000/\dx≠a/\h.get? a=some (Rm C dx) /\
   ∃ mA,h.Ns1 dx mA/\(∀ f,RelO (fs.lookup f) (mA f))/\PySem.Within mA (fs.map (·.1))
 |.own _=>∃ o,h.get? a=some o
 |.xd fs=>∃ mA,h.Ns1 a mA/\∀ f,RelO (fs.lookup f) (mA f)
 |.rng lo hi=>∃ t u v,h.get? a=some { cls:=.type "range",data:=.fields #[.int lo t,.int hi u,.int 1 v] }
 |.frz o u=>h.get? a=some o/\cf H h a u
 |.tbl ps=>h.get? a=some { cls:=.none,data:=.fields ps }
 |.met f x=>h.get? a=some (SJ (.ref f) (.ref x))
 |.ext φ=>φ h/\(∃ o,h.get? a=some o)/\∀ h1 h2:Heap,φ h1->(∀ o,h1.get? a=some o->h2.get? a=some o)->φ h2
def HOk(H:Hp)(h:Heap):Prop:=∀ a o,H a=some o->cf P w H h a o
end
section
variable{P:Program}{w:World}{H H':Hp}{h h':Heap}{a:Addr}{o:HO}
theorem cf.lt(x:cf P w H h a o):a<h.objs.size:=by
 cases o with
 |lst xs=>obtain⟨_,_,_,_,e⟩:=x;exact Heap.lt_size e
 |tup xs=>obtain⟨_,_,_,p⟩:=x;exact p.lt
 |dK kvs=>obtain⟨_,_,_,_,o,_,_,e,_⟩:=x;exact Heap.lt_size e
 |dT kvs=>obtain⟨_,_,_,_,o,_,_,e,_⟩:=x;exact Heap.lt_size e
 |set S n=>obtain⟨o,_,_,_,e,_⟩:=x;exact Heap.lt_size e
 |ins C dx fs=>obtain⟨_,_,_,e,_⟩:=x;exact Heap.lt_size e
 |own y=>obtain⟨_,e⟩:=x;exact Heap.lt_size e
 |xd fs=>obtain⟨_,⟨_,_,_,e,_⟩,_⟩:=x;exact Heap.lt_size e
 |rng lo hi=>obtain⟨_,_,_,e⟩:=x;exact Heap.lt_size e
 |frz ob u=>obtain⟨e,_⟩:=x;exact Heap.lt_size e
 |tbl ps=>exact Heap.lt_size (show h.get? a=some _ from x)
 |met f y=>exact Heap.lt_size (show h.get? a=some _ from x)
 |ext φ=>obtain⟨_,⟨_,e⟩,_⟩:=x;exact Heap.lt_size e
theorem Paired.mapP{α β:Type}{F G:α->β->Prop}:∀{l₁:List α}{l₂:List β},Paired F l₁ l₂->(∀ a b,F a b->G a b)->Paired G l₁ l₂
 |_,_,.nil,_=>.nil
 |_,_,.cons r t,f=>.cons (f _ _ r) (Paired.mapP t f)
theorem cf.stay(x:cf P w H h a o)(k:∀ b u,(b=a∨H b=some (.own a))->h.get? b=some u->h'.get? b=some u)
  (ho:∀ b,H b=some (.own a)->H' b=some (.own a)) (ht:∀ b xs,H b=some (.tup xs)->H' b=some (.tup xs)):cf P w H' h' a o:=by
 induction o with
 |lst xs=>obtain⟨z,its,n,r,e⟩:=x;exact⟨z,its,n,r,k _ _ (.inl rfl) e⟩
 |tup xs=>obtain⟨z,its,r,ob,e,c⟩:=x;exact⟨z,its,r,ob,k _ _ (.inl rfl) e,c⟩
 |dK kvs=>obtain⟨z,y,vs,r,ob,es,ep,e,c⟩:=x;exact⟨z,y,vs,r,ob,es,ep,k _ _ (.inl rfl) e,c⟩
 |dT kvs =>
  obtain⟨z,y,xs,r,ob,es,ep,e,c⟩:=x
  exact⟨z,y,xs,Paired.mapP r fun p q z=>⟨z.1,ht _ _ z.2.1,z.2.2⟩,ob,es,ep,k _ _ (.inl rfl) e,c⟩
 |set S n=>obtain⟨ob,es,ep,t,e,c⟩:=x;exact⟨ob,es,ep,t,k _ _ (.inl rfl) e,c⟩
 |ins C dx fs =>
  obtain⟨d,z,ne,e,mA,⟨od,es,ep,e2,c⟩,r⟩:=x
  exact⟨ho _ d,z,ne,k _ _ (.inl rfl) e,mA,⟨od,es,ep,k _ _ (.inr d) e2,c⟩,r⟩
 |own y=>obtain⟨ob,e⟩:=x;exact⟨ob,k _ _ (.inl rfl) e⟩
 |xd fs=>obtain⟨mA,⟨od,es,ep,e,c⟩,r⟩:=x;exact⟨mA,⟨od,es,ep,k _ _ (.inl rfl) e,c⟩,r⟩
 |rng lo hi=>obtain⟨t,u,v,e⟩:=x;exact⟨t,u,v,k _ _ (.inl rfl) e⟩
 |frz ob u ih=>obtain⟨e,q⟩:=x;exact⟨k _ _ (.inl rfl) e,ih q⟩
 |tbl ps =>
  have e:h.get? a=some { cls:=.none,data:=.fields ps }:=x
  show h'.get? a=some { cls:=.none,data:=.fields ps }
  exact k a _ (.inl rfl) e
 |met f y =>
  have e:h.get? a=some (SJ (.ref f) (.ref y)):=x
  show h'.get? a=some (SJ (.ref f) (.ref y))
  exact k a _ (.inl rfl) e
 |ext φ=>obtain⟨p,⟨o,e⟩,st⟩:=x;exact⟨st _ _ p fun o q=>k _ _ (.inl rfl) q,⟨o,k _ _ (.inl rfl) e⟩,st⟩
theorem HOk.lt(x:HOk P w H h)(e:H a=some o):a<h.objs.size:=(x a o e).lt
theorem HOk.fresh(x:HOk P w H h)(e:h.objs.size<=a):H a=none:=by
 cases q:H a with
 |none=>rfl
 |some u=>exact absurd (Qd (x.lt q) e) (Qs _)
theorem HOk.kept(x:HOk P w H h)(k:∀ b u,h.get? b=some u->h'.get? b=some u):HOk P w H h':=fun a o e =>
 (x a o e).stay (fun b u _ q=>k b u q) (fun _ q=>q) fun _ _ q=>q
theorem HOk.laid(x:HOk P w H h)(k:∀ b u,h.get? b=some u->h'.get? b=some u)(hp:h.objs.size<=a)(new:cf P w (upd H a o) h' a o):HOk P w (upd H a o) h':=fun b u e=>by
 have hn:=x.fresh hp
 by_cases hb:b=a
 ·subst hb;rw[af]at e;cases e;exact new
 ·rw[ao hb]at e
  exact(x b u e).stay (fun c v _ q=>k c v q) (fun c q=>by rw[ao (aM q hn)];exact q) fun c xs q=>by rw[ao (aM q hn)];exact q
end
def Rd(H:Hp)(a:Addr)(u:HO):Prop:=H a=some u∨∃ o,H a=some (.frz o u)
theorem Rd.ok{P:Program}{w:World}{H:Hp}{h:Heap}{a:Addr}{u:HO}(r:Rd H a u)(x:HOk P w H h):cf P w H h a u:=by
 rcases r with r | ⟨o,r⟩
 ·exact x a u r
 ·obtain⟨_,q⟩:=x a _ r
  exact q
def Mut:Option HO->Prop
 |some (.lst _)=>True
 |some (.dK _)=>True
 |some (.dT _)=>True
 |some (.set _ _)=>True
 |some (.ins _ _ _)=>True
 |some (.ext _)=>True
 |_=>False
section
variable{P:Program}{w:World}{H:Hp}{h h':Heap}{x e:Addr}{o':HO}
theorem HOk.write(ok:HOk P w H h)(mu:Mut (H x))(he:e=x∨H e=some (.own x))(k:∀ b u,b≠e->h.get? b=some u->h'.get? b=some u)(heo:∃ u,h'.get? e=some u)
  (new:cf P w (upd H x o') h' x o'):HOk P w (upd H x o') h':=fun b u q=>by
 have nown:∀ c y,H c=some (.own y)->c≠x:=fun c y r z=>by subst z;rw[r]at mu;exact mu
 have ntup:∀ c xs,H c=some (.tup xs)->c≠x:=fun c xs r z=>by subst z;rw[r]at mu;exact mu
 by_cases hb:b=x
 ·subst hb;rw[af]at q;cases q;exact new
 ·rw[ao hb]at q
  by_cases hbe:b=e
  ·have q':H b=some (.own x):=by
    rcases he with z | z
    ·exact absurd (hbe.trans z) hb
    ·rw[hbe];exact z
   rw[q]at q';cases q'
   obtain⟨v,hv⟩:=heo
   exact⟨v,by rw[hbe];exact hv⟩
  ·refine(ok b u q).stay (fun c v hc r=>k c v ?_ r) (fun c r=>by rw[ao (nown c b r)];exact r) fun c xs r=>by rw[ao (ntup c xs r)];exact r
   rcases hc with rfl | hc
   ·exact hbe
   ·rintro rfl
    rcases he with z | z
    ·exact nown c b hc z
    ·rw[hc]at z;cases z;exact hb rfl
end
structure Un(fs ex:List Addr)(H H':Hp)(h h':Heap):Prop where
 keep:∀ b o,h.get? b=some o->H b=none->b∉fs->b∉ex->h'.get? b=some o
 slot:∀ b o,h.get? b=some o->H b=none->b∈fs->b∉ex->∃ sl,h'.get? b=some { o with slots:=sl }
 free:∀ b o,h.get? b=some o->H b=none->b∉ex->H' b=none
 there:∀ b o,h.get? b=some o->b∉ex->∃ o',h'.get? b=some o'
 tups:∀ b xs,H b=some (.tup xs)->H' b=some (.tup xs)
 frzs:∀ b o u,H b=some (.frz o u)->H' b=some (.frz o u)
 tbls:∀ b ps,H b=some (.tbl ps)->∃ more,H' b=some (.tbl (ps++more))
section
variable{fs fs' ex ex':List Addr}{H H1 H2:Hp}{h h1 h2 h':Heap}{a x e:Addr}{o:HO}
theorem Un.any(u:Un fs ex H H1 h h1){b:Addr}{ob:Obj}(q:h.get? b=some ob)(n:H b=none)(hx:b∉ex):∃ sl,h1.get? b=some { ob with slots:=sl }:=by
 by_cases hb:b∈fs
 ·exact u.slot b ob q n hb hx
 ·exact⟨ob.slots,u.keep b ob q n hb hx⟩
theorem Un.kept(k:∀ b u,h.get? b=some u->h'.get? b=some u):Un fs ex H H h h' :=
 ⟨fun b ob q _ _ _=>k b ob q,fun b ob q _ _ _=>⟨ob.slots,k b ob q⟩,fun _ _ _ n _=>n,fun b ob q _=>⟨ob,k b ob q⟩,fun _ _ q=>q,fun _ _ _ q=>q,fun _ ps q=>⟨#[],by rw[q];simp⟩⟩
theorem Un.refl:Un fs ex H H h h:=Un.kept fun _ _ q=>q
theorem Un.laid(k:∀ b u,h.get? b=some u->h'.get? b=some u)(hp:h.objs.size<=a)(hn:H a=none):Un fs ex H (upd H a o) h h' where
 keep:=fun b u q _ _ _=>k b u q
 slot:=fun b u q _ _ _=>⟨u.slots,k b u q⟩
 free:=fun b u q n _=>by rw[ao (Qk (Qd (Heap.lt_size q) hp))];exact n
 there:=fun b u q _=>⟨u,k b u q⟩
 tups:=fun b xs q=>by rw[ao (aM q hn)];exact q
 frzs:=fun b u xs q=>by rw[ao (aM q hn)];exact q
 tbls:=fun b ps q=>⟨#[],by rw[ao (aM q hn),q];simp⟩
theorem Un.write(mu:Mut (H x))(he:e=x∨H e=some (.own x))(k:∀ b u,b≠e->h.get? b=some u->h'.get? b=some u)(heo:∃ u,h'.get? e=some u):Un fs ex H (upd H x o) h h':=by
 have hx:∀ b,H b=none->b≠x:=fun b n z=>by subst z;rw[n]at mu;exact mu
 have hb:∀ b,H b=none->b≠e:=fun b n z=>by
  subst z
  rcases he with r | r
  ·exact hx b n r
  ·rw[n]at r;cases r
 have hm:∀ b u,H b=some u->¬ Mut (some u)->b≠x:=fun b u q nm z=>by subst z;rw[q]at mu;exact nm mu
 refine⟨fun b u q n _ _=>k b u (hb b n) q,fun b u q n _ _=>⟨u.slots,k b u (hb b n) q⟩,fun b u q n _=>by rw[ao (hx b n)];exact n,fun b u q _=>?_,
  fun b xs q=>by rw[ao (hm b _ q fun z=>z)];exact q,fun b u xs q=>by rw[ao (hm b _ q fun z=>z)];exact q,fun b ps q=>⟨#[],by rw[ao (hm b _ q fun z=>z),q];simp⟩⟩
 by_cases hbe:b=e
 ·subst hbe;exact heo
 ·exact⟨u,k b u hbe q⟩
end
def trk(h:Heap)(H:Hp):List Addr:=(Q8 h.objs.size).filter fun a=>(H a).isSome
def hidT(h:Heap)(H:Hp):Heap:=PySem.W.hideAll h (trk h H)
theorem JC(h:Heap)(H:Hp):(hidT h H).objs.size=h.objs.size:=PySem.W.hideAll_size _ _
theorem pQ{h:Heap}{H:Hp}{b:Addr}{o:Obj}(e:h.get? b=some o)(n:H b=none):(hidT h H).get? b=some o :=
 PySem.W.hideAll_get _ e fun hm=>by
  have q:(H b).isSome=true:=(R4.mp hm).2
  rw[n]at q;simp at q
theorem Oh{h:Heap}{H:Hp}{b:Addr}{o:Obj}(e:(hidT h H).get? b=some o):h.get? b=some o/\H b=none:=by
 have e':h.get? b=some o:=PySem.W.of_hideAll (trk h H) e
 refine⟨e',?_⟩
 cases q:H b with
 |none=>rfl
 |some x =>
  have hm:b∈trk h H:=R4.mpr ⟨Rt.mpr (Heap.lt_size e'),by simp[q]⟩
  have z:(hidT h H).get? b=none:=PySem.W.hideAll_none (trk h H) hm
  rw[z]at e;cases e
end L2
namespace L2
open PySem PySem.Spec PyProof.Rows
structure Mod(K:Pt)(mg:Str->Option Value)(base:Heap):Prop where
 kin:K.In base
 glob:base.Ns mainGlobals mg
 blt:∃ mb,base.Ns builtinsNs mb/\∀ x:Str,x≠"__name__"->mb x=bootBuiltins x
 nolimit:base.NoLimit
structure Cx where
 prog:Program
 w:World
 K:Pt
 mg:Str->Option Value
 base:Heap
 A:Around
 N:List Str
 s₀:Shared
 H₀:Hp
 env:Env
 outer:List Env
 stack:List Env
 ex:List Addr
 fn:Str->Bool
 calm:Bool
 pn:List (Addr×Obj)
 xe:Value->Shared->Prop
def frs(l:List Env):List Addr:=l.filterMap (·.frame)
abbrev Cx.fs(X:Cx):List Addr:=frs X.outer
def Vis(sc:Scope)(x:Str):Prop:=sc.names.lookup x=some .local∨sc.names.lookup x=some .cell∨sc.names.lookup x=some .free
def Loc(sc:Scope)(x:Str):Prop:=sc.names.lookup x=some .local∨sc.names.lookup x=some .cell
def Look(env:Env)(h:Heap)(m:Str->Option Value)(x:Str)(u:Value):Prop :=
 (env.kindOf x=some .local/\m x=some u)∨((env.kindOf x=some .cell∨env.kindOf x=some .free)/\∃ c,env.cells.lookup x=some c/\h.IsCell c (some u))
structure Cx.Ok(X:Cx):Prop where
 mod:Mod X.K X.mg X.base
 kind:X.env.scope.kind=.function
 glob:X.env.globals=mainGlobals
 blt:X.env.builtins=builtinsNs
 above:X.s₀.heap.objs.size<=X.env.locals
 inj:∀ x y c,X.env.cells.lookup x=some c->X.env.cells.lookup y=some c->x=y
 has:∀ x,(X.env.kindOf x=some .cell∨X.env.kindOf x=some .free)->∃ c,X.env.cells.lookup x=some c
 cab:∀ x c,X.fn x=true->X.env.cells.lookup x=some c->X.s₀.heap.objs.size<=c
 hd:X.calm=true->X.A.handled=none
 frames:X.A.frames=some X.stack
 stk:X.stack=X.outer∨(X.stack=X.env::X.outer/\X.env.frame=some X.env.locals)
 exf:∀ b∈X.ex,b≠X.env.locals/\∀ x c,X.env.cells.lookup x=some c->c≠b
 bs:∀ b o,X.base.get? b=some o->X.s₀.heap.get? b=some o/\X.H₀ b=none
 bsz:X.base.objs.size<=X.s₀.heap.objs.size
 noex:∀ b o,X.base.get? b=some o->b∉X.ex
 exfs:∀ b∈X.ex,b∉X.fs
 funs:X.s₀.heap.FunFrames X.base X.outer
 frf:∀ b∈X.fs,X.H₀ b=none
structure Inv(X:Cx)(pins:List (Addr×Obj))(σ:List (Option V))(H:Hp)(s:Shared):Prop where
 ok:X.Ok
 os:s.os=X.s₀.os
 bare:AllBare s.gens
 base:Un X.fs X.ex X.H₀ H X.s₀.heap s.heap
 loc:∃ m,s.heap.Ns X.env.locals m/\∀(i:Nat)(x:Str)(v:V),X.N[i]?=some x->σ[i]?=some (some v)->Vis X.env.scope x->∃ u,RelV v u/\Look X.env s.heap m x u
 cell:∀ x c,X.env.cells.lookup x=some c->∃ v,s.heap.IsCell c v
 free:H X.env.locals=none
 freeC:∀ x c,X.env.cells.lookup x=some c->H c=none
 pin:∀ p∈X.pn++pins,s.heap.get? p.1=some p.2/\H p.1=none/\p.1≠X.env.locals/\p.1∉X.fs/\∀ v,p.2.data≠.cell v
 hok:HOk X.prog X.w H s.heap
 len:σ.length=X.N.length
section
variable{X:Cx}{pins:List (Addr×Obj)}{σ:List (Option V)}{H H':Hp}{s:Shared}{h':Heap}
theorem Cx.Ok.nofr(ok:X.Ok){b:Addr}{o:Obj}(e:X.base.get? b=some o):b∉X.fs:=fun hb=>by
 have:=(ok.funs.mem hb).1
 rw[e]at this;cases this
theorem Inv.bs(I:Inv X pins σ H s):∀ b o,X.base.get? b=some o->s.heap.get? b=some o/\H b=none:=fun b o e =>
 ⟨I.base.keep b o (I.ok.bs b o e).1 (I.ok.bs b o e).2 (I.ok.nofr e) (I.ok.noex b o e),I.base.free b o (I.ok.bs b o e).1 (I.ok.bs b o e).2 (I.ok.noex b o e)⟩
theorem Inv.bk(I:Inv X pins σ H s):∀ b o,X.base.get? b=some o->s.heap.get? b=some o:=fun b o e=>(I.bs b o e).1
theorem Inv.mod(I:Inv X pins σ H s):Mod X.K X.mg X.base:=I.ok.mod
theorem Inv.kIn(I:Inv X pins σ H s):X.K.In s.heap:=I.ok.mod.kin.keeps I.bk
theorem Inv.nolimit(I:Inv X pins σ H s):s.heap.NoLimit:=I.ok.mod.nolimit.keeps I.bk
theorem Inv.lt(I:Inv X pins σ H s):X.env.locals<s.heap.objs.size:=let ⟨_,hn,_⟩:=I.loc;hn.lt
theorem Inv.sz(I:Inv X pins σ H s):X.s₀.heap.objs.size<=s.heap.objs.size:=QG I.ok.above (Ql I.lt)
theorem Inv.nofs(I:Inv X pins σ H s){a:Addr}(h:s.heap.objs.size<=a):a∉X.fs:=fun hb=>by
 obtain⟨_,o,ho,_⟩:=I.ok.funs.mem hb
 exact absurd (Qd (Heap.lt_size ho) (QG I.sz h)) (Qs _)
theorem Inv.cne(I:Inv X pins σ H s):∀ x c,X.env.cells.lookup x=some c->c≠X.env.locals:=fun x c e z=>by
 obtain⟨v,o,ho,hd⟩:=I.cell x c e
 obtain⟨m,⟨o',es,ep,ho',hd',_⟩,_⟩:=I.loc
 rw[z,ho']at ho;cases ho;rw[hd']at hd;cases hd
theorem Inv.funs(I:Inv X pins σ H s):s.heap.FunFrames X.base X.outer:=by
 have all:∀(l:List Env),(∀ b∈frs l,b∈X.fs)->X.s₀.heap.FunFrames X.base l->s.heap.FunFrames X.base l:=by
  intro l
  induction l with
  |nil=>intro _ _;trivial
  |cons env r ih =>
   intro hs hl
   obtain⟨hk,⟨L,o,hf,hn,ho,hd⟩,hr⟩:=hl
   have hL:L∈X.fs:=hs L (by unfold frs;rw[SA,hf];exact PH)
   obtain⟨sl,e⟩:=I.base.slot L o ho (I.ok.frf L hL) hL fun z=>I.ok.exfs L z hL
   exact⟨hk,⟨L,_,hf,hn,e,hd⟩,ih (fun b hb=>hs b (by unfold frs;rw[SA,hf];exact PD _ hb)) hr⟩
 exact all X.outer (fun _ hb=>hb) I.ok.funs
theorem Inv.stack(I:Inv X pins σ H s):s.heap.FunFrames X.base X.stack:=by
 rcases I.ok.stk with e | ⟨e,hf⟩
 ·rw[e];exact I.funs
 ·rw[e]
  obtain⟨m,hn,_⟩:=I.loc
  refine .cons (by rw[I.ok.kind];decide) hf hn ?_ I.funs
  exact Heap.get?_none_of_le (QG I.ok.bsz I.ok.above)
theorem Inv.stkSub(I:Inv X pins σ H s):∀ b∈frs X.stack,b∈X.env.locals::X.fs:=fun b hb=>by
 rcases I.ok.stk with e | ⟨e,hf⟩
 ·rw[e]at hb;exact PD _ hb
 ·rw[e]at hb
  unfold frs at hb
  rw[SA,hf]at hb
  exact hb
theorem Inv.stkFree(I:Inv X pins σ H s):∀ b∈frs X.stack,H b=none:=fun b hb=>by
 rcases Pw.mp (I.stkSub b hb)with e | hb
 ·rw[e];exact I.free
 ·obtain⟨_,o,ho,_⟩:=I.ok.funs.mem hb
  exact I.base.free b o ho (I.ok.frf b hb) fun z=>I.ok.exfs b z hb
theorem Inv.step{g':Array GenState}{t':Nat}{d':Drawn}{ch:List Addr}(I:Inv X pins σ H s)
  (hch:∀ b∈ch,(b∈X.ex∨X.s₀.heap.objs.size<=b)/\b≠X.env.locals/\(∀ x c,X.env.cells.lookup x=some c->c≠b)/\∀ p∈X.pn++pins,p.1≠b)
  (keep:∀ b o,b≠X.env.locals->b∉X.fs->b∉ch->s.heap.get? b=some o->H b=none->h'.get? b=some o)
  (slot:∀ b o,b≠X.env.locals->b∈X.fs->b∉ch->s.heap.get? b=some o->H b=none->∃ sl,h'.get? b=some { o with slots:=sl }) (free:∀ b o,b∉ch->s.heap.get? b=some o->H b=none->H' b=none)
  (there:∀ b o,b∉ch->s.heap.get? b=some o->∃ o',h'.get? b=some o')
  (tups:∀ b xs,H b=some (.tup xs)->H' b=some (.tup xs)) (frzs:∀ b o u,H b=some (.frz o u)->H' b=some (.frz o u)) (tbls:∀ b ps,H b=some (.tbl ps)->∃ more,H' b=some (.tbl (ps++more)))
  (ns:∀ m,s.heap.Ns X.env.locals m->h'.Ns X.env.locals m) (hok:HOk X.prog X.w H' h') (hg:AllBare g') :
  Inv X pins σ H' { s with heap:=h',gens:=g',drawn:=d',toks:=t' }:=by
 have neL:∀ b o,X.s₀.heap.get? b=some o->b≠X.env.locals:=fun b o e=>Qk (Qd (Heap.lt_size e) I.ok.above)
 have neC:∀ b o,X.s₀.heap.get? b=some o->b∉X.ex->b∉ch:=fun b o e hx hb=>by
  rcases(hch b hb).1 with z | z
  ·exact hx z
  ·exact absurd (Qd (Heap.lt_size e) z) (Qs _)
 have cellK:∀ x c,X.env.cells.lookup x=some c->∀ v,s.heap.IsCell c v->h'.IsCell c v:=fun x c e v ⟨o,ho,hd⟩=>by
  have nch:c∉ch:=fun z=>(hch c z).2.2.1 x c e rfl
  by_cases hc:c∈X.fs
  ·obtain⟨sl,q⟩:=slot c o (I.cne x c e) hc nch ho (I.freeC x c e)
   exact⟨_,q,hd⟩
  ·exact⟨o,keep c o (I.cne x c e) hc nch ho (I.freeC x c e),hd⟩
 refine⟨I.ok,I.os,hg,⟨fun b o e n hb hx=>?_,fun b o e n hb hx=>?_,fun b o e n hx=>?_,fun b o e hx=>?_,fun b xs e=>tups b xs (I.base.tups b xs e),fun b o xs e=>frzs b o xs (I.base.frzs b o xs e),fun b ps e=>?_⟩,?_,fun x c e=>?_,?_,fun x c e=>?_,fun p hp=>?_,hok,I.len⟩
 ·exact keep b o (neL b o e) hb (neC b o e hx) (I.base.keep b o e n hb hx) (I.base.free b o e n hx)
 ·obtain⟨sl,e1⟩:=I.base.slot b o e n hb hx
  obtain⟨sl',e2⟩:=slot b _ (neL b o e) hb (neC b o e hx) e1 (I.base.free b o e n hx)
  exact⟨sl',e2⟩
 ·obtain⟨o',e1⟩:=I.base.there b o e hx
  exact free b o' (neC b o e hx) e1 (I.base.free b o e n hx)
 ·obtain⟨o',e1⟩:=I.base.there b o e hx
  exact there b o' (neC b o e hx) e1
 ·obtain⟨m1,e1⟩:=I.base.tbls b ps e
  obtain⟨m2,e2⟩:=tbls b _ e1
  exact⟨m1++m2,by rw[e2,Array.append_assoc]⟩
 ·obtain⟨m,hn,hl⟩:=I.loc
  refine⟨m,ns m hn,fun i x v e1 e2 e3=>?_⟩
  obtain⟨u,r,l⟩:=hl i x v e1 e2 e3
  refine⟨u,r,?_⟩
  rcases l with l | ⟨k,c,e,z⟩
  ·exact .inl l
  ·exact .inr ⟨k,c,e,cellK x c e _ z⟩
 ·obtain⟨v,z⟩:=I.cell x c e
  exact⟨v,cellK x c e v z⟩
 ·obtain⟨m,⟨o,_,_,ho,_⟩,_⟩:=I.loc
  exact free _ o (fun z=>(hch _ z).2.1 rfl) ho I.free
 ·obtain⟨v,o,ho,hd⟩:=I.cell x c e
  exact free c o (fun z=>(hch c z).2.2.1 x c e rfl) ho (I.freeC x c e)
 ·obtain⟨e,n,ne,nf,d⟩:=I.pin p hp
  have nch:p.1∉ch:=fun z=>(hch p.1 z).2.2.2 p hp rfl
  exact⟨keep p.1 p.2 ne nf nch e n,free p.1 p.2 nch e n,ne,nf,d⟩
theorem Inv.un{t':Nat}(I:Inv X pins σ H s)(u:Un X.fs [] H H' s.heap h')(hok:HOk X.prog X.w H' h'):Inv X pins σ H' { s with heap:=h',toks:=t' }:=by
 obtain⟨m,⟨o,es,ep,ho,r⟩,_⟩:=id I.loc
 obtain⟨sl,hL⟩:=u.any ho I.free (by simp)
 exact I.step (g':=s.gens) (d':=s.drawn) (ch:=[]) (fun _ z=>nomatch z) (fun b o _ hb _ e n=>u.keep b o e n hb (by simp)) (fun b o _ hb _ e n=>u.slot b o e n hb (by simp)) (fun b o _ e n=>u.free b o e n (by simp)) (fun b o _ e=>u.there b o e (by simp)) u.tups u.frzs u.tbls (fun m' hm=>by
  obtain⟨o',es',ep',ho',r'⟩:=hm
  rw[ho]at ho';cases ho'
  exact⟨_,es',ep',hL,r'⟩) hok I.bare
theorem Inv.call{g':Array GenState}{t':Nat}{d':Drawn}{ch:List Addr}(I:Inv X pins σ H s)(u:Un (frs X.stack) ch H H' s.heap h')(hok:HOk X.prog X.w H' h')(hg:AllBare g')
  (hch:∀ b∈ch,(b∈X.ex∨X.s₀.heap.objs.size<=b)/\b≠X.env.locals/\(∀ x c,X.env.cells.lookup x=some c->c≠b)/\∀ p∈X.pn++pins,p.1≠b) :
  Inv X pins σ H' { s with heap:=h',gens:=g',drawn:=d',toks:=t' }:=by
 obtain⟨m,⟨o,es,ep,ho,r⟩,_⟩:=id I.loc
 obtain⟨sl,hL⟩:=u.any ho I.free fun z=>(hch _ z).2.1 rfl
 exact I.step (ch:=ch) hch (fun b o hL hb hc e n=>u.keep b o e n (fun z=>(Pw.mp (I.stkSub b z)).elim hL hb) hc) (fun b o _ _ hc e n=>u.any e n hc) (fun b o hc e n=>u.free b o e n hc) (fun b o hc e=>u.there b o e hc) u.tups u.frzs u.tbls (fun m' hm=>by
  obtain⟨o',es',ep',ho',r'⟩:=hm
  rw[ho]at ho';cases ho'
  exact⟨_,es',ep',hL,r'⟩) hok hg
theorem Inv.turned{t':Nat}{it:Addr}(I:Inv X pins σ H s)(k:∀ b o,b≠it->s.heap.get? b=some o->h'.get? b=some o)(hn:H it=none)(hL:it≠X.env.locals)
  (h1:it∈X.ex∨X.s₀.heap.objs.size<=it) (h2:∀ x c,X.env.cells.lookup x=some c->c≠it) (h3:∀ p∈X.pn++pins,p.1≠it):Inv X pins σ H { s with heap:=h',toks:=t' }:=by
 have nit:∀ b u,H b=some u->b≠it:=fun b u e z=>by rw[z,hn]at e;cases e
 refine I.step (g':=s.gens) (d':=s.drawn) (ch:=[it]) (fun b hb=>?_) (fun b o _ _ hc e _=>k b o (fun z=>hc (by simp[z])) e) (fun b o _ _ hc e _=>⟨o.slots,k b o (fun z=>hc (by simp[z])) e⟩) (fun _ _ _ _ n=>n)
  (fun b o hc e=>⟨o,k b o (fun z=>hc (by simp[z])) e⟩) (fun _ _ e=>e) (fun _ _ _ e=>e) (fun b ps e=>⟨#[],by rw[e];simp⟩) (fun m hm=>?_) (fun b u e=>?_) I.bare
 ·have e:b=it:=by simpa using hb
  subst e
  exact⟨h1,hL,h2,h3⟩
 ·obtain⟨o,es,ep,ho,r⟩:=hm
  exact⟨o,es,ep,k _ o (Ne.symm hL) ho,r⟩
 ·refine(I.hok b u e).stay (fun c v hc q=>k c v ?_ q) (fun _ q=>q) fun _ _ q=>q
  rcases hc with z | z
  ·rw[z];exact nit b u e
  ·exact nit c _ z
theorem Inv.tok(I:Inv X pins σ H s)(t:Nat):Inv X pins σ H { s with toks:=t }:=I.un (h':=s.heap) (t':=t) Un.refl I.hok
theorem Inv.kept{t':Nat}(I:Inv X pins σ H s)(k:∀ b u,s.heap.get? b=some u->h'.get? b=some u):Inv X pins σ H { s with heap:=h',toks:=t' }:=I.un (Un.kept k) (I.hok.kept k)
theorem Inv.laid{a:Addr}{o:HO}{t':Nat}(I:Inv X pins σ H s)(k:∀ b u,s.heap.get? b=some u->h'.get? b=some u)(hp:s.heap.objs.size<=a)(new:cf X.prog X.w (upd H a o) h' a o) :
  Inv X pins σ (upd H a o) { s with heap:=h',toks:=t' }:=I.un (Un.laid k hp (I.hok.fresh hp)) (I.hok.laid k hp new)
theorem Inv.write{x e:Addr}{o:HO}{t':Nat}(I:Inv X pins σ H s)(mu:Mut (H x))(he:e=x∨H e=some (.own x))(k:∀ b u,b≠e->s.heap.get? b=some u->h'.get? b=some u)(heo:∃ u,h'.get? e=some u)
  (new:cf X.prog X.w (upd H x o) h' x o):Inv X pins σ (upd H x o) { s with heap:=h',toks:=t' }:=I.un (Un.write mu he k heo) (I.hok.write mu he k heo new)
theorem Inv.weak{σ':List (Option V)}(I:Inv X pins σ H s)(hl:σ'.length=σ.length)(w:∀ (i:Nat) v,σ'[i]?=some (some v)->σ[i]?=some (some v)):Inv X pins σ' H s :=
 ⟨I.ok,I.os,I.bare,I.base,let ⟨m,hn,hl'⟩:=I.loc;⟨m,hn,fun i x v e1 e2 e3=>hl' i x v e1 (w i v e2) e3⟩,I.cell,I.free,I.freeC,I.pin,I.hok,hl.trans I.len⟩
theorem Inv.pins_of{pins':List (Addr×Obj)}(I:Inv X pins σ H s)(h:∀ p∈pins',s.heap.get? p.1=some p.2/\H p.1=none/\p.1≠X.env.locals/\p.1∉X.fs/\∀ v,p.2.data≠.cell v):Inv X pins' σ H s :=
 ⟨I.ok,I.os,I.bare,I.base,I.loc,I.cell,I.free,I.freeC,fun p hp=>(PM.mp hp).elim (fun z=>I.pin p (QC _ z)) (h p),I.hok,I.len⟩
theorem EO{N:List Str}(hN:N.Nodup){i j:Nat}{x:Str}(a:N[i]?=some x)(b:N[j]?=some x):i=j:=by
 obtain⟨h1,e1⟩:=Pp.mp a
 obtain⟨h2,e2⟩:=Pp.mp b
 exact(List.getElem_inj hN).mp (e1.trans e2.symm)
theorem Hy{M:Model}{A:Around}{E:Value->Shared->Prop}{i:Nat}{x:Str}{v:V}{u:Value}{Q:Unit->Shared->Prop}(I:Inv X pins σ H s)(hN:X.N.Nodup)(hi:X.N[i]?=some x)(hx:Loc X.env.scope x)(r:RelV v u)
  (h:∀ s',Inv X pins (σ.set i (some v)) H s'->(∃ a,Heap.SameBut a s.heap s'.heap/\(a=X.env.locals∨X.env.cells.lookup x=some a))->Q () s') (hf:X.fn x=true∨X.env.scope.names.lookup x=some .local:=by first | exact .inl rfl | exact .inr rfl | assumption):wpAny M A (storeName X.env x u) Q E s:=by
 obtain⟨m,hn,hl⟩:=id I.loc
 have hcls:(X.env.scope.kind == .class||(X.env.scope.kind == .module&&X.env.locals != X.env.globals))=false:=by rw[I.ok.kind];rfl
 have hiσ:i<σ.length:=by rw[I.len];exact(Pp.mp hi).1
 have cne:=I.cne
 have tracked:∀{a:Addr}{h':Heap},(∃ o,s.heap.get? a=some o/\H a=none)->Heap.SameBut a s.heap h'->HOk X.prog X.w H h':=fun{a h'} ha hs b ob e=>by
  obtain⟨_,_,hfree⟩:=ha
  refine(I.hok b ob e).stay (fun c w' hc q=>(hs.2 c ?_).trans q) (fun _ q=>q) fun _ _ q=>q
  rintro rfl
  rcases hc with rfl | hc
  ·rw[hfree]at e;cases e
  ·rw[hfree]at hc;cases hc
 rcases hx with hk | hk
 ·refine wpAny_storeName_local hk hn (fun h' hn' hs=>?_) hcls
  obtain⟨oL,_,_,hoL,_⟩:=id hn
  refine h _ ⟨I.ok,I.os,I.bare,⟨fun b o e n hb hx=>?_,fun b o e n hb hx=>?_,I.base.free,fun b o e hx=>?_,I.base.tups,I.base.frzs,I.base.tbls⟩,⟨_,hn',fun j y v' e1 e2 e3=>?_⟩,fun y c e=>?_,I.free,I.freeC,fun p hp=>?_,tracked ⟨oL,hoL,I.free⟩ hs,by simpa using I.len⟩ ⟨_,hs,.inl rfl⟩
  ·exact(hs.2 b (Qk (Qd (Heap.lt_size e) I.ok.above))).trans (I.base.keep b o e n hb hx)
  ·obtain⟨sl,e1⟩:=I.base.slot b o e n hb hx
   exact⟨sl,(hs.2 b (Qk (Qd (Heap.lt_size e) I.ok.above))).trans e1⟩
  ·obtain⟨o',e1⟩:=I.base.there b o e hx
   exact⟨o',(hs.2 b (Qk (Qd (Heap.lt_size e) I.ok.above))).trans e1⟩
  ·by_cases hj:j=i
   ·subst hj
    rw[hi]at e1;cases e1
    rw[Sj hiσ]at e2
    cases e2
    exact⟨u,r,.inl ⟨hk,by simp⟩⟩
   ·rw[Sx (Ne.symm hj)]at e2
    obtain⟨u',r',q⟩:=hl j y v' e1 e2 e3
    refine⟨u',r',?_⟩
    rcases q with⟨k,e⟩ | ⟨k,c,e,z⟩
    ·refine .inl ⟨k,?_⟩
     have:y≠x:=fun e=>hj (EO hN e1 (e▸hi))
     simp[this,e]
    ·exact .inr ⟨k,c,e,z.sameBut hs (cne y c e)⟩
  ·obtain⟨w',z⟩:=I.cell y c e
   exact⟨w',z.sameBut hs (cne y c e)⟩
  ·obtain⟨e,n,ne,nf,d⟩:=I.pin p hp
   exact⟨(hs.2 p.1 ne).trans e,n,ne,nf,d⟩
 ·have hfn:X.fn x=true:=by
   rcases hf with z | z
   ·exact z
   ·rw[z]at hk;cases hk
  obtain⟨c,hc⟩:=I.ok.has x (.inl hk)
  obtain⟨w',z⟩:=I.cell x c hc
  refine wpAny_storeName_cell I.ok.kind hk hc z (fun h' hc' hs=>?_)
  obtain⟨oc,hoc,hocd⟩:=id z
  refine h { s with heap:=h' } ⟨I.ok,I.os,I.bare,⟨fun b o e n hb hx=>?_,fun b o e n hb hx=>?_,I.base.free,fun b o e hx=>?_,I.base.tups,I.base.frzs,I.base.tbls⟩,⟨m,hn.sameBut hs (Ne.symm (cne x c hc)),fun j y v' e1 e2 e3=>?_⟩,fun y c' e=>?_,I.free,I.freeC,fun p hp=>?_,tracked ⟨oc,hoc,I.freeC x c hc⟩ hs,by simpa using I.len⟩ ⟨c,hs,.inr hc⟩
  ·exact(hs.2 b (Qk (Qd (Heap.lt_size e) (I.ok.cab x c hfn hc)))).trans (I.base.keep b o e n hb hx)
  ·obtain⟨sl,e1⟩:=I.base.slot b o e n hb hx
   exact⟨sl,(hs.2 b (Qk (Qd (Heap.lt_size e) (I.ok.cab x c hfn hc)))).trans e1⟩
  ·obtain⟨o',e1⟩:=I.base.there b o e hx
   exact⟨o',(hs.2 b (Qk (Qd (Heap.lt_size e) (I.ok.cab x c hfn hc)))).trans e1⟩
  ·by_cases hj:j=i
   ·subst hj
    rw[hi]at e1;cases e1
    rw[Sj hiσ]at e2
    cases e2
    exact⟨u,r,.inr ⟨.inl hk,c,hc,hc'⟩⟩
   ·rw[Sx (Ne.symm hj)]at e2
    obtain⟨u',r',q⟩:=hl j y v' e1 e2 e3
    refine⟨u',r',?_⟩
    rcases q with q | ⟨k,c',e,z'⟩
    ·exact .inl q
    ·refine .inr ⟨k,c',e,z'.sameBut hs ?_⟩
     rintro rfl
     exact hj (EO hN e1 (I.ok.inj _ _ _ e hc▸hi))
  ·by_cases hcc:c'=c
   ·subst hcc;exact⟨_,hc'⟩
   ·obtain⟨w2,z2⟩:=I.cell y c' e
    exact⟨w2,z2.sameBut hs hcc⟩
  ·obtain⟨e,n,ne,nf,d⟩:=I.pin p hp
   refine⟨(hs.2 p.1 ?_).trans e,n,ne,nf,d⟩
   intro q
   rw[q,hoc]at e
   have q':oc=p.2:=P5 e
   exact d w' (by rw[← q'];exact hocd)
theorem pI{M:Model}{A:Around}{E:Value->Shared->Prop}{i:Nat}{x:Str}{v:V}{u:Value}{Q:Unit->Shared->Prop}(I:Inv X pins σ H s)(hN:X.N.Nodup)(hi:X.N[i]?=some x)(hx:Loc X.env.scope x)(r:RelV v u)
  (h:∀ s',Inv X pins (σ.set i (some v)) H s'->Q () s') (hf:X.fn x=true∨X.env.scope.names.lookup x=some .local:=by first | exact .inl rfl | exact .inr rfl | assumption):wpAny M A (storeName X.env x u) Q E s :=
 Hy I hN hi hx r (fun s' I' _=>h s' I') hf
theorem Inv.call'{s':Shared}{ch:List Addr}(I:Inv X pins σ H s)(ho:s'.os=s.os)(u:Un (frs X.stack) ch H H' s.heap s'.heap)(hok:HOk X.prog X.w H' s'.heap)(hg:AllBare s'.gens)
  (hch:∀ b∈ch,(b∈X.ex∨X.s₀.heap.objs.size<=b)/\b≠X.env.locals/\(∀ x c,X.env.cells.lookup x=some c->c≠b)/\∀ p∈X.pn++pins,p.1≠b):Inv X pins σ H' s':=by
 obtain⟨h',g',d',t',o'⟩:=s'
 have e:o'=s.os:=ho
 subst e
 exact I.call (g':=g') (t':=t') (d':=d') u hok hg hch
end
abbrev XK:=Value->Option Addr->Hp->Prop
abbrev St:=List (Option V)
abbrev VK:=V->Hp->Prop
abbrev TE:=St->Hp->VK->Prop
abbrev TT:=St->Hp->(Bool->Hp->Prop)->Prop
abbrev TA:=St->Hp->(List V->Hp->Prop)->Prop
structure Ends where
 nx:St->Hp->Prop
 rt:VK
 bk:St->Hp->Prop:=fun _ _=>False
 ct:St->Hp->Prop:=fun _ _=>False
abbrev TS:=Ends->St->Hp->Prop
def EP(X:Cx)(pins:List (Addr×Obj))(σ:St)(Q:VK)(u:Value)(s':Shared):Prop:=∃ v H',Inv X pins σ H' s'/\RelV v u/\Q v H'
def TP(X:Cx)(pins:List (Addr×Obj))(σ:St)(Q:Bool->Hp->Prop)(b:Bool)(s':Shared):Prop:=∃ H',Inv X pins σ H' s'/\Q b H'
def AP(X:Cx)(pins:List (Addr×Obj))(σ:St)(Q:List V->Hp->Prop)(us:List Value)(s':Shared):Prop:=∃ vs H',Inv X pins σ H' s'/\Vals vs us/\Q vs H'
def SP(X:Cx)(pins:List (Addr×Obj))(D:Ends)(f:Flow)(s':Shared):Prop :=
 match f with
 |.next=>∃ σ' H',Inv X pins σ' H' s'/\D.nx σ' H'
 |.brk=>∃ σ' H',Inv X pins σ' H' s'/\D.bk σ' H'
 |.cont=>∃ σ' H',Inv X pins σ' H' s'/\D.ct σ' H'
 |.ret u=>∃ v σ' H',Inv X pins σ' H' s'/\RelV v u/\D.rt v H'
def PE(X:Cx)(e:Expr)(t:TE):Prop :=
 ∀(pins:List (Addr×Obj))(s:Shared)(σ:St)(H:Hp)(Q:VK),Inv X pins σ H s->t σ H Q->wpAny (model X.prog X.w) X.A (eval e X.env) (EP X pins σ Q) X.xe s
def PT(X:Cx)(e:Expr)(t:TT):Prop :=
 ∀(pins:List (Addr×Obj))(s:Shared)(σ:St)(H:Hp)(Q:Bool->Hp->Prop),Inv X pins σ H s->t σ H Q->wpAny (model X.prog X.w) X.A (isTrue e X.env (eval e X.env)) (TP X pins σ Q) X.xe s
def PW(X:Cx)(e:Expr)(t:TT):Prop :=
 ∀(whole:Sem Value)(pins:List (Addr×Obj))(s:Shared)(σ:St)(H:Hp)(Q:Bool->Hp->Prop),Inv X pins σ H s->t σ H Q->wpAny (model X.prog X.w) X.A (isTrue e X.env whole) (TP X pins σ Q) X.xe s
theorem PW.pt{X:Cx}{e:Expr}{t:TT}(h:PW X e t):PT X e t:=h _
def PA(X:Cx)(es:List Expr)(t:TA):Prop :=
 ∀(pos:Pos)(pins:List (Addr×Obj))(s:Shared)(σ:St)(H:Hp)(Q:List V->Hp->Prop),Inv X pins σ H s->t σ H Q->wpAny (model X.prog X.w) X.A (spliced (backTo pos (starEach es X.env))) (AP X pins σ Q) X.xe s
def PS(X:Cx)(st:Stmt)(t:TS):Prop :=
 ∀(pins:List (Addr×Obj))(s:Shared)(σ:St)(H:Hp)(D:Ends),Inv X pins σ H s->t D σ H->wpAny (model X.prog X.w) X.A (exec st X.env) (SP X pins D) X.xe s
def PSs(X:Cx)(st:List Stmt)(t:TS):Prop :=
 ∀(pins:List (Addr×Obj))(s:Shared)(σ:St)(H:Hp)(D:Ends),Inv X pins σ H s->t D σ H->wpAny (model X.prog X.w) X.A (execs st X.env) (SP X pins D) X.xe s
theorem thn{α:Type}{t:Sem α}{Q Q':α->Shared->Prop}{M:Model}{A:Around}{E:Value->Shared->Prop}{s:Shared}(h:wpAny M A t Q E s)(hQ:∀ a s,Q a s->Q' a s):wpAny M A t Q' E s:=wpAny_mono h hQ fun _ _ x=>x
end L2
namespace L2
open PySem PySem.Spec PyProof.Rows
section
variable{X:Cx}
def tVar(i:Nat):TE:=fun σ H Q=>∃ v,σ[i]?=some (some v)/\Q v H
def tC(v:V):TE:=fun _ H Q=>Q v H
theorem pe_var{i:Nat}{x:Str}{pos:Pos}(hN:X.N[i]?=some x)(hv:Vis X.env.scope x) (hd:(x == ("__debug__" : Str))=false:=by decide) (hcd:(x == ("__classdict__" : Str))=false:=by decide):PE X (.Name x pos) (tVar i):=by
 intro pins s σ H Q I h
 obtain⟨v,e,h⟩:=h
 obtain⟨m,hn,hl⟩:=I.loc
 obtain⟨u,r,l⟩:=hl i x v hN e hv
 have fin:EP X pins σ Q u s:=⟨v,H,I,r,h⟩
 rcases l with⟨hk,hm⟩ | ⟨hk,c,hc,hcell⟩
 ·exact wpAny_Name (wpAny_loadName_local I.ok.kind hk hn hm fin) hd
 ·rcases hk with hk | hk
  ·exact wpAny_Name (wpAny_loadName_cell I.ok.kind hk hc hcell fin) hd
  ·exact wpAny_Name (wpAny_loadName_free I.ok.kind hk hc hcell fin hcd) hd
theorem ah{i j pos}:PE X (.Constant (.int i) j pos) (tC (.int i)):=fun _ _ _ H _ I h=>wpAny_Constant_int ⟨.int i,H,I.tok _,⟨_,rfl⟩,h⟩
theorem Cg{b j pos}:PE X (.Constant (.bool b) j pos) (tC (.bl b)):=fun _ _ _ H _ I h=>Constant_bool ⟨.bl b,H,I,rfl,h⟩
theorem gG{j pos}:PE X (.Constant .none j pos) (tC .non):=fun _ _ _ H _ I h=>Constant_none ⟨.non,H,I,rfl,h⟩
def Gl(X:Cx)(x:Str):Prop:=X.env.kindOf x=some .globalImplicit
theorem wO{E:Value->Shared->Prop}{pins:List (Addr×Obj)}{s:Shared}{σ:St}{H:Hp}{x:Str}{u:Value}{pos:Pos}{Q:Value->Shared->Prop}(I:Inv X pins σ H s)(hg:Gl X x)(hm:X.mg x=some u)(h:Q u s)
  (hd:(x == ("__debug__" : Str))=false:=by decide):wpAny (model X.prog X.w) X.A (eval (.Name x pos) X.env) Q E s :=
 Calls.Name_function_global I.ok.kind hg (Calls.loadGlobal_global (by rw[I.ok.glob];exact I.mod.glob.keeps I.bk) hm h) hd
theorem l7{E:Value->Shared->Prop}{pins:List (Addr×Obj)}{s:Shared}{σ:St}{H:Hp}{x:Str}{u:Value}{pos:Pos}{Q:Value->Shared->Prop}(I:Inv X pins σ H s)(hg:Gl X x)(hm:X.mg x=none)(hv:bootBuiltins x=some u)(h:Q u s)
  (hn:x≠"__name__":=by decide) (hd:(x == ("__debug__" : Str))=false:=by decide):wpAny (model X.prog X.w) X.A (eval (.Name x pos) X.env) Q E s:=by
 obtain⟨mb,h1,h2⟩:=I.mod.blt
 exact Calls.Name_function_global I.ok.kind hg (Calls.loadGlobal_builtin (by rw[I.ok.glob];exact I.mod.glob.keeps I.bk) hm (by rw[I.ok.blt];exact h1.keeps I.bk) ((h2 x hn).trans hv) h) hd
theorem Iw{x:Str}{v:V}{u:Value}{pos:Pos}(hg:Gl X x)(hm:X.mg x=some u)(r:RelV v u) (hd:(x == ("__debug__" : Str))=false:=by decide):PE X (.Name x pos) (tC v) :=
 fun _ _ _ H _ I h=>wO I hg hm ⟨v,H,I,r,h⟩ hd
theorem vV{x:Str}{v:V}{u:Value}{pos:Pos}(hg:Gl X x)(hm:X.mg x=none)(hv:bootBuiltins x=some u)(r:RelV v u) (hn:x≠"__name__":=by decide) (hd:(x == ("__debug__" : Str))=false:=by decide):PE X (.Name x pos) (tC v) :=
 fun _ _ _ H _ I h=>l7 I hg hm hv ⟨v,H,I,r,h⟩ hn hd
variable{a b:Expr}{ta tb:TE}{pos:Pos}
def PC(X:Cx)(op:CmpOp)(a b:Expr)(t:TE):Prop :=
 ∀(pins:List (Addr×Obj))(s:Shared)(σ:St)(H:Hp)(Q:VK),Inv X pins σ H s->t σ H Q ->
  wpAny (model X.prog X.w) X.A (eval a X.env) (fun v s₁=>wpAny (model X.prog X.w) X.A (eval b X.env) (fun u s₂=>wpAny (model X.prog X.w) X.A (compareOp op v u) (EP X pins σ Q) X.xe s₂) X.xe s₁) X.xe s
def tB(t:TE):TT:=fun σ H Q=>t σ H fun x H1=>∃ c,x=.bl c/\Q c H1
theorem MT{op:CmpOp}{t:TE}(h:PC X op a b t)(h1:behindInMarks op b=false:=by first | exact nobehind _ (by decide) (by decide) | rfl):PT X (.Compare a [op] [b] pos) (tB t):=by
 intro pins s σ H Q I hw
 refine wpAny_isTrue_Compare1 (thn (h pins s σ H _ I hw) fun v s1 h1=>thn h1 fun u s2 h2=>thn h2 fun c s3 ⟨x,H1,I1,r1,q1⟩=>?_) h1
 obtain⟨d,rfl,q⟩:=q1
 cases r1
 exact wpAny_truthy_bool ⟨H1,I1,q⟩
theorem yJ{e:Expr}{t:TE}(h:PE X e t)(he:∀ whole,isTrue e X.env whole=(do let v ← whole;standAt e.pos;holding [v] (truthy v)):=by intro _;rfl):PT X e (tB t):=by
 intro pins s σ H Q I hw
 refine isTrue_plain (thn (h pins s σ H _ I hw) fun v s1 ⟨x,H1,I1,r1,q1⟩=>?_) (he _)
 obtain⟨d,rfl,q⟩:=q1
 cases r1
 exact wpAny_truthy_bool ⟨H1,I1,q⟩
variable{tA tB':TT}{rest:List Expr}
def tAnd(t u:TT):TT:=fun σ H Q=>t σ H fun c H1=>if c=true then u σ H1 Q else Q false H1
def tOr(t u:TT):TT:=fun σ H Q=>t σ H fun c H1=>if c=true then Q true H1 else u σ H1 Q
def tNot(t:TT):TT:=fun σ H Q=>t σ H fun c H1=>Q (!c) H1
theorem NM(ha:PT X a tA):PW X (.BoolOp .And [a] pos) tA:=by
 intro wh pins s σ H Q I h
 refine isTrue_and (thn (ha pins s σ H Q I h) fun c s1 e=>?_)
 cases c with
 |true=>exact isTrue_and_nil e
 |false=>exact e
theorem ux(ha:PT X a tA):PW X (.BoolOp .Or [a] pos) tA:=by
 intro wh pins s σ H Q I h
 refine isTrue_or (thn (ha pins s σ H Q I h) fun c s1 e=>?_)
 cases c with
 |false=>exact isTrue_or_nil e
 |true=>exact e
theorem pw_and(ha:PT X a tA)(hb:PW X (.BoolOp .And (b::rest) pos) tB'):PW X (.BoolOp .And (a::b::rest) pos) (tAnd tA tB'):=by
 intro wh pins s σ H Q I h
 refine isTrue_and (thn (ha pins s σ H _ I h) fun c s1 ⟨H1,I1,q1⟩=>?_)
 cases c with
 |true=>exact hb wh pins s1 σ H1 Q I1 q1
 |false=>exact⟨H1,I1,q1⟩
theorem yI(ha:PT X a tA)(hb:PW X (.BoolOp .Or (b::rest) pos) tB'):PW X (.BoolOp .Or (a::b::rest) pos) (tOr tA tB'):=by
 intro wh pins s σ H Q I h
 refine isTrue_or (thn (ha pins s σ H _ I h) fun c s1 ⟨H1,I1,q1⟩=>?_)
 cases c with
 |true=>exact⟨H1,I1,q1⟩
 |false=>exact hb wh pins s1 σ H1 Q I1 q1
theorem yK(ha:PT X a tA):PT X (.UnaryOp .Not a pos) (tNot tA):=by
 intro pins s σ H Q I h
 exact isTrue_not (ha pins s σ H (fun c H1=>Q (!c) H1) I h)
def tAndV(ta tb:TE):TE:=fun σ H Q=>ta σ H fun x H1=>∃ c,x=.bl c/\if c=true then tb σ H1 Q else Q (.bl false) H1
def tNotV(ta:TE):TE:=fun σ H Q=>ta σ H fun x H1=>∃ c,x=.bl c/\Q (.bl (!c)) H1
theorem MX{op}{t:TE}(h:PE X a t):PE X (.BoolOp op [a] pos) t:=fun pins s σ H Q I hw=>BoolOp_one (h pins s σ H Q I hw)
theorem MY(ha:PE X a ta)(hb:PE X (.BoolOp .And (b::rest) pos) tb):PE X (.BoolOp .And (a::b::rest) pos) (tAndV ta tb):=by
 intro pins s σ H Q I h
 refine BoolOp_and (thn (ha pins s σ H _ I h) fun v s1 ⟨x,H1,I1,r1,q1⟩=>?_)
 obtain⟨c,rfl,q1⟩:=q1
 cases r1
 refine wpAny_truthy_bool ?_
 cases c with
 |true=>exact hb pins s1 σ H1 Q I1 q1
 |false=>exact⟨.bl false,H1,I1,rfl,q1⟩
theorem pe_not(ha:PE X a ta):PE X (.UnaryOp .Not a pos) (tNotV ta):=by
 intro pins s σ H Q I h
 refine UnaryOp_ (thn (ha pins s σ H _ I h) fun v s1 ⟨x,H1,I1,r1,q1⟩=>?_)
 obtain⟨c,rfl,q1⟩:=q1
 cases r1
 exact not_of (wpAny_truthy_bool ⟨.bl (!c),H1,I1,rfl,q1⟩)
def tIf(t:TT)(ta tb:TE):TE:=fun σ H Q=>t σ H fun c H1=>if c=true then ta σ H1 Q else tb σ H1 Q
theorem lX{c:Expr}(hc:PT X c tA)(ha:PE X a ta)(hb:PE X b tb):PE X (.IfExp c a b pos) (tIf tA ta tb):=by
 intro pins s σ H Q I h
 refine wpAny_IfExp (thn (hc pins s σ H _ I h) fun d s1 ⟨H1,I1,q1⟩=>?_)
 cases d with
 |true=>exact ha pins s1 σ H1 Q I1 q1
 |false=>exact hb pins s1 σ H1 Q I1 q1
end
end L2
namespace L2
open PySem PySem.Spec PyProof.Rows
def SqL(K:Pt)(H:Hp)(a:Addr)(xs:List V):Prop :=
 Rd H a (.lst xs) ∨
  ∃(o:Obj)(its:Array Value)(n:Nat),K.lookup a=some o/\o.cls=.type "list"/\o.dict=none/\o.data=.seq its n/\its.size<=sizeLine/\Vals xs its.toList
def SqT(K:Pt)(H:Hp)(a:Addr)(xs:List V):Prop :=
 Rd H a (.tup xs) ∨
  ∃(o:Obj)(its:Array Value)(n:Nat),K.lookup a=some o/\o.cls=.type "tuple"/\o.data=.seq its n/\its.size<=sizeLine/\Vals xs its.toList
def absV:Value->Option V
 |.none=>some .non
 |.bool b=>some (.bl b)
 |.int i _=>some (.int i)
 |.str x _=>some (.str x)
 |.bytes b _=>some (.byt b)
 |.float b _=>some (.flt b)
 |.ref a=>some (.ref a)
 |.type n=>some (.ty n)
 |_=>none
theorem RelV.abs{x:V}{u:Value}(r:RelV x u):absV u=some x:=by
 cases x with
 |non=>cases r;rfl
 |bl _=>cases r;rfl
 |int _=>obtain⟨t,rfl⟩:=r;rfl
 |str _=>obtain⟨t,rfl⟩:=r;rfl
 |byt _=>obtain⟨t,rfl⟩:=r;rfl
 |flt _=>obtain⟨t,rfl⟩:=r;rfl
 |ref _=>cases r;rfl
 |ty _=>cases r;rfl
theorem RelV.inj{x y:V}{u:Value}(r:RelV x u)(q:RelV y u):x=y:=P5 (r.abs.symm.trans q.abs)
theorem Vals.inj:∀{xs ys:List V}{us:List Value},Vals xs us->Vals ys us->xs=ys
 |_,_,_,.nil,.nil=>rfl
 |_,_,_,.cons r t,.cons r' t'=>by rw[r.inj r',Vals.inj t t']
section
variable{X:Cx}{pins:List (Addr×Obj)}{σ:St}{H:Hp}{s:Shared}{a:Addr}{xs ys:List V}
theorem SqL.of{K:Pt}(h:H a=some (.lst xs)):SqL K H a xs:=.inl (.inl h)
theorem SqT.of{K:Pt}(h:H a=some (.tup xs)):SqT K H a xs:=.inl (.inl h)
theorem Inv.list(I:Inv X pins σ H s)(h:SqL X.K H a xs):∃ its:List Value,Vals xs its/\PlainL s.heap a its.toArray/\xs.length<=sizeLine:=by
 rcases h with h | ⟨o,its,n,hk,hc,hd,hs,hz,r⟩
 ·obtain⟨z,its,n,r,e⟩:=h.ok I.hok
  exact⟨its,r,⟨_,n,e,rfl,rfl,rfl⟩,z⟩
 ·refine⟨its.toList,r,⟨o,n,I.kIn a o hk,hc,hd,by simpa using hs⟩,?_⟩
  have e:=r.length
  simp only[Rp]at e
  omega
theorem Inv.tuple(I:Inv X pins σ H s)(h:SqT X.K H a xs):∃ its:List Value,Vals xs its/\IsTup s.heap a its.toArray/\xs.length<=sizeLine:=by
 rcases h with h | ⟨o,its,n,hk,hc,hs,hz,r⟩
 ·obtain⟨z,its,r,p⟩:=h.ok I.hok
  exact⟨its,r,p,z⟩
 ·refine⟨its.toList,r,⟨o,I.kIn a o hk,hc,n,by simpa using hs⟩,?_⟩
  have e:=r.length
  simp only[Rp]at e
  omega
theorem Inv.list_inj(I:Inv X pins σ H s)(h:SqL X.K H a xs)(h':SqL X.K H a ys):xs=ys:=by
 obtain⟨its,r,⟨o,n,e,_,_,d⟩,_⟩:=I.list h
 obtain⟨its',r',⟨o',n',e',_,_,d'⟩,_⟩:=I.list h'
 rw[e]at e';cases e'
 rw[d]at d'
 injection d' with d1 _
 have:its=its':=by simpa using congrArg Array.toList d1
 subst this
 exact r.inj r'
end
abbrev Cx.wish(X:Cx)(E:Value->Shared->Prop):Cx:={ X with xe:=E }
abbrev Cx.nox(X:Cx):Cx:=X.wish fun _ _=>False
theorem Cx.Ok.wish{X:Cx}(ok:X.Ok)(E:Value->Shared->Prop):(X.wish E).Ok :=
 ⟨ok.mod,ok.kind,ok.glob,ok.blt,ok.above,ok.inj,ok.has,ok.cab,ok.hd,ok.frames,ok.stk,ok.exf,ok.bs,ok.bsz,ok.noex,ok.exfs,ok.funs,ok.frf⟩
theorem Cx.Ok.unwish{X:Cx}{E:Value->Shared->Prop}(ok:(X.wish E).Ok):X.Ok :=
 ⟨ok.mod,ok.kind,ok.glob,ok.blt,ok.above,ok.inj,ok.has,ok.cab,ok.hd,ok.frames,ok.stk,ok.exf,ok.bs,ok.bsz,ok.noex,ok.exfs,ok.funs,ok.frf⟩
section
variable{X:Cx}{pins:List (Addr×Obj)}{σ:St}{H:Hp}{s:Shared}{E:Value->Shared->Prop}
theorem Inv.wish(I:Inv X pins σ H s)(E:Value->Shared->Prop):Inv (X.wish E) pins σ H s:=⟨I.ok.wish E,I.os,I.bare,I.base,I.loc,I.cell,I.free,I.freeC,I.pin,I.hok,I.len⟩
theorem Inv.unwish(I:Inv (X.wish E) pins σ H s):Inv X pins σ H s:=⟨I.ok.unwish,I.os,I.bare,I.base,I.loc,I.cell,I.free,I.freeC,I.pin,I.hok,I.len⟩
theorem SP.unwish{D:Ends}{f:Flow}{s':Shared}(h:SP (X.wish E) pins D f s'):SP X pins D f s':=by
 cases f with
 |next=>obtain⟨σ',H',I,q⟩:=h;exact⟨σ',H',I.unwish,q⟩
 |brk=>obtain⟨σ',H',I,q⟩:=h;exact⟨σ',H',I.unwish,q⟩
 |cont=>obtain⟨σ',H',I,q⟩:=h;exact⟨σ',H',I.unwish,q⟩
 |ret u=>obtain⟨v,σ',H',I,r,q⟩:=h;exact⟨v,σ',H',I.unwish,r,q⟩
theorem PSs.nox{st:List Stmt}{t:TS}(h:PSs X.nox st t):PSs X st t:=fun pins s σ H D I hw =>
 wpAny_mono (h pins s σ H D (I.wish _) hw) (fun _ _ q=>q.unwish) fun _ _ z=>False.elim z
end
section
variable{X:Cx}{st:Stmt}{rest:List Stmt}{t u:TS}{e:Expr}{te:TE}{pos:Pos}
def tNext:TS:=fun D σ H=>D.nx σ H
def tSeq(t u:TS):TS:=fun D σ H=>t { D with nx:=u D } σ H
theorem aS:PSs X [] tNext:=fun _ _ σ H _ I h=>wpAny_execs_nil ⟨σ,H,I,h⟩
theorem ag(h1:PS X st t)(h2:PSs X rest u):PSs X (st::rest) (tSeq t u):=by
 intro pins s σ H D I h
 refine wpAny_execs_cons (thn (h1 pins s σ H { D with nx:=u D } I h) fun f s1 q=>?_)
 cases f with
 |next =>
  obtain⟨σ',H',I',q⟩:=q
  exact h2 pins s1 σ' H' D I' q
 |ret v=>exact q
 |brk=>exact q
 |cont=>exact q
theorem aq(h1:PS X st t):PSs X [st] t:=by
 intro pins s σ H D I h
 refine wpAny_execs_cons (thn (h1 pins s σ H D I h) fun f s1 q=>?_)
 cases f with
 |next=>exact wpAny_execs_nil q
 |ret v=>exact q
 |brk=>exact q
 |cont=>exact q
theorem Inv.quiet{pins:List (Addr×Obj)}{σ:St}{H:Hp}{s:Shared}(I:Inv X pins σ H s):interactive X.env=false:=by simp[interactive,I.ok.kind]
def tDrop(te:TE):TS:=fun D σ H=>te σ H fun _ H1=>D.nx σ H1
theorem a7(he:PE X e te)(hs:swapsWith e none pos.line X.env=pure false:=by rfl):PS X (.Expr e pos) (tDrop te):=by
 intro pins s σ H D I h
 exact wpAny_Expr_any (thn (he pins s σ H _ I h) fun v s1 ⟨x,H1,I1,r1,q1⟩=>⟨σ,H1,I1,q1⟩) I.quiet hs
def tRet(te:TE):TS:=fun D σ H=>te σ H D.rt
theorem aI(he:PE X e te):PS X (.Return (some e) pos) (tRet te):=by
 intro pins s σ H D I h
 exact wpAny_Return_some (thn (he pins s σ H _ I h) fun v s1 ⟨x,H1,I1,r1,q1⟩=>⟨x,σ,H1,I1,r1,q1⟩)
def tRetN:TS:=fun D _ H=>D.rt .non H
theorem NN:PS X (.Return none pos) tRetN:=fun _ _ σ H _ I h=>wpAny_Return_none ⟨.non,σ,H,I,rfl,h⟩
def tIfS(c:TT)(t u:TS):TS:=fun D σ H=>c σ H fun b H1=>if b=true then t D σ H1 else u D σ H1
theorem bZ{c:Expr}{a b:List Stmt}{tc:TT}(hc:PT X c tc)(ha:PSs X a t)(hb:PSs X b u):PS X (.If c a b pos) (tIfS tc t u):=by
 intro pins s σ H D I h
 refine wpAny_If (thn (hc pins s σ H _ I h) fun d s1 ⟨H1,I1,q1⟩=>?_)
 cases d with
 |true=>exact ha pins s1 σ H1 D I1 q1
 |false=>exact hb pins s1 σ H1 D I1 q1
def tNever:TS:=fun _ _ _=>False
theorem cO:PS X st tNever:=fun _ _ _ _ _ _ h=>h.elim
end
abbrev TG:=V->St->Hp->(St->Hp->Prop)->Prop
abbrev TGs:=List V->St->Hp->(St->Hp->Prop)->Prop
def PG(X:Cx)(target:Expr)(t:TG):Prop :=
 ∀(pins:List (Addr×Obj))(s:Shared)(σ:St)(H:Hp)(v:V)(u:Value)(Q:St->Hp->Prop),Inv X pins σ H s->RelV v u->t v σ H Q ->
  wpAny (model X.prog X.w) X.A (assign target X.env u) (fun _ s'=>∃ σ' H',Inv X pins σ' H' s'/\Q σ' H') X.xe s
def PGs(X:Cx)(ts:List Expr)(t:TGs):Prop :=
 ∀(pins:List (Addr×Obj))(s:Shared)(σ:St)(H:Hp)(vs:List V)(us:List Value)(Q:St->Hp->Prop),Inv X pins σ H s->Vals vs us->t vs σ H Q ->
  wpAny (model X.prog X.w) X.A (assignInOrder ((assignEach ts X.env).map (·.2)) us) (fun _ s'=>∃ σ' H',Inv X pins σ' H' s'/\Q σ' H') X.xe s
abbrev TSet:=V->V->V->Hp->(Hp->Prop)->Prop
def PSet(X:Cx)(t:TSet):Prop :=
 ∀(pins:List (Addr×Obj))(s:Shared)(σ:St)(H:Hp)(o i v:V)(ov iv u:Value)(Q:Hp->Prop),Inv X pins σ H s->RelV o ov->RelV i iv->RelV v u->t o i v H Q ->
  wpAny (model X.prog X.w) X.A (setItem ov iv u) (fun _ s'=>∃ H',Inv X pins σ H' s'/\Q H') X.xe s
section
variable{X:Cx}{pos:Pos}
def gName(i:Nat):TG:=fun v σ H Q=>Q (σ.set i (some v)) H
theorem aO{i:Nat}{x:Str}(hN:X.N.Nodup)(hi:X.N[i]?=some x)(hx:Loc X.env.scope x)(hf:X.fn x=true∨X.env.scope.names.lookup x=some .local:=by first | exact .inl rfl | exact .inr rfl | assumption):PG X (.Name x pos) (gName i):=by
 intro pins s σ H v u Q I r h
 exact wpAny_assign_Name (pI I hN hi hx r (fun s' I'=>⟨_,H,I',h⟩) hf)
def gNil:TGs:=fun vs σ H Q=>vs = []/\Q σ H
def gCons(t:TG)(u:TGs):TGs:=fun vs σ H Q=>∃ v r,vs=v::r/\t v σ H fun σ' H'=>u r σ' H' Q
theorem iP:PGs X [] gNil:=by
 intro pins s σ H vs us Q I r h
 obtain⟨e,h⟩:=h
 subst e
 cases r
 exact assignInOrder_nil ⟨σ,H,I,h⟩
theorem bw{e:Expr}{es:List Expr}{t:TG}{u:TGs}(h1:PG X e t)(h2:PGs X es u)
  (hs:(assignEach (e::es) X.env).map (·.2)=assign e X.env::(assignEach es X.env).map (·.2):=by rfl):PGs X (e::es) (gCons t u):=by
 intro pins s σ H vs us Q I r h
 obtain⟨v,vr,e1,h⟩:=h
 subst e1
 cases r with
 |cons r rr =>
  rw[hs]
  refine assignInOrder_cons (thn (h1 pins s σ H _ _ _ I r h) fun _ s1 ⟨σ1,H1,I1,q1⟩=>?_)
  exact h2 pins s1 σ1 H1 _ _ Q I1 rr q1
def gTup(K:Pt)(n:Nat)(t:TGs):TG:=fun v σ H Q=>∃ a xs,v=.ref a/\SqT K H a xs/\xs.length=n/\t xs σ H Q
theorem uy{es:List Expr}{k:Nat}{t:TGs}{n:Nat}(hc:X.calm=true)(h:PGs X es t)
  (hn:(assignEach es X.env).length=n:=by rfl) (hst:(assignEach es X.env).findIdx? (·.1)=none:=by rfl):PG X (.Tuple es k pos) (gTup X.K n t):=by
 intro pins s σ H v u Q I r hw
 obtain⟨a,xs,e1,hq,hl,hw⟩:=hw
 subst e1
 cases r
 obtain⟨its,rv,ht,hz⟩:=I.tuple hq
 refine assign_Tuple_tuple (I.ok.hd hc) ht (by simp[hn,← hl,rv.length]) hst fun h' hx=>?_
 have I1:Inv X pins σ H { s with heap:=h' }:=I.kept (t':=s.toks) fun b o e=>hx b o (Qk (Heap.lt_size e)) e
 exact h pins _ σ H xs _ Q I1 (by simpa using rv) hw
def gSub(to ti:TE)(t:TSet):TG:=fun v σ H Q=>to σ H fun o H1=>ti σ H1 fun i H2=>t o i v H2 fun H3=>Q σ H3
theorem lV{o i:Expr}{to ti:TE}{t:TSet}(ho:PE X o to)(hi:PE X i ti)(hs:PSet X t)
  (ha:∀ v,assign (.Subscript o i pos) X.env v=(do
   let ov ← holding [v] (eval o X.env)
   let iv ← holding [v,ov] (eval i X.env)
   standAt pos
   holding [v,ov,iv] (setItem ov iv v)
   release [v,ov,iv] []):=by intro _;rfl):PG X (.Subscript o i pos) (gSub to ti t):=by
 intro pins s σ H v u Q I r h
 rw[ha]
 refine wpAny_bind (wpAny_holding (thn (ho pins s σ H _ I h) fun ov s1 ⟨x,H1,I1,r1,q1⟩=>?_))
 refine wpAny_bind (wpAny_holding (thn (hi pins s1 σ H1 _ I1 q1) fun iv s2 ⟨y,H2,I2,r2,q2⟩=>?_))
 refine wpAny_bind (wpAny_standAt (wpAny_bind (wpAny_holding (thn (hs pins s2 σ H2 x y v ov iv u _ I2 r1 r2 r q2) fun _ s3 ⟨H3,I3,q3⟩=>?_))))
 exact wpAny_release ⟨σ,H3,I3,q3⟩
def tAsg(te:TE)(g:TG):TS:=fun D σ H=>te σ H fun x H1=>g x σ H1 D.nx
theorem lU{tg e:Expr}{te:TE}{g:TG}(he:PE X e te)(hg:PG X tg g)(hs:swapsWithSole [tg] e pos.line X.env=pure false:=by rfl)(hw:swappedStores [tg] e X.env=pure none:=by rfl)
  (h1:(assignEach [tg] X.env).map (·.2) = [assign tg X.env]:=by rfl):PS X (.Assign [tg] e pos) (tAsg te g):=by
 intro pins s σ H D I h
 refine wpAny_Assign_stores (thn (he pins s σ H _ I h) fun v s1 ⟨x,H1,I1,r1,q1⟩=>?_) hs hw
 rw[h1]
 exact thn (hg pins s1 σ H1 x v _ I1 r1 q1) fun _ s2 q=>q
theorem av{i:Nat}{x:Str}{e:Expr}{te:TE}{pos':Pos}(hN:X.N.Nodup)(hi:X.N[i]?=some x)(hx:Loc X.env.scope x)(he:PE X e te)(hs:swapsWith e (some (.Name x pos')) pos.line X.env=pure false:=by rfl)(hf:X.fn x=true∨X.env.scope.names.lookup x=some .local:=by first | exact .inl rfl | exact .inr rfl | assumption) :
  PS X (.Assign [.Name x pos'] e pos) (tAsg te (gName i)):=by
 intro pins s σ H D I h
 refine wpAny_Assign_Name (thn (he pins s σ H _ I h) fun v s1 ⟨y,H1,I1,r1,q1⟩=>?_) hs
 exact pI I1 hN hi hx r1 (fun s2 I2=>⟨_,H1,I2,q1⟩) hf
end
section
variable{X:Cx}{pos:Pos}
def MP(c:TT)(tb:TS):TS:=fun D σ H=>∃ W:Nat->St->Hp->Prop,(∃ m,W m σ H)/\∀ m σ H,W m σ H ->
 c σ H fun b H1=>if b=true then ∃ N:St->Hp->Prop,(∀ σ' H',N σ' H'->∃ m',m'<m/\W m' σ' H')/\tb { D with nx:=N,ct:=N,bk:=D.nx } σ H1 else D.nx σ H1
theorem gY{c:Expr}{body:List Stmt}{tc:TT}{tb:TS}(hp:PassesOwn (model X.prog X.w) X.A X.env X.xe)(hc:PT X c tc)(hb:PSs X body tb):PS X (.While c body [] pos) (MP tc tb):=by
 intro pins s σ H D I h
 obtain⟨W,⟨m0,w0⟩,turn⟩:=h
 refine wpAny_While (codeAny_whileLoop (fun n s'=>∃ σ' H',Inv X pins σ' H' s'/\W n σ' H') ?_ m0 ⟨σ,H,I,w0⟩)
 rintro n s1 ⟨σ1,H1,I1,w1⟩
 refine wpAny_passesOwn hp (thn (hc pins s1 σ1 H1 _ I1 (turn n σ1 H1 w1)) fun b s2 ⟨H2,I2,q2⟩=>?_)
 cases b with
 |true =>
  obtain⟨N,hN,q2⟩:=q2
  rw[if_pos rfl]
  refine wpAny_passesOwn hp (thn (hb pins s2 σ1 H2 _ I2 q2) fun f s3 q3=>?_)
  cases f with
  |next =>
   obtain⟨σ3,H3,I3,n3⟩:=q3
   obtain⟨m',hm,w3⟩:=hN σ3 H3 n3
   exact⟨m',hm,σ3,H3,I3,w3⟩
  |cont =>
   obtain⟨σ3,H3,I3,n3⟩:=q3
   obtain⟨m',hm,w3⟩:=hN σ3 H3 n3
   exact⟨m',hm,σ3,H3,I3,w3⟩
  |brk=>exact q3
  |ret v=>exact q3
 |false =>
  rw[if_neg Qe]
  exact wpAny_execs_nil ⟨σ1,H2,I2,q2⟩
end
structure It where
 go:Nat->Hp->Prop
 yld:Nat->Hp->V->Hp->Prop
 stop:Nat->Hp->Prop
def FpOk(X:Cx)(pins:List (Addr×Obj))(H:Hp)(b:Addr):Prop :=
 H b=none/\b≠X.env.locals/\b∉X.fs/\(b∈X.ex∨X.s₀.heap.objs.size<=b)/\(∀ x c,X.env.cells.lookup x=some c->c≠b)/\∀ p∈X.pn++pins,p.1≠b
theorem Inv.fpOk{X:Cx}{pins:List (Addr×Obj)}{σ:St}{H H':Hp}{s:Shared}{b:Addr}(I:Inv X pins σ H s)(hb:s.heap.objs.size<=b)(hn:H' b=none):FpOk X pins H' b:=by
 refine⟨hn,RA (Qd I.lt hb),I.nofs hb,.inr (QG I.sz hb),fun x c e z=>?_,fun p hp z=>?_⟩
 ·obtain⟨v,q⟩:=I.cell x c e
  exact absurd (Qd q.lt (by rw[z];exact hb)) (Qs _)
 ·exact absurd (Qd (Heap.lt_size (I.pin p hp).1) (by rw[z];exact hb)) (Qs _)
structure Turn(P:Program)(w:World)(K:Pt)(tg:Expr)(J:It)(fp:List Addr)(it:Addr)(tn:Nat->Heap->Prop):Prop where
 mem:it∈fp
 obj:∀ i h,tn i h->∀ b∈fp,∃ o,h.get? b=some o/\∀ v,o.data≠.cell v
 keep:∀ i h h',tn i h->(∀ b∈fp,∀ o,h.get? b=some o->h'.get? b=some o)->tn i h'
 item:∀(X:Cx),X.prog=P->X.w=w->X.K=K->X.calm=true->∀(i:Nat)(pins:List (Addr×Obj))(s:Shared)(σ:St)(H:Hp)(E:Value->Shared->Prop),Inv X pins σ H s->(∀ b∈fp,FpOk X pins H b)->tn i s.heap->J.go i H ->
  wpAny (model P w) X.A (pyNext (.ref it)) (fun r s1=>∃ u,r=some u /\
   wpAny (model P w) X.A (letOwnedTupleGo tg (.ref it) u) (fun _ s2=>∃ x H',Inv X pins σ H' s2/\RelV x u/\J.yld i H x H'/\tn (i+1) s2.heap/\∀ b∈fp,H' b=none) E s1) E s
 done:∀(X:Cx),X.prog=P->X.w=w->X.K=K->X.calm=true->∀(i:Nat)(pins:List (Addr×Obj))(s:Shared)(σ:St)(H:Hp)(E:Value->Shared->Prop),Inv X pins σ H s->(∀ b∈fp,FpOk X pins H b)->tn i s.heap->J.stop i H ->
  wpAny (model P w) X.A (pyNext (.ref it)) (fun r s1=>r=none/\Inv X pins σ H s1) E s
 self:∀(A:Around)(i:Nat)(s:Shared)(Q:Value->Shared->Prop)(E:Value->Shared->Prop),tn i s.heap->Q (.ref it) s->wpAny (model P w) A (pyIter (.ref it)) Q E s
abbrev TI:=St->Hp->(It->Hp->Prop)->Prop
def PIE(X:Cx)(pins:List (Addr×Obj))(σ:St)(tg:Expr)(R:It->Hp->Prop)(itv:Value)(s2:Shared):Prop :=
 ∃(it:Addr)(fp:List Addr)(tn:Nat->Heap->Prop)(J:It)(H':Hp),itv=.ref it/\Inv X pins σ H' s2/\Turn X.prog X.w X.K tg J fp it tn/\tn 0 s2.heap/\(∀ b∈fp,FpOk X pins H' b)/\R J H'
def PI(X:Cx)(tg iter:Expr)(wi:TI):Prop :=
 ∀(pins:List (Addr×Obj))(s:Shared)(σ:St)(H:Hp)(R:It->Hp->Prop),Inv X pins σ H s->wi σ H R ->
  wpAny (model X.prog X.w) X.A (eval iter X.env) (fun v s1=>wpAny (model X.prog X.w) X.A (pyIter v) (PIE X pins σ tg R) X.xe s1) X.xe s
theorem go_of{M:Model}{A:Around}{E:Value->Shared->Prop}{s:Shared}{tg:Expr}{it:Addr}{u:Value}{o:Obj}{n:String}{vs:Array Value}{Q:Unit->Shared->Prop}(ho:s.heap.get? it=some o)(hc:o.cls=.type n)(hd:o.data=.fields vs)
  (hn : ["enumerate","zip","dict_itemiterator","dict_reverseitemiterator","odict_iterator","itertools.zip_longest","itertools.pairwise"].contains n=false) (hQ:Q () s):wpAny M A (letOwnedTupleGo tg (.ref it) u) Q E s:=by
 unfold letOwnedTupleGo
 cases tg<;>first
  |exact wpAny_pure hQ
  | (cases u<;>first
    |exact wpAny_pure hQ
    | (refine wpAny_bind (wpAny_load ho ?_)
       rw[hc,hd]
       show wpAny M A (if(["enumerate","zip","dict_itemiterator","dict_reverseitemiterator","odict_iterator","itertools.zip_longest","itertools.pairwise"].contains n&&vs[0]? == some (rawInt _))=true then _ else _) Q E s
       rw[if_neg (by intro h;rw[hn,Q7]at h;cases h)]
       exact wpAny_pure hQ))
def Itl(K:Pt)(a:Addr):It :=
 ⟨fun i H=>∃ xs x,SqL K H a xs/\xs[i]?=some x,fun i H x H'=>H'=H/\∀ xs,SqL K H a xs->xs[i]?=some x,fun i H=>∃ xs,SqL K H a xs/\xs.length<=i⟩
def Itr(lo:Int)(n:Nat):It:=⟨fun i _=>i<n,fun i H x H'=>H'=H/\x=.int (lo+i),fun i _=>n<=i⟩
theorem Ht{P:Program}{w:World}{K:Pt}{tg:Expr}(a it:Addr):Turn P w K tg (Itl K a) [it] it (fun i h=>h.IsListIter it a i) where
 mem:=by simp
 obj:=fun i h st b hb=>by
  have e:b=it:=by simpa using hb
  subst e
  obtain⟨o,e,c,d⟩:=st
  exact⟨o,e,fun v z=>by rw[d]at z;cases z⟩
 keep:=fun i h h' st k=>st.at fun o e=>k it (by simp) o e
 item:=by
  intro X hP hw hK hc i pins s σ H E I hf st hg
  subst hP hw hK
  obtain⟨xs,x,hq,hx⟩:=hg
  obtain⟨its,rv,p,hz⟩:=I.list hq
  obtain⟨u,hu,ru⟩:=rv.get hx
  obtain⟨f0,f1,f2,f3,f4,f5⟩:=hf it (by simp)
  refine wpAny_pyNext_list_item st p.isList (x:=u) (by simpa using hu) fun h' st' sb=>?_
  have I1:Inv X pins σ H { s with heap:=h' }:=I.turned (t':=s.toks) (fun b o hb e=>(sb.2 b hb).trans e) f0 f1 f3 f4 f5
  obtain⟨o,e,c,d⟩:=id st'
  exact⟨u,rfl,go_of (s:={ s with heap:=h' }) e c d (by decide) ⟨x,H,I1,ru,⟨rfl,fun ys hy=>by rw[I.list_inj hy hq];exact hx⟩,st',fun b hb=>(hf b hb).1⟩⟩
 done:=by
  intro X hP hw hK hc i pins s σ H E I hf st hg
  subst hP hw hK
  obtain⟨xs,hq,hx⟩:=hg
  obtain⟨its,rv,p,hz⟩:=I.list hq
  obtain⟨f0,f1,f2,f3,f4,f5⟩:=hf it (by simp)
  have hl:=rv.length
  exact wpAny_pyNext_list_end (I.ok.hd hc) st p.isList (by simp;omega) fun h' eb=>⟨rfl,I.turned (t':=s.toks) (fun b o hb e=>eb b o hb e) f0 f1 f3 f4 f5⟩
 self:=fun _ _ _ _ _ st h=>wpAny_pyIter_listiter st h
theorem Fh{P:Program}{w:World}{K:Pt}{tg:Expr}(it:Addr)(lo:Int)(n:Nat):Turn P w K tg (Itr lo n) [it] it (fun i h=>IsRangeIter h it (lo+(i:Nat)*1) ((n:Int)-(i:Nat)) 1) where
 mem:=by simp
 obj:=fun i h st b hb=>by
  have e:b=it:=by simpa using hb
  subst e
  exact⟨_,st,fun v z=>by
   have z':Data.fields _=Data.cell v:=z
   cases z'⟩
 keep:=fun i h h' st k=>k it (by simp) _ st
 item:=by
  intro X hP hw hK hc i pins s σ H E I hf st hg
  subst hP hw hK
  obtain⟨f0,f1,f2,f3,f4,f5⟩:=hf it (by simp)
  have W:=Walks.range (prog:=X.prog) (w:=X.w) (I.ok.hd hc) it lo 1 n
  refine W.item i s _ _ hg st fun v h' tk hv st' kk=>?_
  obtain⟨t,rfl⟩:=hv
  have I1:Inv X pins σ H { s with heap:=h',toks:=tk }:=I.turned (fun b o hb e=>kk b o (by simpa using hb) e) f0 f1 f3 f4 f5
  refine⟨_,rfl,go_of (s:={ s with heap:=h',toks:=tk }) (n:="range_iterator") st' rfl rfl (by decide) ⟨.int (lo+i),H,I1,⟨t,?_⟩,⟨rfl,rfl⟩,st',fun b hb=>(hf b hb).1⟩⟩
  rw[Int.mul_one]
 done:=by
  intro X hP hw hK hc i pins s σ H E I hf st hg
  subst hP hw hK
  obtain⟨f0,f1,f2,f3,f4,f5⟩:=hf it (by simp)
  exact wpAny_pyNext_range_end (I.ok.hd hc) st (by have:n<=i:=hg;omega) fun h' eb=>⟨rfl,I.turned (t':=s.toks) (fun b o hb e=>eb b o hb e) f0 f1 f3 f4 f5⟩
 self:=fun _ _ _ _ _ st h=>wpAny_pyIter_rangeiter st h
end L2
namespace L2
open PySem PySem.Spec PyProof.Rows
section
variable{X:Cx}{tg:Expr}
def iList(K:Pt)(tl:TE):TI:=fun σ H R=>tl σ H fun x H1=>∃ a,x=.ref a/\(∃ xs,SqL K H1 a xs)/\R (Itl K a) H1
theorem a9{l:Expr}{tl:TE}(hl:PE X l tl):PI X tg l (iList X.K tl):=by
 intro pins s σ H R I h
 refine thn (hl pins s σ H _ I h) fun v s1 ⟨x,H1,I1,r1,q1⟩=>?_
 obtain⟨a,e,⟨xs,hq⟩,q⟩:=q1
 subst e
 cases r1
 obtain⟨its,rv,p,hz⟩:=I1.list hq
 refine wpAny_pyIter_list p.isList ?_
 refine⟨s1.heap.objs.size,[s1.heap.objs.size],_,_,H1,rfl,I1.kept (t':=s1.toks) fun b o e=>Heap.get?_push_of_some _ e,Ht a _,⟨_,Heap.get?_push_size _ rfl,rfl,rfl⟩,fun b hb=>?_,q⟩
 have e:b=s1.heap.objs.size:=by simpa using hb
 subst e
 exact I1.fpOk (Pz _) (I1.hok.fresh (Pz _))
theorem Lu{pins:List (Addr×Obj)}{σ:St}{H:Hp}{s:Shared}{R:It->Hp->Prop}{E:Value->Shared->Prop}{lo hi:Int}{t u v:Tok}{tk:Nat}(I:Inv X pins σ H s)(h1 : -(2^62)<=lo)(h2:lo<2^62)(h3 : -(2^62)<=hi)(h4:hi<2^62)
  (q:R (Itr lo (hi-lo).toNat) H):wpAny (model X.prog X.w) X.A (pyIter (.ref s.heap.objs.size)) (PIE X pins σ tg R) E { s with heap:=s.heap.push { cls:=.type "range",data:=.fields #[.int lo t,.int hi u,.int 1 v] },toks:=tk }:=by
 refine wpAny_pyIter_range (IsRange.new ..) (small_one h1 h2 h3 h4) ?_
 have I1:Inv X pins σ H { s with heap:=s.heap.push { cls:=.type "range",data:=.fields #[.int lo t,.int hi u,.int 1 v] },toks:=tk }:=I.kept fun b o e=>Heap.get?_push_of_some _ e
 refine⟨(s.heap.push { cls:=.type "range",data:=.fields #[.int lo t,.int hi u,.int 1 v] }).objs.size,[(s.heap.push { cls:=.type "range",data:=.fields #[.int lo t,.int hi u,.int 1 v] }).objs.size],_,_,H,rfl,
  I1.kept (t':=tk) fun b o e=>Heap.get?_push_of_some _ e,Fh _ lo (hi-lo).toNat,?_,fun b hb=>?_,q⟩
 ·have e1:lo+((0:Nat):Int)*1=lo:=by simp
  have e2:(((hi-lo).toNat:Nat):Int)-((0:Nat):Int)=Builtin.Range.rangeSize lo hi 1:=by rw[rangeSize_one];split<;>omega +splitDisjunctions
  show IsRangeIter _ _ (lo+((0:Nat):Int)*1) ((((hi-lo).toNat:Nat):Int)-((0:Nat):Int)) 1
  rw[e1,e2]
  exact Heap.get?_push_size _ rfl
 ·have e:b=(s.heap.push { cls:=.type "range",data:=.fields #[.int lo t,.int hi u,.int 1 v] }).objs.size:=by simpa using hb
  subst e
  exact I1.fpOk (Pz _) (I1.hok.fresh (Pz _))
def iRng1(ta:TA):TI:=fun σ H R=>ta σ H fun vs H1=>∃ j:Int,vs = [.int j]/\-(2^62)<=j/\j<2^62/\R (Itr 0 j.toNat) H1
theorem aW{a:Expr}{ta:TA}{p pos:Pos} (hg:Gl X "range") (hm:X.mg "range" = none) (ha:PA X [a] ta) (hs:starEach [a] X.env = [(false,eval a X.env)]:=by rfl):PI X tg (.Call (.Name "range" p) [a] [] pos) (iRng1 ta):=by
 intro pins s σ H R I h
 refine Call_ (l7 I hg hm boot_range (PyProof.Rows.callWith_type1 (thn (ha pos pins s σ H _ I h) fun us s1 ⟨vs,H1,I1,r1,q1⟩=>?_) hs rfl))
 obtain⟨j,e,q1,q2,q⟩:=q1
 subst e
 cases r1 with
 |cons r rr =>
  cases rr
  obtain⟨t,rfl⟩:=r
  exact call_range_1 (Lu I1 (by omega) (by omega) q1 q2 (by simpa using q))
def tFor(wi:TI)(g:TG)(tb:TS):TS:=fun D σ H=>wi σ H fun J H1=>∃ W:Nat->Nat->St->Hp->Prop,(∃ m,W 0 m σ H1)/\∀ i m σ H,W i m σ H ->
 (J.stop i H/\D.nx σ H)∨(J.go i H/\∃ N:St->Hp->Prop,(∀ σ' H',N σ' H'->∃ m',m'<m/\W (i+1) m' σ' H')/\∀ x H',J.yld i H x H'->g x σ H' fun σ2 H2=>tb { D with nx:=N,ct:=N,bk:=D.nx } σ2 H2)
def yV(fp:List Addr)(h:Heap):List (Addr×Obj):=fp.filterMap fun b=>(h.get? b).map fun o=>(b,o)
theorem gH{fp:List Addr}{h:Heap}{b:Addr}{o:Obj}(hb:b∈fp)(e:h.get? b=some o):(b,o)∈yV fp h:=List.mem_filterMap.mpr ⟨b,hb,by rw[e];rfl⟩
theorem II{fp:List Addr}{h:Heap}{p:Addr×Obj}(hp:p∈yV fp h):p.1∈fp/\h.get? p.1=some p.2:=by
 obtain⟨b,hb,e⟩:=List.mem_filterMap.mp hp
 cases q:h.get? b with
 |none=>rw[q]at e;cases e
 |some o =>
  rw[q]at e
  have e':(b,o)=p:=P5 e
  subst e'
  exact⟨hb,q⟩
theorem Inv.pinned{pins:List (Addr×Obj)}{σ:St}{H:Hp}{s:Shared}{fp:List Addr}(I:Inv X pins σ H s)(hf:∀ b∈fp,FpOk X pins H b)(ho:∀ b∈fp,∃ o,s.heap.get? b=some o/\∀ v,o.data≠.cell v):Inv X (pins++yV fp s.heap) σ H s :=
 I.pins_of fun p hp=>(PM.mp hp).elim (fun z=>I.pin p (P0 _ z)) fun z=>by
  obtain⟨hb,e⟩:=II z
  obtain⟨f0,f1,f2,_⟩:=hf p.1 hb
  obtain⟨o,e',d⟩:=ho p.1 hb
  rw[e]at e';cases e'
  exact⟨e,f0,f1,f2,d⟩
theorem Inv.unpinned{pins pl:List (Addr×Obj)}{σ:St}{H:Hp}{s:Shared}(I:Inv X (pins++pl) σ H s):Inv X pins σ H s:=I.pins_of fun p hp=>I.pin p (P0 _ (QC _ hp))
theorem bM{iter:Expr}{body:List Stmt}{wi:TI}{g:TG}{tb:TS}{pos:Pos}(hp:PassesOwn (model X.prog X.w) X.A X.env X.xe)(hc:X.calm=true)(hi:PI X tg iter wi)(hg:PG X tg g)(hb:PSs X body tb)
  (hs:∀ x,foldedSetIterable iter X.env x=pure x:=by intro _;rfl):PS X (.For tg iter body [] pos) (tFor wi g tb):=by
 intro pins s σ H D I h
 refine wpAny_For (thn (hi pins s σ H _ I h) fun v s1 h1=>thn h1 fun itv s2 h2=>?_) hs
 obtain⟨it,fp,tn,J,H2,e,I2,T,st2,f2,W,⟨m0,w0⟩,turn⟩:=h2
 subst e
 have stat:∀{H':Hp},(∀ b∈fp,H' b=none)->∀ b∈fp,FpOk X pins H' b:=fun hn b hb=>⟨hn b hb,(f2 b hb).2⟩
 refine codeAny_forLoop_any (fun n s'=>∃ i σ' H',Inv X pins σ' H' s'/\tn i s'.heap/\(∀ b∈fp,H' b=none)/\W i n σ' H') ?_ m0 ⟨0,σ,H2,I2,st2,fun b hb=>(f2 b hb).1,w0⟩
 rintro n s3 ⟨i,σ3,H3,I3,st3,fr3,w3⟩
 rcases turn i n σ3 H3 w3 with⟨stop,qn⟩ | ⟨go,N,hN,step⟩
 ·refine wpAny_passesOwn hp (thn (T.done X rfl rfl rfl hc i pins s3 σ3 H3 X.xe I3 (stat fr3) st3 stop) fun r s4 ⟨hr,I4⟩=>?_)
  subst hr
  exact wpAny_execs_nil ⟨σ3,H3,I4,qn⟩
 ·refine wpAny_passesOwn hp (thn (T.item X rfl rfl rfl hc i pins s3 σ3 H3 X.xe I3 (stat fr3) st3 go) fun r s4 ⟨u,hr,h4⟩=>?_)
  subst hr
  refine wpAny_passesOwn hp (thn h4 fun _ s5 ⟨x,H5,I5,r5,y5,st5,fr5⟩=>?_)
  have I5':=I5.pinned (stat fr5) (T.obj _ _ st5)
  refine wpAny_passesOwn hp (thn (hg _ s5 σ3 H5 x u _ I5' r5 (step x H5 y5)) fun _ s6 ⟨σ6,H6,I6,q6⟩=>?_)
  refine wpAny_passesOwn hp (thn (hb _ s6 σ6 H6 _ I6 q6) fun f s7 q7=>?_)
  have again:∀{σ7:St}{H7:Hp},Inv X (pins++yV fp s5.heap) σ7 H7 s7->N σ7 H7->∃ m,m<n/\∃ i σ' H',Inv X pins σ' H' s7/\tn i s7.heap/\(∀ b∈fp,H' b=none)/\W i m σ' H':=fun{σ7 H7} I7 n7=>by
   obtain⟨m',hm,w7⟩:=hN σ7 H7 n7
   refine⟨m',hm,i+1,σ7,H7,I7.unpinned,T.keep _ _ _ st5 fun b hb o e=>(I7.pin (b,o) (P0 _ (P0 _ (gH hb e)))).1,fun b hb=>?_,w7⟩
   obtain⟨o,e,d⟩:=T.obj _ _ st5 b hb
   exact(I7.pin (b,o) (P0 _ (P0 _ (gH hb e)))).2.1
  cases f with
  |next=>obtain⟨σ7,H7,I7,n7⟩:=q7;exact again I7 n7
  |cont=>obtain⟨σ7,H7,I7,n7⟩:=q7;exact again I7 n7
  |brk=>obtain⟨σ7,H7,I7,q7⟩:=q7;exact⟨σ7,H7,I7.unpinned,q7⟩
  |ret v=>obtain⟨x7,σ7,H7,I7,r7,q7⟩:=q7;exact⟨x7,σ7,H7,I7.unpinned,r7,q7⟩
end
theorem cS{K:Pt}{a:Addr}{xs:List V}{g:TG}{tb:TS}{D:Ends}{σ:St}{H:Hp}(Pv:Nat->St->Hp->Prop)(h0:Pv 0 σ H)(hl:∀ i σ H,i<=xs.length->Pv i σ H->SqL K H a xs)
  (hs:∀ i x σ H,xs[i]?=some x->Pv i σ H->g x σ H fun σ2 H2=>tb { D with nx:=Pv (i+1),ct:=Pv (i+1),bk:=D.nx } σ2 H2) (hd:∀ σ H,Pv xs.length σ H->D.nx σ H) :
  ∃ W:Nat->Nat->St->Hp->Prop,(∃ m,W 0 m σ H)/\∀ i m σ H,W i m σ H ->
   ((Itl K a).stop i H/\D.nx σ H)∨((Itl K a).go i H/\∃ N:St->Hp->Prop,(∀ σ' H',N σ' H'->∃ m',m'<m/\W (i+1) m' σ' H')/\∀ x H',(Itl K a).yld i H x H'->g x σ H' fun σ2 H2=>tb { D with nx:=N,ct:=N,bk:=D.nx } σ2 H2):=by
 refine⟨fun i m σ H=>m=xs.length-i/\i<=xs.length/\Pv i σ H,⟨xs.length,by simp,QJ _,h0⟩,?_⟩
 rintro i m σ H ⟨rfl,hi,p⟩
 have q:=hl i σ H hi p
 by_cases hlt:i<xs.length
 ·refine .inr ⟨⟨xs,xs[i],q,by simp[hlt]⟩,Pv (i+1),fun σ' H' p'=>⟨xs.length-(i+1),by omega,rfl,hlt,p'⟩,fun x H' y=>?_⟩
  obtain⟨e,y⟩:=y
  subst e
  exact hs i x σ _ (y xs q) p
 ·have e:i=xs.length:=by omega
  subst e
  exact .inl ⟨⟨xs,q,Pz _⟩,hd σ H p⟩
theorem cR{lo:Int}{n:Nat}{g:TG}{tb:TS}{D:Ends}{σ:St}{H:Hp}(Pv:Nat->St->Hp->Prop)(h0:Pv 0 σ H)
  (hs:∀ i σ H,i<n->Pv i σ H->g (.int (lo+i)) σ H fun σ2 H2=>tb { D with nx:=Pv (i+1),ct:=Pv (i+1),bk:=D.nx } σ2 H2) (hd:∀ σ H,Pv n σ H->D.nx σ H) :
  ∃ W:Nat->Nat->St->Hp->Prop,(∃ m,W 0 m σ H)/\∀ i m σ H,W i m σ H ->
   ((Itr lo n).stop i H/\D.nx σ H)∨((Itr lo n).go i H/\∃ N:St->Hp->Prop,(∀ σ' H',N σ' H'->∃ m',m'<m/\W (i+1) m' σ' H')/\∀ x H',(Itr lo n).yld i H x H'->g x σ H' fun σ2 H2=>tb { D with nx:=N,ct:=N,bk:=D.nx } σ2 H2):=by
 refine⟨fun i m σ H=>m=n-i/\i<=n/\Pv i σ H,⟨n,by simp,QJ _,h0⟩,?_⟩
 rintro i m σ H ⟨rfl,hi,p⟩
 by_cases hlt:i<n
 ·refine .inr ⟨hlt,Pv (i+1),fun σ' H' p'=>⟨n-(i+1),by omega,rfl,hlt,p'⟩,fun x H' y=>?_⟩
  obtain⟨e,y⟩:=y
  subst e y
  exact hs i σ _ hlt p
 ·have e:i=n:=by omega
  subst e
  exact .inl ⟨Pz _,hd σ H p⟩
theorem gL{c:TT}{tb:TS}{D:Ends}{σ:St}{H:Hp}(Pv:St->Hp->Prop)(μ:St->Hp->Nat)(h0:Pv σ H)
  (hs:∀ σ H,Pv σ H->c σ H fun b H1=>if b=true then tb { D with nx:=fun σ' H'=>Pv σ' H'/\μ σ' H'<μ σ H,ct:=fun σ' H'=>Pv σ' H'/\μ σ' H'<μ σ H,bk:=D.nx } σ H1 else D.nx σ H1)
  (mono:∀ σ H Q Q',(∀ b H1,Q b H1->Q' b H1)->c σ H Q->c σ H Q'):MP c tb D σ H:=by
 refine⟨fun m σ H=>m=μ σ H/\Pv σ H,⟨_,rfl,h0⟩,?_⟩
 rintro m σ H ⟨rfl,p⟩
 refine mono σ H _ _ (fun b H1 q=>?_) (hs σ H p)
 cases b with
 |true=>exact⟨_,fun σ' H' ⟨p',l⟩=>⟨_,l,rfl,p'⟩,q⟩
 |false=>exact q
end L2
namespace L2
open PySem PySem.Spec PyProof.Rows
abbrev R2:=V->V->Hp->VK->Prop
def OpR(X:Cx)(f:Value->Value->Sem Value)(r:R2):Prop :=
 ∀(pins:List (Addr×Obj))(s:Shared)(σ:St)(H:Hp)(x y:V)(v u:Value)(Q:VK),Inv X pins σ H s->RelV x v->RelV y u->r x y H Q ->
  wpAny (model X.prog X.w) X.A (f v u) (EP X pins σ Q) X.xe s
def UnR(X:Cx)(f:Value->Sem Value)(r:V->Hp->VK->Prop):Prop :=
 ∀(pins:List (Addr×Obj))(s:Shared)(σ:St)(H:Hp)(x:V)(v:Value)(Q:VK),Inv X pins σ H s->RelV x v->r x H Q ->
  wpAny (model X.prog X.w) X.A (f v) (EP X pins σ Q) X.xe s
def pH(X:Cx)(f:Value)(r:List V->Hp->VK->Prop):Prop :=
 ∀(pins:List (Addr×Obj))(s:Shared)(σ:St)(H:Hp)(xs:List V)(us:List Value)(Q:VK),Inv X pins σ H s->Vals xs us->r xs H Q ->
  wpAny (model X.prog X.w) X.A (call f us) (EP X pins σ Q) X.xe s
def tOp(r:R2)(ta tb:TE):TE:=fun σ H Q=>ta σ H fun x H1=>tb σ H1 fun y H2=>r x y H2 Q
def tUn(r:V->Hp->VK->Prop)(ta:TE):TE:=fun σ H Q=>ta σ H fun x H1=>r x H1 Q
def rI(C:Int->Int->Prop)(g:Int->Int->V):R2:=fun x y H Q=>∃ i j,x=.int i/\y=.int j/\C i j/\Q (g i j) H
def rI0(g:Int->Int->V):R2:=fun x y H Q=>∃ i j,x=.int i/\y=.int j/\Q (g i j) H
def rU(g:Int->V):V->Hp->VK->Prop:=fun x H Q=>∃ i,x=.int i/\Q (g i) H
section
variable{X:Cx}{a b c:Expr}{ta tb tc:TE}{pos:Pos}
theorem binT(ha:PE X a ta)(hb:PE X b tb){pins:List (Addr×Obj)}{s:Shared}{σ:St}{H:Hp}{R:V->V->Hp->Prop}(I:Inv X pins σ H s)
  (h:ta σ H fun x H1=>tb σ H1 fun y H2=>R x y H2) {Q:Value->Shared->Prop} {f:Value->Value->Sem Value}
  (hf:∀ v u s2 x y H2,Inv X pins σ H2 s2->RelV x v->RelV y u->R x y H2->wpAny (model X.prog X.w) X.A (f v u) Q X.xe s2) :
  wpAny (model X.prog X.w) X.A (eval a X.env) (fun v s₁=>wpAny (model X.prog X.w) X.A (eval b X.env) (fun u s₂=>wpAny (model X.prog X.w) X.A (f v u) Q X.xe s₂) X.xe s₁) X.xe s:=by
 refine thn (ha pins s σ H _ I h) fun v s1 ⟨x,H1,I1,r1,q1⟩=>?_
 refine thn (hb pins s1 σ H1 _ I1 q1) fun u s2 ⟨y,H2,I2,r2,q2⟩=>?_
 exact hf v u s2 x y H2 I2 r1 r2 q2
theorem aw{op:Operator}{r:R2}(ho:OpR X (binaryOp op) r)(ha:PE X a ta)(hb:PE X b tb):PE X (.BinOp a op b pos) (tOp r ta tb):=by
 intro pins s σ H Q I h
 exact wpAny_BinOp (binT ha hb I h fun v u s2 x y H2 I2 rx ry q=>ho pins s2 σ H2 x y v u Q I2 rx ry q)
theorem pe_un{op:UnaryOp}{r:V->Hp->VK->Prop}(ho:UnR X (unaryOp op) r)(ha:PE X a ta):PE X (.UnaryOp op a pos) (tUn r ta):=by
 intro pins s σ H Q I h
 exact UnaryOp_ (thn (ha pins s σ H _ I h) fun v s1 ⟨x,H1,I1,r1,q1⟩=>ho pins s1 σ H1 x v Q I1 r1 q1)
theorem opI{f:Value->Value->Sem Value}{C:Int->Int->Prop}{g:Int->Int->Int}
  (rule:∀(i j:Int)(t u:Tok)(s:Shared)(Q:Value->Shared->Prop)(E:Value->Shared->Prop),C i j->Q (.int (g i j) s.toks) { s with toks:=s.toks+1 }->wpAny (model X.prog X.w) X.A (f (.int i t) (.int j u)) Q E s) :
  OpR X f (rI C fun i j=>.int (g i j)):=by
 intro pins s σ H x y v u Q I rx ry h
 obtain⟨i,j,rfl,rfl,hc,q⟩:=h
 obtain⟨t,rfl⟩:=rx
 obtain⟨t',rfl⟩:=ry
 exact rule i j t t' s _ _ hc ⟨.int (g i j),H,I.tok _,⟨_,rfl⟩,q⟩
theorem opI0{f:Value->Value->Sem Value}{g:Int->Int->Int}
  (rule:∀(i j:Int)(t u:Tok)(s:Shared)(Q:Value->Shared->Prop)(E:Value->Shared->Prop),Q (.int (g i j) s.toks) { s with toks:=s.toks+1 }->wpAny (model X.prog X.w) X.A (f (.int i t) (.int j u)) Q E s) :
  OpR X f (rI0 fun i j=>.int (g i j)):=by
 intro pins s σ H x y v u Q I rx ry h
 obtain⟨i,j,rfl,rfl,q⟩:=h
 obtain⟨t,rfl⟩:=rx
 obtain⟨t',rfl⟩:=ry
 exact rule i j t t' s _ _ ⟨.int (g i j),H,I.tok _,⟨_,rfl⟩,q⟩
theorem opB0{f:Value->Value->Sem Value}{g:Int->Int->Bool}
  (rule:∀(i j:Int)(t u:Tok)(s:Shared)(Q:Value->Shared->Prop)(E:Value->Shared->Prop),Q (.bool (g i j)) s->wpAny (model X.prog X.w) X.A (f (.int i t) (.int j u)) Q E s) :
  OpR X f (rI0 fun i j=>.bl (g i j)):=by
 intro pins s σ H x y v u Q I rx ry h
 obtain⟨i,j,rfl,rfl,q⟩:=h
 obtain⟨t,rfl⟩:=rx
 obtain⟨t',rfl⟩:=ry
 exact rule i j t t' s _ _ ⟨.bl (g i j),H,I,rfl,q⟩
def CDiv(i j:Int):Prop:=0<j/\j<1073741824
def CPow(i j:Int):Prop:=0<=j/\j<=1000000/\i.natAbs<2^64
def CMul(i j:Int):Prop:=(-(2^64)<i/\i<2^64)∨(-(2^64)<j/\j<2^64)
theorem CMul.ok{i j:Int}(h:CMul i j):IntMulOk i j:=by
 rcases h with⟨h1,h2⟩ | ⟨h1,h2⟩
 ·exact .of_left (intBits_le_64 h1 h2)
 ·exact .of_right (intBits_le_64 h1 h2)
theorem Fg(k:Nat):(0:Int)<=2^k:=by
 rw[two_pow_cast]
 exact RN _
theorem bA:OpR X (binaryOp .Add) (rI0 fun i j=>.int (i+j)):=opI0 fun _ _ _ _ _ _ _ q=>add_int q
theorem iR:OpR X (binaryOp .Sub) (rI0 fun i j=>.int (i-j)):=opI0 fun _ _ _ _ _ _ _ q=>sub_int q
theorem fJ:OpR X (binaryOp .Mult) (rI CMul fun i j=>.int (i*j)):=opI fun _ _ _ _ _ _ _ hc q=>mul_int q hc.ok
theorem cP:OpR X (binaryOp .FloorDiv) (rI CDiv fun i j=>.int (i/j)):=opI fun i j _ _ _ _ _ hc q=>by
 have h1:(0:Int)<j:=hc.1
 have h2:j<1073741824:=hc.2
 exact floordiv_int (by omega) (by rw[SW i (by omega)];exact q) (.inl (PyProof.noPylong_small (by omega)))
theorem bE:OpR X (binaryOp .Mod) (rI (fun _ j=>0<j) fun i j=>.int (i%j)):=opI fun i j _ _ _ _ _ hc q=>by
 have h1:(0:Int)<j:=hc
 exact mod_int' (by omega) (by rw[Int.fmod_eq_emod_of_nonneg i (by omega)];exact q)
theorem op_pow:OpR X (binaryOp .Pow) (rI CPow fun i j=>.int (i^j.toNat)):=opI fun _ _ _ _ _ _ _ hc q=>pow_int_small hc.1 hc.2.1 hc.2.2 q
theorem cW:OpR X (binaryOp .LShift) (rI CPow fun i j=>.int (i*2^j.toNat)):=opI fun _ _ _ _ _ _ _ hc q=>lshift_int_small hc.1 hc.2.1 hc.2.2 q
theorem yY:OpR X (binaryOp .RShift) (rI (fun _ j=>0<=j) fun i j=>.int (i/2^j.toNat)):=opI fun i j _ _ _ _ _ hc q =>
 rshift_int hc (by rw[SW i (Fg _)];exact q)
theorem y7:OpR X (binaryOp .BitAnd) (rI0 fun i j=>.int (Builtin.bitAnd i j)):=opI0 fun _ _ _ _ _ _ _ q=>and_int q
theorem FE:OpR X (binaryOp .BitOr) (rI0 fun i j=>.int (Builtin.bitOr i j)):=opI0 fun _ _ _ _ _ _ _ q=>or_int q
theorem lY:OpR X (binaryOp .BitXor) (rI0 fun i j=>.int (Builtin.bitXor i j)):=opI0 fun _ _ _ _ _ _ _ q=>xor_int q
theorem unI{f:Value->Sem Value}{g:Int->Int}
  (rule:∀(i:Int)(t:Tok)(s:Shared)(Q:Value->Shared->Prop)(E:Value->Shared->Prop),Q (.int (g i) s.toks) { s with toks:=s.toks+1 }->wpAny (model X.prog X.w) X.A (f (.int i t)) Q E s) :
  UnR X f (rU fun i=>.int (g i)):=by
 intro pins s σ H x v Q I rx h
 obtain⟨i,rfl,q⟩:=h
 obtain⟨t,rfl⟩:=rx
 exact rule i t s _ _ ⟨.int (g i),H,I.tok _,⟨_,rfl⟩,q⟩
theorem MN:UnR X (unaryOp .USub) (rU fun i=>.int (-i)):=unI fun _ _ _ _ _ q=>neg_int q
end
def scal:V->V->Bool
 |.non,.non=>true | .non,.int _=>true | .int _,.non=>true | .non,.bl _=>true | .bl _,.non=>true | .non,.str _=>true | .str _,.non=>true
 |.int _,.int _=>true | .bl _,.bl _=>true | .str _,.str _=>true | .byt _,.byt _=>true
 |.int _,.str _=>true | .str _,.int _=>true | .bl _,.str _=>true | .str _,.bl _=>true
 |_,_=>false
def rEq:R2:=fun x y H Q=>scal x y=true/\Q (.bl (decide (x=y))) H
def rNe:R2:=fun x y H Q=>scal x y=true/\Q (.bl (!decide (x=y))) H
theorem JN{i j:Int}:decide (V.int i=V.int j)=(i == j):=by
 rw[Ss]
 simp
theorem M6{i j:Bool}:decide (V.bl i=V.bl j)=(i == j):=by
 rw[Ss]
 simp
theorem JM{i j:Str}:decide (V.str i=V.str j)=(i == j):=by
 rw[Ss]
 simp
theorem JO{i j:Array UInt8}:decide (V.byt i=V.byt j)=(i.toList == j.toList):=by
 rw[Ss]
 cases i
 cases j
 simp
section
variable{X:Cx}{a b c:Expr}{ta tb tc:TE}{pos:Pos}
theorem bc{pins:List (Addr×Obj)}{σ:St}{H:Hp}{s:Shared}{Q:VK}{k k':Bool}(I:Inv X pins σ H s)(q:Q (.bl k) H)(e:k=k'):EP X pins σ Q (.bool k') s:=by
 subst e
 exact⟨.bl k,H,I,rfl,q⟩
theorem iS:OpR X (compareOp .Eq) rEq:=by
 intro pins s σ H x y v u Q I rx ry h
 obtain⟨hs,q⟩:=h
 cases x with
 |non =>
  cases rx
  cases y with
  |non=>cases ry;exact PySem.EqNone.eq_none_none (bc I q (by simp))
  |bl j=>cases ry;exact PySem.EqNone.eq_none_bool (bc I q (by simp))
  |int j=>obtain⟨t',rfl⟩:=ry;exact PySem.EqNone.eq_none_int (bc I q (by simp))
  |str j=>obtain⟨t',rfl⟩:=ry;exact PySem.EqNone.eq_none_str (bc I q (by simp))
  |_=>exact absurd (show false=true from hs) Qe
 |bl i =>
  cases rx
  cases y with
  |non=>cases ry;exact PySem.EqNone.eq_bool_none (bc I q (by simp))
  |bl j=>cases ry;exact eq_bool (bc I q M6)
  |str j=>obtain⟨t',rfl⟩:=ry;exact PySem.EqMixed.eq_bool_str (bc I q (by simp))
  |_=>exact absurd (show false=true from hs) Qe
 |int i =>
  obtain⟨t,rfl⟩:=rx
  cases y with
  |non=>cases ry;exact PySem.EqNone.eq_int_none (bc I q (by simp))
  |int j=>obtain⟨t',rfl⟩:=ry;exact eq_int (bc I q JN)
  |str j=>obtain⟨t',rfl⟩:=ry;exact PySem.EqMixed.eq_int_str (bc I q (by simp))
  |_=>exact absurd (show false=true from hs) Qe
 |str i =>
  obtain⟨t,rfl⟩:=rx
  cases y with
  |non=>cases ry;exact PySem.EqNone.eq_str_none (bc I q (by simp))
  |bl j=>cases ry;exact PySem.EqMixed.eq_str_bool (bc I q (by simp))
  |int j=>obtain⟨t',rfl⟩:=ry;exact PySem.EqMixed.eq_str_int (bc I q (by simp))
  |str j=>obtain⟨t',rfl⟩:=ry;exact eq_str (bc I q JM)
  |_=>exact absurd (show false=true from hs) Qe
 |byt i =>
  obtain⟨t,rfl⟩:=rx
  cases y with
  |byt j=>obtain⟨t',rfl⟩:=ry;exact PySem.W.eq_bytes (bc I q JO)
  |_=>exact absurd (show false=true from hs) Qe
 |_=>cases y<;>exact absurd (show false=true from hs) Qe
theorem oZ:OpR X (compareOp .NotEq) rNe:=by
 intro pins s σ H x y v u Q I rx ry h
 obtain⟨hs,q⟩:=h
 cases x with
 |non =>
  cases rx
  cases y with
  |non=>cases ry;exact PySem.EqNone.ne_none_none (bc I q (by simp))
  |bl j=>cases ry;exact PySem.EqNone.ne_none_bool (bc I q (by simp))
  |int j=>obtain⟨t',rfl⟩:=ry;exact PySem.EqNone.ne_none_int (bc I q (by simp))
  |str j=>obtain⟨t',rfl⟩:=ry;exact PySem.EqNone.ne_none_str (bc I q (by simp))
  |_=>exact absurd (show false=true from hs) Qe
 |bl i =>
  cases rx
  cases y with
  |non=>cases ry;exact PySem.EqNone.ne_bool_none (bc I q (by simp))
  |bl j=>cases ry;exact ne_bool (bc I q (congrArg not M6))
  |str j=>obtain⟨t',rfl⟩:=ry;exact PySem.EqMixed.ne_bool_str (bc I q (by simp))
  |_=>exact absurd (show false=true from hs) Qe
 |int i =>
  obtain⟨t,rfl⟩:=rx
  cases y with
  |non=>cases ry;exact PySem.EqNone.ne_int_none (bc I q (by simp))
  |int j=>obtain⟨t',rfl⟩:=ry;exact ne_int (bc I q (congrArg not JN))
  |str j=>obtain⟨t',rfl⟩:=ry;exact PySem.EqMixed.ne_int_str (bc I q (by simp))
  |_=>exact absurd (show false=true from hs) Qe
 |str i =>
  obtain⟨t,rfl⟩:=rx
  cases y with
  |non=>cases ry;exact PySem.EqNone.ne_str_none (bc I q (by simp))
  |bl j=>cases ry;exact PySem.EqMixed.ne_str_bool (bc I q (by simp))
  |int j=>obtain⟨t',rfl⟩:=ry;exact PySem.EqMixed.ne_str_int (bc I q (by simp))
  |str j=>obtain⟨t',rfl⟩:=ry;exact ne_str (bc I q (congrArg not JM))
  |_=>exact absurd (show false=true from hs) Qe
 |byt i =>
  obtain⟨t,rfl⟩:=rx
  cases y with
  |byt j=>obtain⟨t',rfl⟩:=ry;exact PySem.W.ne_bytes (bc I q (congrArg not JO))
  |_=>exact absurd (show false=true from hs) Qe
 |_=>cases y<;>exact absurd (show false=true from hs) Qe
theorem yZ:OpR X (compareOp .Lt) (rI0 fun i j=>.bl (decide (i<j))):=opB0 fun _ _ _ _ _ _ _ q=>lt_int q
theorem IC:OpR X (compareOp .Gt) (rI0 fun i j=>.bl (decide (j<i))):=opB0 fun _ _ _ _ _ _ _ q=>gt_int q
theorem NV:OpR X (compareOp .GtE) (rI0 fun i j=>.bl (decide (j<=i))):=opB0 fun _ _ _ _ _ _ _ q=>ge_int q
theorem EL:OpR X (compareOp .Is) (fun x y H Q=>y=.non/\Q (.bl (decide (x=.non))) H):=by
 intro pins s σ H x y v u Q I rx ry h
 obtain⟨rfl,q⟩:=h
 cases ry
 refine is_none_gen (bc I q ?_)
 cases x<;>first
  | (cases rx;rfl)
  | (obtain⟨t,rfl⟩:=rx;rfl)
theorem NU:OpR X (compareOp .IsNot) (fun x y H Q=>y=.non/\Q (.bl (!decide (x=.non))) H):=by
 intro pins s σ H x y v u Q I rx ry h
 obtain⟨rfl,q⟩:=h
 cases ry
 refine isnot_none_gen (bc I q ?_)
 cases x<;>first
  | (cases rx;rfl)
  | (obtain⟨t,rfl⟩:=rx;rfl)
theorem aN(b:Expr){op:CmpOp}(h:op≠.In:=by decide)(h2:op≠.NotIn:=by decide):behindInMarks op b=false:=by
 have e1:(op == CmpOp.In)=false:=by cases op<;>first | rfl | exact absurd rfl h
 have e2:(op == CmpOp.NotIn)=false:=by cases op<;>first | rfl | exact absurd rfl h2
 cases b<;>simp[behindInMarks,e1,e2]
theorem Cf{op:CmpOp}{r:R2}(ho:OpR X (compareOp op) r)(ha:PE X a ta)(hb:PE X b tb)(hm:behindInMarks op b=false):PE X (.Compare a [op] [b] pos) (tOp r ta tb):=by
 intro pins s σ H Q I h
 exact wpAny_Compare1 (binT ha hb I h fun v u s2 x y H2 I2 rx ry q=>ho pins s2 σ H2 x y v u Q I2 rx ry q) hm
def tTest(t:TE):TT:=fun σ H Q=>t σ H fun x H'=>∃ k,x=.bl k/\Q k H'
theorem aG{op:CmpOp}{r:R2}(ho:OpR X (compareOp op) r)(ha:PE X a ta)(hb:PE X b tb)(hm:behindInMarks op b=false):PT X (.Compare a [op] [b] pos) (tTest (tOp r ta tb)):=by
 intro pins s σ H Q I h
 refine wpAny_isTrue_Compare1 (thn (ha pins s σ H _ I h) fun v s1 ⟨x,H1,I1,r1,q1⟩=>thn (hb pins s1 σ H1 _ I1 q1) fun u s2 ⟨y,H2,I2,r2,q2⟩ =>
  thn (ho pins s2 σ H2 x y v u _ I2 r1 r2 q2) fun c s3 ⟨z,H3,I3,r3,k,e,q3⟩=>?_) hm
 subst e
 cases r3
 exact wpAny_truthy_bool ⟨H3,I3,q3⟩
theorem uB:(sizeLine:Nat)<2^63:=by rw[sizeLine_eq];decide
theorem ym{x:V}{us:List Value}(r:Vals [x] us):∃ u,us = [u]/\RelV x u:=by
 cases r with
 |cons r1 r2=>cases r2;exact⟨_,rfl,r1⟩
theorem Nr{x y:V}{us:List Value}(r:Vals [x,y] us):∃ u w',us = [u,w']/\RelV x u/\RelV y w':=by
 cases r with
 |cons r1 r2 =>
  cases r2 with
  |cons r3 r4=>cases r4;exact⟨_,_,rfl,r1,r3⟩
theorem rR(hc:X.calm=true):pH X (.builtin "max") (fun xs H Q=>∃ i j,xs = [.int i,.int j]/\Q (.int (if j > i then j else i)) H):=by
 intro pins s σ H xs us Q I r h
 obtain⟨i,j,rfl,q⟩:=h
 obtain⟨u,w',rfl,⟨t,rfl⟩,⟨t',rfl⟩⟩:=Nr r
 refine max_two_ints (I.ok.hd hc) fun h' tk k=>⟨_,H,I.kept k,?_,q⟩
 by_cases hj:j > i
 ·rw[if_pos hj,if_pos hj];exact⟨_,rfl⟩
 ·rw[if_neg hj,if_neg hj];exact⟨_,rfl⟩
end
end L2
namespace L2
open PySem PySem.Spec PyProof.Rows
structure ObjM(h:Heap)(x dx C:Addr)(mA:Str->Option Value):Prop where
 obj:h.get? x=some (Rm C dx)
 ns:h.Ns1 dx mA
 ne:dx≠x
theorem Je{h:Heap}{dx:Addr}{mA:Str->Option Value}(n:h.Ns1 dx mA):∃ od,h.get? dx=some od/\∀ name,Sy name od=some (mA name):=by
 obtain⟨o,es,ep,ho,hd,hk,_,hm⟩:=n
 refine⟨o,ho,fun name=>?_⟩
 have e:=hm name
 unfold nsFind findBy at e
 rw[← Array.find?_toList]at e
 unfold Sy
 rw[hd]
 dsimp only
 split
 ·rename_i y q
  rw[q]at e
  exact congrArg some e
 ·rename_i q
  rw[q]at e
  have a:es.toList.any (·.refKey)=false:=by
   rw[List.any_eq_false]
   intro y hy
   obtain⟨z,t,hkey⟩:=hk y (Array.mem_toList_iff.mp hy)
   simp[DictEntry.refKey,hkey]
  have a':¬ es.toList.any (·.refKey)=true:=by rw[a];exact Qe
  rw[if_neg a']
  exact congrArg some e
theorem ObjM.look{h:Heap}{x dx C:Addr}{mA:Str->Option Value}(I:ObjM h x dx C mA):∃ od,PySem.W.InstAt h x (Rm C dx) C (some od)/\∀ name,Sy name od=some (mA name) :=
 let ⟨od,ho,hl⟩:=Je I.ns
 ⟨od,⟨I.obj,rfl,rfl,ho⟩,hl⟩
section
variable{prog:Program}{w:World}{A:Around}{E:Value->Shared->Prop}{s:Shared}{K:Pt}{x dx C f:Addr}{mA:Str->Option Value}{name:Str}{v:Value}
theorem OQ{expr:Bool}{Q:Value->Shared->Prop}(X:K.In s.heap)(I:ObjM s.heap x dx C mA)(hg:Rq K C name=true)(hh:RD K C=true)
  (ha:Qg K (.ref C) name=some none) (hv:mA name=some v) (hv':PySem.W.handedIn v=true) (h:Q v { s with toks:=s.toks+1 }) :
  wpAny (model prog w) A (getAttr (.ref x) name expr) Q E s:=by
 obtain⟨od,J,hl⟩:=I.look
 exact PySem.W.get_value X J (Sz hg).1 (PySem.W.findObj_own hh ha rfl (by rw[hl,hv])) hv' h
theorem Mp{pl:Sem Bool}{Q:Value×List Value->Shared->Prop}(X:K.In s.heap)(I:ObjM s.heap x dx C mA)(hg:Rq K C name=true)
  (hf:Qg K (.ref C) name=some (some (.ref f))) (ht:RJ K (.ref f)=true) (hv:mA name=none) (h:Q (.ref f,[.ref x]) s) :
  wpAny (model prog w) A (getMethod (.ref x) name pl) Q E s:=by
 obtain⟨od,J,hl⟩:=I.look
 exact PySem.W.method_fn X J (Sz hg).1 (Sz hg).2 hf (beq_iff_eq.mp ht) (by show(Sy name od).map (·.isSome)=some false;rw[hl,hv];rfl) h
theorem NI{ns:List Str}{Q:Unit->Shared->Prop}(X:K.In s.heap)(I:ObjM s.heap x dx C mA)
  (hs:Qg K (.ref C) "__setattr__" = some (some (.builtin "object.__setattr__"))) (hp:RO K C=true) (ht:SQ K C name=some none) (hh:RD K C=true)
  (hw:PySem.Within mA ns) (hsz:ns.length<=sizeLine)
  (h:∀ h',ObjM h' x dx C (fun y=>if y=name then some v else mA y)->Heap.SameBut dx s.heap h'->Q () { s with heap:=h',toks:=s.toks+2 }) :
  wpAny (model prog w) A (setAttr (.ref x) name v) Q E s:=by
 obtain⟨od,J,hl⟩:=I.look
 refine PySem.W.set_plain X J hs (PySem.W.osa_open (s:={ s with toks:=s.toks+1 }) (r:=none) X J hp ht fun b=>?_)
 obtain⟨cd,hc,hd'⟩:=PySem.W.any_some hh
 have hx:s.heap.get? x=some ⟨.ref C,some dx,.plain,#[]⟩:=I.obj
 refine wpAny_bind (wpAny_pure (wpAny_bind (wpAny_bind (wpAny_loadPart hx (wpAny_bind (PySem.W.Looks.here (s:={ s with toks:=s.toks+1 }) (PySem.W.looks_clsIn X hc) ?_))))))
 rw[hd']
 refine wpAny_pure (a:=some dx) (wpAny_bind (wpAny_pure (wpAny_bind ?_)))
 refine wpAny_nsSet1 (s:={ s with toks:=s.toks+1 }) I.ns fun h' hn2 hs2=>?_
 obtain⟨oD,esD,epD,hoD,hdD,hcD⟩:=hn2.count (PySem.Within.cons name v hw)
 refine wpAny_bind (wpAny_lookBehind hoD (by rw[hdD];exact pastItsLine_dict (QG hcD (by rw[Qc];omega))) ?_)
 exact wpAny_pure (h _ ⟨(hs2.2 _ (Ne.symm I.ne)).trans I.obj,hn2,I.ne⟩ hs2)
theorem L7{R:Result->Shared->Prop}{vs:List Value}{kw:List (Str×Value)}(X:K.In s.heap)(hm:R0 K C=true)
  (hi:Qg K (.ref C) "__init__" = some (some (.ref f))) (hf:PySem.W.typeIn K (.ref f)=some (.type "function"))
  (h:codeAny (model prog w) (A.under (.builtin "type.__call__" ⟨.ref C::vs,kw⟩)) (.call (.ref f) ⟨.ref (s.heap.objs.size+1)::vs,kw⟩) (PySem.W.InitBack (s.heap.objs.size+1) R)
   { s with heap:=(s.heap.push QY).push (Rm C s.heap.objs.size) }) :
  codeAny (model prog w) A (.call (.ref C) ⟨vs,kw⟩) R s:=by
 obtain⟨hh,g,d,t,os⟩:=s
 exact PySem.W.make_core (PySem.W.makes_of X hm) (PySem.W.looks_findIn X hi) (fun self=>PySem.W.bind_fn X self hf) (.inl rfl) h
end
def putF(f:Str)(v:V):List (Str×V)->List (Str×V)
 |[]=>[(f,v)]
 | (g,x)::r=>if g=f then(g,v)::r else(g,x)::putF f v r
theorem aF(f g:Str)(v:V):∀ fs:List (Str×V),(putF f v fs).lookup g=if g=f then some v else fs.lookup g
 |[]=>by
  show R6 g [(f,v)]=_
  by_cases h:g=f
  ·have hb:(g == f)=true:=beq_iff_eq.mpr h
   simp only[R6,hb,if_pos h]
  ·have hb:(g == f)=false:=beq_eq_false_iff_ne.mpr h
   simp only[R6,hb,if_neg h]
 | (k,x)::r=>by
  have ih:=aF f g v r
  rw[show putF f v ((k,x)::r)=(if k=f then(k,v)::r else(k,x)::putF f v r) from rfl]
  by_cases hk:k=f
  ·rw[if_pos hk]
   by_cases h:g=k
   ·have hb:(g == k)=true:=beq_iff_eq.mpr h
    simp only[R6,hb,if_pos (h.trans hk)]
   ·have hb:(g == k)=false:=beq_eq_false_iff_ne.mpr h
    simp only[R6,hb,if_neg (fun e:g=f=>h (e.trans hk.symm))]
  ·rw[if_neg hk]
   by_cases h:g=k
   ·have hb:(g == k)=true:=beq_iff_eq.mpr h
    simp only[R6,hb,if_neg (fun e:g=f=>hk (h.symm.trans e))]
   ·have hb:(g == k)=false:=beq_eq_false_iff_ne.mpr h
    simp only[R6,hb]
    exact ih
theorem qT(f:Str)(v:V):∀ fs:List (Str×V),f∈(putF f v fs).map (·.1)/\∀ g,g∈fs.map (·.1)->g∈(putF f v fs).map (·.1)
 |[]=>⟨by simp[putF],fun g h=>by simp at h⟩
 | (k,x)::r=>by
  obtain⟨i1,i2⟩:=qT f v r
  rw[show putF f v ((k,x)::r)=(if k=f then(k,v)::r else(k,x)::putF f v r) from rfl]
  by_cases hk:k=f
  ·rw[if_pos hk]
   subst hk
   exact⟨by simp,fun g h=>by simpa using h⟩
  ·rw[if_neg hk]
   refine⟨?_,fun g h=>?_⟩
   ·rw[P7]
    exact PD _ i1
   ·rw[P7]at h ⊢
    rcases Pw.mp h with e | e
    ·exact Pw.mpr (.inl e)
    ·exact PD _ (i2 g e)
theorem qJ(f:Str)(v:V):∀ fs:List (Str×V),(putF f v fs).length<=fs.length+1
 |[]=>by simp[putF]
 | (k,x)::r=>by
  have ih:=qJ f v r
  rw[show putF f v ((k,x)::r)=(if k=f then(k,v)::r else(k,x)::putF f v r) from rfl]
  by_cases hk:k=f
  ·rw[if_pos hk,Qc,Qc];omega
  ·rw[if_neg hk,Qc,Qc];omega
theorem RelO.some_of{v:V}{o:Option Value}(r:RelO (some v) o):∃ u,o=some u/\RelV v u:=by
 cases o with
 |none=>exact(show False from r).elim
 |some u=>exact⟨u,rfl,r⟩
theorem RelO.none_of{o:Option Value}(r:RelO none o):o=none:=by
 cases o with
 |none=>rfl
 |some u=>exact(show False from r).elim
theorem JE{v:V}{u:Value}(r:RelV v u):PySem.W.handedIn u=true:=by
 cases v with
 |non=>cases (show u=Value.none from r);rfl
 |bl b=>cases (show u=Value.bool b from r);rfl
 |int i=>obtain⟨t,e⟩:=(show ∃ t,u=Value.int i t from r);cases e;rfl
 |str x=>obtain⟨t,e⟩:=(show ∃ t,u=Value.str x t from r);cases e;rfl
 |byt b=>obtain⟨t,e⟩:=(show ∃ t,u=Value.bytes b t from r);cases e;rfl
 |flt b=>obtain⟨t,e⟩:=(show ∃ t,u=Value.float b t from r);cases e;rfl
 |ref a=>cases (show u=Value.ref a from r);rfl
 |ty n=>cases (show u=Value.type n from r);rfl
section
variable{P:Program}{w:World}{H H':Hp}{h h':Heap}{a C dx:Addr}{fs fs':List (Str×V)}
theorem xq(hok:HOk P w H h)(e:H a=some (.ins C dx fs)):∃ mA,ObjM h a dx C mA/\(∀ f,RelO (fs.lookup f) (mA f))/\PySem.Within mA (fs.map (·.1))/\fs.length<=1000/\H dx=some (.own a):=by
 obtain⟨d,z,ne,ob,mA,n,r,q⟩:=(show cf P w H h a (.ins C dx fs) from hok a _ e)
 exact⟨mA,⟨ob,n,ne⟩,r,q,z,d⟩
end
structure Cls(K:Pt)(C:Addr):Prop where
 pg:Rq K C Str.empty=true
 hd:RD K C=true
 po:RO K C=true
 sa:Qg K (.ref C) "__setattr__" = some (some (.builtin "object.__setattr__"))
theorem Cls.get{K:Pt}{C:Addr}(c:Cls K C)(f:Str):Rq K C f=true:=c.pg
def gd(K:Pt)(C:Addr)(f:Str):Prop:=Qg K (.ref C) f=some none
theorem gd.taker{K:Pt}{C:Addr}{f:Str}(n:gd K C f):SQ K C f=some none:=by
 unfold SQ
 rw[show Qg K (.ref C) f=some none from n]
 rfl
structure Meth(K:Pt)(C:Addr)(m:Str)(f:Addr):Prop where
 at_:Qg K (.ref C) m=some (some (.ref f))
 fn:RJ K (.ref f)=true
 kp:PJ K (.ref f)=true
section
variable{X:Cx}{pins:List (Addr×Obj)}{σ:St}{H:Hp}{s:Shared}{a C dx:Addr}{fs:List (Str×V)}{f:Str}{v:V}{A:Around}{E:Value->Shared->Prop}
theorem Gx{b:Bool}{Q:Value->Shared->Prop}(I:Inv X pins σ H s)(e:H a=some (.ins C dx fs))(c:Cls X.K C)(n:gd X.K C f)(l:fs.lookup f=some v)
  (h:∀ u s',Inv X pins σ H s'->RelV v u->Q u s'):wpAny (model X.prog X.w) A (getAttr (.ref a) f b) Q E s:=by
 obtain⟨mA,O,r,_,_,_⟩:=xq I.hok e
 obtain⟨u,hu,ru⟩:=RelO.some_of (v:=v) (o:=mA f) (by rw[← l];exact r f)
 exact OQ I.kIn O (c.get f) c.hd n hu (JE ru) (h u _ (I.tok _) ru)
theorem Gw{m:Str}{g:Addr}{pl:Sem Bool}{Q:Value×List Value->Shared->Prop}(I:Inv X pins σ H s)(e:H a=some (.ins C dx fs))(c:Cls X.K C)(k:Meth X.K C m g)(l:fs.lookup m=none)
  (h:Q (.ref g,[.ref a]) s):wpAny (model X.prog X.w) A (getMethod (.ref a) m pl) Q E s:=by
 obtain⟨mA,O,r,_,_,_⟩:=xq I.hok e
 have hn:mA m=none:=RelO.none_of (by rw[← l];exact r m)
 exact Mp I.kIn O (c.get m) k.at_ k.fn hn h
theorem Fq{y:V}{u:Value}{Q:Unit->Shared->Prop}(I:Inv X pins σ H s)(e:H a=some (.ins C dx fs))(c:Cls X.K C)(n:gd X.K C f)(hl:fs.length<1000)(ry:RelV y u)
  (h:∀ s',Inv X pins σ (upd H a (.ins C dx (putF f y fs))) s'->Q () s'):wpAny (model X.prog X.w) A (setAttr (.ref a) f u) Q E s:=by
 obtain⟨mA,O,r,wi,_,ho⟩:=xq I.hok e
 have hz:(fs.map (·.1)).length<=sizeLine:=by rw[PB,sizeLine_eq];omega
 refine NI I.kIn O c.sa c.po n.taker c.hd wi hz fun h' O' sb=>h _ ?_
 have hd:∃ o,h'.get? dx=some o:=let ⟨o,_,_,e',_⟩:=O'.ns;⟨o,e'⟩
 refine I.write (x:=a) (e:=dx) (by rw[e];exact True.intro) (.inr ho) (fun b q hb z=>(sb.2 b hb).trans z) hd ?_
 refine⟨by rw[ao O.ne];exact ho,?_,O.ne,O'.obj,_,O'.ns,fun g=>?_,fun g hg=>?_⟩
 ·have:=qJ f y fs;omega
 ·show RelO ((putF f y fs).lookup g) (if g=f then some u else mA g)
  rw[aF]
  by_cases q:g=f
  ·rw[if_pos q,if_pos q];exact ry
  ·rw[if_neg q,if_neg q];exact r g
 ·by_cases q:g=f
  ·rw[q];exact(qT f y fs).1
  ·refine(qT f y fs).2 g (wi g fun z=>hg ?_)
   show(if g=f then some u else mA g)=none
   rw[if_neg q];exact z
theorem Inv.made(I:Inv X pins σ H s):Inv X pins σ (upd (upd H s.heap.objs.size (.own (s.heap.objs.size+1))) (s.heap.objs.size+1) (.ins C s.heap.objs.size []))
  { s with heap:=(s.heap.push QY).push (Rm C s.heap.objs.size) }:=by
 have e1:(s.heap.push QY).get? s.heap.objs.size=some QY:=Heap.get?_push_size s.heap rfl
 have e2:((s.heap.push QY).push (Rm C s.heap.objs.size)).get? (s.heap.objs.size+1)=some (Rm C s.heap.objs.size):=by
  have:=Heap.get?_push_size (s.heap.push QY) (o:=Rm C s.heap.objs.size) rfl
  rwa[Heap.size_push]at this
 have e3:(s.heap.push QY).Ns s.heap.objs.size (fun _=>none):=⟨QY,#[],_,e1,rfl,(fun e he=>absurd he (by simp)),fun _=>rfl⟩
 have I1:=I.laid (a:=s.heap.objs.size) (o:=.own (s.heap.objs.size+1)) (h':=s.heap.push QY) (t':=s.toks) (fun b u q=>Heap.get?_push_of_some _ q) (Pz _) ⟨_,e1⟩
 refine I1.laid (a:=s.heap.objs.size+1) (o:=.ins C s.heap.objs.size []) (t':=s.toks) (fun b u q=>Heap.get?_push_of_some _ q) (Nat.le_of_eq (Heap.size_push _ _)) ?_
 have ne:s.heap.objs.size≠s.heap.objs.size+1:=Qk (QE _)
 refine⟨by rw[ao ne,af],QJ _,ne,e2,fun _=>none,(Heap.Ns1.of_empty e3).at fun o q=>Heap.get?_push_of_some _ q,fun _=>True.intro,fun y hy=>absurd rfl hy⟩
theorem Pd{prog:Program}{w:World}{env:Env}{e:Expr}{f:Str}{pos:Pos}{s:Shared}{Q:Value->Shared->Prop}(hb:attributeBase e f env (eval e env)=eval e env)
  (h:wpAny (model prog w) A (eval e env) (fun o s₁=>wpAny (model prog w) A (getAttr o f true) Q E s₁) E s):wpAny (model prog w) A (eval (.Attribute e f pos) env) Q E s :=
 Attribute_any_ h (by rw[arm_eval_Attribute,hb])
end
def tFld(K:Pt)(ta:TE)(f:Str):TE:=fun σ H Q=>ta σ H fun x H1=>∃ a C dx fs v,x=.ref a/\H1 a=some (.ins C dx fs)/\Cls K C/\gd K C f/\fs.lookup f=some v/\Q v H1
def sFld(K:Pt)(ta tv:TE)(f:Str):TS:=fun D σ H=>tv σ H fun y H1=>ta σ H1 fun x H2=>∃ a C dx fs,x=.ref a/\H2 a=some (.ins C dx fs)/\Cls K C/\gd K C f/\fs.length<1000 /\
 D.nx σ (upd H2 a (.ins C dx (putF f y fs)))
section
variable{X:Cx}{o e value:Expr}{f:Str}{pos pos' tpos:Pos}{ta tv:TE}
theorem b9(he:PE X e ta)(hb:attributeBase e f X.env (eval e X.env)=eval e X.env):PE X (.Attribute e f pos) (tFld X.K ta f):=by
 intro pins s σ H Q I h
 refine Pd hb (thn (he pins s σ H _ I h) fun u s1 ⟨x,H1,I1,rx,a,C,dx,fs,v,ex,ea,c,n,l,q⟩=>?_)
 subst ex
 obtain rfl:u=Value.ref a:=rx
 exact Gx I1 ea c n l fun u' s2 I2 ru=>⟨v,H1,I2,ru,q⟩
theorem oo(ha:PE X o ta)(hv:PE X value tv)(hs:swapsWith value (some (.Attribute o f pos')) pos.line X.env=pure false):PS X (.Assign [.Attribute o f pos'] value pos) (sFld X.K ta tv f):=by
 intro pins s σ H D I h
 refine plainObj_wpAny_Assign_Attribute (thn (hv pins s σ H _ I h) fun u s1 ⟨y,H1,I1,ry,q⟩=>thn (ha pins s1 σ H1 _ I1 q) fun ov s2 ⟨x,H2,I2,rx,a,C,dx,fs,ex,ea,c,n,l,q2⟩=>?_) hs
 subst ex
 obtain rfl:ov=Value.ref a:=rx
 exact Fq I2 ea c n l ry fun s3 I3=>⟨σ,_,I3,q2⟩
end
section
variable{X:Cx}{pins:List (Addr×Obj)}{σ:St}{H:Hp}{s:Shared}{A:Around}{E:Value->Shared->Prop}{Q:Value->Shared->Prop}{c:Value}{b:Bool}
inductive TyOf(K:Pt)(H:Hp):V->Value->Prop where
 |non:TyOf K H .non (.type "NoneType")
 |bl (x:Bool):TyOf K H (.bl x) (.type "bool")
 |int (i:Int):TyOf K H (.int i) (.type "int")
 |str (x:Str):TyOf K H (.str x) (.type "str")
 |flt (x:UInt64):TyOf K H (.flt x) (.type "float")
 |lst {a:Addr} {xs:List V} (e:H a=some (.lst xs)):TyOf K H (.ref a) (.type "list")
 |frz {a:Addr} {o:Obj} {xs:List V} (e:H a=some (.frz o (.lst xs))):TyOf K H (.ref a) (.type "list")
 |tup {a:Addr} {xs:List V} (e:H a=some (.tup xs)):TyOf K H (.ref a) (.type "tuple")
 |dK {a:Addr} {kvs:List (Key×V)} (e:H a=some (.dK kvs)):TyOf K H (.ref a) (.type "dict")
 |dT {a:Addr} {kvs:List (List Key×V)} (e:H a=some (.dT kvs)):TyOf K H (.ref a) (.type "dict")
 |ins {a C dx:Addr} {fs:List (Str×V)} (e:H a=some (.ins C dx fs)) (cl:Cls K C) (ha:Qg K (.ref C) "__class__" = some (some (.builtin "object.__class__")))
   (hn:PySem.W.specialIn K (.builtin "object.__class__") "__get__" = some (some (.builtin "getset_descriptor.__get__"))) (htk:PySem.W.takesIn K (.builtin "object.__class__")=some true)
   (hm:PySem.W.mroIn K C (.type "object")=some true):TyOf K H (.ref a) (.ref C)
theorem Jt{x:V}{u t:Value}(I:Inv X pins σ H s)(rx:RelV x u)(ty:TyOf X.K H x t)(e:RP X.K t c=some b)(h:∀ tk,Q (.bool b) { s with toks:=tk }) :
  wpAny (model X.prog X.w) A (call (.builtin "isinstance") [u,c]) Q E s:=by
 cases ty with
 |non=>cases (show u=Value.none from rx);exact QS PySem.W.kitx_none I.kIn True.intro e (fun z=>nomatch z) h
 |bl y=>cases (show u=Value.bool y from rx);exact QS PySem.W.kitx_bool I.kIn True.intro e (fun z=>nomatch z) h
 |int i=>obtain⟨t,q⟩:=(show ∃ t,u=Value.int i t from rx);cases q;exact QS PySem.W.kitx_int I.kIn True.intro e (fun z=>nomatch z) h
 |str y=>obtain⟨t,q⟩:=(show ∃ t,u=Value.str y t from rx);cases q;exact QS PySem.W.kitx_str I.kIn True.intro e (fun z=>nomatch z) h
 |flt y=>obtain⟨t,q⟩:=(show ∃ t,u=Value.float y t from rx);cases q;exact QS PySem.W.kitx_float I.kIn True.intro e (fun z=>nomatch z) h
 | @lst a xs ea =>
  cases (show u=Value.ref a from rx)
  obtain⟨_,_,n,_,h1⟩:=(show cf X.prog X.w H s.heap a (.lst xs) from I.hok a _ ea)
  exact QS PySem.W.kitx_list I.kIn ⟨_,h1,rfl⟩ e (fun z=>nomatch z) h
 | @frz a ob xs ea =>
  cases (show u=Value.ref a from rx)
  obtain⟨_,_,_,n,_,h1⟩:=(show cf X.prog X.w H s.heap a (.frz ob (.lst xs)) from I.hok a _ ea)
  exact QS PySem.W.kitx_list I.kIn ⟨_,h1,rfl⟩ e (fun z=>nomatch z) h
 | @tup a xs ea =>
  cases (show u=Value.ref a from rx)
  obtain⟨_,_,_,p⟩:=(show cf X.prog X.w H s.heap a (.tup xs) from I.hok a _ ea)
  obtain⟨o,h1,h2,_⟩:=p
  exact QS PySem.W.kitx_tuple I.kIn ⟨o,h1,h2⟩ e (fun z=>nomatch z) h
 | @dK a kvs ea =>
  cases (show u=Value.ref a from rx)
  obtain⟨_,_,vs,_,p⟩:=(show cf X.prog X.w H s.heap a (.dK kvs) from I.hok a _ ea)
  obtain⟨o,es,ep,h1,h2,_⟩:=p
  exact QS PySem.W.kitx_dict I.kIn ⟨o,h1,h2.1⟩ e (fun z=>nomatch z) h
 | @dT a kvs ea =>
  cases (show u=Value.ref a from rx)
  obtain⟨_,_,xs,_,o,es,ep,h1,h2,_⟩:=(show cf X.prog X.w H s.heap a (.dT kvs) from I.hok a _ ea)
  exact QS PySem.W.kitx_dict I.kIn ⟨o,h1,h2.1⟩ e (fun z=>nomatch z) h
 | @ins a C dx fs ea cl ha hn htk hm =>
  cases (show u=Value.ref a from rx)
  obtain⟨mA,O,_⟩:=xq I.hok ea
  obtain⟨od,J,_⟩:=O.look
  exact QS (PySem.W.kitx_own (cl.get _) cl.hd ha hn htk hm) I.kIn J e (fun z=>nomatch z) h
end
end L2
namespace L2
open PySem PySem.Spec PyProof.Rows
structure Room(k:Nat)(A:Around):Prop where
 hd:A.handled=none
 dp:A.depth+3*k+5<recursionLimit
 un:A.units+16*k+200<cLine
theorem Room.mono{j k:Nat}{A:Around}(r:Room k A)(h:j<=k):Room j A:=⟨r.hd,by have:=r.dp;omega,by have:=r.un;omega⟩
theorem Room.deeper{k:Nat}{A:Around}(r:Room (k+1) A)(env:Env):Room k (A.deeper env) :=
 ⟨r.hd,by have:=r.dp;show A.depth+1+3*k+5<_;omega,by have:=r.un;show A.units+3+16*k+200<_;omega⟩
theorem F1{A:Around}{C:Addr}{us:List Value}{kw:List (Str×Value)}:(A.under (.builtin "type.__call__" ⟨.ref C::us,kw⟩)).depth=A.depth+1:=by
 first | rfl | simp[Around.under,Code.weight,Code.isCreation,Code.isGuard,Code.isCaller,Code.frames,Code.isFrame,guardIds]
theorem F0{A:Around}{C:Addr}{us:List Value}{kw:List (Str×Value)}:(A.under (.builtin "type.__call__" ⟨.ref C::us,kw⟩)).units=A.units+1:=by
 first | rfl | simp[Around.under,Code.cUnits,Code.frames,Code.isFrame]
theorem Room.make{k:Nat}{A:Around}(r:Room (k+1) A)(C:Addr)(us:List Value)(kw:List (Str×Value)):Room k (A.under (.builtin "type.__call__" ⟨.ref C::us,kw⟩)) :=
 ⟨r.hd,by have:=r.dp;rw[F1];omega,by have:=r.un;rw[F0];omega⟩
theorem Room.depth{k:Nat}{A:Around}(r:Room k A):A.depth<recursionLimit:=by have:=r.dp;omega
theorem Room.units{k:Nat}{A:Around}(r:Room k A):A.units+64<cLine:=by have:=r.un;omega
def tNil:TA:=fun _ H Q=>Q [] H
def tCons(ta:TE)(tr:TA):TA:=fun σ H Q=>ta σ H fun x H1=>tr σ H1 fun xs H2=>Q (x::xs) H2
section
variable{X:Cx}{e:Expr}{es:List Expr}{te:TE}{t:TA}{pos:Pos}
theorem ai:PA X [] tNil:=fun _ _ _ _ H Q I h=>Calls.spliced_nil ⟨[],H,I,.nil,h⟩
theorem ae(ha:PE X e te)(hr:PA X es t)(hs:starEach (e::es) X.env=(false,eval e X.env)::starEach es X.env:=by rfl):PA X (e::es) (tCons te t):=by
 intro pos pins s σ H Q I h
 rw[hs]
 show wpAny _ _ (spliced ((false,eval e X.env)::backTo pos (starEach es X.env))) _ _ s
 refine Calls.spliced_cons (thn (ha pins s σ H _ I h) fun u s1 ⟨x,H1,I1,r1,q1⟩=>?_)
 exact thn (hr pos pins s1 σ H1 _ I1 q1) fun us s2 ⟨xs,H2,I2,r2,q2⟩=>⟨x::xs,H2,I2,.cons r1 r2,q2⟩
def tTup(t:TA):TE:=fun σ H Q=>t σ H fun xs H1=>xs.length<=sizeLine/\∀ p,H1 p=none->Q (.ref p) (upd H1 p (.tup xs))
def tLst(t:TA):TE:=fun σ H Q=>t σ H fun xs H1=>xs.length<=sizeLine/\∀ p,H1 p=none->Q (.ref p) (upd H1 p (.lst xs))
theorem bK{x1}(h:PA X es t):PE X (.Tuple es x1 pos) (tTup t):=by
 intro pins s σ H Q I hq
 refine wpAny_Tuple_spliced (thn (h pos pins s σ H _ I hq) fun us s1 ⟨xs,H1,I1,r,z,q⟩=>⟨by rw[← r.length];exact z,?_⟩)
 have hf:H1 s1.heap.objs.size=none:=I1.hok.fresh (Pz _)
 refine⟨.ref s1.heap.objs.size,upd H1 s1.heap.objs.size (.tup xs),I1.laid (t':=s1.toks) (fun b u e=>Heap.get?_push_of_some _ e) (Pz _) ?_,rfl,q _ hf⟩
 exact⟨z,us,r,⟨_,Heap.get?_push_size _ rfl,rfl,_,rfl⟩⟩
theorem bY(h:PA X es t):PE X (.List es pos) (tLst t):=by
 intro pins s σ H Q I hq
 refine wpAny_List_spliced (thn (h pos pins s σ H _ I hq) fun us s1 ⟨xs,H1,I1,r,z,q⟩=>⟨by rw[← r.length];exact z,?_⟩)
 have hf:H1 s1.heap.objs.size=none:=I1.hok.fresh (Pz _)
 refine⟨.ref s1.heap.objs.size,upd H1 s1.heap.objs.size (.lst xs),I1.laid (t':=s1.toks) (fun b u e=>Heap.get?_push_of_some _ e) (Pz _) ?_,rfl,q _ hf⟩
 exact⟨z,us,0,r,Heap.get?_push_size _ rfl⟩
end
abbrev Sp:=List V->Hp->VK->XK->Prop
abbrev CXT:=List Env->Hp->Shared->XK->Value->Shared->Prop
structure Env0(P:Program)(w:World)(K:Pt)(mg:Str->Option Value)(base:Heap)(A:Around)(outer:List Env)(s:Shared)(H:Hp):Prop where
 frames:A.frames=some outer
 mod:Mod K mg base
 bs:∀ b o,base.get? b=some o->s.heap.get? b=some o/\H b=none
 bsz:base.objs.size<=s.heap.objs.size
 funs:s.heap.FunFrames base outer
 frf:∀ b∈frs outer,H b=none
 hok:HOk P w H s.heap
 bare:AllBare s.gens
def CE(outer:List Env)(P:Program)(w:World)(H:Hp)(s:Shared)(Q:VK)(u:Value)(s':Shared):Prop :=
 ∃ v H',s'.os=s.os/\AllBare s'.gens/\Un (frs outer) [] H H' s.heap s'.heap/\HOk P w H' s'.heap/\RelV v u/\Q v H'
def CR(CX:CXT)(outer:List Env)(P:Program)(w:World)(H:Hp)(s:Shared)(Q:VK)(E:XK)(r:Result)(s':Shared):Prop :=
 match r with
 |.ok (.ret u)=>CE outer P w H s Q u s'
 |.ok _=>False
 |.error e=>CX outer H s E e s'
structure FnOk(P:Program)(w:World)(K:Pt)(mg:Str->Option Value)(base:Heap)(CX:CXT)(k:Nat)(f:Addr)(fd:FuncData)(ps:List Str)(sp:Sp):Prop where
 len:∀ vs H Q E,sp vs H Q E->vs.length=ps.length
 run:∀(A:Around)(outer:List Env)(s:Shared)(H:Hp)(args:Args)(us:List Value)(vs:List V)(Q:VK)(E:XK),Room k A->Env0 P w K mg base A outer s H->BindsTo s fd args (ps.zip us)->Vals vs us->sp vs H Q E ->
  codeAny (model P w) A (.call (.ref f) args) (CR CX outer P w H s Q E) s
theorem Env0.make{P:Program}{w:World}{K:Pt}{mg:Str->Option Value}{base:Heap}{A:Around}{outer:List Env}{s:Shared}{H:Hp}(e:Env0 P w K mg base A outer s H)(C:Addr)(us:List Value)(kw:List (Str×Value)) :
  Env0 P w K mg base (A.under (.builtin "type.__call__" ⟨.ref C::us,kw⟩)) outer s H:=⟨by first | exact e.frames | (simpa[Around.under,Code.envs,Code.isFrame,pushEnvs] using e.frames),e.mod,e.bs,e.bsz,e.funs,e.frf,e.hok,e.bare⟩
section
variable{X:Cx}{pins:List (Addr×Obj)}{σ:St}{H:Hp}{s s':Shared}
theorem Inv.env0(I:Inv X pins σ H s):Env0 X.prog X.w X.K X.mg X.base X.A X.stack s H :=
 ⟨I.ok.frames,I.ok.mod,I.bs,QG I.ok.bsz I.sz,I.stack,I.stkFree,I.hok,I.bare⟩
theorem Inv.after{Q:VK}{u:Value}(I:Inv X pins σ H s)(h:CE X.stack X.prog X.w H s Q u s'):EP X pins σ Q u s':=by
 obtain⟨v,H',os,bare,un,hok,r,q⟩:=h
 obtain⟨hh,g,d,t,os'⟩:=s'
 obtain rfl:os'=s.os:=os
 exact⟨v,H',I.call (h':=hh) (g':=g) (d':=d) (t':=t) (ch:=[]) un hok bare (fun b z=>absurd z (by simp)),r,q⟩
end
def tCall(sp:Sp)(dvs:List V)(E:XK)(t:TA):TE:=fun σ H Q=>t σ H fun vs H1=>sp (vs++dvs) H1 Q E
def tMeth(C:Addr)(m:Str)(sp:Sp)(dvs:List V)(E:XK)(ta:TE)(t:TA):TE:=fun σ H Q=>ta σ H fun x H1=>∃ a dx fs,x=.ref a/\H1 a=some (.ins C dx fs)/\fs.lookup m=none /\
 t σ H1 fun vs H2=>sp (x::(vs++dvs)) H2 Q E
def tMake(C:Addr)(sp:Sp)(dvs:List V)(E:XK)(t:TA):TE:=fun σ H Q=>t σ H fun vs H1=>∀ x dx,H1 x=none->H1 dx=none->dx≠x ->
 sp (.ref x::(vs++dvs)) (upd (upd H1 dx (.own x)) x (.ins C dx [])) (fun v H2=>v=.non/\Q (.ref x) H2) E
def om(K:Pt)(fd:FuncData)(ps:List Str)(ds:List Value):Prop :=
 ∀(s:Shared)(us:List Value),K.In s.heap->(us++ds).length=ps.length->BindsTo s fd ⟨us,[]⟩ (ps.zip (us++ds))
theorem om.all{K:Pt}{fd:FuncData}{ps:List Str}(h:∀ us:List Value,us.length=ps.length->bindArgs fd ⟨us,[]⟩=pure (ps.zip us)):om K fd ps []:=fun s us _ hl=>by
 rw[RL]at hl ⊢
 exact .of_eq (h us hl)
def sN(CX:CXT)(X:Cx)(E:XK):Prop:=∀(pins:List (Addr×Obj))(σ:St)(H:Hp)(s:Shared)(e:Value)(s':Shared),Inv X pins σ H s->CX X.stack H s E e s'->X.xe e s'
section
variable{X:Cx}{CX:CXT}{k:Nat}{f C:Addr}{fd:FuncData}{ps:List Str}{sp:Sp}{dvs:List V}{ds:List Value}{E:XK}{x m:Str}{p pos apos:Pos}{e o:Expr}{es:List Expr}{ta:TE}{t:TA}
theorem Ic{pins:List (Addr×Obj)}{σ:St}{H:Hp}{s:Shared}{Q:VK}{us:List Value}{vs:List V}(F:FnOk X.prog X.w X.K X.mg X.base CX k f fd ps sp)(hr:Room k X.A)(hb:om X.K fd ps ds)(hd:Vals dvs ds)(hx:sN CX X E)
  (I:Inv X pins σ H s) (r:Vals vs us) (h:sp (vs++dvs) H Q E):wpAny (model X.prog X.w) X.A (call (.ref f) us) (EP X pins σ Q) X.xe s:=by
 have r2:Vals (vs++dvs) (us++ds):=r.append hd
 have hl:(us++ds).length=ps.length:=by rw[← r2.length];exact F.len _ _ _ _ h
 refine wpAny_call (codeAny_mono (F.run X.A X.stack s H ⟨us,[]⟩ (us++ds) (vs++dvs) Q E hr I.env0 (hb s us I.kIn hl) r2 h) fun r s' hq=>?_)
 cases r with
 |error e=>exact hx pins σ H s e s' I hq
 |ok fl =>
  cases fl with
  |ret u=>exact I.after hq
  |next=>exact False.elim hq
  |brk=>exact False.elim hq
  |cont=>exact False.elim hq
theorem ay(F:FnOk X.prog X.w X.K X.mg X.base CX k f fd ps sp)(hr:Room k X.A)(hg:Gl X x)(hm:X.mg x=some (.ref f))(hk:PJ X.K (.ref f)=true)(hb:om X.K fd ps ds)(hd:Vals dvs ds)(hx:sN CX X E)
  (ha:PA X (e::es) t) (hdb:(x == ("__debug__" : Str))=false:=by decide) (he:starEach (e::es) X.env=(false,eval e X.env)::starEach es X.env:=by rfl) (hpl:(backTo pos (starEach es X.env)).any (·.1)=false:=by rfl) :
  PE X (.Call (.Name x p) (e::es) [] pos) (tCall sp dvs E t):=by
 intro pins s σ H Q I h
 refine wpAny_Call_Name_kw (wO I hg hm ?_ hdb)
 refine PySem.W.callWith_K (h₀:=X.base) I.ok.mod.kin hk (thn (ha pos pins s σ H _ I h) fun us s1 ⟨vs,H1,I1,r,q⟩=>⟨I1.kIn,?_⟩) he hpl
 exact Ic F hr hb hd hx I1 r q
theorem Ly(F:FnOk X.prog X.w X.K X.mg X.base CX k f fd ps sp)(hr:Room k X.A)(hg:Gl X x)(hm:X.mg x=some (.ref f))(hk:PJ X.K (.ref f)=true)(hb:om X.K fd ps ds)(hd:Vals dvs ds)(hx:sN CX X E)
  (hdb:(x == ("__debug__" : Str))=false:=by decide):PE X (.Call (.Name x p) [] [] pos) (tCall sp dvs E tNil):=by
 intro pins s σ H Q I h
 refine wpAny_Call_Name_kw (wO I hg hm ?_ hdb)
 exact PySem.W.callWith_K0 I.kIn hk (Ic (us:=[]) F hr hb hd hx I .nil h)
theorem gZ{pl:Sem Bool}(he:PE X o ta)(c:Cls X.K C)(hm:Meth X.K C m f)(F:FnOk X.prog X.w X.K X.mg X.base CX k f fd ps sp)(hr:Room k X.A)(hb:om X.K fd ps ds)(hd:Vals dvs ds)(hx:sN CX X E)
  (ht:eval (.Call (.Attribute o m apos) [] [] pos) X.env=(do
   let ov ← eval o X.env
   standAt apos.atName
   let (f,first) ← holding [ov] (getMethod ov m pl)
   callWith pos f first (backTo pos (starEach [] X.env)) (backToKw pos (keywordEach [] X.env))):=by rfl) :
  PE X (.Call (.Attribute o m apos) [] [] pos) (tMeth C m sp dvs E ta tNil):=by
 intro pins s σ H Q I h
 refine PySem.W.methodCall_KW (pl:=pl) (thn (he pins s σ H _ I h) fun u s1 ⟨x,H1,I1,rx,a,dx,fs,ex,ea,l,q⟩=>?_) ht
 subst ex
 obtain rfl:u=Value.ref a:=rx
 refine Gw I1 ea c hm l ?_
 exact PySem.W.callWith_K0 (first:=[.ref a]) I1.kIn hm.kp (Ic (us:=[.ref a]) (vs:=[.ref a]) F hr hb hd hx I1 (.cons rfl .nil) q)
structure Mk(K:Pt)(C f:Addr):Prop where
 makes:R0 K C=true
 init:Qg K (.ref C) "__init__" = some (some (.ref f))
 fn:RJ K (.ref f)=true
 kp:PJ K (.ref C)=true
theorem Lo{pins:List (Addr×Obj)}{σ:St}{H:Hp}{s:Shared}{Q:VK}{us:List Value}{vs:List V}(M:Mk X.K C f)(F:FnOk X.prog X.w X.K X.mg X.base CX k f fd ps sp)(hr:Room (k+1) X.A)(hb:om X.K fd ps ds)(hd:Vals dvs ds)
  (hx:sN CX X E) (I:Inv X pins σ H s) (r:Vals vs us)
  (h:∀ x dx,H x=none->H dx=none->dx≠x->sp (.ref x::(vs++dvs)) (upd (upd H dx (.own x)) x (.ins C dx [])) (fun v H2=>v=.non/\Q (.ref x) H2) E) :
  wpAny (model X.prog X.w) X.A (call (.ref C) us) (EP X pins σ Q) X.xe s:=by
 have hq:=h (s.heap.objs.size+1) s.heap.objs.size (I.hok.fresh (Rj _)) (I.hok.fresh (Pz _)) (Qk (QE _))
 have I2:=Inv.made (C:=C) I
 have r2:Vals (V.ref (s.heap.objs.size+1)::(vs++dvs)) (Value.ref (s.heap.objs.size+1)::(us++ds)):=.cons rfl (r.append hd)
 have hl:(Value.ref (s.heap.objs.size+1)::us++ds).length=ps.length:=by
  have e:=r2.length
  rw[F.len _ _ _ _ hq]at e
  exact e.symm
 refine wpAny_call (L7 (f:=f) I.kIn M.makes M.init (beq_iff_eq.mp M.fn) (codeAny_mono (F.run _ X.stack _ _ ⟨Value.ref (s.heap.objs.size+1)::us,[]⟩ (Value.ref (s.heap.objs.size+1)::(us++ds)) _ _ E (hr.make C us [])
  (I2.env0.make C us []) (hb _ (Value.ref (s.heap.objs.size+1)::us) I2.kIn hl) r2 hq) fun r s' hq'=>?_))
 cases r with
 |error e=>exact hx pins σ _ _ e s' I2 hq'
 |ok fl =>
  cases fl with
  |ret u =>
   obtain⟨v,H',I3,rv,ev,q3⟩:=I2.after hq'
   subst ev
   exact⟨rv,⟨V.ref (s.heap.objs.size+1),H',I3,rfl,q3⟩⟩
  |next=>exact False.elim hq'
  |brk=>exact False.elim hq'
  |cont=>exact False.elim hq'
theorem Cd(M:Mk X.K C f)(F:FnOk X.prog X.w X.K X.mg X.base CX k f fd ps sp)(hr:Room (k+1) X.A)(hg:Gl X x)(hm:X.mg x=some (.ref C))(hb:om X.K fd ps ds)(hd:Vals dvs ds)(hx:sN CX X E)
  (ha:PA X (e::es) t) (hdb:(x == ("__debug__" : Str))=false:=by decide) (he:starEach (e::es) X.env=(false,eval e X.env)::starEach es X.env:=by rfl) (hpl:(backTo pos (starEach es X.env)).any (·.1)=false:=by rfl) :
  PE X (.Call (.Name x p) (e::es) [] pos) (tMake C sp dvs E t):=by
 intro pins s σ H Q I h
 refine wpAny_Call_Name_kw (wO I hg hm ?_ hdb)
 refine PySem.W.callWith_K (h₀:=X.base) I.ok.mod.kin M.kp (thn (ha pos pins s σ H _ I h) fun us s1 ⟨vs,H1,I1,r,q⟩=>⟨I1.kIn,?_⟩) he hpl
 exact Lo M F hr hb hd hx I1 r q
end
section
variable{X:Cx}{CX:CXT}{k:Nat}{f C:Addr}{fd:FuncData}{ps ks:List Str}{sp:Sp}{E:XK}{x m:Str}{p pos apos kpos:Pos}{e o:Expr}{es:List Expr}{kws:List Keyword}{te ta:TE}{t tk:TA}{nm:Option Str}
variable{g:List Value->List Value->List Value}{gV:List V->List V->List V}
end
structure aC(N P:List Str)(sc:Scope):Prop where
 kind:sc.kind=.function
 co:sc.isCoroutine=false
 gen:sc.isGenerator=false
 nd:N.Nodup
 pre:N.take P.length=P
 par:∀ x∈P,sc.names.lookup x=some .local∨sc.names.lookup x=some .cell
 nofree:∀ y∈sc.names,y.2≠.free
theorem AE{kindOf:Str->Option NameKind}{x:Str}:∀{binds:List (Str×Value)}{m:Str->Option Value},(∀ v,(x,v)∉binds)->bindL kindOf binds m x=m x
 |[],_,_=>rfl
 | (n,v)::r,m,h=>by
  unfold bindL
  rw[AE fun w hw=>h w (PD _ hw)]
  split
  ·have:x≠n:=by rintro rfl;exact h v PH
   simp[this]
  ·rfl
theorem AG{kindOf:Str->Option NameKind}{x:Str}:∀{binds:List (Str×Value)}{m:Str->Option Value},(∀ v,(x,v)∉binds)->bindC kindOf binds m x=m x
 |[],_,_=>rfl
 | (n,v)::r,m,h=>by
  unfold bindC
  rw[AG fun w hw=>h w (PD _ hw)]
  split
  ·rfl
  ·have:x≠n:=by rintro rfl;exact h v PH
   simp[this]
theorem AF{kindOf:Str->Option NameKind}{x:Str}{v:Value}:∀{P:List Str}{vs:List Value}{i:Nat}{m:Str->Option Value},P.Nodup->P[i]?=some x->vs[i]?=some v->kindOf x=some .local ->
  bindL kindOf (P.zip vs) m x=some v
 |[],_,_,_,_,h,_,_=>by simp at h
 |_::_,[],_,_,_,_,h,_=>by simp at h
 |p::P,w::vs,0,m,nd,h1,h2,hk=>by
  simp at h1 h2;subst h1;subst h2
  show bindL kindOf ((p,w)::P.zip vs) m p=_
  unfold bindL
  rw[AE fun v hv=>(PF.mp nd).1 (SS hv).1,if_pos hk]
  simp
 |p::P,w::vs,i+1,m,nd,h1,h2,hk=>by
  show bindL kindOf ((p,w)::P.zip vs) m x=_
  unfold bindL
  exact AF (i:=i) (PF.mp nd).2 (by simpa using h1) (by simpa using h2) hk
theorem AH{kindOf:Str->Option NameKind}{x:Str}{v:Value}:∀{P:List Str}{vs:List Value}{i:Nat}{m:Str->Option Value},P.Nodup->P[i]?=some x->vs[i]?=some v->kindOf x≠some .local ->
  bindC kindOf (P.zip vs) m x=some v
 |[],_,_,_,_,h,_,_=>by simp at h
 |_::_,[],_,_,_,_,h,_=>by simp at h
 |p::P,w::vs,0,m,nd,h1,h2,hk=>by
  simp at h1 h2;subst h1;subst h2
  show bindC kindOf ((p,w)::P.zip vs) m p=_
  unfold bindC
  rw[AG fun v hv=>(PF.mp nd).1 (SS hv).1,if_neg hk]
  simp
 |p::P,w::vs,i+1,m,nd,h1,h2,hk=>by
  show bindC kindOf ((p,w)::P.zip vs) m x=_
  unfold bindC
  exact AH (i:=i) (PF.mp nd).2 (by simpa using h1) (by simpa using h2) hk
def vf(N:List Str)(vs:List V):St:=vs.map some++PU (N.length-vs.length) none
def cxOf(CX:CXT)(P:Program)(w:World)(K:Pt)(mg:Str->Option Value)(base:Heap)(N:List Str)(qual:Str)(scope:Scope)(f:Addr)(cd:Value)(A:Around)(outer:List Env)(s:Shared)(H:Hp)(E:XK):Cx where
 prog:=P
 w:=w
 K:=K
 mg:=mg
 base:=base
 A:=A.deeper (envOfC qual scope s.heap.objs.size f cd)
 N:=N
 s₀:=s
 H₀:=H
 env:=envOfC qual scope s.heap.objs.size f cd
 outer:=outer
 stack:=envOfC qual scope s.heap.objs.size f cd::outer
 ex:=[]
 calm:=true
 fn:=fun _=>true
 pn:=[]
 xe:=fun e s'=>wpAny (model P w) (A.deeper (envOfC qual scope s.heap.objs.size f cd)) (leaving (envOfC qual scope s.heap.objs.size f cd) e) (fun _ s''=>CX outer H s E e s'') (fun e' s''=>CX outer H s E e' s'') s'
theorem E6{sc:Scope}{n:Nat}{x:Str}(h:sc.names.lookup x=some .cell):∃ c,(cellsFrom n sc.names []).lookup x=some c:=by
 have q:=PySem.W.cellsFrom_some sc.names n [] (.inl h)
 exact S8.mp q
theorem Ju{CX:CXT}{P:Program}{w:World}{K:Pt}{mg:Str->Option Value}{base:Heap}{N ps:List Str}{qual:Str}{scope:Scope}{f:Addr}{cd:Value}{A:Around}{outer:List Env}{s s1:Shared}{H:Hp}{E:XK}{us:List Value}{vs:List V}
  (S:aC N ps scope) (hd:A.handled=none) (e0:Env0 P w K mg base A outer s H) (hl:vs.length=ps.length) (r:Vals vs us)
  (x:InCallC s s.heap.objs.size (bindL (envOfC qual scope s.heap.objs.size f cd).kindOf (ps.zip us) fun _=>none) (cellsFrom (s.heap.objs.size+1) scope.names []) (bindC (envOfC qual scope s.heap.objs.size f cd).kindOf (ps.zip us) fun _=>none) s1) :
  Inv (cxOf CX P w K mg base N qual scope f cd A outer s H E) [] (vf N vs) H s1:=by
 have hpl:ps.length<=N.length:=by have:=congrArg List.length S.pre;rw[Qr]at this;omega
 obtain⟨h1,tk,rfl,hk⟩:=x.done
 have noA:∀ b:Addr,b∉(cxOf CX P w K mg base N qual scope f cd A outer s H E).ex:=fun b z=>absurd (show b∈([]:List Addr) from z) (by simp)
 refine⟨⟨e0.mod,S.kind,rfl,rfl,Pz _,fun y z c h1 h2=>?_,fun y hy=>?_,fun y c _ h=>?_,fun _=>hd,Around.frames_deeper e0.frames,.inr ⟨rfl,rfl⟩,fun b z=>absurd z (noA b),e0.bs,e0.bsz,fun b _ _=>noA b,fun b z=>absurd z (noA b),e0.funs,e0.frf⟩,
  rfl,e0.bare,Un.kept hk,⟨_,x.toInCall.ns,fun i y v h1 h2 h3=>?_⟩,fun y c h=>⟨_,x.cell y c h⟩,e0.hok.fresh (Pz _),fun y c h=>?_,fun p hp=>absurd (show p∈([]:List (Addr×Obj)) from hp) (by simp),e0.hok.kept hk,?_⟩
 ·exact name_of_addr x.apart (QN h1) (QN h2)
 ·have hy:scope.names.lookup y=some .cell∨scope.names.lookup y=some .free:=hy
  rcases hy with hy | hy
  ·exact E6 hy
  ·exact absurd rfl (S.nofree _ (QN hy))
 ·exact Ql (x.above y c (QN h))
 ·have hi:i<vs.length:=by
   unfold vf at h2
   by_cases hi:i<vs.length
   ·exact hi
   ·rw[Pu (by simpa using hi)]at h2
    rw[QU]at h2
    split at h2<;>cases h2
  have ha:vs[i]?=some v:=by
   unfold vf at h2
   rw[Py (by simpa using hi),PR]at h2
   cases e:vs[i]? with
   |none=>rw[e]at h2;cases h2
   |some a=>rw[e]at h2;cases h2;rfl
  obtain⟨u,hu,rv⟩:=r.get ha
  have hp:ps[i]?=some y:=by
   rw[← S.pre,List.getElem?_take_of_lt (by omega)];exact h1
  have ndP:ps.Nodup:=by rw[← S.pre];exact S.nd.sublist (List.take_sublist _ _)
  refine⟨u,rv,?_⟩
  rcases S.par y (Pr hp)with k | k
  ·exact .inl ⟨k,AF ndP hp hu k⟩
  ·obtain⟨c,e⟩:=E6 (n:=s.heap.objs.size+1) k
   refine .inr ⟨.inl k,c,e,?_⟩
   have q:=x.cell y c e
   rw[AH ndP hp hu (by show scope.names.lookup y≠_;rw[k];decide)]at q
   exact q
 ·exact e0.hok.fresh (Ql (x.above y c (QN h)))
 ·unfold vf
  show _=N.length
  rw[Px,PB,Q4]
  omega
theorem fn_of{CX:CXT}{P:Program}{w:World}{K:Pt}{mg:Str->Option Value}{base:Heap}{k:Nat}{f:Addr}{name qual:Str}{params:Arguments}{body:List Stmt}{scope:Scope}{dV kV doc pm cdv ct oc:Value}{an od:Option Addr}
  {osl:Array (Option Value)} {N ps:List Str} {sp:Sp} (lk:K.lookup f=some ⟨oc,od,.func (PX name qual params body scope dV kV doc pm an cdv ct),osl⟩) (hcd:PN K cdv qual=true) (S:aC N ps scope)
  (len:∀ vs H Q E,sp vs H Q E->vs.length=ps.length)
  (hbody:∀(A:Around)(outer:List Env)(s:Shared)(H:Hp)(vs:List V)(Q:VK)(E:XK),Room k (A.deeper (envOfC qual scope s.heap.objs.size f cdv))->sp vs H Q E ->
   ∃ t,PSs (cxOf CX P w K mg base N qual scope f cdv A outer s H E) body t/\t { nx:=fun _ H'=>Q .non H',rt:=Q } (vf N vs) H) :
  FnOk P w K mg base CX (k+1) f (PX name qual params body scope dV kV doc pm an cdv ct) ps sp:=by
 refine⟨len,fun A outer s H args us vs Q E hr e0 hb r hsp=>?_⟩
 have hl:=len _ _ _ _ hsp
 have KX:K.In s.heap:=e0.mod.kin.keeps fun b o e=>(e0.bs b o e).1
 have lim:s.heap.NoLimit:=e0.mod.nolimit.keeps fun b o e=>(e0.bs b o e).1
 have hkind:∀ y∈ps.zip us,scope.names.lookup y.1=some .local∨(scope.names.lookup y.1=some .cell/\((cellsFrom (s.heap.objs.size+1) scope.names []).lookup y.1).isSome=true):=fun⟨n,v⟩ hy=>by
  rcases S.par n (SS hy).1 with q | q
  ·exact .inl q
  ·exact .inr ⟨q,PySem.W.cellsFrom_some _ _ _ (.inl q)⟩
 refine codeAny_call_function hr.depth (KX _ _ lk) rfl S.co S.gen rfl (PySem.W.codeRec_of KX hcd) (hb _ _ _ _ ?_)
 refine wpAny_newFunctionEnv_cells S.kind hkind fun env he s1 x=>?_
 subst he
 refine⟨lim.keeps x.toInCall.keep,codeAny_func ?_⟩
 obtain⟨t,ht,hq⟩:=hbody A outer s H vs Q E (hr.deeper _) hsp
 have I:Inv (cxOf CX P w K mg base N qual scope f cdv A outer s H E) [] (vf N vs) H s1:=Ju S hr.hd e0 hl r x
 refine wpAny_mono (ht [] s1 (vf N vs) H _ I hq) (fun fl s' hs=>?_) fun e s' hs=>hs
 have fin:∀{σ':St}{H':Hp}{v:V}{u:Value},Inv (cxOf CX P w K mg base N qual scope f cdv A outer s H E) [] σ' H' s'->RelV v u->Q v H'->CE outer P w H s Q u s' :=
  fun{σ' H' v u} J rv q=>⟨v,H',J.os,J.bare,J.base,J.hok,rv,q⟩
 cases fl with
 |ret u =>
  obtain⟨v,σ',H',J,rv,q⟩:=hs
  exact fin J rv q
 |next =>
  obtain⟨σ',H',J,q⟩:=hs
  exact fin (v:=V.non) (u:=Value.none) J rfl q
 |brk =>
  obtain⟨_,_,_,q⟩:=hs
  exact False.elim q
 |cont =>
  obtain⟨_,_,_,q⟩:=hs
  exact False.elim q
end L2
namespace L2
open PySem PySem.Spec PyProof.Rows
section
variable{X:Cx}{x:Str}{p pos:Pos}{e:Expr}{es:List Expr}{t:TA}{id T:String}{r:List V->Hp->VK->Prop}
def tCB(r:List V->Hp->VK->Prop)(t:TA):TE:=fun σ H Q=>t σ H fun vs H1=>r vs H1 Q
theorem aE(hc:pH X (.builtin id) r)(hg:Gl X x)(hm:X.mg x=none)(hv:bootBuiltins x=some (.builtin id))(ha:PA X (e::es) t) (hn:x≠"__name__":=by decide) (hdb:(x == ("__debug__" : Str))=false:=by decide)
  (he:starEach (e::es) X.env=(false,eval e X.env)::starEach es X.env:=by rfl) (hpl:(backTo pos (starEach es X.env)).any (·.1)=false:=by rfl):PE X (.Call (.Name x p) (e::es) [] pos) (tCB r t):=by
 intro pins s σ H Q I h
 refine wpAny_Call_Name_kw (l7 I hg hm hv ?_ hn hdb)
 exact PyProof.Rows.callWith_builtin1 (thn (ha pos pins s σ H _ I h) fun us s1 ⟨vs,H1,I1,r1,q1⟩=>hc pins s1 σ H1 vs us Q I1 r1 q1) he hpl
theorem iQ(hc:pH X (.type T) r)(hg:Gl X x)(hm:X.mg x=none)(hv:bootBuiltins x=some (.type T))(ha:PA X (e::es) t) (hn:x≠"__name__":=by decide) (hdb:(x == ("__debug__" : Str))=false:=by decide)
  (he:starEach (e::es) X.env=(false,eval e X.env)::starEach es X.env:=by rfl) (hpl:(backTo pos (starEach es X.env)).any (·.1)=false:=by rfl):PE X (.Call (.Name x p) (e::es) [] pos) (tCB r t):=by
 intro pins s σ H Q I h
 refine wpAny_Call_Name_kw (l7 I hg hm hv ?_ hn hdb)
 exact PyProof.Rows.callWith_type1 (thn (ha pos pins s σ H _ I h) fun us s1 ⟨vs,H1,I1,r1,q1⟩=>hc pins s1 σ H1 vs us Q I1 r1 q1) he hpl
end
end L2
namespace HT
open PySem PyProof.Rows
section
open PySem.SeqAt
open PySem.AutoSeq1 (wpAny_loadPart')
open PySem.MeetsSeq PySem.MeetsSeq2 PySem.MeetsSeq3
end
section
variable{prog:Program}{w:World}{A:Around}{E:Value->Shared->Prop}{s:Shared}
def sIx(n d:Nat):Option Int->Nat
 |none=>d
 |some v=>if v<0 then(v+(n:Int)).toNat else min v.toNat n
theorem sIx_none(n d:Nat):sIx n d none=d:=rfl
theorem sIx_nat(n d k:Nat):sIx n d (some (k:Int))=min k n:=by
 show(if(k:Int)<0 then((k:Int)+(n:Int)).toNat else min (k:Int).toNat n)=min k n
 rw[if_neg (by omega),PQ]
end
end HT
namespace L2
open PySem PySem.Spec PyProof.Rows
abbrev TO:=St->Hp->(Option Int->Hp->Prop)->Prop
def PO(X:Cx)(e:Option Expr)(t:TO):Prop :=
 ∀(pins:List (Addr×Obj))(s:Shared)(σ:St)(H:Hp)(Q:Option Int->Hp->Prop),Inv X pins σ H s->t σ H Q ->
  wpAny (model X.prog X.w) X.A (evalPart e X.env) (fun u s'=>∃ o H',Inv X pins σ H' s'/\IsPart u o/\Q o H') X.xe s
def Nv:TO:=fun _ H Q=>Q none H
def tPart(t:TE):TO:=fun σ H Q=>t σ H fun x H1=>∃ i,x=.int i/\Q (some i) H1
section
variable{X:Cx}{e:Expr}{te:TE}{lo hi:Option Expr}{tl th:TO}{pos p2:Pos}
theorem kx:PO X none Nv:=by
 intro pins s σ H Q I h
 rw[evalPart_none]
 exact wpAny_pure ⟨none,H,I,.none,h⟩
theorem fe(h:PE X e te):PO X (some e) (tPart te):=by
 intro pins s σ H Q I hw
 rw[evalPart_some]
 refine thn (h pins s σ H _ I hw) fun u s1 ⟨x,H1,I1,r1,q1⟩=>?_
 obtain⟨i,rfl,q⟩:=q1
 obtain⟨t,rfl⟩:=r1
 exact⟨some i,H1,I1,.int i t,q⟩
def SlR(X:Cx)(r:V->Option Int->Option Int->Hp->VK->Prop):Prop :=
 ∀(pins:List (Addr×Obj))(s:Shared)(σ:St)(H:Hp)(x:V)(v vl vu:Value)(lo hi:Option Int)(sl:Addr)(Q:VK),Inv X pins σ H s->RelV x v->s.heap.IsSliceOf sl vl vu .none->IsPart vl lo->IsPart vu hi->r x lo hi H Q ->
  ∃ T id,typeLookup (.type T) "__getitem__" = pure (some (.builtin id))/\s.TypeIs v T/\wpAny (model X.prog X.w) X.A (getItem v (.ref sl)) (EP X pins σ Q) X.xe s
def tSl(r:V->Option Int->Option Int->Hp->VK->Prop)(te:TE)(tl th:TO):TE:=fun σ H Q=>te σ H fun x H1=>tl σ H1 fun l H2=>th σ H2 fun u H3=>r x l u H3 Q
theorem eu{r:V->Option Int->Option Int->Hp->VK->Prop}(hr:SlR X r)(he:PE X e te)(hl:PO X lo tl)(hu:PO X hi th):PE X (.Subscript e (.Slice lo hi none p2) pos) (tSl r te tl th):=by
 intro pins s σ H Q I h
 refine Subscript_ (thn (he pins s σ H _ I h) fun v s1 ⟨x,H1,I1,r1,q1⟩=>?_)
 refine wpAny_Slice (thn (hl pins s1 σ H1 _ I1 q1) fun vl s2 ⟨l,H2,I2,pl,q2⟩=>thn (hu pins s2 σ H2 _ I2 q2) fun vu s3 ⟨u,H3,I3,pu,q3⟩=>?_)
 rw[evalPart_none]
 refine wpAny_pure ?_
 have I4:Inv X pins σ H3 { s3 with heap:=s3.heap.push { cls:=.type "slice",data:=.fields #[vl,vu,.none] } }:=I3.kept (t':=s3.toks) fun b ob q=>Heap.get?_push_of_some _ q
 obtain⟨T,id,hT,ht,hg⟩:=hr pins { s3 with heap:=s3.heap.push { cls:=.type "slice",data:=.fields #[vl,vu,.none] } } σ H3 x v vl vu l u s3.heap.objs.size Q I4 r1 (Heap.IsSliceOf.new ..) pl pu q3
 show wpAny (model X.prog X.w) X.A (subscriptTail e (.Slice lo hi none p2) v (.ref s3.heap.objs.size)) (EP X pins σ Q) X.xe { s3 with heap:=s3.heap.push { cls:=.type "slice",data:=.fields #[vl,vu,.none] } }
 exact tail_any (ops:=[.ref s3.heap.objs.size,v]) ht hT hg (by with_unfolding_all rfl)
def cutV(xs:List V)(lo hi:Option Int):List V:=(xs.drop (HT.sIx xs.length 0 lo)).take (HT.sIx xs.length xs.length hi-HT.sIx xs.length 0 lo)
theorem DN(xs:List V)(lo hi:Option Int):(cutV xs lo hi).length<=xs.length:=by
 unfold cutV
 rw[Qr,QX]
 omega
end
end L2
namespace L2
open PySem PySem.Spec PyProof.Rows
def ixN(n:Nat)(i:Int):Option Nat:=if 0<=i then(if i<n then some i.toNat else none) else if -(n:Int)<=i then some (i+n).toNat else none
def atI{α:Type}(xs:List α)(i:Int):Option α:=(ixN xs.length i).bind fun j=>xs[j]?
theorem Du{n:Nat}{i:Int}{j:Nat}(h:ixN n i=some j):seqIndex? i n=some j/\j<n/\-(n:Int)<=i/\i<n:=by
 unfold ixN at h
 by_cases h0:0<=i
 ·rw[if_pos h0]at h
  by_cases h1:i<n
  ·rw[if_pos h1]at h
   have e:i.toNat=j:=P5 h
   exact⟨by rw[seqIndex_of h0 h1,e],by omega,by omega,h1⟩
  ·rw[if_neg h1]at h;cases h
 ·rw[if_neg h0]at h
  by_cases h1 : -(n:Int)<=i
  ·rw[if_pos h1]at h
   have e:(i+n).toNat=j:=P5 h
   exact⟨by rw[seqIndex_neg (by omega) h1,e],by omega,h1,by omega⟩
  ·rw[if_neg h1]at h;cases h
theorem KD{α:Type}{xs:List α}{i:Int}{v:α}(h:atI xs i=some v):∃ j,seqIndex? i xs.length=some j/\xs[j]?=some v/\j<xs.length/\-(xs.length:Int)<=i/\i<xs.length:=by
 unfold atI at h
 cases e:ixN xs.length i with
 |none=>rw[e]at h;cases h
 |some j =>
  rw[e]at h
  obtain⟨h1,h2,h3,h4⟩:=Du e
  exact⟨j,h1,h,h2,h3,h4⟩
theorem aA{α:Type}{xs:List α}{j:Nat}{v:α}(h:xs[j]?=some v):atI xs (j:Int)=some v:=by
 have hj:j<xs.length:=(Pp.mp h).1
 have e:ixN xs.length (j:Int)=some j:=by
  unfold ixN
  rw[if_pos (by omega),if_pos (by omega)];simp
 unfold atI;rw[e];exact h
def Po(b:Expr):Prop:=∀ o i,subscripted b false o i=operate [o,i] (getItem o i)
def IxR(X:Cx)(r:R2):Prop :=
 ∀(value slice:Expr)(pins:List (Addr×Obj))(s:Shared)(σ:St)(H:Hp)(x y:V)(v u:Value)(Q:VK),Inv X pins σ H s->RelV x v->RelV y u->r x y H Q ->
  subscripted slice false v u=operate [v,u] (getItem v u)->wpAny (model X.prog X.w) X.A (subscriptTail value slice v u) (EP X pins σ Q) X.xe s
def MtR(X:Cx)(id:String)(r:V->List V->Hp->VK->Prop):Prop :=
 ∀(pins:List (Addr×Obj))(s:Shared)(σ:St)(H:Hp)(x:V)(xs:List V)(v:Value)(us:List Value)(Q:VK),Inv X pins σ H s->RelV x v->Vals xs us->r x xs H Q ->
  wpAny (model X.prog X.w) X.A (call (.builtin id) (v::us)) (EP X pins σ Q) X.xe s
section
variable{X:Cx}{a b:Expr}{ta tb:TE}{pos:Pos}
theorem ax{r:R2}(hr:IxR X r)(ha:PE X a ta)(hb:PE X b tb)(hs:Po b):PE X (.Subscript a b pos) (tOp r ta tb):=by
 intro pins s σ H Q I h
 exact Subscript_ (binT ha hb I h fun v u s2 x y H2 I2 rx ry q=>hr a b pins s2 σ H2 x y v u Q I2 rx ry q (hs _ _))
def rIxL(K:Pt):R2:=fun x y H Q=>∃ p xs i v,x=.ref p/\y=.int i/\SqL K H p xs/\atI xs i=some v/\Q v H
def rIxT(K:Pt):R2:=fun x y H Q=>∃ p xs i v,x=.ref p/\y=.int i/\SqT K H p xs/\atI xs i=some v/\Q v H
theorem az:IxR X (rIxL X.K):=by
 intro value slice pins s σ H x y v u Q I rx ry h hs
 obtain⟨p,xs,i,z,rfl,rfl,hq,he,q⟩:=h
 cases rx
 obtain⟨t,rfl⟩:=ry
 obtain⟨its,r,pl,hz⟩:=I.list hq
 obtain⟨j,h1,h2,h3,h4,h5⟩:=KD he
 obtain⟨w,ew,rw'⟩:=r.get h2
 have hl:=r.length
 have hn:=uB
 have fin:EP X pins σ Q w s:=⟨z,H,I,rw',q⟩
 by_cases h0:0<=i
 ·have hj:i.toNat=j:=by
   rw[seqIndex_of h0 h5]at h1
   exact P5 h1
  exact item_listR pl.isList h0 (by omega) (by rw[hj];simpa using ew) fin hs
 ·have hj:(i+(its.toArray.size:Int)).toNat=j:=by
   rw[seqIndex_neg (by omega) h4]at h1
   rw[P8,← hl]
   exact P5 h1
  exact subscriptTail_builtinR (x:=w) pl.isList.typeIs slot_list_getitem.lookup
   (wpAny_getItem_list_neg (Q:=fun r s'=>r=w/\EP X pins σ Q r s') pl.isList (by omega) (by rw[P8]<;>omega) (by omega) (by rw[hj];simpa using ew) ⟨rfl,fin⟩) hs
theorem aH:IxR X (rIxT X.K):=by
 intro value slice pins s σ H x y v u Q I rx ry h hs
 obtain⟨p,xs,i,z,rfl,rfl,hq,he,q⟩:=h
 cases rx
 obtain⟨t,rfl⟩:=ry
 obtain⟨its,r,pl,hz⟩:=I.tuple hq
 obtain⟨j,h1,h2,h3,h4,h5⟩:=KD he
 obtain⟨w,ew,rw'⟩:=r.get h2
 have hl:=r.length
 have hn:=uB
 have fin:EP X pins σ Q w s:=⟨z,H,I,rw',q⟩
 exact subscriptTail_builtinR (x:=w) pl.typeIs slot_tuple_getitem.lookup
  (getItem_tuple (j:=j) (Q:=fun r s'=>r=w/\EP X pins σ Q r s') pl (by omega) (by omega) (by rw[P8,← hl];exact h1) (by simpa using ew) ⟨rfl,fin⟩) hs
theorem FZ(its:List Value)(n j:Nat)(u:Value):Obj.mapSeq (·.setIfInBounds j u) { cls:=.type "list",data:=.seq its.toArray n }={ cls:=.type "list",data:=.seq (its.set j u).toArray n }:=by
 simp[Obj.mapSeq]
theorem Inv.lst{pins:List (Addr×Obj)}{σ:St}{H:Hp}{s:Shared}{p:Addr}{xs:List V}(I:Inv X pins σ H s)(h:H p=some (.lst xs)) :
  ∃(its:List Value)(n:Nat),Vals xs its/\s.heap.get? p=some { cls:=.type "list",data:=.seq its.toArray n }/\xs.length<=sizeLine:=by
 obtain⟨z,its,n,r,e⟩:=I.hok p _ h
 exact⟨its,n,r,e,z⟩
theorem Inv.lstUpd{pins:List (Addr×Obj)}{σ:St}{H:Hp}{s:Shared}{p:Addr}{xs ys:List V}{its its':List Value}{n n':Nat}{f:Obj->Obj}(I:Inv X pins σ H s)(h:H p=some (.lst xs))
  (ho:s.heap.get? p=some { cls:=.type "list",data:=.seq its.toArray n }) (hf:f { cls:=.type "list",data:=.seq its.toArray n }={ cls:=.type "list",data:=.seq its'.toArray n' }) (r:Vals ys its') (hz:ys.length<=sizeLine) (t:Nat) :
  Inv X pins σ (upd H p (.lst ys)) { s with heap:=s.heap.update p f,toks:=t }:=by
 have e:(s.heap.update p f).get? p=some { cls:=.type "list",data:=.seq its'.toArray n' }:=by
  rw[Heap.get?_update_self f ho (by rw[hf]<;>rfl),hf]
 refine I.write (x:=p) (e:=p) (by rw[h];trivial) (.inl rfl) (fun b u hb q=>(Heap.get?_update_other _ _ (Ne.symm hb)).trans q) ⟨_,e⟩ ?_
 exact⟨hz,its',n',r,e⟩
def rSetL:V->V->V->Hp->(Hp->Prop)->Prop:=fun o i v H Q=>∃ p xs k j,o=.ref p/\i=.int k/\H p=some (.lst xs)/\ixN xs.length k=some j/\Q (upd H p (.lst (xs.set j v)))
theorem d8:PSet X rSetL:=by
 intro pins s σ H o i v ov iv u Q I ro ri rv h
 obtain⟨p,xs,k,j,rfl,rfl,hp,hj,q⟩:=h
 cases ro
 obtain⟨t,rfl⟩:=ri
 obtain⟨its,n,r,ho,hz⟩:=I.lst hp
 obtain⟨h1,h2,h3,h4⟩:=Du hj
 have hl:=r.length
 have hn:=uB
 have I':Inv X pins σ (upd H p (.lst (xs.set j v))) { s with heap:=s.heap.update p (Obj.mapSeq (·.setIfInBounds j u)) } :=
  I.lstUpd hp ho (FZ its n j u) (r.set rv j) (by rw[Qa];exact hz) s.toks
 by_cases h0:0<=k
 ·have hk:k.toNat=j:=by
   rw[seqIndex_of h0 h4]at h1
   exact P5 h1
  exact PySem.W.ki_setAt ho h0 (by omega) (by rw[P8,← hl];exact h4) (by rw[hk];exact⟨_,I',q⟩)
 ·have hk:(k+(its.toArray.size:Int)).toNat=j:=by
   rw[seqIndex_neg (by omega) h3]at h1
   rw[P8,← hl]
   exact P5 h1
  exact PySem.W.ki_setBack ho (by omega) (by rw[P8,← hl];exact h3) (by omega) (by rw[hk];exact⟨_,I',q⟩)
theorem yp(lo hi:Option Int)(n:Nat):(sliceBounds lo hi none n).1=((HT.sIx n 0 lo:Nat):Int)/\(sliceBounds lo hi none n).2.1=((HT.sIx n n hi:Nat):Int)/\(sliceBounds lo hi none n).2.2=1:=by
 refine⟨?_,?_,rfl⟩
 ·cases lo with
  |none=>simp[sliceBounds,HT.sIx]
  |some i =>
   simp only[sliceBounds,HT.sIx,Option.getD_none,show(1:Int) > 0 by decide,if_true]
   by_cases h:i<0
   ·simp only[h,if_true]<;>omega
   ·simp only[h,if_false]<;>omega
 ·cases hi with
  |none=>simp[sliceBounds,HT.sIx]
  |some i =>
   simp only[sliceBounds,HT.sIx,Option.getD_none,show(1:Int) > 0 by decide,if_true]
   by_cases h:i<0
   ·simp only[h,if_true]<;>omega
   ·simp only[h,if_false]<;>omega
theorem vm(its:List Value)(lo hi:Option Int):slicePick its.toArray lo hi none=((its.drop (HT.sIx its.length 0 lo)).take (HT.sIx its.length its.length hi-HT.sIx its.length 0 lo)).toArray:=by
 obtain⟨h1,h2,h3⟩:=yp lo hi its.toArray.size
 unfold slicePick
 rw[h1,h2,h3]
 simp only[sliceRange_one,pick_run,P8]<;>rfl
def rSlL(K:Pt):V->Option Int->Option Int->Hp->VK->Prop:=fun x lo hi H Q=>∃ a xs,x=.ref a/\SqL K H a xs/\∀ p,H p=none->Q (.ref p) (upd H p (.lst (cutV xs lo hi)))
theorem gP:SlR X (rSlL X.K):=by
 intro pins s σ H x v vl vu lo hi sl Q I rx hs pl pu h
 obtain⟨a,xs,rfl,hx,q⟩:=h
 cases rx
 obtain⟨its,r,ht,hz⟩:=I.list hx
 have hlen:=r.length
 refine⟨"list",_,slot_list_getitem.lookup,ht.isList.typeIs,?_⟩
 refine wpAny_getItem_list_slice ht.isList hs pl pu .none (by simp) ?_ (by rw[P8]<;>omega)
 rw[vm,← hlen]
 refine⟨.ref s.heap.objs.size,_,I.laid (t':=s.toks) (o:=.lst (cutV xs lo hi)) (fun b ob q=>Heap.get?_push_of_some _ q) (Pz _) ?_,rfl,q _ (I.hok.fresh (Pz _))⟩
 exact⟨QG (DN xs lo hi) hz,_,0,(r.drop (HT.sIx xs.length 0 lo)).take (HT.sIx xs.length xs.length hi-HT.sIx xs.length 0 lo),Heap.get?_push_size _ rfl⟩
theorem ar:pH X (.builtin "len") (fun xs H Q=>∃ p ys,xs = [.ref p]/\(SqL X.K H p ys∨SqT X.K H p ys)/\Q (.int ys.length) H):=by
 intro pins s σ H xs us Q I r h
 obtain⟨p,ys,rfl,hq,q⟩:=h
 obtain⟨u,rfl,rx⟩:=ym r
 cases rx
 have hn:=uB
 rcases hq with hq | hq
 ·obtain⟨its,r',pl,hz⟩:=I.list hq
  have hlen:=r'.length
  exact Calls.call_len_list pl.isList (by simp only[P8]<;>omega) ⟨.int ys.length,H,I.tok _,⟨s.toks+1,by rw[P8,hlen]⟩,q⟩
 ·obtain⟨its,r',pl,hz⟩:=I.tuple hq
  have hlen:=r'.length
  exact len_tuple pl (by simp only[P8]<;>omega) ⟨.int ys.length,H,I.tok _,⟨s.toks+1,by rw[P8,hlen]⟩,q⟩
theorem gc:pH X (.type "list") (fun xs H Q=>∃ p ys,xs = [.ref p]/\(SqL X.K H p ys∨SqT X.K H p ys)/\∀ l,H l=none->Q (.ref l) (upd H l (.lst ys))):=by
 intro pins s σ H xs us Q I r h
 obtain⟨p,ys,rfl,hq,q⟩:=h
 obtain⟨u,rfl,rx⟩:=ym r
 cases rx
 have fin:∀(its:List Value),Vals ys its->ys.length<=sizeLine->∀(h':Heap)(c':Nat),(∀ b o',s.heap.get? b=some o'->h'.get? b=some o') ->
   h'.get? s.heap.objs.size=some { cls:=.type "list",dict:=none,data:=.seq its.toArray c',slots:=#[] }->EP X pins σ Q (.ref s.heap.objs.size) { s with heap:=h' }:=fun its r' hz h' c' kp e =>
  ⟨.ref s.heap.objs.size,_,I.laid (t':=s.toks) kp (Pz _) (show cf X.prog X.w _ h' _ (.lst ys) from⟨hz,its,c',r',e⟩),rfl,q _ (I.hok.fresh (Pz _))⟩
 rcases hq with hq | hq
 ·obtain⟨its,r',pl,hz⟩:=I.list hq
  have hlen:=r'.length
  obtain⟨o,ho,hc,n,hd⟩:=pl.isList
  exact call_list_seq p (.inl rfl) ho hc hd (fun h' c' kp e=>fin its r' hz h' c' kp e) (by simp only[P8]<;>omega)
 ·obtain⟨its,r',pl,hz⟩:=I.tuple hq
  have hlen:=r'.length
  obtain⟨o,ho,hc,n,hd⟩:=pl
  exact call_list_seq p (.inr rfl) ho hc hd (fun h' c' kp e=>fin its r' hz h' c' kp e) (by simp only[P8]<;>omega)
def tyV(K:Pt)(T:String)(x:V)(H:Hp):Prop:=match x with
 |.str _=>T = "str"
 |.int _=>T = "int"
 |.ref p=>(T = "list"/\∃ xs,SqL K H p xs)∨(T = "tuple"/\∃ o,K.lookup p=some o/\o.cls=.type "tuple"/\o.dict=none) ∨
   (T = "dict"/\((∃ kvs,H p=some (.dK kvs))∨∃ kvs,H p=some (.dT kvs)))∨(T = "set"/\∃ S n,H p=some (.set S n))
 |_=>False
theorem tyV_is{pins:List (Addr×Obj)}{σ:St}{H:Hp}{s:Shared}{T:String}{x:V}{v:Value}(I:Inv X pins σ H s)(r:RelV x v)(ty:tyV X.K T x H) :
  s.TypeIs v T/\∀ a,v=.ref a->∃ ob,s.heap.get? a=some ob/\ob.dict=none:=by
 cases x with
 |str z =>
  obtain⟨t,rfl⟩:=r
  cases (show T = "str" from ty)
  exact⟨typeIs_str s z t,fun _ e=>nomatch e⟩
 |int i =>
  obtain⟨t,rfl⟩:=r
  cases (show T = "int" from ty)
  exact⟨typeIs_int s i t,fun _ e=>nomatch e⟩
 |ref p =>
  cases r
  rcases ty with⟨rfl,xs,hq⟩ | ⟨rfl,o,hk,hc,hd⟩ | ⟨rfl,hk⟩ | ⟨rfl,S,n,hk⟩
  ·obtain⟨its,_,pl,_⟩:=I.list hq
   refine⟨pl.isList.typeIs,fun a e=>?_⟩
   cases e
   obtain⟨o,n,e,c,hd,_⟩:=pl
   exact⟨o,e,hd⟩
  ·refine⟨⟨o,I.kIn p o hk,hc⟩,fun a e=>?_⟩
   cases e
   exact⟨o,I.kIn _ o hk,hd⟩
  ·have z:∃ o,s.heap.get? p=some o/\o.ExactDict:=by
    rcases hk with⟨kvs,hk⟩ | ⟨kvs,hk⟩
    ·obtain⟨_,_,_,_,o,_,_,e,ex,_⟩:=I.hok p _ hk
     exact⟨o,e,ex⟩
    ·obtain⟨_,_,_,_,o,_,_,e,ex,_⟩:=I.hok p _ hk
     exact⟨o,e,ex⟩
   obtain⟨o,e,ex⟩:=z
   refine⟨⟨o,e,ex.1⟩,fun a e2=>?_⟩
   cases e2
   exact⟨o,e,ex.2.1⟩
  ·obtain⟨o,_,_,_,e,ex,_⟩:=I.hok p _ hk
   refine⟨⟨o,e,ex.1⟩,fun a e2=>?_⟩
   cases e2
   exact⟨o,e,ex.2.1⟩
 |_=>exact False.elim ty
def tBM(K:Pt)(T:String)(r:V->List V->Hp->VK->Prop)(to:TE)(t:TA):TE:=fun σ H Q=>to σ H fun x H1=>tyV K T x H1/\t σ H1 fun xs H2=>r x xs H2 Q
variable{o e:Expr}{es:List Expr}{to:TE}{t:TA}{name:Str}{apos cpos:Pos}{T id:String}{r:V->List V->Hp->VK->Prop}
theorem gf(pa:PlainAttrs T)(slot:Slot T name id) (hty:typeOf (.builtin id)=pure (.type "method_descriptor")) (hm:MtR X id r) (ho:PE X o to) (ha:PA X (e::es) t)
  (hbase:attributeBase o name X.env (eval o X.env)=eval o X.env:=by rfl)
  (hfew:((backTo cpos (starEach (e::es) X.env)).all (fun x=>!x.1)&&(backToKw cpos (keywordEach [] X.env)).all (fun x=>x.1.isSome)
   && decide ((e::es).length+([]:List Keyword).length+(if([]:List Keyword).isEmpty then 0 else 1)<30))=true:=by rfl)
  (hline:(apos.endLine == cpos.line)=true:=by rfl) (hs:starEach (e::es) X.env=(false,eval e X.env)::starEach es X.env:=by rfl) (hplain:(backTo cpos (starEach es X.env)).any (·.1)=false:=by rfl) :
  PE X (.Call (.Attribute o name apos) (e::es) [] cpos) (tBM X.K T r to t):=by
 intro pins s σ H Q I h
 refine wpAny_Call_method_late hbase hfew hline rfl (thn (ho pins s σ H _ I h) fun v s1 ⟨x,H1,I1,r1,ty,q1⟩=>?_)
 obtain⟨h1,h2⟩:=tyV_is I1 r1 ty
 refine⟨T,id,pa,slot,hty,h1,h2,?_⟩
 have hA:=ha cpos pins s1 σ H1 _ I1 q1
 rw[hs]at hA ⊢
 refine Calls.callWith_builtin (by show(false||(backTo cpos (starEach es X.env)).any (·.1))=false;rw[hplain]<;>rfl) (Calls.evalArgs_plain ?_)
 exact thn hA fun us s2 ⟨vs,H2,I2,r2,q2⟩=>hm pins s2 σ H2 x vs v us Q I2 r1 r2 q2
end
end L2
namespace L2
open PySem PySem.Spec PyProof.Rows
def MtM(X:Cx)(id:String)(r:V->List V->Hp->VK->Prop):Prop :=
 ∀(pins:List (Addr×Obj))(s:Shared)(σ:St)(H:Hp)(x:V)(xs:List V)(v:Value)(us:List Value)(Q:VK),Inv X pins σ H s->RelV x v->Vals xs us->r x xs H Q ->
  wpAny (model X.prog X.w) X.A (call (.builtin id) (v::us)) (EP X pins σ Q) X.xe s
theorem Vals.one:∀{x:V}{us:List Value},Vals [x] us->∃ u,us = [u]/\RelV x u
 |_,_,.cons r .nil=>⟨_,rfl,r⟩
theorem Vals.two:∀{x y:V}{us:List Value},Vals [x,y] us->∃ u v,us = [u,v]/\RelV x u/\RelV y v
 |_,_,_,.cons r (.cons q .nil)=>⟨_,_,rfl,r,q⟩
theorem Vals.eraseIdx:∀{xs:List V}{us:List Value}(i:Nat),Vals xs us->Vals (xs.eraseIdx i) (us.eraseIdx i)
 |_,_,_,.nil=>.nil
 |_,_,0,.cons _ t=>t
 |_,_,i+1,.cons r t=>.cons r (Vals.eraseIdx i t)
theorem Vals.reverse{xs:List V}{us:List Value}(h:Vals xs us):Vals xs.reverse us.reverse:=by
 induction h with
 |nil=>exact .nil
 |cons r t ih=>rw[List.reverse_cons,List.reverse_cons];exact Vals.append ih (.cons r .nil)
theorem zI{α:Type}:∀(l:List α)(i:Nat),(l.eraseIdx i).length<=l.length
 |[],_=>Pz _
 |_::_,0=>Rj _
 |_::r,i+1=>Nat.succ_le_succ (zI r i)
section
variable{X:Cx}{pins:List (Addr×Obj)}{σ:St}{H:Hp}{s:Shared}{l b:Addr}{xs ys zs:List V}
theorem Inv.lset{its its':List Value}{n:Nat}{f:Array Value->Array Value}{t':Nat}(I:Inv X pins σ H s)(hH:H l=some (.lst xs))
  (e:s.heap.get? l=some { cls:=.type "list",data:=.seq its.toArray n }) (hf:f its.toArray=its'.toArray) (hv:Vals ys its') (hz:ys.length<=sizeLine) :
  Inv X pins σ (upd H l (.lst ys)) { s with heap:=s.heap.update l (Obj.mapSeq f),toks:=t' }:=by
 have q:=PySem.IsL.update e f
 rw[hf]at q
 refine I.write (x:=l) (e:=l) (by rw[hH];exact trivial) (.inl rfl) (fun b' u hb hu=>(Heap.get?_update_other s.heap (Obj.mapSeq f) (Ne.symm hb)).trans hu) ⟨_,q⟩ ?_
 exact⟨hz,its',_,hv,q⟩
theorem Inv.lnew{its:List Value}{t':Nat}(I:Inv X pins σ H s)(hv:Vals ys its)(hz:ys.length<=sizeLine) :
  Inv X pins σ (upd H s.heap.objs.size (.lst ys)) { s with heap:=s.heap.push { cls:=.type "list",data:=.seq its.toArray },toks:=t' } :=
 I.laid (fun _ _ q=>Heap.get?_push_of_some _ q) (Pz _) ⟨hz,its,0,hv,Heap.get?_push_size _ rfl⟩
theorem Inv.fresh(I:Inv X pins σ H s):H s.heap.objs.size=none:=I.hok.fresh (Pz _)
theorem Inv.lstM(I:Inv X pins σ H s)(hH:H l=some (.lst xs)):xs.length<=sizeLine/\∃(its:List Value)(n:Nat),Vals xs its/\xs.length=its.length/\s.heap.get? l=some { cls:=.type "list",data:=.seq its.toArray n }:=by
 obtain⟨z,its,n,r,e⟩:=I.hok l _ hH
 exact⟨z,its,n,r,r.length,e⟩
end
section
variable{X:Cx}
def NL:V->List V->Hp->VK->Prop:=fun x vs H Q=>∃ l xs y,x=.ref l/\vs = [y]/\H l=some (.lst xs)/\xs.length<sizeLine/\Q .non (upd H l (.lst (xs++[y])))
theorem a8:MtM X "list.append" NL:=by
 intro pins s σ H x vs v us Q I rx rv h
 obtain⟨l,xs,y,rfl,rfl,hH,hz,q⟩:=h
 cases rx
 obtain⟨u,rfl,ru⟩:=rv.one
 obtain⟨z,its,n,r,hl,e⟩:=I.lstM hH
 refine call_meets F.slot_list_append ⟨_,e,rfl⟩ F.entry_list_append (F.args_list_append_2 _ _) (PySem.list_append l its.toArray n u (by rw[P8];omega)) ⟨e,?_⟩
 refine⟨.non,_,I.lset (its':=its++[u]) hH e (by simp) (r.append (.cons ru .nil)) ?_,rfl,q⟩
 rw[Px,PY]
 omega
def rPopAt:V->List V->Hp->VK->Prop:=fun x vs H Q=>∃ l xs i k y,x=.ref l/\vs = [.int i]/\H l=some (.lst xs)/\-(2^63)<=i/\i<2^63/\seqIndex? i xs.length=some k/\xs[k]?=some y/\Q y (upd H l (.lst (xs.eraseIdx k)))
theorem LZ:MtM X "list.pop" rPopAt:=by
 intro pins s σ H x vs v us Q I rx rv h
 obtain⟨l,xs,i,k,y,rfl,rfl,hH,h1,h2,hk,hy,q⟩:=h
 cases rx
 obtain⟨u,rfl,ru⟩:=rv.one
 obtain⟨t,rfl⟩:=ru
 obtain⟨z,its,n,r,hl,e⟩:=I.lstM hH
 obtain⟨w,hw,rw'⟩:=r.get hy
 refine call_meets F.slot_list_pop ⟨_,e,rfl⟩ F.entry_list_pop (F.args_list_pop_2 _ _)
  (MeetsSeq.list_pop_at l its.toArray n i t k w (fitsIndex_both h1 h2) (by rw[P8,← hl];exact hk) (by rw[← Array.getElem?_toList];exact hw) (by rw[P8];omega)) ⟨e,?_⟩
 refine⟨y,_,I.lset (its':=its.eraseIdx k) hH e ?_ (r.eraseIdx k) ?_,rw',q⟩
 ·show its.toArray.eraseIdxIfInBounds k=(its.eraseIdx k).toArray
  rw[List.eraseIdxIfInBounds_toArray]
 ·have:=zI xs k
  omega
def rCat:R2:=fun x y H Q=>∃ l b xs zs,x=.ref l/\y=.ref b/\H l=some (.lst xs)/\H b=some (.lst zs)/\xs.length+zs.length<=sizeLine/\∀ p,H p=none->Q (.ref p) (upd H p (.lst (xs++zs)))
theorem op_cat:OpR X (binaryOp .Add) rCat:=by
 intro pins s σ H x y v u Q I rx ry h
 obtain⟨l,b,xs,zs,rfl,rfl,hH,hB,hz,q⟩:=h
 cases rx
 cases ry
 obtain⟨z,its,n,r,hl,e⟩:=I.lstM hH
 obtain⟨z2,its2,n2,r2,hl2,e2⟩:=I.lstM hB
 refine PySem.P.add_list e e2 ?_ (by rw[P8,P8];omega)
 have ea:its.toArray++its2.toArray=(its++its2).toArray:=by simp
 rw[ea]
 exact⟨.ref _,_,I.lnew (t':=s.toks) (r.append r2) (by rw[Px];omega),rfl,q _ I.fresh⟩
end
section
variable{prog:Program}{w:World}{A:Around}{E:Value->Shared->Prop}{s:Shared}
end
section
variable{X:Cx}
end
end L2
namespace Att
open PySem PySem.W PySem.Calls PyProof.Rows
theorem qY{P:Params}{h:Heap}:∀(ns:List Int)(vs:List Value),WellAll P h vs (ns.map WData.int)->IntsAre vs ns:=by
 intro ns
 induction ns with
 |nil =>
  intro vs w
  rw[List.map_nil]at w
  cases w
  exact .nil
 |cons n ns ih =>
  intro vs w
  rw[P7]at w
  cases w with
  |cons a b =>
   cases a
   exact .cons _ _ (ih _ b)
theorem HW{l:OpenLaw}{n:Nat}(hn:l.most=some n){P:Params}{h:Heap}{args:List WData}{vals:List Value}
  (hpre:l.row.toRowW.claim.pre args=true) (hwl:WellAll P h vals args) :
  ∃ a vs ns,vals = [Value.ref a]/\args = [WData.list (ns.map WData.int)]/\h.get? a=some { cls:=.type "list",data:=.seq vs.toArray }/\IntsAre vs ns/\ns.length<=n:=by
 have hsh:WShape.hasAll [] args [.list .int]=true:=(pre_splitW hpre).1
 have hc:l.pre.holds [] { args:=args }=true:=(pre_splitW hpre).2
 obtain⟨d,r,rfl,h1,h2⟩:=hasAllW_cons hsh
 obtain rfl:=hasAllW_nil h2
 obtain⟨xs,rfl,h3⟩:=hasW_list h1
 obtain⟨ns,rfl⟩:=items_int h3
 have hlen:ns.length<=n:=by
  unfold OpenLaw.pre at hc
  have h4:(WTm.not (.lt (.lit (.int (n:Int))) (.len (.arg 0)))).holds [] { args:=[.list (ns.map .int)] }=true:=by
   have h4:=(holds_andW hc).1
   rw[hn]at h4
   exact h4
  have h5:=condW_of h4 (w_not (w_lt w_lit (w_len_list (w_arg rfl))))
  rw[PB]at h5
  refine Sf fun q=>?_
  have q':(n:Int)<((ns.length:Nat):Int):=by omega
  first
   | (rw[decide_eq_true q']at h5;exact absurd h5 (by decide))
   | (simp at h5;omega)
 cases hwl with
 |cons w1 w2 =>
  cases w2
  cases w1 with
  |list ho hall=>exact⟨_,_,ns,rfl,rfl,ho,qY ns _ hall,hlen⟩
theorem Ik(l:OpenLaw)(args:List WData):l.row.toRowW.claim.post args (.bool true) args=true :=
 postW_of (r:=l.row.toRowW) (X:=(true == true))
  (show WShape.has [] (.bool true) .bool=true by first | rfl | decide | simp[WShape.has,WShape.arms,WShape.armsAll])
  (show(WTm.eq .res (.lit (.bool true))).value [] { args:=args,res:=some (.bool true),after:=args }=some (.bool (true == true)) from w_eq_bool (w_res rfl) w_lit) rfl
theorem attach_call{l:OpenLaw}{n:Nat}{q:Program}{loose:List Str}{XP:(Str->Option Value)->Heap->Prop}{YP:World->Heap->Prop}{d:DefRec}
  (hn:l.most=some n) (hdf:d.params.defaults = [])
  (call:∀(w:World)(s₀ s₁:Shared)(mg mb:Str->Option Value)(fa:Addr)(o:Obj)(pm cd doc:Value)(a:Addr)(vs:List Value)(ns:List Int),
   Ground q loose [] XP w s₀ mg mb s₁.heap->YP w s₁.heap ->
   s₁.heap.get? fa=some o->o.data=.func (docDef d.name d.params d.body d.scope pm cd doc)->s₁.heap.CodeRec cd d.name->mg d.name=some (.ref fa) ->
   s₁.heap.get? a=some { cls:=.type "list",data:=.seq vs.toArray }->IntsAre vs ns->ns.length<=n->s₁.gens=#[] ->
   codeAny (model l.prog w) callerA (.call (.ref fa) ⟨[.ref a],[]⟩) (fun r s'=>r=.ok (.ret (.bool true))/\OldK s₁.heap s'.heap/\s'.os=s₁.os/\AllBare s'.gens) s₁) :
  WalkO q loose XP YP l.row.toRowW d [] (fun f vs=>PySem.call f vs):=by
 intro w s₀ s₁ mg mb G Y fa o pm cd doc dV kV ho hd hcd hD hmg hg args vals as hpre hlay hrd hwl hlo
 obtain rfl:dV=.none:=Dflts.none hD hdf
 obtain rfl:kV=.none:=Dflts.noKw hD
 obtain⟨a,vs,ns,rfl,rfl,hobj,hints,hlen⟩:=HW hn hpre hwl
 refine enter_call (codeAny_mono (call w s₀ s₁ mg mb fa o pm cd doc a vs ns G Y ho (fd_plain hd) hcd hmg hobj hints hlen hg) fun r s' hq=>?_)
 obtain⟨rfl,h2,h3,h4⟩:=hq
 exact⟨.inl ⟨.bool true,.bool true,[],rfl,fun _=>rfl,.bool true,Ik l _,fun _=>⟨Se,fun _ hm=>(nomatch hm)⟩⟩,h2,h3,h4⟩
section
variable{prog:Program}{w:World}{A:Around}{E:Value->Shared->Prop}{s:Shared}{K:Frag}
end
end Att
namespace L2
open PySem PySem.Spec PyProof.Rows
theorem yk:∀{vs:List Value}{ns:List Int},IntsAre vs ns->Vals (ns.map V.int) vs
 |_,_,.nil=>.nil
 |_,_,.cons n t h=>.cons ⟨t,rfl⟩ (yk h)
end L2
namespace L2
open PySem PySem.Spec PyProof.Rows
end L2
namespace L2
open PySem PySem.Spec PyProof.Rows
def qZ(s:Stmt)(j:Nat):Stmt:=match s with
 |.ClassDef _ _ _ body _ _ _ _ _ _ _=>body.getD j (.Pass ⟨0,0,0,0⟩)
 |_=>.Pass ⟨0,0,0,0⟩
def aD(s:Stmt):Arguments:=match s with
 |.FunctionDef _ a _ _ _ _ _ _ _ _=>a
 |_=>{ posonlyargs:=[],args:=[],vararg:=none,kwonlyargs:=[],kw_defaults:=[],kwarg:=none,defaults:=[] }
def aB(s:Stmt):List Stmt:=match s with
 |.FunctionDef _ _ b _ _ _ _ _ _ _=>b
 |_=>[]
def aj(s:Stmt):Scope:=match s with
 |.FunctionDef _ _ _ _ _ _ sc _ _ _=>sc
 |_=>{ kind:=.function,names:=[],isGenerator:=false,isCoroutine:=false }
abbrev CX0:CXT:=fun _ _ _ _ _ _=>False
abbrev E0:XK:=fun _ _ _=>False
theorem aP{X:Cx}:sN CX0 X E0:=fun _ _ _ _ _ _ _ h=>h.elim
structure Fun(K:Pt)(x qual:Str)(st:Stmt)(f:Addr)(fd:FuncData):Prop where
 ex:∃(oc:Value)(od:Option Addr)(kV doc pm:Value)(an:Option Addr)(cdv ct:Value)(osl:Array (Option Value)),
  fd=PX x qual (aD st) (aB st) (aj st) .none kV doc pm an cdv ct/\K.lookup f=some ⟨oc,od,.func fd,osl⟩/\PN K cdv qual=true
 kp:PJ K (.ref f)=true
section
variable{P:Program}{w:World}{K:Pt}{mg:Str->Option Value}{base:Heap}
theorem Fun.ok{x qual:Str}{st:Stmt}{f:Addr}{fd:FuncData}{N ps:List Str}{k:Nat}{sp:Sp}(F:Fun K x qual st f fd)(S:aC N ps (aj st))(len:∀ vs H Q E,sp vs H Q E->vs.length=ps.length)
  (hbody:∀(cdv:Value)(A:Around)(outer:List Env)(s:Shared)(H:Hp)(vs:List V)(Q:VK)(E:XK),Room k (A.deeper (envOfC qual (aj st) s.heap.objs.size f cdv))->sp vs H Q E ->
   ∃ t,PSs (cxOf CX0 P w K mg base N qual (aj st) f cdv A outer s H E).nox (aB st) t/\t { nx:=fun _ H'=>Q .non H',rt:=Q } (vf N vs) H):FnOk P w K mg base CX0 (k+1) f fd ps sp:=by
 obtain⟨oc,od,kV,doc,pm,an,cdv,ct,osl,rfl,lk,hcd⟩:=F.ex
 refine fn_of lk hcd S len fun A outer s H vs Q E hr hsp=>?_
 obtain⟨t,h,q⟩:=hbody cdv A outer s H vs Q E hr hsp
 exact⟨t,h.nox,q⟩
theorem Fun.binds{x qual:Str}{st:Stmt}{f:Addr}{fd:FuncData}{ps:List Str}(F:Fun K x qual st f fd)
  (h:∀(kV doc pm:Value)(an:Option Addr)(cdv ct:Value)(us:List Value),us.length=ps.length->bindArgs (PX x qual (aD st) (aB st) (aj st) .none kV doc pm an cdv ct) ⟨us,[]⟩=pure (ps.zip us)):om K fd ps []:=by
 obtain⟨oc,od,kV,doc,pm,an,cdv,ct,osl,rfl,lk,hcd⟩:=F.ex
 exact .all (h kV doc pm an cdv ct)
theorem aJ{x qual:Str}{st:Stmt}{f:Addr}{oc:Value}{od an:Option Addr}{osl:Array (Option Value)}{kV doc pm cdv ct:Value}(l:K.lookup f=some ⟨oc,od,.func (PX x qual (aD st) (aB st) (aj st) .none kV doc pm an cdv ct),osl⟩)
  (c:PN K cdv qual=true) (k:PJ K (.ref f)=true):Fun K x qual st f (PX x qual (aD st) (aB st) (aj st) .none kV doc pm an cdv ct):=⟨⟨oc,od,kV,doc,pm,an,cdv,ct,osl,rfl,l,c⟩,k⟩
end
theorem JB{A:Around}{k:Nat}(hr:Room k A):A.units+1<cLine:=Nat.lt_of_le_of_lt (Nat.add_le_add_left (by decide:1<=64) _) hr.units
theorem au{n:Nat}(h:n<=1000):n<sizeLine:=Nat.lt_of_le_of_lt h (by decide)
section
variable{X:Cx}
theorem pv(i:Nat){x:Str}{pos:Pos}(hN:X.N[i]?=some x:=by rfl)(hv:Vis X.env.scope x:=by first | exact Or.inl rfl | exact Or.inr (Or.inl rfl) | exact Or.inr (Or.inr rfl)) (hd:(x == ("__debug__" : Str))=false:=by decide)
  (hcd:(x == ("__classdict__" : Str))=false:=by decide):PE X (.Name x pos) (tVar i):=pe_var hN hv hd hcd
end
theorem iteF{A B:Prop}(h:B):if false=true then A else B:=by
 rw[if_neg Qe]
 exact h
theorem iteT{A B:Prop}(h:A):if true=true then A else B:=by
 rw[if_pos rfl]
 exact h
theorem ite2{c A B:Prop} [Decidable c] (h1:c->A) (h2:¬ c->B):if c then A else B:=by
 by_cases h:c
 ·rw[if_pos h]
  exact h1 h
 ·rw[if_neg h]
  exact h2 h
theorem tU{c A B:Prop} [Decidable c] (hc:c) (h:B):if(!decide c)=true then A else B:=by
 rw[decide_eq_true hc]
 exact iteF h
def Same(H H':Hp):Prop:=∀ b o,H b=some o->H' b=some o
theorem Same.trans{H H1 H2:Hp}(a:Same H H1)(b:Same H1 H2):Same H H2:=fun c o h=>b c o (a c o h)
theorem Same.seq{K:Pt}{H H':Hp}{a:Addr}{xs:List V}(e:Same H H')(h:SqL K H a xs):SqL K H' a xs:=by
 rcases h with(h | ⟨o,h⟩) | h
 ·exact .inl (.inl (e _ _ h))
 ·exact .inl (.inr ⟨o,e _ _ h⟩)
 ·exact .inr h
end L2
set_option maxRecDepth 100000
set_option maxHeartbeats 4000000
namespace L2
open PySem PySem.Spec PyProof.Rows
end L2
namespace L2
open PySem PySem.Spec PyProof.Rows
section
variable(P:Program)(w:World)
end
section
variable{P:Program}{w:World}{H H':Hp}{h h':Heap}{a:Addr}{o:HO}
end
section
variable{P:Program}{w:World}{H:Hp}{h h':Heap}{x e:Addr}{o':HO}
end
section
variable{fs fs' ex ex':List Addr}{H H1 H2:Hp}{h h1 h2 h':Heap}{a x e:Addr}{o:HO}
end
end L2
namespace L2
open PySem PySem.Spec PyProof.Rows
section
variable{X:Cx}{pins:List (Addr×Obj)}{σ:List (Option V)}{H H':Hp}{s:Shared}{h':Heap}
end
end L2
namespace L2
open PySem PySem.Spec PyProof.Rows
section
variable{X:Cx}
variable{a b:Expr}{ta tb:TE}{pos:Pos}
variable{tA tB':TT}{rest:List Expr}
end
end L2
namespace L2
open PySem PySem.Spec PyProof.Rows
section
variable{X:Cx}{pins:List (Addr×Obj)}{σ:St}{H:Hp}{s:Shared}{a:Addr}{xs ys:List V}
end
section
variable{X:Cx}{pins:List (Addr×Obj)}{σ:St}{H:Hp}{s:Shared}{E:Value->Shared->Prop}
end
section
variable{X:Cx}{st:Stmt}{rest:List Stmt}{t u:TS}{e:Expr}{te:TE}{pos:Pos}
end
section
variable{X:Cx}{pos:Pos}
end
section
variable{X:Cx}{pos:Pos}
end
end L2
namespace L2
open PySem PySem.Spec PyProof.Rows
section
variable{X:Cx}{tg:Expr}
end
end L2
namespace L2
open PySem PySem.Spec PyProof.Rows
section
variable{X:Cx}{a b c:Expr}{ta tb tc:TE}{pos:Pos}
end
section
variable{X:Cx}{a b c:Expr}{ta tb tc:TE}{pos:Pos}
end
end L2
namespace L2
open PySem PySem.Spec PyProof.Rows
section
variable{prog:Program}{w:World}{A:Around}{E:Value->Shared->Prop}{s:Shared}{K:Pt}{x dx C f:Addr}{mA:Str->Option Value}{name:Str}{v:Value}
end
section
variable{P:Program}{w:World}{H H':Hp}{h h':Heap}{a C dx:Addr}{fs fs':List (Str×V)}
end
section
variable{X:Cx}{pins:List (Addr×Obj)}{σ:St}{H:Hp}{s:Shared}{a C dx:Addr}{fs:List (Str×V)}{f:Str}{v:V}{A:Around}{E:Value->Shared->Prop}
end
section
variable{X:Cx}{o e value:Expr}{f:Str}{pos pos' tpos:Pos}{ta tv:TE}
end
section
variable{X:Cx}{pins:List (Addr×Obj)}{σ:St}{H:Hp}{s:Shared}{A:Around}{E:Value->Shared->Prop}{Q:Value->Shared->Prop}{c:Value}{b:Bool}
end
end L2
namespace L2
open PySem PySem.Spec PyProof.Rows
section
variable{X:Cx}{e:Expr}{es:List Expr}{te:TE}{t:TA}{pos:Pos}
end
section
variable{X:Cx}{pins:List (Addr×Obj)}{σ:St}{H:Hp}{s s':Shared}
end
section
variable{X:Cx}{CX:CXT}{k:Nat}{f C:Addr}{fd:FuncData}{ps:List Str}{sp:Sp}{dvs:List V}{ds:List Value}{E:XK}{x m:Str}{p pos apos:Pos}{e o:Expr}{es:List Expr}{ta:TE}{t:TA}
end
section
variable{X:Cx}{CX:CXT}{k:Nat}{f C:Addr}{fd:FuncData}{ps ks:List Str}{sp:Sp}{E:XK}{x m:Str}{p pos apos kpos:Pos}{e o:Expr}{es:List Expr}{kws:List Keyword}{te ta:TE}{t tk:TA}{nm:Option Str}
variable{g:List Value->List Value->List Value}{gV:List V->List V->List V}
end
end L2
namespace L2
open PySem PySem.Spec PyProof.Rows
section
variable{X:Cx}{x:Str}{p pos:Pos}{e:Expr}{es:List Expr}{t:TA}{id T:String}{r:List V->Hp->VK->Prop}
end
end L2
namespace L2
open PySem PySem.Spec PyProof.Rows
section
variable{κ:Type} [DecidableEq κ]
def valV(kvs:List (κ×V))(k:κ):Option V:=(kvs.find? fun kv=>decide (kv.1=k)).map (·.2)
def putK(kvs:List (κ×V))(k:κ)(v:V):List (κ×V) :=
 if(kvs.any fun kv=>decide (kv.1=k))=true then kvs.map (fun kv=>if kv.1=k then(kv.1,v) else kv) else kvs++[(k,v)]
def pz(kvs:List (κ×V))(k:κ):List (κ×V):=kvs.filter fun kv=>decide (kv.1≠k)
theorem bI{p:κ×V}{r:List (κ×V)}{k:κ}(e:p.1=k):valV (p::r) k=some p.2:=by simp[valV,RK,e]
theorem bJ{p:κ×V}{r:List (κ×V)}{k:κ}(e:¬ p.1=k):valV (p::r) k=valV r k:=by simp[valV,RK,e]
theorem gN(k:κ):∀ kvs:List (κ×V),(kvs.any fun kv=>decide (kv.1=k))=(valV kvs k).isSome
 |[]=>rfl
 |p::r=>by
  rw[Tg]
  by_cases e:p.1=k
  ·simp only[bI e,decide_eq_true e,Bool.true_or,Option.isSome_some]
  ·rw[bJ e,decide_eq_false e,Bool.false_or];exact gN k r
theorem EB(k j:κ)(y:V):∀ kvs:List (κ×V),valV (kvs.map fun kv=>if kv.1=k then(kv.1,y) else kv) j=(valV kvs j).map fun x=>if j=k then y else x
 |[]=>rfl
 |p::r=>by
  have ih:=EB k j y r
  rw[P7]
  by_cases h:p.1=k
  ·rw[if_pos h]
   by_cases e:p.1=j
   ·rw[bI (p:=(p.1,y)) e,bI e,Sl,if_pos (e.symm.trans h)]
   ·rw[bJ (p:=(p.1,y)) e,bJ e,ih]
  ·rw[if_neg h]
   by_cases e:p.1=j
   ·rw[bI (p:=p) e,bI e,Sl,if_neg (fun z=>h (e.trans z))]
   ·rw[bJ (p:=p) e,bJ e,ih]
theorem yn(k j:κ)(y:V):∀ kvs:List (κ×V),valV kvs k=none->valV (kvs++[(k,y)]) j=if j=k then some y else valV kvs j
 |[],_=>by
  by_cases e:k=j
  ·rw[if_pos e.symm];exact bI (p:=(k,y)) e
  ·rw[if_neg (fun z=>e z.symm)];exact bJ (p:=(k,y)) e
 |p::r,hn=>by
  rw[Rf]
  have hk:¬ p.1=k:=fun z=>by rw[bI z]at hn;cases hn
  rw[bJ hk]at hn
  have ih:=yn k j y r hn
  by_cases e:p.1=j
  ·rw[bI e,bI e,if_neg (fun z=>hk (e.trans z))]
  ·rw[bJ e,bJ e,ih]
theorem gM(kvs:List (κ×V))(k j:κ)(y:V):valV (putK kvs k y) j=if j=k then some y else valV kvs j:=by
 unfold putK
 by_cases a:(kvs.any fun kv=>decide (kv.1=k))=true
 ·rw[if_pos a,EB]
  rw[gN]at a
  by_cases e:j=k
  ·obtain⟨x,hx⟩:=S8.mp a
   rw[if_pos e,e,hx,Sl,if_pos rfl]
  ·rw[if_neg e]
   cases valV kvs j with
   |none=>rfl
   |some x=>rw[Sl,if_neg e]
 ·rw[if_neg a]
  refine yn k j y kvs ?_
  rw[gN]at a
  cases q:valV kvs k with
  |none=>rfl
  |some x=>rw[q]at a;exact(a rfl).elim
theorem fj(kvs:List (κ×V))(k:κ)(v:V):(putK kvs k v).length<=kvs.length+1:=by
 unfold putK
 split
 ·rw[PB];omega
 ·rw[Px,Qc,Sn];omega
theorem EG{kvs:List (κ×V)}{k:κ}(v:V)(h:valV kvs k=none):putK kvs k v=kvs++[(k,v)]:=by
 unfold putK
 rw[gN,h]
 exact if_neg (by decide)
theorem RelO.isSome_eq{o:Option V}{u:Option Value}(r:RelO o u):o.isSome=u.isSome:=by
 cases o with
 |none=>cases u with
  |none=>rfl
  |some _=>exact(show False from r).elim
 |some _=>cases u with
  |none=>exact(show False from r).elim
  |some _=>rfl
theorem KV.val{kvs:List (κ×V)}{vs:List (κ×Value)}(r:KV kvs vs)(k:κ):RelO (valV kvs k) (valueAt vs k):=by
 unfold KV at r
 induction r with
 |nil=>exact True.intro
 | @cons p q ps qs h t ih =>
  obtain⟨h1,h2⟩:=h
  by_cases e:p.1=k
  ·have e':q.1=k:=h1.symm.trans e
   have b:valueAt (q::qs) k=some q.2:=by simp[valueAt,RK,e']
   rw[bI e,b];exact h2
  ·have e':¬ q.1=k:=fun z=>e (h1.trans z)
   have b:valueAt (q::qs) k=valueAt qs k:=by simp[valueAt,RK,e']
   rw[bJ e,b];exact ih
theorem KV.any{kvs:List (κ×V)}{vs:List (κ×Value)}(r:KV kvs vs)(k:κ):(kvs.any fun kv=>decide (kv.1=k))=vs.any fun kv=>decide (kv.1=k):=by
 unfold KV at r
 induction r with
 |nil=>rfl
 |cons h t ih=>rw[Tg,Tg,ih,h.1]
theorem KV.repl{kvs:List (κ×V)}{vs:List (κ×Value)}(r:KV kvs vs)(k:κ){y:V}{u:Value}(ry:RelV y u) :
  KV (kvs.map fun kv=>if kv.1=k then(kv.1,y) else kv) (vs.map fun kv=>if kv.1=k then(kv.1,u) else kv):=by
 unfold KV at r ⊢
 induction r with
 |nil=>exact .nil
 | @cons p q ps qs h t ih =>
  rw[P7,P7]
  refine .cons ?_ ih
  obtain⟨h1,h2⟩:=h
  by_cases e:p.1=k
  ·rw[if_pos e,if_pos (h1.symm.trans e)];exact⟨h1,ry⟩
  ·rw[if_neg e,if_neg (fun z=>e (h1.trans z))];exact⟨h1,h2⟩
theorem KV.put{kvs:List (κ×V)}{vs:List (κ×Value)}(r:KV kvs vs)(k:κ){y:V}{u:Value}(ry:RelV y u):KV (putK kvs k y) (stored vs k u):=by
 unfold putK stored
 rw[r.any k]
 by_cases e:(vs.any fun kv=>decide (kv.1=k))=true
 ·rw[if_pos e,if_pos e];exact r.repl k ry
 ·rw[if_neg e,if_neg e];exact Paired.snoc r ⟨rfl,ry⟩
theorem KV.drop{kvs:List (κ×V)}{vs:List (κ×Value)}(r:KV kvs vs)(k:κ):KV (pz kvs k) (without vs k):=by
 unfold KV at r ⊢
 unfold pz without
 induction r with
 |nil=>exact .nil
 | @cons p q ps qs h t ih =>
  obtain⟨h1,h2⟩:=h
  rw[Si,Si]
  by_cases e:p.1=k
  ·have a:¬ decide (p.1≠k)=true:=by simp[e]
   have b:¬ decide (q.1≠k)=true:=by simp[h1.symm.trans e]
   rw[if_neg a,if_neg b];exact ih
  ·have e':¬ q.1=k:=fun z=>e (h1.trans z)
   have a:decide (p.1≠k)=true:=by simp[e]
   have b:decide (q.1≠k)=true:=by simp[e']
   rw[if_pos a,if_pos b];exact .cons ⟨h1,h2⟩ ih
theorem KV.length{kvs:List (κ×V)}{vs:List (κ×Value)}(r:KV kvs vs):kvs.length=vs.length:=Paired.length r
theorem Ms(kvs:List (κ×V))(k:κ):(pz kvs k).length<=kvs.length:=RV _ _
end
theorem Gv{P:Program}{w:World}{k:Key}{u:Value}(r:RelV (kV k) u):(bN P w).is k u=true:=by
 cases k with
 |inl i=>obtain⟨t,e⟩:=(show ∃ t,u=Value.int i t from r);subst e;exact CO P w i t
 |inr x=>obtain⟨t,e⟩:=(show ∃ t,u=Value.str x t from r);subst e;exact CN P w x t
theorem zU{P:Program}{w:World}:∀{ks:List Key}{us:List Value},Vals (ks.map kV) us->ItemsAre (bN P w) ks us
 |[],_,r=>by rw[List.map_nil]at r;cases r;exact .nil
 |k::ks,_,r=>by
  rw[P7]at r
  cases r with
  |cons h t=>exact .cons (Gv h) (zU t)
abbrev KT(H:Hp):List (List Key×V)->List (List Key×Addr×Value)->Prop:=Paired fun p q=>p.1=q.1/\H q.2.1=some (.tup (p.1.map kV))/\RelV p.2 q.2.2
theorem KT.val{H:Hp}{kvs:List (List Key×V)}{xs:List (List Key×Addr×Value)}(r:KT H kvs xs)(k:List Key):RelO (valV kvs k) ((atKey xs k).map (·.2)):=by
 induction r with
 |nil=>exact True.intro
 | @cons p q ps qs h t ih =>
  obtain⟨h1,_,h2⟩:=h
  by_cases e:p.1=k
  ·have e':q.1=k:=h1.symm.trans e
   have b:atKey (q::qs) k=some q.2:=by simp[atKey,RK,e']
   rw[bI e,b];exact h2
  ·have e':¬ q.1=k:=fun z=>e (h1.trans z)
   have b:atKey (q::qs) k=atKey qs k:=by simp[atKey,RK,e']
   rw[bJ e,b];exact ih
theorem KT.repl{H:Hp}{kvs:List (List Key×V)}{xs:List (List Key×Addr×Value)}(r:KT H kvs xs)(k:List Key){y:V}{u:Value}(ry:RelV y u) :
  KT H (kvs.map fun kv=>if kv.1=k then(kv.1,y) else kv) (xs.map (putAt k u)):=by
 induction r with
 |nil=>exact .nil
 | @cons p q ps qs h t ih =>
  rw[P7,P7]
  refine .cons ?_ ih
  obtain⟨h1,h2,h3⟩:=h
  unfold putAt
  by_cases e:p.1=k
  ·rw[if_pos e,if_pos (h1.symm.trans e)];exact⟨h1,h2,ry⟩
  ·rw[if_neg e,if_neg (fun z=>e (h1.trans z))];exact⟨h1,h2,h3⟩
theorem KT.put{H:Hp}{kvs:List (List Key×V)}{xs:List (List Key×Addr×Value)}(r:KT H kvs xs)(k:List Key){b:Addr}{y:V}{u:Value}(hb:H b=some (.tup (k.map kV)))(ry:RelV y u) :
  KT H (putK kvs k y) (storedH xs k b u):=by
 have e:(kvs.any fun kv=>decide (kv.1=k))=(atKey xs k).isSome:=by
  rw[gN,(r.val k).isSome_eq,Option.isSome_map]
 unfold putK storedH
 rw[e]
 by_cases q:(atKey xs k).isSome=true
 ·rw[if_pos q,if_pos q];exact r.repl k ry
 ·rw[if_neg q,if_neg q];exact Paired.snoc r ⟨rfl,hb,ry⟩
theorem KT.keeps{H H':Hp}{kvs:List (List Key×V)}{xs:List (List Key×Addr×Value)}(r:KT H kvs xs)(ht:∀ b ys,H b=some (.tup ys)->H' b=some (.tup ys)):KT H' kvs xs :=
 Paired.mapP r fun _ _ z=>⟨z.1,ht _ _ z.2.1,z.2.2⟩
section
variable{P:Program}{w:World}{H:Hp}{h:Heap}{a:Addr}
theorem rd_of{u:HO}(ok:HOk P w H h)(e:Rd H a u):cf P w H h a u:=e.ok ok
theorem JJ{kvs:List (Key×V)}(ok:HOk P w H h)(e:Rd H a (.dK kvs)):kvs.length<=sizeLine/\(a == sysModules)=false/\∃ vs,KV kvs vs/\h.DictOf (bN P w) a vs :=
 show cf P w H h a (.dK kvs) from rd_of ok e
theorem Gz{kvs:List (Key×V)}(ok:HOk P w H h)(e:H a=some (.dK kvs)):kvs.length<=sizeLine/\(a == sysModules)=false/\∃ vs,KV kvs vs/\h.DictOf (bN P w) a vs:=JJ ok (.inl e)
theorem ET{ks:List Key}(ok:HOk P w H h)(e:H a=some (.tup (ks.map kV))):(tupleKind (bN P w)).is h ks a:=by
 obtain⟨_,its,r,o,h1,h2,n,h3⟩:=(show cf P w H h a (.tup (ks.map kV)) from ok a _ e)
 exact⟨o,its.toArray,n,h1,h2,h3,by simpa using zU r⟩
theorem JG{kvs:List (List Key×V)}(ok:HOk P w H h)(e:Rd H a (.dT kvs)):kvs.length<=sizeLine/\(a == sysModules)=false /\
  ∃ xs,KT H kvs xs/\h.DictOfH (tupleKind (bN P w)) a xs:=by
 obtain⟨z,y,xs,r,o,es,ep,h1,h2,h3,h4,h5⟩:=(show cf P w H h a (.dT kvs) from rd_of ok e)
 refine⟨z,y,xs,r,o,es,ep,h1,h2,h3,h4,fun x hx=>?_,h5⟩
 have all:∀{l:List (List Key×V)}{m:List (List Key×Addr×Value)},KT H l m->∀ x∈m,(tupleKind (bN P w)).is h x.1 x.2.1:=by
  intro l m q
  induction q with
  |nil=>intro x hx;exact nomatch hx
  | @cons p q ps qs hq t ih =>
   intro x hx
   rcases Pw.mp hx with e | hx
   ·subst e
    exact ET ok (by rw[← hq.1];exact hq.2.1)
   ·exact ih x hx
 exact all r x hx
theorem dt_of{kvs:List (List Key×V)}(ok:HOk P w H h)(e:H a=some (.dT kvs)):kvs.length<=sizeLine/\(a == sysModules)=false /\
  ∃ xs,KT H kvs xs/\h.DictOfH (tupleKind (bN P w)) a xs:=JG ok (.inl e)
end
def DGet(H:Hp)(a:Addr)(y:V)(r:Option V):Prop :=
 (∃ kvs k,Rd H a (.dK kvs)/\y=kV k/\r=valV kvs k)∨∃ kvs k b,Rd H a (.dT kvs)/\y=.ref b/\H b=some (.tup (k.map kV))/\r=valV kvs k
def DPut(H:Hp)(a:Addr)(y v:V)(H':Hp):Prop :=
 (∃ kvs k,H a=some (.dK kvs)/\y=kV k/\kvs.length<sizeLine/\H'=upd H a (.dK (putK kvs k v))) ∨
 ∃ kvs k b,H a=some (.dT kvs)/\y=.ref b/\H b=some (.tup (k.map kV))/\kvs.length<sizeLine/\H'=upd H a (.dT (putK kvs k v))
theorem DGet.k{H:Hp}{a:Addr}{kvs:List (Key×V)}{k:Key}(e:H a=some (.dK kvs)):DGet H a (kV k) (valV kvs k):=.inl ⟨kvs,k,.inl e,rfl,rfl⟩
theorem DPut.k{H:Hp}{a:Addr}{kvs:List (Key×V)}{k:Key}{v:V}(e:H a=some (.dK kvs))(hl:kvs.length<sizeLine):DPut H a (kV k) v (upd H a (.dK (putK kvs k v))):=.inl ⟨kvs,k,e,rfl,hl,rfl⟩
section
variable{X:Cx}{pins:List (Addr×Obj)}{σ:St}{H:Hp}{s:Shared}{a:Addr}{y v:V}{u r:Value}{o:Option V}{A:Around}{E:Value->Shared->Prop}
theorem Inv.big(I:Inv X pins σ H s):sysModules<s.heap.objs.size:=by
 have h:mainGlobals<s.heap.objs.size:=(I.mod.glob.keeps I.bk).lt
 exact Nat.lt_trans (by decide) h
theorem JV{Q:Value->Shared->Prop}(hu:A.units+1<cLine)(I:Inv X pins σ H s)(g:DGet H a y (some v))(ry:RelV y u)(h:∀ w' s',Inv X pins σ H s'->RelV v w'->Q w' s') :
  wpAny (model X.prog X.w) A (getItem (.ref a) u) Q E s:=by
 rcases g with⟨kvs,k,e,ey,l⟩ | ⟨kvs,k,b,e,ey,eb,l⟩
 ·subst ey
  obtain⟨z,hd,vs,rel,dd⟩:=JJ I.hok e
  obtain⟨w',hw,rw'⟩:=RelO.some_of (v:=v) (o:=valueAt vs k) (by rw[l];exact rel.val k)
  exact wpAny_getItem_of (Gv ry) dd.mapOf hw (h w' _ (I.tok _) rw')
 ·subst ey
  cases (show u=Value.ref b from ry)
  obtain⟨z,hd,xs,rel,dd⟩:=JG I.hok e
  obtain⟨w',hw,rw'⟩:=RelO.some_of (v:=v) (o:=(atKey xs k).map (·.2)) (by rw[l];exact rel.val k)
  obtain⟨p,hp,hp2⟩:=Qp.mp hw
  refine wpAny_getItem_heap (tupleKind_room_in1 hu) (ET I.hok eb) dd hp ?_
  rw[hp2]
  exact h w' _ (I.tok _) rw'
theorem OX{Q:Value->Shared->Prop}(hu:A.units+1<cLine)(I:Inv X pins σ H s)(g:DGet H a y o)(ry:RelV y u)(h:∀ s',Inv X pins σ H s'->Q (.bool (!o.isSome)) s') :
  wpAny (model X.prog X.w) A (compareOp .NotIn u (.ref a)) Q E s:=by
 rcases g with⟨kvs,k,e,ey,l⟩ | ⟨kvs,k,b,e,ey,eb,l⟩
 ·subst ey
  obtain⟨z,hd,vs,rel,dd⟩:=JJ I.hok e
  refine wpAny_notIn_of (Gv ry) hd dd.mapOf ?_
  rw[← (rel.val k).isSome_eq,← l]
  exact h _ (I.tok _)
 ·subst ey
  cases (show u=Value.ref b from ry)
  obtain⟨z,hd,xs,rel,dd⟩:=JG I.hok e
  refine wpAny_notIn_heap (tupleKind_room_in1 hu) (ET I.hok eb) hd dd ?_
  have q:=(rel.val k).isSome_eq
  rw[Option.isSome_map]at q
  rw[← q,← l]
  exact h _ (I.tok _)
theorem xF{h':Heap}{t':Nat}{ob:HO}(I:Inv X pins σ H s)(mu:Mut (H a))(hs:Heap.SameBut a s.heap h')(he:∃ q,h'.get? a=some q)(new:cf X.prog X.w (upd H a ob) h' a ob) :
  Inv X pins σ (upd H a ob) { s with heap:=h',toks:=t' } :=
 I.write (x:=a) (e:=a) mu (.inl rfl) (fun b q hb z=>(hs.2 b hb).trans z) he new
theorem JK{P:Program}{w:World}{H':Hp}{h':Heap}{kvs:List (Key×V)}{vs:List (Key×Value)}(z:kvs.length<=sizeLine)(hd:(a == sysModules)=false)(rel:KV kvs vs)(dd:h'.DictOf (bN P w) a vs) :
  cf P w H' h' a (.dK kvs):=⟨z,hd,vs,rel,dd⟩
theorem JU{H':Hp}{Q:Unit->Shared->Prop}(hu:A.units+1<cLine)(I:Inv X pins σ H s)(g:DPut H a y v H')(ry:RelV y u)(rv:RelV v r)(h:∀ s',Inv X pins σ H' s'->Q () s') :
  wpAny (model X.prog X.w) A (setItem (.ref a) u r) Q E s:=by
 rcases g with⟨kvs,k,e,ey,l,eH⟩ | ⟨kvs,k,b,e,ey,eb,l,eH⟩
 ·subst ey eH
  obtain⟨z,hd,vs,rel,dd⟩:=Gz I.hok e
  have hz:vs.length<=sizeLine:=by rw[← rel.length];exact z
  have hl:(putK kvs k v).length<=sizeLine:=by have:=fj kvs k v;omega
  refine wpAny_setItem_pairs (hsz:=hz) (Gv ry) dd fun h' dd' hs=>h _ ?_
  have he:∃ q,h'.get? a=some q:=let ⟨q,_,_,hq,_⟩:=dd';⟨q,hq⟩
  exact xF I (by rw[e];exact True.intro) hs he (JK hl hd (rel.put k rv) dd')
 ·subst ey eH
  cases (show u=Value.ref b from ry)
  obtain⟨z,hd,xs,rel,dd⟩:=dt_of I.hok e
  have hz:xs.length<=sizeLine:=by rw[← Paired.length rel];exact z
  have hl:(putK kvs k v).length<=sizeLine:=by have:=fj kvs k v;omega
  refine wpAny_setItem_heap (hsz:=hz) (tupleKind_room_in1 hu) (ET I.hok eb) dd fun h' dd' hs=>h _ ?_
  obtain⟨q,es,ep,hq,h2,h3,h4,_,h5⟩:=dd'
  refine xF I (by rw[e];exact True.intro) hs ⟨q,hq⟩ ⟨hl,hd,_,(rel.put k eb rv).keeps fun c ys ec=>?_,q,es,ep,hq,h2,h3,h4,h5⟩
  rw[ao (ne_of ec e (fun z=>nomatch z))]
  exact ec
end
section
variable{X:Cx}{pins:List (Addr×Obj)}{σ:St}{H:Hp}{s:Shared}{a:Addr}{kvs:List (Key×V)}{k:Key}{u:Value}{A:Around}{E:Value->Shared->Prop}
theorem d_pop{v:V}{more:List Value}{Q:Value->Shared->Prop}(I:Inv X pins σ H s)(e:H a=some (.dK kvs))(ry:RelV (kV k) u)(l:valV kvs k=some v)(hm:more = []∨∃ x,more = [x])
  (h:∀ w' s',Inv X pins σ (upd H a (.dK (pz kvs k))) s'->RelV v w'->Q w' s'):wpAny (model X.prog X.w) A (call (.builtin "dict.pop") (.ref a::u::more)) Q E s:=by
 obtain⟨z,hd,vs,rel,dd⟩:=Gz I.hok e
 obtain⟨w',hw,rw'⟩:=RelO.some_of (v:=v) (o:=valueAt vs k) (by rw[← l];exact rel.val k)
 have hp:(keyPart u).isSome=true:=by
  cases k with
  |inl i=>obtain⟨t,q⟩:=(show ∃ t,u=Value.int i t from ry);subst q;rfl
  |inr x=>obtain⟨t,q⟩:=(show ∃ t,u=Value.str x t from ry);subst q;rfl
 have ha:argsOk "dict.pop" ⟨.ref a::u::more,[]⟩:=by
  rcases hm with q | ⟨x,q⟩
  ·subst q;exact PySem.F.args_dict_pop_2 _ _
  ·subst q;exact PySem.F.args_dict_pop_3 _ _ _
 refine call_meetsIn PySem.F.slot_dict_pop dd.typeIs PySem.F.entry_dict_pop ha (meets_dict_pop_there (bN X.prog X.w) a (Gv ry) more hm hp)
  ⟨vs,w',dd,by rw[← rel.length];exact z,hw,fun h' dd' hs=>h w' _ ?_ rw'⟩
 have he:∃ q,h'.get? a=some q:=let ⟨q,_,_,hq,_⟩:=dd';⟨q,hq⟩
 exact xF I (by rw[e];exact True.intro) hs he (JK (QG (Ms kvs k) z) hd (rel.drop k) dd')
end
def NoSl(i:Expr):Prop:=∀ ov iv,subscripted i false ov iv=operate [ov,iv] (getItem ov iv)
theorem Nx{prog:Program}{w:World}{A:Around}{E:Value->Shared->Prop}{s:Shared}{env:Env}{value slice:Expr}{pos:Pos}{T id:String}{Q:Value->Shared->Prop}
  (hl:typeLookup (.type T) "__getitem__" = pure (some (.builtin id))) (hs:NoSl slice)
  (h:wpAny (model prog w) A (eval value env) (fun o s₁=>wpAny (model prog w) A (eval slice env) (fun i s₂=>s₂.TypeIs o T/\wpAny (model prog w) A (getItem o i) Q E s₂) E s₁) E s) :
  wpAny (model prog w) A (eval (.Subscript value slice pos) env) Q E s:=by
 refine Subscript_ (wpAny_mono h (fun o s₁ h₁=>wpAny_mono h₁ (fun i s₂ h₂=>?_) fun _ _ x=>x) fun _ _ x=>x)
 obtain⟨hT,h₂⟩:=h₂
 unfold subscriptTail
 refine wpAny_bind ?_
 rw[getitemInPython_of_ne hT.not_modules]
 refine wpAny_bind (wpAny_specialOf hT hl ?_)
 have fin:wpAny (model prog w) A (subscripted slice false o i) (fun r s₃=>wpAny (model prog w) A (letTemporaryGo value o r >>= fun _=>pure r) Q E s₃) E s₂:=by
  rw[hs o i]
  exact wpAny_operating (wpAny_mono h₂ (fun r s₃ h₃=>wpAny_bind (wpAny_letTemporaryGo (wpAny_pure h₃))) fun _ _ x=>x)
 first
  |exact wpAny_pure (wpAny_bind fin)
  |exact wpAny_bind (wpAny_pure (wpAny_bind fin))
  |exact wpAny_bind fin
theorem DB{X:Cx}{pins:List (Addr×Obj)}{σ:St}{H:Hp}{s:Shared}{a:Addr}{y:V}{o:Option V}(I:Inv X pins σ H s)(g:DGet H a y o):s.TypeIs (.ref a) "dict":=by
 rcases g with⟨kvs,k,e,_,_⟩ | ⟨kvs,k,b,e,_,_,_⟩
 ·obtain⟨_,_,vs,_,dd⟩:=JJ I.hok e
  exact dd.typeIs
 ·obtain⟨_,_,xs,_,dd⟩:=JG I.hok e
  exact dd.typeIs
def tDGet(td ty:TE):TE:=fun σ H Q=>td σ H fun x H1=>ty σ H1 fun y H2=>∃ a v,x=.ref a/\DGet H2 a y (some v)/\Q v H2
def Nw(ty td:TE):TE:=fun σ H Q=>ty σ H fun y H1=>td σ H1 fun x H2=>∃ a o,x=.ref a/\DGet H2 a y o/\Q (.bl (!o.isSome)) H2
def sDPut(td ty tv:TE):TS:=fun D σ H=>tv σ H fun v H1=>td σ H1 fun x H2=>ty σ H2 fun y H3=>∃ a H4,x=.ref a/\DPut H3 a y v H4/\D.nx σ H4
section
variable{X:Cx}{o i e value:Expr}{pos pos' tpos:Pos}{td ty tv:TE}
theorem qy(hu:X.A.units+1<cLine)(ho:PE X o td)(hi:PE X i ty)(hs:NoSl i):PE X (.Subscript o i pos) (tDGet td ty):=by
 intro pins s σ H Q I h
 refine Nx PySem.F.slot_dict_getitem.lookup hs (thn (ho pins s σ H _ I h) fun u s1 ⟨x,H1,I1,rx,q1⟩=>thn (hi pins s1 σ H1 _ I1 q1) fun iv s2 ⟨y,H2,I2,ry,a,v,ex,g,q2⟩=>?_)
 subst ex
 obtain rfl:u=Value.ref a:=rx
 exact⟨DB I2 g,JV hu I2 g ry fun w' s3 I3 rw'=>⟨v,H2,I3,rw',q2⟩⟩
theorem yW(hu:X.A.units+1<cLine)(hi:PE X i ty)(ho:PE X o td):PC X .NotIn i o (Nw ty td):=by
 intro pins s σ H Q I h
 refine thn (hi pins s σ H _ I h) fun iv s1 ⟨y,H1,I1,ry,q1⟩=>thn (ho pins s1 σ H1 _ I1 q1) fun u s2 ⟨x,H2,I2,rx,a,ov,ex,g,q2⟩=>?_
 subst ex
 obtain rfl:u=Value.ref a:=rx
 exact OX hu I2 g ry fun s3 I3=>⟨.bl (!ov.isSome),H2,I3,rfl,q2⟩
theorem vF(hu:X.A.units+1<cLine)(ho:PE X o td)(hi:PE X i ty)(hv:PE X value tv)(hs:swapsWith value (some (.Subscript o i pos')) pos.line X.env=pure false) :
  PS X (.Assign [.Subscript o i pos'] value pos) (sDPut td ty tv):=by
 intro pins s σ H D I h
 refine wpAny_Assign_Subscript (thn (hv pins s σ H _ I h) fun r s1 ⟨v,H1,I1,rv,q1⟩=>thn (ho pins s1 σ H1 _ I1 q1) fun u s2 ⟨x,H2,I2,rx,q2⟩=>thn (hi pins s2 σ H2 _ I2 q2) fun iv s3 ⟨y,H3,I3,ry,a,H4,ex,g,q3⟩=>?_) hs
 subst ex
 obtain rfl:u=Value.ref a:=rx
 exact JU hu I3 g ry rv fun s4 I4=>⟨σ,H4,I4,q3⟩
end
theorem E2{P:Program}{w:World}{H:Hp}(h:Heap)(hb:sysModules<h.objs.size):cf P w H (h.push { cls:=.type "dict",data:=.dict #[] }) h.objs.size (.dK []) :=
 ⟨QJ _,beq_eq_false_iff_ne.mpr (Ne.symm (Qk hb)),[],.nil,Heap.DictOf.new h⟩
def tDNewK:TE:=fun _ H Q=>∀ p,H p=none->Q (.ref p) (upd H p (.dK []))
section
variable{X:Cx}{pos:Pos}
theorem vU:PE X (.Dict [] [] pos) tDNewK:=fun pins s σ H Q I h =>
 wpAny_Dict_empty ⟨.ref s.heap.objs.size,_,I.laid (a:=s.heap.objs.size) (o:=.dK []) (t':=s.toks) (fun _ _ q=>Heap.get?_push_of_some _ q) (Pz _) (E2 s.heap I.big),rfl,h _ (I.hok.fresh (Pz _))⟩
end
def Hw:List (TE×TE)->St->Hp->(List (V×V)->Hp->Prop)->Prop
 |[],_,H,Q=>Q [] H
 | (tk,tv)::r,σ,H,Q=>tk σ H fun x H1=>tv σ H1 fun y H2=>Hw r σ H2 fun ps H3=>Q ((x,y)::ps) H3
abbrev VV:List (V×V)->List (Value×Value)->Prop:=Paired fun p q=>RelV p.1 q.1/\RelV p.2 q.2
def PPs(X:Cx)(pos:Pos)(keys:List (Option Expr))(values:List Expr)(trs:List (TE×TE)):Prop :=
 ∀(pins:List (Addr×Obj))(s:Shared)(σ:St)(H:Hp)(Q:List (V×V)->Hp->Prop),Inv X pins σ H s->Hw trs σ H Q ->
  wpAny (model X.prog X.w) X.A (evalPairs (pairTrees keys values X.env pos)) (fun vs s'=>∃ ps H',Inv X pins σ H' s'/\VV ps vs/\Q ps H') X.xe s
theorem Ij{X:Cx}{pos:Pos}:PPs X pos [] [] []:=fun pins s σ H Q I h=>pairTrees_nil_walk ⟨[],H,I,.nil,h⟩
theorem EI{X:Cx}{pos:Pos}{k v:Expr}{ks:List (Option Expr)}{vs:List Expr}{tk tv:TE}{trs:List (TE×TE)}(hk:PE X k tk)(hv:PE X v tv)(hr:PPs X pos ks vs trs) :
  PPs X pos (some k::ks) (v::vs) ((tk,tv)::trs):=fun pins s σ H Q I h =>
 pairTrees_cons_walk (thn (hk pins s σ H _ I h) fun u s1 ⟨x,H1,I1,rx,q1⟩=>thn (hv pins s1 σ H1 _ I1 q1) fun w2 s2 ⟨y,H2,I2,ry,q2⟩ =>
  thn (hr pins s2 σ H2 _ I2 q2) fun ws s3 ⟨ps,H3,I3,rel,q3⟩=>⟨(x,y)::ps,H3,I3,.cons ⟨rx,ry⟩ rel,q3⟩)
def ka(kvs more:List (Key×V)):List (Key×V):=more.foldl (fun acc kv=>putK acc kv.1 kv.2) kvs
theorem KV.merge:∀{more:List (Key×V)}{rs:List (Key×Value)}{kvs:List (Key×V)}{vs:List (Key×Value)},KV more rs->KV kvs vs->KV (ka kvs more) (merged vs rs):=by
 intro more rs kvs vs r
 unfold KV at r
 induction r generalizing kvs vs with
 |nil=>intro q;exact q
 | @cons p q ps qs h t ih =>
  intro r0
  have e:KV (putK kvs p.1 p.2) (stored vs q.1 q.2):=by
   have:=r0.put p.1 h.2
   rw[← h.1];exact this
  exact ih e
theorem l4:∀(more kvs:List (Key×V)),(ka kvs more).length<=kvs.length+more.length
 |[],kvs=>by show kvs.length<=kvs.length+0;omega
 |p::r,kvs=>by
  have h1:=l4 r (putK kvs p.1 p.2)
  have h2:=fj kvs p.1 p.2
  show(ka (putK kvs p.1 p.2) r).length<=_
  rw[Qc];omega
theorem uN{P:Program}{w:World}:∀{kvs:List (Key×V)}{ws:List (Value×Value)},VV (kvs.map fun kv=>(kV kv.1,kv.2)) ws->∃ rs,Carries (bN P w) ws rs/\KV kvs rs
 |[],_,r=>by rw[List.map_nil]at r;cases r;exact⟨[],True.intro,.nil⟩
 |p::kvs,_,r=>by
  rw[P7]at r
  cases r with
  | @cons a b as bs h t =>
   obtain⟨rs,c,q⟩:=uN (P:=P) (w:=w) t
   obtain⟨b1,b2⟩:=b
   exact⟨(p.1,b2)::rs,⟨Gv h.1,rfl,c⟩,.cons ⟨rfl,h.2⟩ q⟩
def tDisp(trs:List (TE×TE)):TE:=fun σ H Q=>∀ p,H p=none->Hw trs σ (upd H p (.dK [])) fun ps H2=>H2 p=some (.dK [])/\∃ kvs:List (Key×V),ps=kvs.map (fun kv=>(kV kv.1,kv.2))/\kvs.length<=15/\Q (.ref p) (upd H2 p (.dK (ka [] kvs)))
theorem Iy{X:Cx}{pos:Pos}{keys:List (Option Expr)}{values:List Expr}{trs:List (TE×TE)}(h:PPs X pos keys values trs)(hall:keys.all (·.isSome)=true)(hl:keys.length=values.length)(h0:keys≠[])
  (h15:keys.length<=15):PE X (.Dict keys values pos) (tDisp trs):=by
 intro pins s σ H Q I q
 have hn:=I.hok.fresh (Pz s.heap.objs.size)
 have I1:=I.laid (a:=s.heap.objs.size) (o:=.dK []) (h':=s.heap.push { cls:=.type "dict",data:=.dict #[] }) (t':=s.toks) (fun _ _ q=>Heap.get?_push_of_some _ q) (Pz _) (E2 s.heap I.big)
 refine wpAny_Dict_walk (knd:=bN X.prog X.w) hall hl h0 h15 (thn (h pins _ σ _ _ I1 (q _ hn)) fun ws s2 ⟨ps,H2,I2,rel,e,kvs,ep,lk,q2⟩=>?_)
 subst ep
 obtain⟨rs,c,rk⟩:=uN (P:=X.prog) (w:=X.w) rel
 obtain⟨z,hd,vs0,r0,dd⟩:=Gz I2.hok e
 cases r0
 refine⟨rs,c,dd,fun h' dd' hs=>⟨.ref s.heap.objs.size,_,?_,rfl,q2⟩⟩
 have hz:(ka [] kvs).length<=sizeLine:=by
  have h1:=l4 kvs []
  rw[Sn]at h1
  rw[sizeLine_eq];omega
 have he:∃ q,h'.get? s.heap.objs.size=some q:=let ⟨q,_,_,hq,_⟩:=dd';⟨q,hq⟩
 exact xF I2 (by rw[e];exact True.intro) hs he (JK hz hd (rk.merge .nil) dd')
structure M1(X:Cx)(o:Expr)(m:Str)(apos:Pos)(e:Expr)(cpos:Pos):Prop where
 base:attributeBase o m X.env (eval o X.env)=eval o X.env
 few:((backTo cpos (starEach [e] X.env)).all (fun x=>!x.1)&&(backToKw cpos (keywordEach [] X.env)).all (fun x=>x.1.isSome)
  && decide (([e]:List Expr).length+([]:List Keyword).length+(if([]:List Keyword).isEmpty then 0 else 1)<30))=true
 line:(apos.endLine == cpos.line)=true
 trees:backTo cpos (starEach [e] X.env) = [(false,eval e X.env)]
def IsD(H:Hp)(a:Addr):Prop:=(∃ kvs,Rd H a (.dK kvs))∨∃ kvs,Rd H a (.dT kvs)
theorem isD_at{X:Cx}{pins:List (Addr×Obj)}{σ:St}{H:Hp}{s:Shared}{a:Addr}(I:Inv X pins σ H s)(d:IsD H a) :
  s.TypeIs (.ref a) "dict"/\(∀ b,Value.ref a=.ref b->∃ ob,s.heap.get? b=some ob/\ob.dict=none)/\(a == sysModules)=false:=by
 rcases d with⟨kvs,e⟩ | ⟨kvs,e⟩
 ·obtain⟨_,hd,vs,_,dd⟩:=JJ I.hok e
  refine⟨dd.typeIs,fun b q=>?_,hd⟩
  cases q
  obtain⟨ob,_,_,h1,h2,_⟩:=dd
  exact⟨ob,h1,h2.2.1⟩
 ·obtain⟨_,hd,xs,_,dd⟩:=JG I.hok e
  refine⟨dd.typeIs,fun b q=>?_,hd⟩
  cases q
  obtain⟨ob,_,_,h1,h2,_⟩:=dd
  exact⟨ob,h1,h2.2.1⟩
section
variable{X:Cx}{pins:List (Addr×Obj)}{σ:St}{H:Hp}{s:Shared}{a:Addr}{y d:V}{u r:Value}{o:Option V}{A:Around}{E:Value->Shared->Prop}
end
def tDPop1(td ty:TE):TE:=fun σ H Q=>td σ H fun x H1=>∃ a,x=.ref a/\IsD H1 a/\ty σ H1 fun y H2=>∃ kvs k v,H2 a=some (.dK kvs)/\y=kV k/\valV kvs k=some v/\Q v (upd H2 a (.dK (pz kvs k)))
section
variable{X:Cx}{o e f:Expr}{apos cpos:Pos}{td ty tx:TE}
theorem Lx(ho:PE X o td)(he:PE X e ty) (m:M1 X o "pop" apos e cpos):PE X (.Call (.Attribute o "pop" apos) [e] [] cpos) (tDPop1 td ty):=by
 intro pins s σ H Q I h
 refine wpAny_Call_method m.base m.few m.line PySem.F.plainAttrs_dict PySem.F.slot_dict_pop PySem.F.type_dict_pop (thn (ho pins s σ H _ I h) fun u s1 ⟨x,H1,I1,rx,a,ex,d,q1⟩=>?_)
 subst ex
 obtain rfl:u=Value.ref a:=rx
 obtain⟨t1,t2,_⟩:=isD_at I1 d
 refine⟨t1,t2,?_⟩
 rw[m.trees]
 refine Calls.callWith_builtin rfl (Calls.evalArgs_plain (Calls.spliced_cons (thn (he pins s1 σ H1 _ I1 q1) fun iv s2 ⟨y,H2,I2,ry,kvs,k,v,ea,ey,l,q2⟩=>Calls.spliced_nil ?_)))
 subst ey
 exact d_pop I2 ea ry l (.inl rfl) fun w' s3 I3 rw'=>⟨v,_,I3,rw',q2⟩
end
section
variable{X:Cx}{pins:List (Addr×Obj)}{σ:St}{H:Hp}{s:Shared}{a:Addr}{kvs:List (Key×V)}{A:Around}{E:Value->Shared->Prop}
end
section
variable{X:Cx}{pins:List (Addr×Obj)}{σ:St}{H:Hp}{s:Shared}{a:Addr}{y:V}{u:Value}{A:Around}{E:Value->Shared->Prop}
end
end L2
namespace Att
open PySem PySem.W PySem.Calls PyProof.Rows
section
variable{prog:Program}{w:World}{A:Around}{E:Value->Shared->Prop}{s:Shared}{K:Frag}
end
end Att
namespace L2
open PySem PySem.Spec PyProof.Rows
end L2
namespace L2
open PySem PySem.Spec PyProof.Rows
end L2
namespace L2
open PySem PySem.Spec PyProof.Rows
section
variable{P:Program}{w:World}{K:Pt}{mg:Str->Option Value}{base:Heap}
end
section
variable{X:Cx}
end
section
variable{κ:Type} [DecidableEq κ]
theorem EA{kvs:List (κ×V)}{k:κ}(h:valV kvs k=none):¬ k∈kvs.map (·.1):=by
 intro m
 obtain⟨p,hp,e⟩:=Qv.mp m
 have q:(kvs.any fun kv=>decide (kv.1=k))=true:=List.any_eq_true.mpr ⟨p,hp,decide_eq_true e⟩
 rw[gN,h]at q
 exact absurd q (by simp)
theorem CJ:∀{l:List κ}{k:κ},l.Nodup->¬ k∈l->(l++[k]).Nodup
 |[],k,_,_=>by simp
 |a::r,k,h,hk=>by
  obtain⟨h1,h2⟩:=PF.mp h
  show(a::(r++[k])).Nodup
  refine PF.mpr ⟨fun m=>?_,CJ h2 fun m=>hk (Pw.mpr (Or.inr m))⟩
  rcases PM.mp m with q | q
  ·exact h1 q
  ·exact hk (Pw.mpr (Or.inl (Qy.mp q).symm))
theorem Oz{kvs:List (κ×V)}{k:κ}(v:V)(hn:(kvs.map (·.1)).Nodup)(h:valV kvs k=none):((putK kvs k v).map (·.1)).Nodup:=by
 rw[EG v h,Qw]
 exact CJ hn (EA h)
theorem JH{p:κ×V}{r:List (κ×V)}{k:κ}(e:p.1=k):pz (p::r) k=pz r k:=by
 unfold pz
 rw[Si,if_neg (by simp[e])]
theorem JI{p:κ×V}{r:List (κ×V)}{k:κ}(e:¬ p.1=k):pz (p::r) k=p::pz r k:=by
 unfold pz
 rw[Si,if_pos (by simp[e])]
end
end L2
namespace L2
open PySem PySem.Spec PyProof.Rows
def clOf(env:Env)(fr:List (Str×Nat)):List (Str×Addr):=fr.map fun p=>(p.1,(env.cells.lookup p.1).getD 0)
def frOf(fr:List (Str×Nat))(σ:St):St:=fr.map fun p=>(σ[p.2]?).join
def d6(X:Cx)(scope:Scope)(fr:List (Str×Nat))(x:Str)(C:Addr)(ex:List Addr)(s:Shared)(H:Hp):Cx where
 prog:=X.prog
 w:=X.w
 K:=X.K
 mg:=X.mg
 base:=X.base
 A:=X.A
 N:=x::fr.map (·.1)
 s₀:=s
 H₀:=H
 env:=compEnvC scope (clOf X.env fr) C X.env
 outer:=X.stack
 stack:=X.stack
 ex:=ex
 fn:=fun _=>false
 calm:=X.calm
 pn:=[]
 xe:=fun _ _=>False
structure bq(X:Cx)(scope:Scope)(fr:List (Str×Nat))(x:Str):Prop where
 clos:closureFor scope X.env=pure (clOf X.env fr)
 cell:∀ y∈scope.names,y.2≠.cell
 kind:scope.kind=.function
 names:∀ y∈scope.names,y.2=.local->scope.names.lookup y.1=some .local
 xl:scope.names.lookup x=some .local
 nd:(x::fr.map (·.1)).Nodup
 slot:∀ p∈fr,X.N[p.2]?=some p.1/\X.env.kindOf p.1=some .cell
 has:∀ y∈(relabel scope X.env).names,(y.2=.cell∨y.2=.free)->y.1∈fr.map (·.1)
 frk:∀ p∈fr,(relabel scope X.env).names.lookup p.1=some .cell
theorem bq.plain{X:Cx}{scope:Scope}{x:Str}(clos:closureFor scope X.env=pure [])(cell:∀ y∈scope.names,y.2≠.cell)(kind:scope.kind=.function)(names:∀ y∈scope.names,y.2=.local->scope.names.lookup y.1=some .local)
  (hx:scope.names.lookup x=some .local) (nf:∀ y∈scope.names,y.2≠.free):bq X scope [] x where
 clos:=clos
 cell:=cell
 kind:=kind
 names:=names
 xl:=hx
 nd:=by simp
 slot:=fun p hp=>nomatch hp
 has:=fun y hy hk=>by
  obtain⟨⟨n,k⟩,hz,e⟩:=Qv.mp (show y∈scope.names.map _ from hy)
  have h1:=nf _ hz
  have h2:=cell _ hz
  dsimp only at e h1 h2
  have hf:(k == NameKind.free)=false:=by simpa using h1
  rw[hf]at e
  simp only[Q7,Rw,if_false]at e
  subst e
  exact(hk.elim h2 h1).elim
 frk:=fun p hp=>nomatch hp
theorem bq.one{X:Cx}{scope:Scope}{x y:Str}{j:Nat}(clos:closureFor scope X.env=pure (clOf X.env [(y,j)]))(cell:∀ y∈scope.names,y.2≠.cell)(kind:scope.kind=.function)(names:∀ y∈scope.names,y.2=.local->scope.names.lookup y.1=some .local)
  (hx:scope.names.lookup x=some .local) (nd:([x,y]:List Str).Nodup) (hN:X.N[j]?=some y) (hk:X.env.kindOf y=some .cell) (nf:∀ z∈scope.names,z.2=.free->z.1=y) (hr:(relabel scope X.env).names.lookup y=some .cell):bq X scope [(y,j)] x where
 clos:=clos
 cell:=cell
 kind:=kind
 names:=names
 xl:=hx
 nd:=nd
 slot:=fun p hp=>by
  have e:p=(y,j):=by simpa using hp
  subst e
  exact⟨hN,hk⟩
 has:=fun z hz hk=>by
  obtain⟨⟨n,k⟩,hm,e⟩:=Qv.mp (show z∈scope.names.map _ from hz)
  have h2:=cell _ hm
  dsimp only at e h2
  have hn:z.1=n:=by rw[← e];split<;>rfl
  have hf:k=.free:=by
   by_cases q:k=.free
   ·exact q
   ·have hb:(k == NameKind.free)=false:=by simpa using q
    rw[hb]at e
    simp only[Q7,Rw,if_false]at e
    subst e
    exact(hk.elim h2 q).elim
  have:=nf _ hm hf
  rw[hn]
  simp[← this]
 frk:=fun p hp=>by
  have e:p=(y,j):=by simpa using hp
  subst e
  exact hr
theorem gj{env:Env}:∀{fr:List (Str×Nat)}{y:Str}{c:Addr},(clOf env fr).lookup y=some c->y∈fr.map (·.1)/\c=(env.cells.lookup y).getD 0
 |[],_,_,h=>by cases h
 |p::r,y,c,h=>by
  unfold clOf at h
  rw[P7,List.lookup_cons]at h
  cases e:y == p.1 with
  |true =>
   rw[e]at h
   have ey:y=p.1:=eq_of_beq e
   cases h
   exact⟨by rw[ey];exact PH,by rw[ey]⟩
  |false =>
   rw[e]at h
   obtain⟨a,b⟩:=gj (env:=env) (fr:=r) h
   exact⟨PD _ a,b⟩
theorem bO{env:Env}:∀{fr:List (Str×Nat)}{y:Str},y∈fr.map (·.1)->(clOf env fr).lookup y=some ((env.cells.lookup y).getD 0)
 |[],_,h=>by cases h
 |p::r,y,h=>by
  unfold clOf
  rw[P7,List.lookup_cons]
  cases e:y == p.1 with
  |true =>
   have ey:y=p.1:=eq_of_beq e
   rw[ey]
  |false =>
   have ny:y≠p.1:=fun z=>by rw[z]at e;simp at e
   rcases Pw.mp h with z | z
   ·exact absurd z ny
   ·exact bO (env:=env) (fr:=r) z
section
variable{X:Cx}{pins:List (Addr×Obj)}{σ:St}{H:Hp}{s:Shared}{scope:Scope}{fr:List (Str×Nat)}{x:Str}
theorem bq.cells(O:bq X scope fr x)(I:Inv X pins σ H s){y:Str}{c:Addr}(h:(clOf X.env fr).lookup y=some c):X.env.cells.lookup y=some c:=by
 obtain⟨hm,e⟩:=gj h
 obtain⟨p,hp,ep⟩:=Qv.mp hm
 have k:=(O.slot p hp).2
 rw[ep]at k
 obtain⟨c',e'⟩:=I.ok.has y (.inl k)
 rw[e']at e
 rw[e',e]
 rfl
theorem Ml{fp:List Addr}(O:bq X scope fr x)(I:Inv X pins σ H s)(hf:∀ b∈fp,FpOk X pins H b)(hfs:∀ b∈fp,b<s.heap.objs.size){g h':Heap}{tk:Nat}(hg:g=s.heap.push (LCg.lst []))
  (hk:∀ b o,g.get? b=some o->h'.get? b=some o) (hC:h'.Ns g.objs.size fun _=>none) :
  Inv (d6 X scope fr x g.objs.size (s.heap.objs.size::fp) { s with heap:=g } H) (X.pn++pins++[(s.heap.objs.size,LCg.lst [])]) (none::frOf fr σ) H { s with heap:=h',toks:=tk }:=by
 have hsz:g.objs.size=s.heap.objs.size+1:=by rw[hg,Heap.size_push]
 have kp:∀ b o,s.heap.get? b=some o->g.get? b=some o:=fun b o e=>by rw[hg];exact Heap.get?_push_of_some _ e
 have hk0:∀ b o,s.heap.get? b=some o->h'.get? b=some o:=fun b o e=>hk b o (kp b o e)
 have hDo:h'.get? s.heap.objs.size=some (LCg.lst []):=hk _ _ (by rw[hg];exact Heap.get?_push_size _ rfl)
 have neC:∀ b,b<s.heap.objs.size->b≠g.objs.size:=fun b e=>by rw[hsz];exact Qk (RE e)
 have hDC:s.heap.objs.size≠g.objs.size:=by rw[hsz];exact Qk (QE _)
 have hfr:H g.objs.size=none:=I.hok.fresh (by rw[hsz];exact Rj _)
 have hfD:H s.heap.objs.size=none:=I.hok.fresh (Pz _)
 have cne:∀ y c,X.env.cells.lookup y=some c->c<s.heap.objs.size:=fun y c e=>by
  obtain⟨v,q⟩:=I.cell y c e
  exact q.lt
 have nst:∀ b,b≠X.env.locals->b∉X.fs->b∉frs X.stack:=fun b h1 h2 z=>(Pw.mp (I.stkSub b z)).elim h1 h2
 have nstD:s.heap.objs.size∉frs X.stack:=nst _ (RA I.lt) (I.nofs (Pz _))
 refine⟨⟨I.ok.mod,O.kind,I.ok.glob,I.ok.blt,Pz _,?_,?_,fun _ _ z _=>(by cases z),I.ok.hd,I.ok.frames,.inl rfl,?_,?_,?_,?_,?_,?_,I.stkFree⟩,rfl,I.bare,Un.kept hk,?_,?_,hfr,?_,?_,I.hok.kept hk0,?_⟩
 ·intro y z c h1 h2
  exact I.ok.inj y z c (O.cells I h1) (O.cells I h2)
 ·intro y hy
  have hm:y∈fr.map (·.1):=by
   rcases hy with hy | hy
   ·exact O.has (y,_) (QN hy) (.inl rfl)
   ·exact O.has (y,_) (QN hy) (.inr rfl)
  exact⟨_,bO hm⟩
 ·intro b hb
  rcases Pw.mp hb with rfl | hb
  ·exact⟨hDC,fun y c e=>Qk (cne y c (O.cells I e))⟩
  ·exact⟨neC b (hfs b hb),fun y c e=>(hf b hb).2.2.2.2.1 y c (O.cells I e)⟩
 ·intro b o e
  exact⟨kp b o (I.bs b o e).1,(I.bs b o e).2⟩
 ·show X.base.objs.size<=g.objs.size
  rw[hsz]
  exact Nat.le_succ_of_le (QG I.ok.bsz I.sz)
 ·intro b o e hb
  rcases Pw.mp hb with z | hb
  ·have:=Heap.lt_size (I.bs b o e).1
   rw[z]at this
   exact Qs _ this
  ·rcases(hf b hb).2.2.2.1 with z | z
   ·exact I.ok.noex b o e z
   ·exact absurd (Qd (Heap.lt_size (I.ok.bs b o e).1) z) (Qs _)
 ·intro b hb
  rcases Pw.mp hb with z | hb
  ·rw[z];exact nstD
  ·exact nst b (hf b hb).2.1 (hf b hb).2.2.1
 ·exact(I.kept (h':=g) (t':=s.toks) kp).stack
 ·refine⟨_,hC,fun i y v e1 e2 e3=>?_⟩
  cases i with
  |zero=>cases e2
  |succ k =>
   have e1':(fr.map (·.1))[k]?=some y:=e1
   have e2':(frOf fr σ)[k]?=some (some v):=e2
   unfold frOf at e2'
   rw[PR]at e1' e2'
   cases q:fr[k]? with
   |none=>rw[q]at e1';cases e1'
   |some p =>
    rw[q]at e1' e2'
    have ey:p.1=y:=P5 e1'
    have ev:(σ[p.2]?).join=some v:=P5 e2'
    have hp:p∈fr:=Pr q
    obtain⟨hN,hK⟩:=O.slot p hp
    have hkk:=O.frk p hp
    rw[ey]at hN hK hkk
    have ev':σ[p.2]?=some (some v):=by
     cases q2:σ[p.2]? with
     |none=>rw[q2]at ev;cases ev
     |some w=>rw[q2]at ev;exact congrArg some ev
    obtain⟨m,hn,hl⟩:=I.loc
    obtain⟨u,r,l⟩:=hl p.2 y v hN ev' (.inr (.inl hK))
    refine⟨u,r,?_⟩
    rcases l with⟨k1,_⟩ | ⟨_,c,ec,z⟩
    ·rw[hK]at k1;cases k1
    ·have hm:y∈fr.map (·.1):=by rw[← ey];exact Qv.mpr ⟨p,hp,rfl⟩
     have el:=bO (env:=X.env) hm
     rw[ec]at el
     exact .inr ⟨.inl hkk,c,el,by obtain⟨o,ho,hd⟩:=z;exact⟨o,hk0 _ _ ho,hd⟩⟩
 ·intro y c e
  obtain⟨v,o,ho,hd⟩:=I.cell y c (O.cells I e)
  exact⟨v,o,hk0 _ _ ho,hd⟩
 ·intro y c e
  exact I.freeC y c (O.cells I e)
 ·intro p hp
  rcases PM.mp hp with hp | hp
  ·cases hp
  ·rcases PM.mp hp with hp | hp
   ·obtain⟨e,n,ne,nf,d⟩:=I.pin p hp
    exact⟨hk0 _ _ e,n,neC _ (Heap.lt_size e),nst _ ne nf,d⟩
   ·have ep:p=(s.heap.objs.size,LCg.lst []):=by simpa using hp
    subst ep
    exact⟨hDo,hfD,hDC,nstD,fun v z=>by cases z⟩
 ·show(none::frOf fr σ).length=(x::fr.map (·.1)).length
  unfold frOf
  simp
theorem zV{fp:List Addr}{g:Heap}{s':Shared}{H':Hp}{σ':St}{ys:List V}{us:List Value}(I:Inv X pins σ H s)(hf:∀ b∈fp,FpOk X pins H b)(hg:g=s.heap.push (LCg.lst []))
  (J:Inv (d6 X scope fr x g.objs.size (s.heap.objs.size::fp) { s with heap:=g } H) (X.pn++pins++[(s.heap.objs.size,LCg.lst us)]) σ' H' s') (hv:Vals ys us) (hl:ys.length<=sizeLine) :
  Inv X pins σ (upd H' s.heap.objs.size (.lst ys)) s'/\H' s.heap.objs.size=none/\FpOk X pins (upd H' s.heap.objs.size (.lst ys)) g.objs.size/\∃ m,s'.heap.Ns g.objs.size m:=by
 have hsz:g.objs.size=s.heap.objs.size+1:=by rw[hg,Heap.size_push]
 have kp:∀ b o,s.heap.get? b=some o->g.get? b=some o:=fun b o e=>by rw[hg];exact Heap.get?_push_of_some _ e
 obtain⟨eD,nD,_,_,_⟩:=J.pin (s.heap.objs.size,LCg.lst us) (by simp)
 have hDC:g.objs.size≠s.heap.objs.size:=by rw[hsz];exact RA (QE _)
 have nD':∀ b u,H' b=some u->b≠s.heap.objs.size:=fun b u e z=>by rw[z]at e;rw[e]at nD;cases nD
 have hx:∀ b o,s.heap.get? b=some o->b∉fp->b∉s.heap.objs.size::fp:=fun b o e hb z=>by
  rcases Pw.mp z with z | z
  ·have:=Heap.lt_size e
   rw[z]at this
   exact Qs _ this
  ·exact hb z
 have bU:Un (frs X.stack) (s.heap.objs.size::fp) H H' g s'.heap:=J.base
 have ltD:∀ b o,s.heap.get? b=some o->b≠s.heap.objs.size:=fun b o e=>Qk (Heap.lt_size e)
 have un:Un (frs X.stack) fp H (upd H' s.heap.objs.size (.lst ys)) s.heap s'.heap:=by
  refine⟨fun b o e n hb he=>bU.keep b o (kp b o e) n hb (hx b o e he),fun b o e n hb he=>bU.slot b o (kp b o e) n hb (hx b o e he),fun b o e n he=>?_,fun b o e he=>bU.there b o (kp b o e) (hx b o e he),fun b xs e=>?_,fun b o u e=>?_,fun b ps e=>?_⟩
  ·rw[ao (ltD b o e)];exact bU.free b o (kp b o e) n (hx b o e he)
  ·have q:=bU.tups b xs e
   rw[ao (nD' b _ q)];exact q
  ·have q:=bU.frzs b o u e
   rw[ao (nD' b _ q)];exact q
  ·obtain⟨more,q⟩:=bU.tbls b ps e
   exact⟨more,by rw[ao (nD' b _ q)];exact q⟩
 have hok:HOk X.prog X.w (upd H' s.heap.objs.size (.lst ys)) s'.heap:=fun b u e=>by
  by_cases hb:b=s.heap.objs.size
  ·rw[hb,af]at e
   cases e
   rw[hb]
   exact⟨hl,us,us.length,hv,eD⟩
  ·rw[ao hb]at e
   exact(J.hok b u e).stay (fun c v _ q=>q) (fun c q=>by rw[ao (nD' c _ q)];exact q) fun c xs q=>by rw[ao (nD' c _ q)];exact q
 have os:s'.os=s.os:=J.os
 refine⟨I.call' os un hok J.bare fun b hb=>⟨(hf b hb).2.2.2.1,(hf b hb).2.1,(hf b hb).2.2.2.2⟩,nD,?_,?_⟩
 ·refine I.fpOk (H':=upd H' s.heap.objs.size (.lst ys)) (b:=g.objs.size) (by rw[hsz];exact Rj _) ?_
  rw[ao hDC]
  exact J.free
 ·obtain⟨m,hn,_⟩:=J.loc
  exact⟨m,hn⟩
end
def yo(te:TE)(fv:St)(J:It)(H1:Hp)(QQ:List V->Hp->Prop):Prop :=
 ∃ W:Nat->Nat->List V->Hp->Prop,(∃ m,W 0 m [] H1)/\∀ i m ys H,W i m ys H->ys.length<=sizeLine /\
  ((J.stop i H/\QQ ys H)∨(J.go i H/\∃ N:V->Hp->Prop,(∀ y H2,N y H2->∃ m',m'<m/\W (i+1) m' (ys++[y]) H2)/\∀ x H',J.yld i H x H'->te (some x::fv) H' N))
section
variable{X:Cx}{scope:Scope}{fr:List (Str×Nat)}{x:Str}{elt iter:Expr}{px pos:Pos}{te:TE}{wi:TI}
theorem Au{pins:List (Addr×Obj)}{σ:St}{H:Hp}{s:Shared}{E:Value->Shared->Prop}{it:Addr}{fp:List Addr}{tn:Nat->Heap->Prop}{J:It}{RR:Value->Addr->Result->Shared->Prop}{QQ:List V->Hp->Prop}(hc:X.calm=true)(O:bq X scope fr x)
  (he:∀ C ex s H,PE (d6 X scope fr x C ex s H) elt te) (I:Inv X pins σ H s) (T:Turn X.prog X.w X.K (.Name x px) J fp it tn) (st:tn 0 s.heap) (hf:∀ b∈fp,FpOk X pins H b) (hq:yo te (frOf fr σ) J H QQ)
  (fin:∀ D C H4 ys s4 m,Inv X pins σ (upd H4 D (.lst ys)) s4->H4 D=none->FpOk X pins (upd H4 D (.lst ys)) C->s4.heap.Ns C m->QQ ys H4->RR (.ref D) C (.ok .next) s4) :
  wpAny (model X.prog X.w) X.A (newList []) (fun acc s₃=>wpAny (model X.prog X.w) X.A (newFunctionEnv scope X.env.globals (clOf X.env fr) [] X.env.qual none .none (some X.env)) (fun cenv s₄ =>
   codeAny (model X.prog X.w) X.A (.compStart (.ListComp elt [⟨.Name x px,iter,[],0⟩] scope pos) 0 (.ref it) acc { cenv with scope:=relabel scope X.env }) (RR acc cenv.locals) s₄) E s₃) E s:=by
 obtain⟨W,⟨m0,w0⟩,turn⟩:=hq
 have hfs:∀ b∈fp,b<s.heap.objs.size:=fun b hb=>by
  obtain⟨o,e,_⟩:=T.obj 0 s.heap st b hb
  exact Heap.lt_size e
 refine wpAny_newObj_type (wpAny_newFunctionEnv O.cell (by intro y hy;simp at hy) (fun h₁ hns₁ hsb₁=>?_) O.kind)
 dsimp only at hns₁ hsb₁ ⊢
 generalize hH2:s.heap.push { cls:=.type "list",dict:=none,data:=.seq ([]:List Value).toArray }=g at hns₁ hsb₁ ⊢
 have hg:g=s.heap.push (LCg.lst []):=hH2.symm
 have hsz:g.objs.size=s.heap.objs.size+1:=by rw[hg,Heap.size_push]
 have hk:∀ b o,g.get? b=some o->h₁.get? b=some o:=fun b o e=>hsb₁.extBut b o (Qk (Heap.lt_size e)) (Heap.get?_push_of_some _ e)
 have kp:∀ b o,s.heap.get? b=some o->h₁.get? b=some o:=fun b o e=>hk b o (by rw[hg];exact Heap.get?_push_of_some _ e)
 have J0:=Ml (h':=h₁) (tk:=s.toks+([]:List (Str×Value)).length) O I hf hfs hg hk hns₁
 have stat:∀{H':Hp}{us:List Value},(∀ b∈fp,H' b=none)->∀ b∈fp,FpOk (d6 X scope fr x g.objs.size (s.heap.objs.size::fp) { s with heap:=g } H) (X.pn++pins++[(s.heap.objs.size,LCg.lst us)]) H' b:=fun{H' us} hn b hb=>by
  obtain⟨_,f1,f2,f3,f4,f5⟩:=hf b hb
  refine⟨hn b hb,?_,fun z=>(Pw.mp (I.stkSub b z)).elim f1 f2,.inl (PD _ hb),fun y c e=>f4 y c (O.cells I e),fun p hp=>?_⟩
  ·show b≠g.objs.size
   rw[hsz];exact Qk (RE (hfs b hb))
  ·rcases PM.mp hp with hp | hp
   ·cases hp
   ·rcases PM.mp hp with hp | hp
    ·exact f5 p hp
    ·have ep:p=(s.heap.objs.size,LCg.lst us):=by simpa using hp
     rw[ep]
     exact RA (hfs b hb)
 have loop:codeAny (model X.prog X.w) X.A (.compLoop (.ListComp elt [⟨.Name x px,iter,[],0⟩] scope pos) 0 (.ref it) (.ref s.heap.objs.size) (compEnvC scope (clOf X.env fr) g.objs.size X.env))
   (RR (.ref s.heap.objs.size) g.objs.size) { s with heap:=h₁,toks:=s.toks+([]:List (Str×Value)).length }:=by
  refine codeAny_compLoop_tests (fun n s'=>∃ i ys us H',Inv (d6 X scope fr x g.objs.size (s.heap.objs.size::fp) { s with heap:=g } H) (X.pn++pins++[(s.heap.objs.size,LCg.lst us)]) (none::frOf fr σ) H' s'/\Vals ys us/\tn i s'.heap/\(∀ b∈fp,H' b=none)/\W i n ys H') ?_ m0
   ⟨0,[],[],H,J0,.nil,T.keep 0 s.heap h₁ st fun b _ o e=>kp b o e,fun b hb=>(hf b hb).1,w0⟩
  rintro n s3 ⟨i,ys,us,H3,J3,hv,st3,fr3,w3⟩
  obtain⟨hlen,hh⟩:=turn i n ys H3 w3
  have none_err:∀{α:Type}{t:Sem α}{Q:α->Shared->Prop}{E':Value->Shared->Prop}{s:Shared},wpAny (model X.prog X.w) X.A t Q (fun _ _=>False) s->wpAny (model X.prog X.w) X.A t Q E' s:=fun h=>wpAny_mono h (fun _ _ q=>q) fun _ _ z=>z.elim
  rcases hh with⟨stop,qn⟩ | ⟨go,N,hN,step⟩
  ·refine none_err (thn (T.done (d6 X scope fr x g.objs.size (s.heap.objs.size::fp) { s with heap:=g } H) rfl rfl rfl hc i _ s3 _ H3 _ J3 (stat fr3) st3 stop) fun r s4 ⟨hr,J4⟩=>?_)
   subst hr
   obtain⟨I4,nD,fC,m,hn⟩:=zV I hf hg J4 hv hlen
   exact fin _ _ H3 ys s4 m I4 nD fC hn qn
  ·refine none_err (thn (T.item (d6 X scope fr x g.objs.size (s.heap.objs.size::fp) { s with heap:=g } H) rfl rfl rfl hc i _ s3 _ H3 _ J3 (stat fr3) st3 go) fun r s4 ⟨u,hr,h4⟩=>?_)
   subst hr
   have h4':=wpAny_bind (f:=fun _=>assign (.Name x px) (compEnvC scope (clOf X.env fr) g.objs.size X.env) u) (thn h4 (Q':=fun _ s5=>wpAny (model X.prog X.w) X.A (assign (.Name x px) (compEnvC scope (clOf X.env fr) g.objs.size X.env) u) (fun _ s6=>∃(σ6:St)(H6:Hp)(v:V)(s5':Shared)(H5:Hp),Inv (d6 X scope fr x g.objs.size (s.heap.objs.size::fp) { s with heap:=g } H) (X.pn++pins++[(s.heap.objs.size,LCg.lst us)]++yV fp s5'.heap) σ6 H6 s6/\σ6=some v::frOf fr σ/\H6=H5/\J.yld i H3 v H5/\tn (i+1) s5'.heap) (fun _ _=>False) s5) fun _ s5 ⟨v,H5,J5,r5,y5,st5,fr5⟩=>by
    have J5':=J5.pinned (stat fr5) (T.obj _ _ st5)
    have hNd:(d6 X scope fr x g.objs.size (s.heap.objs.size::fp) { s with heap:=g } H).N.Nodup:=O.nd
    have hxl:(d6 X scope fr x g.objs.size (s.heap.objs.size::fp) { s with heap:=g } H).env.scope.names.lookup x=some .local:=lookup_relabel_local O.xl
    exact thn (aO (X:=d6 X scope fr x g.objs.size (s.heap.objs.size::fp) { s with heap:=g } H) (i:=0) hNd rfl (.inl hxl) (.inr hxl) _ s5 _ H5 v u (fun σ6 H6=>σ6=some v::frOf fr σ/\H6=H5) J5' r5 ⟨rfl,rfl⟩) fun _ s6 ⟨σ6,H6,J6,e6,e7⟩=>⟨σ6,H6,v,s5,H5,J6,e6,e7,y5,st5⟩)
   refine none_err (thn h4' fun _ s6 ⟨σ6,H6,v,s5,H5,J6,e6,e7,y5,st5⟩=>?_)
   subst e6 e7
   refine wpAny_tests_nil ?_
   rw[if_pos rfl]
   refine none_err (thn (he _ _ _ _ _ s6 _ H6 _ J6 (step v H6 y5)) fun u7 s7 ⟨v7,H7,J7,r7,q7⟩=>?_)
   obtain⟨m',hm,w7⟩:=hN v7 H7 q7
   obtain⟨eD,nD,dC,dF,dd⟩:=J7.pin (s.heap.objs.size,LCg.lst us) (P0 _ (QC _ (P0 _ (by simp))))
   have hvl:=hv.length
   refine append_at (hsz:=by show us.toArray.size<=sizeLine;rw[P8,← hvl];exact hlen) eD fun h8 hs8 hD8=>?_
   have pinD:∀ p∈X.pn++pins,p.1≠s.heap.objs.size:=fun p hp z=>by
    have:=Heap.lt_size (I.pin p hp).1
    rw[z]at this
    exact Qs _ this
   have J7a:Inv (d6 X scope fr x g.objs.size (s.heap.objs.size::fp) { s with heap:=g } H) (X.pn++pins) _ H7 s7:=J7.pins_of fun p hp=>J7.pin p (P0 _ (QC _ (QC _ hp)))
   have J8:Inv (d6 X scope fr x g.objs.size (s.heap.objs.size::fp) { s with heap:=g } H) (X.pn++pins) _ H7 { s7 with heap:=h8 }:=J7a.turned (t':=s7.toks) (fun b o hb e=>(hs8.2 b hb).trans e) nD dC (.inl PH) (fun y c e z=>by
    obtain⟨w',q⟩:=I.cell y c (O.cells I e)
    have:=q.lt
    rw[z]at this
    exact Qs _ this) (fun p hp=>(PM.mp hp).elim (fun z=>by cases z) (pinD p))
   have J9:Inv (d6 X scope fr x g.objs.size (s.heap.objs.size::fp) { s with heap:=g } H) (X.pn++pins++[(s.heap.objs.size,LCg.lst (us++[u7]))]) _ H7 { s7 with heap:=h8 }:=J8.pins_of fun p hp=>by
    rcases PM.mp hp with hp | hp
    ·exact J8.pin p (P0 _ hp)
    ·have ep:p=(s.heap.objs.size,LCg.lst (us++[u7])):=by simpa using hp
     subst ep
     exact⟨hD8.trans (congrArg some (LCg.lst_snoc us u7)),nD,dC,dF,fun v z=>by cases z⟩
   have J10:=J9.weak (σ':=none::frOf fr σ) rfl fun i v e=>by
    cases i with
    |zero=>cases e
    |succ k=>exact e
   have pinF:∀ b∈fp,∀ o,s5.heap.get? b=some o->s7.heap.get? b=some o/\H7 b=none:=fun b hb o e=>by
    obtain⟨q1,q2,_⟩:=J7.pin (b,o) (P0 _ (P0 _ (gH hb e)))
    exact⟨q1,q2⟩
   refine⟨m',hm,i+1,ys++[v7],us++[u7],H7,J10,hv.append (.cons r7 .nil),T.keep _ _ _ st5 fun b hb o e=>(hs8.2 b (Qk (hfs b hb))).trans (pinF b hb o e).1,fun b hb=>?_,w7⟩
   obtain⟨o,e,_⟩:=T.obj _ _ st5 b hb
   exact(pinF b hb o e).2
 exact codeAny_compStart_list loop (T.self X.A 0 _ _ _ (T.keep 0 s.heap h₁ st fun b _ o e=>kp b o e) loop)
def tComp(wi:TI)(te:TE)(fr:List (Str×Nat)):TE:=fun σ H Q=>wi σ H fun J H1=>yo te (frOf fr σ) J H1 fun ys H2=>∀ D,H2 D=none->Q (.ref D) (upd H2 D (.lst ys))
theorem dr(hc:X.calm=true)(O:bq X scope fr x)(hi:PI X (.Name x px) iter wi)(he:∀ C ex s H,PE (d6 X scope fr x C ex s H) elt te)(hs:∀ x,foldedSetIterable iter X.env x=pure x:=by intro _;rfl) :
  PE X (.ListComp elt [⟨.Name x px,iter,[],0⟩] scope pos) (tComp wi te fr):=by
 intro pins s σ H Q I h
 rw[eval_ListComp]
 refine wpAny_comprehension_free (use:=none) rfl hs O.clos O.kind O.names (thn (hi pins s σ H _ I h) fun xv s1 h1=>thn h1 fun itv s2 h2=>?_)
 obtain⟨it,fp,tn,J,H2,e,I2,T,st2,f2,q2⟩:=h2
 subst e
 refine Au (RR:=fun acc C=>compPost (model X.prog X.w) X.A X.xe none (EP X pins σ Q) acc C) hc O he I2 T st2 f2 q2 ?_
 intro D C H4 ys s4 m I4 nD fC hn q4
 refine⟨m,hn,fun h' hs'=>?_⟩
 obtain⟨g0,g1,g2,g3,g4,g5⟩:=fC
 exact⟨.ref D,_,I4.turned (t':=s4.toks) (fun b o hb e=>(hs'.2 b hb).trans e) g0 g1 g3 g4 g5,rfl,q4 D nD⟩
def Le(i:Nat)(wi:TI)(te:TE)(fr:List (Str×Nat)):TS:=fun D σ H=>wi σ H fun J H1=>yo te (frOf fr σ) J H1 fun ys H2=>∀ a,H2 a=none->D.nx (σ.set i (some (.ref a))) (upd H2 a (.lst ys))
theorem gF{i:Nat}{y:Str}{py spos:Pos}(hc:X.calm=true)(hN:X.N.Nodup)(hi':X.N[i]?=some y)(hy:X.env.scope.names.lookup y=some .local)(O:bq X scope fr x)(hi:PI X (.Name x px) iter wi)(he:∀ C ex s H,PE (d6 X scope fr x C ex s H) elt te)
  (hsw:swapsWith (.ListComp elt [⟨.Name x px,iter,[],0⟩] scope pos) (some (.Name y py)) spos.line X.env=pure true:=by rfl) (hs:∀ x,foldedSetIterable iter X.env x=pure x:=by intro _;rfl) :
  PS X (.Assign [.Name y py] (.ListComp elt [⟨.Name x px,iter,[],0⟩] scope pos) spos) (Le i wi te fr):=by
 intro pins s σ H D I h
 rw[exec_Assign_Name_used _ _ _ _ hsw]
 refine wpAny_bind (wpAny_standAt (wpAny_bind ?_))
 show wpAny _ X.A (do let _ ← comprehension (.ListComp elt [⟨.Name x px,iter,[],0⟩] scope pos) scope X.env _ (newList []) false (eval iter X.env) (some (assign (.Name y py) X.env))) _ _ s
 refine wpAny_bind (thn (wpAny_comprehension_free (use:=some (assign (.Name y py) X.env)) (Q:=fun _ s'=>SP X pins D .next s') rfl hs O.clos O.kind O.names (thn (hi pins s σ H _ I h) fun xv s1 h1=>thn h1 fun itv s2 h2=>?_)) fun _ s' hq=>wpAny_pure (wpAny_pure hq))
 obtain⟨it,fp,tn,J,H2,e,I2,T,st2,f2,q2⟩:=h2
 subst e
 refine Au (RR:=fun acc C=>compPost (model X.prog X.w) X.A X.xe (some (assign (.Name y py) X.env)) (fun _ s'=>SP X pins D .next s') acc C) hc O he I2 T st2 f2 q2 ?_
 intro a C H4 ys s4 m I4 nD fC hn q4
 obtain⟨g0,g1,g2,g3,g4,g5⟩:=fC
 obtain⟨oC,eC,hoC⟩:=LCg.ns_obj hn
 have I5:Inv X (pins++[(C,oC)]) σ (upd H4 a (.lst ys)) s4:=I4.pins_of fun p hp=>by
  rcases PM.mp hp with hp | hp
  ·exact I4.pin p (P0 _ hp)
  ·have ep:p=(C,oC):=by simpa using hp
   subst ep
   obtain⟨es,epp,hd,_⟩:=hoC
   exact⟨eC,g0,g1,g2,fun v z=>by rw[hd]at z;cases z⟩
 show wpAny _ X.A (assign (.Name y py) X.env (.ref a)) _ _ _
 refine wpAny_assign_Name (pI I5 hN hi' (.inl hy) (v:=.ref a) rfl (fun s6 I6=>?_) (.inr hy))
 obtain⟨e6,_⟩:=I6.pin (C,oC) (P0 _ (P0 _ (by simp)))
 refine⟨m,hoC.ns e6,fun h' hs'=>?_⟩
 exact⟨_,_,I6.unpinned.turned (t':=s6.toks) (fun b o hb e=>(hs'.2 b hb).trans e) g0 g1 g3 g4 g5,q4 a nD⟩
end
theorem bS{K:Pt}{a:Addr}{xs:List V}{te:TE}{fv:St}{H1:Hp}{QQ:List V->Hp->Prop}(Pv:Nat->List V->Hp->Prop)(hz:xs.length<=sizeLine)(h0:Pv 0 [] H1)(hl:∀ i ys H,i<=xs.length->Pv i ys H->SqL K H a xs)
  (hs:∀ i x ys H,xs[i]?=some x->Pv i ys H->te (some x::fv) H fun y H2=>Pv (i+1) (ys++[y]) H2) (hd:∀ ys H,ys.length=xs.length->Pv xs.length ys H->QQ ys H)
  : yo te fv (Itl K a) H1 QQ:=by
 refine⟨fun i m ys H=>m=xs.length-i/\i<=xs.length/\ys.length=i/\Pv i ys H,⟨xs.length,by simp,QJ _,rfl,h0⟩,?_⟩
 rintro i m ys H ⟨rfl,hi,hy,p⟩
 have q:=hl i ys H hi p
 refine⟨by omega,?_⟩
 by_cases hlt:i<xs.length
 ·refine .inr ⟨⟨xs,xs[i],q,by simp[hlt]⟩,fun y H2=>Pv (i+1) (ys++[y]) H2,fun y H2 p2=>⟨xs.length-(i+1),by omega,rfl,hlt,by rw[Px,hy];rfl,p2⟩,fun x H' y=>?_⟩
  obtain⟨e,y⟩:=y
  subst e
  exact hs i x ys _ (y xs q) p
 ·have e:i=xs.length:=by omega
  subst e
  exact .inl ⟨⟨xs,q,Pz _⟩,hd ys H hy p⟩
theorem dt{lo:Int}{n:Nat}{te:TE}{fv:St}{H1:Hp}{QQ:List V->Hp->Prop}(Pv:Nat->List V->Hp->Prop)(hz:n<=sizeLine)(h0:Pv 0 [] H1)
  (hs:∀ i ys H,i<n->Pv i ys H->te (some (.int (lo+i))::fv) H fun y H2=>Pv (i+1) (ys++[y]) H2) (hd:∀ ys H,ys.length=n->Pv n ys H->QQ ys H)
  : yo te fv (Itr lo n) H1 QQ:=by
 refine⟨fun i m ys H=>m=n-i/\i<=n/\ys.length=i/\Pv i ys H,⟨n,by simp,QJ _,rfl,h0⟩,?_⟩
 rintro i m ys H ⟨rfl,hi,hy,p⟩
 refine⟨by omega,?_⟩
 by_cases hlt:i<n
 ·refine .inr ⟨hlt,fun y H2=>Pv (i+1) (ys++[y]) H2,fun y H2 p2=>⟨n-(i+1),by omega,rfl,hlt,by rw[Px,hy];rfl,p2⟩,fun x H' y=>?_⟩
  obtain⟨e,y⟩:=y
  subst e y
  exact hs i ys _ hlt p
 ·have e:i=n:=by omega
  subst e
  exact .inl ⟨Pz _,hd ys H hy p⟩
end L2
namespace L2
open PySem PySem.Spec PyProof.Rows
theorem Kt:bootBuiltins "int" = some (.type "int"):=by decide +kernel
theorem O9:bootBuiltins "bool" = some (.type "bool"):=by decide +kernel
theorem lD:bootBuiltins "list" = some (.type "list"):=by decide +kernel
theorem MB:bootBuiltins "tuple" = some (.type "tuple"):=by decide +kernel
theorem aY:bootBuiltins "len" = some (.builtin "len"):=by decide +kernel
theorem eI:bootBuiltins "isinstance" = some (.builtin "isinstance"):=by decide +kernel
theorem Kr:bootBuiltins "sorted" = some (.builtin "sorted"):=by decide +kernel
theorem D4:bootBuiltins "reversed" = some (.type "reversed"):=by decide +kernel
theorem AD:bootBuiltins "enumerate" = some (.type "enumerate"):=by decide +kernel
structure Cal(P:Program)(w:World)(K:Pt)(mg:Str->Option Value)(base:Heap)(k:Nat)(x:Str)(ps:List Str)(sp:Sp)(f:Addr)(fd:FuncData):Prop where
 ok:FnOk P w K mg base CX0 k f fd ps sp
 bn:om K fd ps []
 mg:mg x=some (.ref f)
 kp:PJ K (.ref f)=true
structure Mak(P:Program)(w:World)(K:Pt)(mg:Str->Option Value)(base:Heap)(k:Nat)(x:Str)(ps:List Str)(sp:Sp)(C f:Addr)(fd:FuncData):Prop where
 mkc:Mk K C f
 ok:FnOk P w K mg base CX0 k f fd ps sp
 bn:om K fd ps []
 mg:mg x=some (.ref C)
structure Met(P:Program)(w:World)(K:Pt)(mg:Str->Option Value)(base:Heap)(k:Nat)(C:Addr)(m:Str)(ps:List Str)(sp:Sp)(f:Addr)(fd:FuncData):Prop where
 me:Meth K C m f
 ok:FnOk P w K mg base CX0 k f fd ps sp
 bn:om K fd ps []
theorem qq{X:Cx}{sts:List Stmt}{t t2:TS}(h:PSs X sts t)(i:∀ D σ H,t2 D σ H->t D σ H):PSs X sts t2:=fun pins s σ H D I q=>h pins s σ H D I (i D σ H q)
section
variable{X:Cx}
def rIsi(K:Pt):List V->Hp->VK->Prop:=fun xs H Q=>∃ x c t b u,xs = [x,c]/\TyOf K H x t/\((∃ n,c=.ty n/\u=Value.type n)∨∃ a,c=.ref a/\u=Value.ref a)/\RP K t u=some b/\Q (.bl b) H
theorem pZ:pH X (.builtin "isinstance") (rIsi X.K):=by
 intro pins s σ H xs us Q I r h
 obtain⟨x,c,t,b,u,rfl,ty,hu,e,q⟩:=h
 obtain⟨v1,v2,rfl,r1,r2⟩:=Nr r
 have e2:v2=u:=by
  rcases hu with⟨n,rfl,rfl⟩ | ⟨a,rfl,rfl⟩
  ·exact r2
  ·exact r2
 subst e2
 exact Jt I r1 ty e fun tk=>⟨.bl b,H,I.tok tk,rfl,q⟩
theorem kit_ii(K:Pt):RP K (.type "int") (.type "int")=some true:=by with_unfolding_all rfl
theorem kit_ib(K:Pt):RP K (.type "int") (.type "bool")=some false:=by with_unfolding_all rfl
theorem kit_ll(K:Pt):RP K (.type "list") (.type "list")=some true:=by with_unfolding_all rfl
theorem M3(K:Pt):RP K (.type "tuple") (.type "tuple")=some true:=by with_unfolding_all rfl
end
inductive RdD(K:Pt)(H:Hp):V->PyData->Prop where
 |non:RdD K H .non .none
 |bl (b:Bool):RdD K H (.bl b) (.bool b)
 |int (i:Int):RdD K H (.int i) (.int i)
 |lst {a:Addr} {xs:List V} {ds:List PyData} (h:SqL K H a xs) (hl:xs.length=ds.length) (r:∀(i:Nat)(x:V)(d:PyData),xs[i]?=some x->ds[i]?=some d->RdD K H x d):RdD K H (.ref a) (.list ds)
 |tup {a:Addr} {xs:List V} {ds:List PyData} (h:SqT K H a xs) (hl:xs.length=ds.length) (r:∀(i:Nat)(x:V)(d:PyData),xs[i]?=some x->ds[i]?=some d->RdD K H x d):RdD K H (.ref a) (.tuple ds)
theorem ku{h:Heap}:∀{xs:List V}{us:List Value}{ds:List PyData},Vals xs us->xs.length=ds.length->(∀(i:Nat) x d,xs[i]?=some x->ds[i]?=some d->∀ u,RelV x u->∃ as,Reads h u d as)->∃ as,ReadsAll h us ds as
 |_,_,[],.nil,_,_=>⟨_,.nil⟩
 |_,_,_::_,.nil,e,_=>by cases e
 |_,_,[],.cons _ _,e,_=>by cases e
 |_,_,d::ds,.cons r rr,e,k=>by
  obtain⟨a1,q1⟩:=k 0 _ d rfl rfl _ r
  obtain⟨a2,q2⟩:=ku rr (Nat.succ.inj e) fun i x d' e1 e2=>k (i+1) x d' e1 e2
  exact⟨_,.cons q1 q2⟩
section
variable{X:Cx}
theorem RdD.reads{pins:List (Addr×Obj)}{σ:St}{H:Hp}{s:Shared}(I:Inv X pins σ H s){x:V}{d:PyData}(r:RdD X.K H x d):∀ u,RelV x u->∃ as,Reads s.heap u d as:=by
 induction r with
 |non=>intro u hu;cases hu;exact⟨_,.none⟩
 |bl b=>intro u hu;cases hu;exact⟨_,.bool b⟩
 |int i=>intro u hu;obtain⟨t,rfl⟩:=hu;exact⟨_,.int i t⟩
 |lst h hl r ih =>
  intro u hu
  cases hu
  obtain⟨its,rv,p,_⟩:=I.list h
  obtain⟨as,q⟩:=ku (h:=s.heap) rv hl ih
  obtain⟨o,n,e,c,_,d⟩:=p
  exact⟨_,.list e c d (by simpa using q)⟩
 |tup h hl r ih =>
  intro u hu
  cases hu
  obtain⟨its,rv,p,_⟩:=I.tuple h
  obtain⟨as,q⟩:=ku (h:=s.heap) rv hl ih
  obtain⟨o,e,c,n,d⟩:=p
  exact⟨_,.tuple e c d (by simpa using q)⟩
def rSame(b:Bool)(K:Pt):R2:=fun x y H Q=>∃ d,RdD K H x d/\RdD K H y d/\SeqAt.shaped d=true/\Q (.bl b) H
theorem op_neD(hu:X.A.units+64<cLine):OpR X (compareOp .NotEq) (rSame false X.K):=by
 intro pins s σ H x y v u Q I rx ry h
 obtain⟨d,r1,r2,hs,q⟩:=h
 obtain⟨as,q1⟩:=r1.reads I v rx
 obtain⟨bs,q2⟩:=r2.reads I u ry
 refine ne_dataH q1 q2 hs hs hu ?_
 rw[SeqAt.eqv_refl d (SeqAt.canLay_of_shaped hs)]
 exact⟨.bl false,H,I,rfl,q⟩
end
section
variable{X:Cx}{tg:Expr}
end
end L2
namespace L2
open PySem PySem.Spec PyProof.Rows
section
variable{P:Program}{w:World}{H:Hp}{h:Heap}{a:Addr}{o:HO}
theorem cf.get(x:cf P w H h a o):∃ ob,h.get? a=some ob:=by
 cases o with
 |lst xs=>obtain⟨_,_,_,_,e⟩:=x;exact⟨_,e⟩
 |tup xs=>obtain⟨_,_,_,ob,e,_⟩:=x;exact⟨_,e⟩
 |dK kvs=>obtain⟨_,_,_,_,o,_,_,e,_⟩:=x;exact⟨_,e⟩
 |dT kvs=>obtain⟨_,_,_,_,o,_,_,e,_⟩:=x;exact⟨_,e⟩
 |set S n=>obtain⟨o,_,_,_,e,_⟩:=x;exact⟨_,e⟩
 |ins C dx fs=>obtain⟨_,_,_,e,_⟩:=x;exact⟨_,e⟩
 |own y=>exact x
 |xd fs=>obtain⟨_,⟨_,_,_,e,_⟩,_⟩:=x;exact⟨_,e⟩
 |rng lo hi=>obtain⟨_,_,_,e⟩:=x;exact⟨_,e⟩
 |frz ob u=>exact⟨_,x.1⟩
 |tbl ps=>exact⟨_,(show h.get? a=some _ from x)⟩
 |met f y=>exact⟨_,(show h.get? a=some _ from x)⟩
 |ext φ=>exact x.2.1
theorem HOk.none_of(x:HOk P w H h)(e:h.get? a=none):H a=none:=by
 cases q:H a with
 |none=>rfl
 |some u =>
  obtain⟨ob,z⟩:=(x a u q).get
  rw[e]at z
  cases z
end
structure XOk(X:Cx)(pins:List (Addr×Obj))(H:Hp)(b:Addr):Prop where
 old:X.s₀.heap.get? b=none
 trk:H b=none
 nl:b≠X.env.locals
 nc:∀ x c,X.env.cells.lookup x=some c->c≠b
 np:∀ p∈X.pn++pins,p.1≠b
section
variable{X:Cx}{pins:List (Addr×Obj)}{σ:St}{H H':Hp}{s s':Shared}{b:Addr}
theorem Inv.xok(I:Inv X pins σ H s)(hx:X.ex = [])(e:s.heap.get? b=none)(n:H' b=none):XOk X pins H' b:=by
 refine⟨?_,n,fun z=>?_,fun x c q z=>?_,fun p hp z=>?_⟩
 ·cases q:X.s₀.heap.get? b with
  |none=>rfl
  |some o =>
   obtain⟨o',e'⟩:=I.base.there b o q (by rw[hx];simp)
   rw[e]at e'
   cases e'
 ·obtain⟨m,⟨o,_,_,ho,_⟩,_⟩:=I.loc
  rw[z,ho]at e
  cases e
 ·obtain⟨v,o,ho,_⟩:=I.cell x c q
  rw[z,e]at ho
  cases ho
 ·have:=(I.pin p hp).1
  rw[z,e]at this
  cases this
theorem Inv.xtrack{a:Addr}{o:HO}(I:Inv X pins σ H s)(f:XOk X pins H a)(new:cf X.prog X.w (upd H a o) s.heap a o):Inv X pins σ (upd H a o) s:=by
 have ne:∀ b u,H b=some u->b≠a:=fun b u e=>aM e f.trk
 have nb:∀ b u,s.heap.get? b=some u->b≠a->H b=none->upd H a o b=none:=fun b u _ n q=>by rw[ao n];exact q
 refine⟨I.ok,I.os,I.bare,⟨I.base.keep,I.base.slot,fun b ob e n hx=>?_,I.base.there,fun b xs e=>?_,fun b ob xs e=>?_,fun b ps e=>?_⟩,I.loc,I.cell,?_,fun x c e=>?_,fun p hp=>?_,fun b u e=>?_,I.len⟩
 ·rw[ao (fun z=>by rw[z,f.old]at e;cases e)]
  exact I.base.free b ob e n hx
 ·have:=I.base.tups b xs e
  rw[ao (ne _ _ this)]
  exact this
 ·have:=I.base.frzs b ob xs e
  rw[ao (ne _ _ this)]
  exact this
 ·obtain⟨m,q⟩:=I.base.tbls b ps e
  exact⟨m,by rw[ao (ne _ _ q)];exact q⟩
 ·rw[ao (Ne.symm f.nl)]
  exact I.free
 ·rw[ao (f.nc x c e)]
  exact I.freeC x c e
 ·obtain⟨e,n,r⟩:=I.pin p hp
  exact⟨e,by rw[ao (f.np p hp)];exact n,r⟩
 ·by_cases hb:b=a
  ·rw[hb,af]at e
   cases e
   rw[hb]
   exact new
  ·rw[ao hb]at e
   exact(I.hok b u e).stay (fun c v _ q=>q) (fun c q=>by rw[ao (ne c _ q)];exact q) fun c xs q=>by rw[ao (ne c _ q)];exact q
end
section
variable{X:Cx}{pins:List (Addr×Obj)}{σ:St}{H:Hp}{s:Shared}{x:Addr}{C:Value}{E:Value->Shared->Prop}
end
section
variable{X:Cx}{k:Nat}{f C:Addr}{fd:FuncData}{ps:List Str}{sp:Sp}{dvs:List V}{ds:List Value}{W:WK}{x m:Str}{p pos apos:Pos}{e o:Expr}{es:List Expr}{ta:TE}{t:TA}
end
end L2
namespace L2
open PySem PySem.Spec PyProof.Rows
section
variable{X:Cx}{pins:List (Addr×Obj)}{σ:St}{H:Hp}{s:Shared}{x:Addr}{C:Value}
end
section
variable{M:Model}{A:Around}{E:Value->Shared->Prop}{h:Heap}{g:Array GenState}{d:Drawn}{t:Nat}{os:OsState}
end
section
variable{X:Cx}{pins pins':List (Addr×Obj)}{σ:St}{H:Hp}{s:Shared}{E:Value->Shared->Prop}{b:Addr}
end
section
variable{X:Cx}{k:Nat}{f:Addr}{fd:FuncData}{ps:List Str}{sp:Sp}{dvs:List V}{ds:List Value}{W:WK}{x:Str}{p pos:Pos}{e:Expr}{es:List Expr}{t:TA}
end
end L2
namespace L2
open PySem PySem.Spec PyProof.Rows
end L2
namespace L2
open PySem PySem.Spec PyProof.Rows
section
variable{prog:Program}{w:World}{A:Around}{E:Value->Shared->Prop}{s:Shared}
theorem Jd:typeLookup (.type "list_reverseiterator") "__len__" = pure none:=by rw[typeLookup_type,builtinLookup_eq_fast];kernel_rfl
theorem Md:typeLookup (.type "list_reverseiterator") "__length_hint__" = pure (some (.builtin "list_reverseiterator.__length_hint__")):=by rw[typeLookup_type,builtinLookup_eq_fast];kernel_rfl
theorem Mo{r:Addr}{Q:Bool->Shared->Prop} (hT:s.TypeIs (.ref r) "list_reverseiterator") (h:Q false s):wpAny (model prog w) A (Builtin.List.listLengthHint (.ref r)) Q E s:=by
 unfold Builtin.List.listLengthHint
 refine wpAny_bind (wpAny_specialOf hT Jd ?_)
 wp_delta
 refine wpAny_ite_split (fun hab=>absurd hab (by decide)) (fun _=>?_)
 refine wpAny_ite_split (fun hab=>absurd hab (by decide)) (fun _=>?_)
 refine wpAny_bind (wpAny_specialOf hT Md ?_)
 generalize hid:("list_reverseiterator.__length_hint__" : String)=id0
 wp_delta
 rw[show splitId id0=some ("list_reverseiterator","__length_hint__") from by subst hid;decide +kernel]
 subst hid
 refine wpAny_bind (wpAny_isInstance (T:="list_reverseiterator") (b:=true) hT (by rw[isSubtype_type];kernel_rfl) ?_)
 refine wpAny_ite_split (fun hab=>absurd hab (by decide)) (fun _=>?_)
 refine wpAny_ite_split (fun _=>?_) (fun hab=>absurd (by decide +kernel) hab)
 refine wpAny_ite_split (fun hab=>absurd hab (by decide +kernel)) (fun _=>?_)
 exact wpAny_pure h
end
end L2
namespace L2
open PySem PySem.Spec PyProof.Rows
section
variable{prog:Program}{w:World}{A:Around}{E:Value->Shared->Prop}{s:Shared}
theorem Gy{R:Result->Shared->Prop}{r l S:Addr}{items:Array Value}(hh:A.handled=none)(hit:s.heap.IsRevIter r l ((items.size:Int)-1))(hl:s.heap.IsList l items)(hSr:S≠r)(hSl:S≠l)(hrl:l≠r)(res:Value)(c0:Nat)
  (hS:s.heap.get? S=some { cls:=.type "list",data:=.seq #[] c0 })
  (hR:∀ h' tk acc' c',(∀ b o,b≠S->b≠r->s.heap.get? b=some o->h'.get? b=some o)->h'.get? S=some { cls:=.type "list",dict:=none,data:=.seq acc' c',slots:=#[] }->ItemsOf (fun i v=>items[items.size-1-i]?=some v) acc' items.size->R (.ok (.ret res)) { s with heap:=h',toks:=tk }) (hn:items.size<=sizeLine) :
  wpAny (model prog w) A.in1 (Builtin.List.listExtendWith (.ref S) (.ref r) res)
   (fun fin s'=>match fin with | .done f=>R (.ok f) s' | .again c'=>c'.quiet=true/\codeAny (model prog w) A c' R s') (fun e s'=>R (.error e) s') s:=by
 have W:=Walks.listRev (prog:=prog) (w:=w) (A:=A.in1) hh r l hrl items
 have hSf:S∉[r,l]:=by simp only[Pw,QH,or_false,not_or];exact⟨hSr,hSl⟩
 have key:∀(h:Heap)(c1 tk:Nat),(0<=items.size/\h.IsRevIter r l ((items.size:Int)-1-((0:Nat):Int))/\h.IsList l items)->(∀ b o,b≠S->b≠r->s.heap.get? b=some o->h.get? b=some o) ->
   h.get? S=some { cls:=.type "list",data:=.seq #[] c1 }->codeAny (model prog w) A (.builtin "list.extend.loop" ⟨[.ref S,.ref r,res],[]⟩) R { s with heap:=h,toks:=tk }:=by
  intro h c1 tk hst hk hS1
  refine codeAny_extend_loopS W.toS hn S hSf res items.size 0 _ #[] c1 rfl (QJ _) hst hS1 (ItemsOf.nil _) fun s' acc' c' hm hS' hacc=>?_
  rw[Moved.eq_with hm]
  refine hR s'.heap s'.toks acc' c' (fun b o hb hbr e=>hm.heap b o (fun hmem=>?_) (hk b o hb hbr e)) hS' hacc
  rcases Pw.mp hmem with e' | hmem
  ·exact hb e'
  ·exact hbr (Qy.mp hmem)
 have hit0:s.heap.IsRevIter r l ((items.size:Int)-1-((0:Nat):Int)):=by
  have e:(items.size:Int)-1-((0:Nat):Int)=(items.size:Int)-1:=by omega
  rw[e];exact hit
 unfold Builtin.List.listExtendWith
 refine wpAny_bind (wpAny_typeOf (T:="list_reverseiterator") hit.typeIs ?_)
 have h1:Builtin.List.listSameRef (.ref S) (.ref r)=false:=by simp[Builtin.List.listSameRef,hSr]
 have h2:(Value.type "list_reverseiterator" == Value.type "list")=false:=by decide
 have h3:(Value.type "list_reverseiterator" == Value.type "tuple")=false:=by decide
 simp only[h1,h2,h3,Bool.or_false,Rw,if_false]
 refine wpAny_bind (wpAny_pyIter_revIter hit ?_)
 refine wpAny_bind (wpAny_holding (Mo hit.typeIs ?_))
 refine wpAny_ite_split (fun _=>?_) (fun _=>wpAny_pure ⟨plainId_quiet SY _,key _ c0 _ ⟨QJ _,hit0,hl⟩ (fun b o _ _ e=>e) hS⟩)
 refine wpAny_bind (wpAny_rule ?_)
 refine wpAny_bind ?_
 show wpAny _ _ (updateSeq S (·.push .none) >>= fun _=>updateSeq S (·.pop)) _ _ _
 refine wpAny_bind (wpAny_updateSeq hS rfl ?_)
 have hS2:=Heap.get?_update_self (Obj.mapSeq (·.push Value.none)) hS rfl
 refine wpAny_updateSeq (hz:=by seq_fits) hS2 rfl ?_
 have hS3:=Heap.get?_update_self (Obj.mapSeq (·.pop)) hS2 rfl
 have oth:∀ b o,b≠S->s.heap.get? b=some o->((s.heap.update S (Obj.mapSeq (·.push Value.none))).update S (Obj.mapSeq (·.pop))).get? b=some o:=fun b o hb e=>(Heap.get?_update_other _ _ (Ne.symm hb)).trans ((Heap.get?_update_other _ _ (Ne.symm hb)).trans e)
 refine wpAny_pure ⟨plainId_quiet SY _,key _ _ _ ⟨QJ _,hit0.at fun o e=>oth r o (Ne.symm hSr) e,hl.at fun o e=>oth l o (Ne.symm hSl) e⟩ (fun b o hb _ e=>oth b o hb e) hS3⟩
theorem Mm{R:Result->Shared->Prop}{r l S:Addr}{items:Array Value}(hh:A.handled=none)(hit:s.heap.IsRevIter r l ((items.size:Int)-1))(hl:s.heap.IsList l items)(hSr:S≠r)(hSl:S≠l)(hrl:l≠r)
  (hS:s.heap.get? S=some { cls:=.type "list",data:=.seq #[] })
  (hR:∀ h' tk acc' c',(∀ b o,b≠S->b≠r->s.heap.get? b=some o->h'.get? b=some o)->h'.get? S=some { cls:=.type "list",dict:=none,data:=.seq acc' c',slots:=#[] }->ItemsOf (fun i v=>items[items.size-1-i]?=some v) acc' items.size->R (.ok (.ret .none)) { s with heap:=h',toks:=tk }) (hn:items.size<=sizeLine) :
  wpAny (model prog w) A.in1 (Builtin.«list.__init__» ⟨[.ref S,.ref r],[]⟩)
   (fun fin s'=>match fin with | .done f=>R (.ok f) s' | .again c'=>c'.quiet=true/\codeAny (model prog w) A c' R s') (fun e s'=>R (.error e) s') s:=by
 show wpAny _ _ (do let old ← Builtin.List.listItems (.ref S);Builtin.List.listUpdate (.ref S) (fun _=>#[]);letGo old.toList.reverse;Builtin.List.listExtendWith (.ref S) (.ref r) .none) _ _ s
 refine wpAny_bind ?_
 unfold Builtin.List.listItems
 refine wpAny_bind (wpAny_seqItems hS rfl (wpAny_pure ?_))
 show wpAny _ _ (updateSeq S (fun _=>#[]) >>= fun _=>letGo (#[]:Array Value).toList.reverse >>= fun _=>Builtin.List.listExtendWith (.ref S) (.ref r) .none) _ _ s
 refine wpAny_bind (wpAny_updateSeq hS rfl ?_)
 have hS2:=Heap.get?_update_self (Obj.mapSeq (fun _=>(#[]:Array Value))) hS rfl
 have oth:∀ b o,b≠S->s.heap.get? b=some o->(s.heap.update S (Obj.mapSeq (fun _=>(#[]:Array Value)))).get? b=some o:=fun b o hb e=>(Heap.get?_update_other _ _ (Ne.symm hb)).trans e
 refine wpAny_bind (wpAny_letGo ?_)
 refine Gy hh (hit.at fun o e=>oth r o (Ne.symm hSr) e) (hl.at fun o e=>oth l o (Ne.symm hSl) e) hSr hSl hrl .none _ hS2 (fun h' tk acc' c' hk hS' hacc=>?_) hn
 exact hR h' tk acc' c' (fun b o hb hbr e=>hk b o hb hbr (oth b o hb e)) hS' hacc
theorem C4{r l:Addr}{items:Array Value}{Q:Value->Shared->Prop}(hh:A.handled=none)(hit:s.heap.IsRevIter r l ((items.size:Int)-1))(hl:s.heap.IsList l items)(hrl:l≠r)(hn:items.size<=sizeLine)
  (hQ:∀ h' tk acc' c',(∀ b o,b≠r->s.heap.get? b=some o->h'.get? b=some o)->h'.get? s.heap.objs.size=some { cls:=.type "list",dict:=none,data:=.seq acc' c',slots:=#[] }->ItemsOf (fun i v=>items[items.size-1-i]?=some v) acc' items.size->Q (.ref s.heap.objs.size) { s with heap:=h',toks:=tk }) :
  wpAny (model prog w) A (call (.type "list") [.ref r]) Q E s:=by
 refine callType_codes (Q₁:=fun obj s₁=>obj=.ref s.heap.objs.size/\s₁={ s with heap:=s.heap.push { cls:=.type "list",data:=.seq #[] } }) PySem.F.called_list (PySem.F.typeCall_list_1 _) PySem.F.entry_list_init
  (code_list_new _ ⟨rfl,rfl⟩) fun obj s₁ h₁=>?_
 obtain⟨rfl,rfl⟩:=h₁
 have hS:(s.heap.push { cls:=.type "list",data:=.seq #[] }).get? s.heap.objs.size=some { cls:=.type "list",data:=.seq #[] }:=Heap.get?_push_size _ rfl
 have hr:r<s.heap.objs.size:=let ⟨_,ho,_⟩:=hit;Heap.lt_size ho
 have hl':l<s.heap.objs.size:=let ⟨_,ho,_⟩:=hl;Heap.lt_size ho
 refine⟨⟨_,hS,rfl⟩,PySem.F.args_list_init_2 _ _,Mm (A:=A.in1) hh (hit.at fun o e=>Heap.get?_push_of_some _ e) (hl.push _) (RA hr) (RA hl') hrl hS (fun h' tk acc' c' hk hS' hacc=>?_) hn⟩
 exact⟨rfl,hQ h' tk acc' c' (fun b o hb e=>hk b o (Qk (Heap.lt_size e)) hb (Heap.get?_push_of_some _ e)) hS' hacc⟩
end
section
variable{X:Cx}
theorem Inv.track{pins:List (Addr×Obj)}{σ:St}{H:Hp}{s:Shared}{a:Addr}{o:HO}(I:Inv X pins σ H s)(f:FpOk X pins H a)(new:cf X.prog X.w (upd H a o) s.heap a o):Inv X pins σ (upd H a o) s:=by
 obtain⟨f0,f1,f2,f3,f4,f5⟩:=f
 have ne:∀ b u,H b=some u->b≠a:=fun b u e=>aM e f0
 refine I.step (g':=s.gens) (t':=s.toks) (d':=s.drawn) (h':=s.heap) (ch:=[a]) (fun b hb=>?_) (fun b o _ _ _ e _=>e) (fun b o _ _ _ e _=>⟨o.slots,e⟩) (fun b o hc e n=>?_) (fun b o _ e=>⟨o,e⟩) (fun b xs e=>by rw[ao (ne b _ e)];exact e) (fun b o u e=>by rw[ao (ne b _ e)];exact e)
  (fun b ps e=>⟨#[],by rw[ao (ne b _ e),e];simp⟩) (fun m hm=>hm) (fun b u e=>?_) I.bare
 ·have eb:b=a:=by simpa using hb
  rw[eb]
  exact⟨f3,f1,f4,f5⟩
 ·rw[ao (fun z=>hc (by simp[z]))]
  exact n
 ·by_cases hb:b=a
  ·rw[hb,af]at e
   cases e
   rw[hb]
   exact new
  ·rw[ao hb]at e
   exact(I.hok b u e).stay (fun c v _ q=>q) (fun c q=>by rw[ao (ne c _ q)];exact q) fun c xs q=>by rw[ao (ne c _ q)];exact q
theorem K7{ys:List V}{its:List Value}{acc:Array Value}(rv:Vals ys its)(h:ItemsOf (fun i v=>its.toArray[its.toArray.size-1-i]?=some v) acc its.toArray.size):Vals ys.reverse acc.toList:=by
 have e:acc.toList=its.reverse:=by
  apply List.ext_getElem?
  intro i
  by_cases hi:i<its.length
  ·have hacc:i<acc.size:=by rw[h.1];simpa using hi
   have q:=h.2 i acc[i] (S5 hacc)
   rw[Array.getElem?_toList,S5 hacc,List.getElem?_reverse hi,← q]
   simp
  ·rw[So (by rw[Rp,h.1];simpa using hi),So (by rw[List.length_reverse];omega)]
 rw[e]
 exact rv.reverse
theorem FD{e:Expr}{te:TE}{p p2 pos pos2:Pos}(hc:X.calm=true) (hg:Gl X "list") (hm:X.mg "list" = none) (hg2:Gl X "reversed") (hm2:X.mg "reversed" = none) (he:PE X e te)
  (h1:starEach [.Call (.Name "reversed" p2) [e] [] pos2] X.env = [(false,eval (.Call (.Name "reversed" p2) [e] [] pos2) X.env)]:=by rfl) (h2:starEach [e] X.env=(false,eval e X.env)::starEach [] X.env:=by rfl) :
  PE X (.Call (.Name "list" p) [.Call (.Name "reversed" p2) [e] [] pos2] [] pos) (fun σ H Q=>te σ H fun x H1=>∃ l ys,x=.ref l/\SqL X.K H1 l ys/\∀ q,H1 q=none->Q (.ref q) (upd H1 q (.lst ys.reverse))):=by
 intro pins s σ H Q I h
 refine wpAny_Call_Name_kw (l7 I hg hm lD ?_)
 refine PyProof.Rows.callWith_type1 ?_ h1 rfl
 rw[h1]
 refine Calls.spliced_cons ?_
 refine wpAny_Call_Name_kw (l7 I hg2 hm2 D4 ?_)
 refine PyProof.Rows.callWith_type1 ?_ h2 rfl
 rw[h2]
 refine Calls.spliced_cons (thn (he pins s σ H _ I h) fun u s1 ⟨x,H1,I1,r1,q1⟩=>?_)
 obtain⟨l,ys,rfl,hq,q⟩:=q1
 cases r1
 refine Calls.spliced_nil ?_
 obtain⟨its,rv,pl,hz⟩:=I1.list hq
 have hn:its.toArray.size=ys.length:=by rw[P8,rv.length]
 refine call_reversed_list pl.isList ?_
 refine Calls.spliced_nil ?_
 have hlt:l<s1.heap.objs.size:=by
  obtain⟨o,n,e1,_⟩:=pl
  exact Heap.lt_size e1
 have I2:Inv X pins σ H1 { s1 with heap:=s1.heap.push (revObj l ((its.toArray.size:Int)-1)) }:=I1.kept (t':=s1.toks) fun b o e=>Heap.get?_push_of_some _ e
 have hit:(s1.heap.push (revObj l ((its.toArray.size:Int)-1))).IsRevIter s1.heap.objs.size l ((its.toArray.size:Int)-1):=⟨_,Heap.get?_push_size _ rfl,rfl,rfl⟩
 refine C4 (I.ok.hd hc) hit (pl.isList.push _) (Qk hlt) (by rw[hn];exact hz) fun h' tk acc' c' hk hS hacc=>?_
 obtain⟨f0,f1,f2,f3,f4,f5⟩:=I1.fpOk (H':=H1) (Pz _) (I1.hok.fresh (Pz _))
 have I3:Inv X pins σ H1 { s1 with heap:=h',toks:=tk }:=I2.turned (t':=tk) (fun b o hb e=>hk b o hb e) f0 f1 f3 f4 f5
 have fS:=I2.fpOk (H':=H1) (Pz _) (I2.hok.fresh (Pz _))
 have I4:=I3.track (o:=.lst ys.reverse) fS ⟨by rw[List.length_reverse];exact hz,acc'.toList,c',K7 rv hacc,by rw[Array.toArray_toList];exact hS⟩
 exact⟨.ref _,_,I4,rfl,q _ fS.1⟩
end
end L2
namespace L2
open PySem PySem.Spec PyProof.Rows
section
variable{X:Cx}
end
end L2
namespace L2
open PySem PySem.Spec PyProof.Rows
theorem Inv.turnedL{X:Cx}{pins:List (Addr×Obj)}{σ:St}{H:Hp}{s:Shared}{h':Heap}{t':Nat}{fp:List Addr}(I:Inv X pins σ H s)(k:∀ b o,b∉fp->s.heap.get? b=some o->h'.get? b=some o)(hf:∀ b∈fp,FpOk X pins H b):Inv X pins σ H { s with heap:=h',toks:=t' }:=by
 have nit:∀ b u,H b=some u->b∉fp:=fun b u e z=>by rw[(hf b z).1]at e;cases e
 refine I.step (g':=s.gens) (d':=s.drawn) (ch:=fp) (fun b hb=>?_) (fun b o _ _ hc e _=>k b o hc e) (fun b o _ _ hc e _=>⟨o.slots,k b o hc e⟩) (fun _ _ _ _ n=>n)
  (fun b o hc e=>⟨o,k b o hc e⟩) (fun _ _ e=>e) (fun _ _ _ e=>e) (fun b ps e=>⟨#[],by rw[e];simp⟩) (fun m hm=>?_) (fun b u e=>?_) I.bare
 ·obtain⟨f0,f1,f2,f3,f4,f5⟩:=hf b hb
  exact⟨f3,f1,f4,f5⟩
 ·obtain⟨o,es,ep,ho,r⟩:=hm
  exact⟨o,es,ep,k _ o (fun z=>(hf _ z).2.1 rfl) ho,r⟩
 ·refine(I.hok b u e).stay (fun c v hc q=>k c v ?_ q) (fun _ q=>q) fun _ _ q=>q
  rcases hc with z | z
  ·rw[z];exact nit b u e
  ·exact nit c _ z
def Ite(K:Pt)(a:Addr):It :=
 ⟨fun i H=>∃ xs x,SqL K H a xs/\xs[i]?=some x,fun i H v H'=>∃ T x,H T=none/\v=.ref T/\H'=upd H T (.tup [.int (i:Int),x])/\∀ xs,SqL K H a xs->xs[i]?=some x,fun i H=>∃ xs,SqL K H a xs/\xs.length<=i⟩
theorem Hu{P:Program}{w:World}{K:Pt}{es:List Expr}{k:Nat}{pos:Pos}(a e it:Addr)(hei:e≠it):Turn P w K (.Tuple es k pos) (Ite K a) [e,it] e (fun i h=>(∃ old,IsEnum h e it ((i:Nat):Int) old)/\h.IsListIter it a i) where
 mem:=by simp
 obj:=fun i h st b hb=>by
  obtain⟨⟨old,he⟩,o,e2,c,d⟩:=st
  rcases Pw.mp hb with rfl | hb
  ·exact⟨_,he,fun v z=>by
    have z':Data.fields _=Data.cell v:=z
    cases z'⟩
  ·have e3:b=it:=by simpa using hb
   subst e3
   exact⟨o,e2,fun v z=>by rw[d]at z;cases z⟩
 keep:=fun i h h' st kk=>by
  obtain⟨⟨old,he⟩,hit⟩:=st
  exact⟨⟨old,kk e (by simp) _ he⟩,hit.at fun o q=>kk it (by simp) o q⟩
 item:=by
  intro X hP hw hK hc i pins s σ H E I hf st hg
  subst hP hw hK
  obtain⟨xs,x,hq,hx⟩:=hg
  obtain⟨its,rv,p,hz⟩:=I.list hq
  obtain⟨u,hu,ru⟩:=rv.get hx
  obtain⟨⟨old,he⟩,hit⟩:=st
  refine wpAny_pyNext_enum_item he hit p.isList (x:=u) (by simpa using hu) hei fun h' ho hit' hT hsz hk=>?_
  refine⟨_,rfl,?_⟩
  refine wpAny_letOwnedTupleGo_enum ho fun h2 he2 hs2=>?_
  have hs2':Heap.SameBut e h' h2:=hs2
  have hel:e<s.heap.objs.size:=Heap.lt_size he
  have hil:it<s.heap.objs.size:=by obtain⟨_,q,_⟩:=hit;exact Heap.lt_size q
  have hfr:H s.heap.objs.size=none:=I.hok.fresh (Pz _)
  have I0:Inv X pins σ (upd H s.heap.objs.size (.tup [.int (i:Int),x])) { s with heap:=s.heap.push { cls:=.type "tuple",data:=.seq #[.int (i:Int) s.toks,u] },toks:=s.toks+1 } :=
   I.laid (t':=s.toks+1) (fun b u e=>Heap.get?_push_of_some _ e) (Pz _) ⟨by show 2<=sizeLine;decide,[.int (i:Int) s.toks,u],.cons ⟨_,rfl⟩ (.cons ru .nil),⟨_,Heap.get?_push_size _ rfl,rfl,_,rfl⟩⟩
  have hfb:∀ b∈[e,it],b<s.heap.objs.size:=fun b hb=>by
   rcases Pw.mp hb with rfl | hb
   ·exact hel
   ·have e3:b=it:=by simpa using hb
    rw[e3];exact hil
  have hn:∀ b∈[e,it],upd H s.heap.objs.size (.tup [.int (i:Int),x]) b=none:=fun b hb=>by
   rw[ao (Qk (hfb b hb))]
   exact(hf b hb).1
  have I2:Inv X pins σ (upd H s.heap.objs.size (.tup [.int (i:Int),x])) { s with heap:=h2,toks:=s.toks+1 }:=Inv.turnedL (s:={ s with heap:=s.heap.push { cls:=.type "tuple",data:=.seq #[.int (i:Int) s.toks,u] },toks:=s.toks+1 }) (h':=h2) I0 (t':=s.toks+1) (fp:=[e,it]) (fun b o hb q=>by
   have nb:b≠e:=fun z=>hb (by simp[z])
   have nb2:b≠it:=fun z=>hb (by simp[z])
   refine(hs2'.2 b nb).trans ?_
   rcases Heap.get?_push_cases q with⟨z1,z2⟩ | q
   ·rw[z1,z2];exact hT
   ·exact hk b o nb nb2 q) fun b hb=>⟨hn b hb,(hf b hb).2⟩
  refine⟨.ref s.heap.objs.size,_,I2,rfl,⟨s.heap.objs.size,x,hfr,rfl,rfl,fun ys hy=>by rw[I.list_inj hy hq];exact hx⟩,?_,hn⟩
  refine⟨⟨u,?_⟩,hit'.at fun o q=>(hs2'.2 it (Ne.symm hei)).trans q⟩
  have e4:(((i+1:Nat):Nat):Int)=(i:Int)+1:=by omega
  rw[e4]
  exact he2
 done:=by
  intro X hP hw hK hc i pins s σ H E I hf st hg
  subst hP hw hK
  obtain⟨xs,hq,hx⟩:=hg
  obtain⟨its,rv,p,hz⟩:=I.list hq
  obtain⟨⟨old,he⟩,hit⟩:=st
  have hl:=rv.length
  obtain⟨f0,f1,f2,f3,f4,f5⟩:=hf it (by simp)
  exact wpAny_pyNext_enum_end (I.ok.hd hc) he hit p.isList (by simp;omega) fun h' eb=>⟨rfl,I.turned (t':=s.toks) (fun b o hb e=>eb b o hb e) f0 f1 f3 f4 f5⟩
 self:=fun _ _ _ _ _ st h=>by
  obtain⟨⟨old,he⟩,_⟩:=st
  exact wpAny_pyIter_enum he h
section
variable{X:Cx}
def iEnum(K:Pt)(ta:TA):TI:=fun σ H R=>ta σ H fun vs H1=>∃ a,vs = [.ref a]/\(∃ xs,SqL K H1 a xs)/\R (Ite K a) H1
theorem vN{l:Expr}{ta:TA}{es:List Expr}{k:Nat}{tp p pos:Pos} (hg:Gl X "enumerate") (hm:X.mg "enumerate" = none) (ha:PA X [l] ta) (hs:starEach [l] X.env = [(false,eval l X.env)]:=by rfl) :
  PI X (.Tuple es k tp) (.Call (.Name "enumerate" p) [l] [] pos) (iEnum X.K ta):=by
 intro pins s σ H R I h
 refine Call_ (l7 I hg hm AD (PyProof.Rows.callWith_type1 (thn (ha pos pins s σ H _ I h) fun us s1 ⟨vs,H1,I1,r1,q1⟩=>?_) hs rfl))
 obtain⟨a,e,⟨xs,hq⟩,q⟩:=q1
 subst e
 obtain⟨u,rfl,ru⟩:=ym r1
 cases ru
 obtain⟨its,rv,p,hz⟩:=I1.list hq
 refine call_enumerate_list p.isList fun h' he hit hsz hk=>?_
 refine wpAny_pyIter_enum he ?_
 refine⟨s1.heap.objs.size+1,[s1.heap.objs.size+1,s1.heap.objs.size],_,_,H1,rfl,I1.kept (t':=s1.toks) hk,Hu a _ _ (Nat.succ_ne_self _),⟨⟨_,he⟩,hit⟩,fun b hb=>?_,q⟩
 have hb':s1.heap.objs.size<=b:=by
  rcases Pw.mp hb with rfl | hb
  ·exact Rj _
  ·have e3:b=s1.heap.objs.size:=by simpa using hb
   rw[e3];exact Pz _
 exact I1.fpOk hb' (I1.hok.fresh hb')
end
theorem xr{K:Pt}{a:Addr}{xs:List V}{g:TG}{tb:TS}{D:Ends}{σ:St}{H:Hp}(Pv:Nat->St->Hp->Prop)(h0:Pv 0 σ H)(hl:∀ i σ H,i<=xs.length->Pv i σ H->SqL K H a xs)
  (hs:∀ i x σ H T,xs[i]?=some x->Pv i σ H->H T=none->g (.ref T) σ (upd H T (.tup [.int (i:Int),x])) fun σ2 H2=>tb { D with nx:=Pv (i+1),ct:=Pv (i+1),bk:=D.nx } σ2 H2) (hd:∀ σ H,Pv xs.length σ H->D.nx σ H) :
  ∃ W:Nat->Nat->St->Hp->Prop,(∃ m,W 0 m σ H)/\∀ i m σ H,W i m σ H ->
   ((Ite K a).stop i H/\D.nx σ H)∨((Ite K a).go i H/\∃ N:St->Hp->Prop,(∀ σ' H',N σ' H'->∃ m',m'<m/\W (i+1) m' σ' H')/\∀ x H',(Ite K a).yld i H x H'->g x σ H' fun σ2 H2=>tb { D with nx:=N,ct:=N,bk:=D.nx } σ2 H2):=by
 refine⟨fun i m σ H=>m=xs.length-i/\i<=xs.length/\Pv i σ H,⟨xs.length,by simp,QJ _,h0⟩,?_⟩
 rintro i m σ H ⟨rfl,hi,p⟩
 have q:=hl i σ H hi p
 by_cases hlt:i<xs.length
 ·refine .inr ⟨⟨xs,xs[i],q,by simp[hlt]⟩,Pv (i+1),fun σ' H' p'=>⟨xs.length-(i+1),by omega,rfl,hlt,p'⟩,fun v H' y=>?_⟩
  obtain⟨T,x,hT,rfl,rfl,y⟩:=y
  exact hs i x σ _ T (y xs q) p hT
 ·have e:i=xs.length:=by omega
  subst e
  exact .inl ⟨⟨xs,q,Pz _⟩,hd σ H p⟩
end L2
namespace L2
open PySem PySem.Spec PyProof.Rows
section
variable{X:Cx}
end
theorem fu{n j:Nat}(h:j<n):ixN n (j:Int)=some j:=by
 unfold ixN
 rw[if_pos (by omega),if_pos (by omega)]
 rfl
end L2
namespace L2
open PySem PySem.Spec PyProof.Rows
theorem jq:∀{ds:List PyData},(∀ d∈ds,d.canLay0=true)->PyData.canLayAll0 ds=true
 |[],_=>by simp[PyData.canLayAll0]
 |d::ds,h=>by
  rw[PyData.canLayAll0,h d (by simp),jq fun x hx=>h x (by simp[hx])]
  rfl
theorem kZ{n:Nat}:∀{ds:List PyData},(∀ d∈ds,d.depth<=n)->PyData.depthAll ds<=n
 |[],_=>by simp[PyData.depthAll]
 |d::ds,h=>by
  have h1:=h d (by simp)
  have h2:=kZ (ds:=ds) fun x hx=>h x (PD _ hx)
  rw[PyData.depthAll]
  omega
theorem BD{ds:List PyData}(h:∀ d∈ds,d.canLay0=true/\d.depth<=10):SeqAt.shaped (.list ds)=true:=by
 have h1:=jq fun d hd=>(h d hd).1
 have h2:=kZ fun d hd=>(h d hd).2
 have h3:PyData.depth (.list ds)<=64:=by simp only[PyData.depth];omega
 show(PyData.canLay0 (.list ds)&&decide (PyData.depth (.list ds)<=64))=true
 rw[Bool.and_eq_true]
 exact⟨by simp only[PyData.canLay0];exact h1,decide_eq_true h3⟩
end L2
namespace L2
open PySem PySem.Spec PyProof.Rows
def cxG(X:Cx)(scope:Scope)(fr:List (Str×Nat))(xs:List Str)(C:Addr)(ex:List Addr)(s:Shared)(H:Hp):Cx where
 prog:=X.prog
 w:=X.w
 K:=X.K
 mg:=X.mg
 base:=X.base
 A:=X.A
 N:=xs++fr.map (·.1)
 s₀:=s
 H₀:=H
 env:=compEnvC scope (clOf X.env fr) C X.env
 outer:=X.stack
 stack:=X.stack
 ex:=ex
 fn:=fun _=>false
 calm:=X.calm
 pn:=[]
 xe:=fun _ _=>False
structure mO(X:Cx)(scope:Scope)(fr:List (Str×Nat))(xs:List Str):Prop where
 clos:closureFor scope X.env=pure (clOf X.env fr)
 cell:∀ y∈scope.names,y.2≠.cell
 kind:scope.kind=.function
 names:∀ y∈scope.names,y.2=.local->scope.names.lookup y.1=some .local
 slot:∀ p∈fr,X.N[p.2]?=some p.1/\X.env.kindOf p.1=some .cell
 has:∀ y∈(relabel scope X.env).names,(y.2=.cell∨y.2=.free)->y.1∈fr.map (·.1)
 frk:∀ p∈fr,(relabel scope X.env).names.lookup p.1=some .cell
theorem mO.of{X:Cx}{scope:Scope}{fr:List (Str×Nat)}{xs:List Str}(clos:closureFor scope X.env=pure (clOf X.env fr))(cell:∀ y∈scope.names,y.2≠.cell)(kind:scope.kind=.function)(names:∀ y∈scope.names,y.2=.local->scope.names.lookup y.1=some .local)
  (slot:∀ p∈fr,X.N[p.2]?=some p.1/\X.env.kindOf p.1=some .cell) (nf:∀ z∈scope.names,z.2=.free->z.1∈fr.map (·.1)) (frk:∀ p∈fr,(relabel scope X.env).names.lookup p.1=some .cell):mO X scope fr xs where
 clos:=clos
 cell:=cell
 kind:=kind
 names:=names
 slot:=slot
 has:=fun z hz hk=>by
  obtain⟨⟨n,k⟩,hm,e⟩:=Qv.mp (show z∈scope.names.map _ from hz)
  have h2:=cell _ hm
  dsimp only at e h2
  have hn:z.1=n:=by rw[← e];split<;>rfl
  have hf:k=.free:=by
   by_cases q:k=.free
   ·exact q
   ·have hb:(k == NameKind.free)=false:=by simpa using q
    rw[hb]at e
    simp only[Q7,Rw,if_false]at e
    subst e
    exact(hk.elim h2 q).elim
  have:=nf _ hm hf
  rw[hn]
  exact this
 frk:=frk
abbrev nons(xs:List Str):St:=PU xs.length none
section
variable{X:Cx}{pins:List (Addr×Obj)}{σ:St}{H:Hp}{s:Shared}{scope:Scope}{fr:List (Str×Nat)}{xs:List Str}
theorem mO.cells(O:mO X scope fr xs)(I:Inv X pins σ H s){y:Str}{c:Addr}(h:(clOf X.env fr).lookup y=some c):X.env.cells.lookup y=some c:=by
 obtain⟨hm,e⟩:=gj h
 obtain⟨p,hp,ep⟩:=Qv.mp hm
 have k:=(O.slot p hp).2
 rw[ep]at k
 obtain⟨c',e'⟩:=I.ok.has y (.inl k)
 rw[e']at e
 rw[e',e]
 rfl
theorem Jv{fp:List Addr}(O:mO X scope fr xs)(I:Inv X pins σ H s)(hf:∀ b∈fp,FpOk X pins H b)(hfs:∀ b∈fp,b<s.heap.objs.size){g h':Heap}{tk:Nat}(hg:g=s.heap.push (LCg.lst []))
  (hk:∀ b o,g.get? b=some o->h'.get? b=some o) (hC:h'.Ns g.objs.size fun _=>none) :
  Inv (cxG X scope fr xs g.objs.size (s.heap.objs.size::fp) { s with heap:=g } H) (X.pn++pins++[(s.heap.objs.size,LCg.lst [])]) (nons xs++frOf fr σ) H { s with heap:=h',toks:=tk }:=by
 have hsz:g.objs.size=s.heap.objs.size+1:=by rw[hg,Heap.size_push]
 have kp:∀ b o,s.heap.get? b=some o->g.get? b=some o:=fun b o e=>by rw[hg];exact Heap.get?_push_of_some _ e
 have hk0:∀ b o,s.heap.get? b=some o->h'.get? b=some o:=fun b o e=>hk b o (kp b o e)
 have hDo:h'.get? s.heap.objs.size=some (LCg.lst []):=hk _ _ (by rw[hg];exact Heap.get?_push_size _ rfl)
 have neC:∀ b,b<s.heap.objs.size->b≠g.objs.size:=fun b e=>by rw[hsz];exact Qk (RE e)
 have hDC:s.heap.objs.size≠g.objs.size:=by rw[hsz];exact Qk (QE _)
 have hfr:H g.objs.size=none:=I.hok.fresh (by rw[hsz];exact Rj _)
 have hfD:H s.heap.objs.size=none:=I.hok.fresh (Pz _)
 have cne:∀ y c,X.env.cells.lookup y=some c->c<s.heap.objs.size:=fun y c e=>by
  obtain⟨v,q⟩:=I.cell y c e
  exact q.lt
 have nst:∀ b,b≠X.env.locals->b∉X.fs->b∉frs X.stack:=fun b h1 h2 z=>(Pw.mp (I.stkSub b z)).elim h1 h2
 have nstD:s.heap.objs.size∉frs X.stack:=nst _ (RA I.lt) (I.nofs (Pz _))
 refine⟨⟨I.ok.mod,O.kind,I.ok.glob,I.ok.blt,Pz _,?_,?_,fun _ _ z _=>(by cases z),I.ok.hd,I.ok.frames,.inl rfl,?_,?_,?_,?_,?_,?_,I.stkFree⟩,rfl,I.bare,Un.kept hk,?_,?_,hfr,?_,?_,I.hok.kept hk0,?_⟩
 ·intro y z c h1 h2
  exact I.ok.inj y z c (O.cells I h1) (O.cells I h2)
 ·intro y hy
  have hm:y∈fr.map (·.1):=by
   rcases hy with hy | hy
   ·exact O.has (y,_) (QN hy) (.inl rfl)
   ·exact O.has (y,_) (QN hy) (.inr rfl)
  exact⟨_,bO hm⟩
 ·intro b hb
  rcases Pw.mp hb with rfl | hb
  ·exact⟨hDC,fun y c e=>Qk (cne y c (O.cells I e))⟩
  ·exact⟨neC b (hfs b hb),fun y c e=>(hf b hb).2.2.2.2.1 y c (O.cells I e)⟩
 ·intro b o e
  exact⟨kp b o (I.bs b o e).1,(I.bs b o e).2⟩
 ·show X.base.objs.size<=g.objs.size
  rw[hsz]
  exact Nat.le_succ_of_le (QG I.ok.bsz I.sz)
 ·intro b o e hb
  rcases Pw.mp hb with z | hb
  ·have:=Heap.lt_size (I.bs b o e).1
   rw[z]at this
   exact Qs _ this
  ·rcases(hf b hb).2.2.2.1 with z | z
   ·exact I.ok.noex b o e z
   ·exact absurd (Qd (Heap.lt_size (I.ok.bs b o e).1) z) (Qs _)
 ·intro b hb
  rcases Pw.mp hb with z | hb
  ·rw[z];exact nstD
  ·exact nst b (hf b hb).2.1 (hf b hb).2.2.1
 ·exact(I.kept (h':=g) (t':=s.toks) kp).stack
 ·refine⟨_,hC,fun i y v e1 e2 e3=>?_⟩
  have e1a:(xs++fr.map (·.1))[i]?=some y:=e1
  by_cases hi:i<xs.length
  ·rw[Py (by simpa using hi)]at e2
   rw[QU,if_pos hi]at e2
   cases e2
  ·have e1':(fr.map (·.1))[i-xs.length]?=some y:=by
    rw[Pu (by omega)]at e1a
    exact e1a
   have e2':(frOf fr σ)[i-xs.length]?=some (some v):=by
    rw[Pu (by simp;omega)]at e2
    simpa using e2
   generalize i-xs.length=k at e1' e2'
   unfold frOf at e2'
   rw[PR]at e1' e2'
   cases q:fr[k]? with
   |none=>rw[q]at e1';cases e1'
   |some p =>
    rw[q]at e1' e2'
    have ey:p.1=y:=P5 e1'
    have ev:(σ[p.2]?).join=some v:=P5 e2'
    have hp:p∈fr:=Pr q
    obtain⟨hN,hK⟩:=O.slot p hp
    have hkk:=O.frk p hp
    rw[ey]at hN hK hkk
    have ev':σ[p.2]?=some (some v):=by
     cases q2:σ[p.2]? with
     |none=>rw[q2]at ev;cases ev
     |some w=>rw[q2]at ev;exact congrArg some ev
    obtain⟨m,hn,hl⟩:=I.loc
    obtain⟨u,r,l⟩:=hl p.2 y v hN ev' (.inr (.inl hK))
    refine⟨u,r,?_⟩
    rcases l with⟨k1,_⟩ | ⟨_,c,ec,z⟩
    ·rw[hK]at k1;cases k1
    ·have hm:y∈fr.map (·.1):=by rw[← ey];exact Qv.mpr ⟨p,hp,rfl⟩
     have el:=bO (env:=X.env) hm
     rw[ec]at el
     exact .inr ⟨.inl hkk,c,el,by obtain⟨o,ho,hd⟩:=z;exact⟨o,hk0 _ _ ho,hd⟩⟩
 ·intro y c e
  obtain⟨v,o,ho,hd⟩:=I.cell y c (O.cells I e)
  exact⟨v,o,hk0 _ _ ho,hd⟩
 ·intro y c e
  exact I.freeC y c (O.cells I e)
 ·intro p hp
  rcases PM.mp hp with hp | hp
  ·cases hp
  ·rcases PM.mp hp with hp | hp
   ·obtain⟨e,n,ne,nf,d⟩:=I.pin p hp
    exact⟨hk0 _ _ e,n,neC _ (Heap.lt_size e),nst _ ne nf,d⟩
   ·have ep:p=(s.heap.objs.size,LCg.lst []):=by simpa using hp
    subst ep
    exact⟨hDo,hfD,hDC,nstD,fun v z=>by cases z⟩
 ·show(nons xs++frOf fr σ).length=(xs++fr.map (·.1)).length
  unfold frOf
  simp
theorem xo{fp:List Addr}{g:Heap}{s':Shared}{H':Hp}{σ':St}{ys:List V}{us:List Value}(I:Inv X pins σ H s)(hf:∀ b∈fp,FpOk X pins H b)(hg:g=s.heap.push (LCg.lst []))
  (J:Inv (cxG X scope fr xs g.objs.size (s.heap.objs.size::fp) { s with heap:=g } H) (X.pn++pins++[(s.heap.objs.size,LCg.lst us)]) σ' H' s') (hv:Vals ys us) (hl:ys.length<=sizeLine) :
  Inv X pins σ (upd H' s.heap.objs.size (.lst ys)) s'/\H' s.heap.objs.size=none/\FpOk X pins (upd H' s.heap.objs.size (.lst ys)) g.objs.size/\∃ m,s'.heap.Ns g.objs.size m:=by
 have hsz:g.objs.size=s.heap.objs.size+1:=by rw[hg,Heap.size_push]
 have kp:∀ b o,s.heap.get? b=some o->g.get? b=some o:=fun b o e=>by rw[hg];exact Heap.get?_push_of_some _ e
 obtain⟨eD,nD,_,_,_⟩:=J.pin (s.heap.objs.size,LCg.lst us) (by simp)
 have hDC:g.objs.size≠s.heap.objs.size:=by rw[hsz];exact RA (QE _)
 have nD':∀ b u,H' b=some u->b≠s.heap.objs.size:=fun b u e z=>by rw[z]at e;rw[e]at nD;cases nD
 have hx:∀ b o,s.heap.get? b=some o->b∉fp->b∉s.heap.objs.size::fp:=fun b o e hb z=>by
  rcases Pw.mp z with z | z
  ·have:=Heap.lt_size e
   rw[z]at this
   exact Qs _ this
  ·exact hb z
 have bU:Un (frs X.stack) (s.heap.objs.size::fp) H H' g s'.heap:=J.base
 have ltD:∀ b o,s.heap.get? b=some o->b≠s.heap.objs.size:=fun b o e=>Qk (Heap.lt_size e)
 have un:Un (frs X.stack) fp H (upd H' s.heap.objs.size (.lst ys)) s.heap s'.heap:=by
  refine⟨fun b o e n hb he=>bU.keep b o (kp b o e) n hb (hx b o e he),fun b o e n hb he=>bU.slot b o (kp b o e) n hb (hx b o e he),fun b o e n he=>?_,fun b o e he=>bU.there b o (kp b o e) (hx b o e he),fun b xs e=>?_,fun b o u e=>?_,fun b ps e=>?_⟩
  ·rw[ao (ltD b o e)];exact bU.free b o (kp b o e) n (hx b o e he)
  ·have q:=bU.tups b xs e
   rw[ao (nD' b _ q)];exact q
  ·have q:=bU.frzs b o u e
   rw[ao (nD' b _ q)];exact q
  ·obtain⟨more,q⟩:=bU.tbls b ps e
   exact⟨more,by rw[ao (nD' b _ q)];exact q⟩
 have hok:HOk X.prog X.w (upd H' s.heap.objs.size (.lst ys)) s'.heap:=fun b u e=>by
  by_cases hb:b=s.heap.objs.size
  ·rw[hb,af]at e
   cases e
   rw[hb]
   exact⟨hl,us,us.length,hv,eD⟩
  ·rw[ao hb]at e
   exact(J.hok b u e).stay (fun c v _ q=>q) (fun c q=>by rw[ao (nD' c _ q)];exact q) fun c xs q=>by rw[ao (nD' c _ q)];exact q
 have os:s'.os=s.os:=J.os
 refine⟨I.call' os un hok J.bare fun b hb=>⟨(hf b hb).2.2.2.1,(hf b hb).2.1,(hf b hb).2.2.2.2⟩,nD,?_,?_⟩
 ·refine I.fpOk (H':=upd H' s.heap.objs.size (.lst ys)) (b:=g.objs.size) (by rw[hsz];exact Rj _) ?_
  rw[ao hDC]
  exact J.free
 ·obtain⟨m,hn,_⟩:=J.loc
  exact⟨m,hn⟩
end
def PTs(X:Cx)(ifs:List Expr)(t:TT):Prop :=
 ∀(pins:List (Addr×Obj))(s:Shared)(σ:St)(H:Hp)(Q:Bool->Hp->Prop),Inv X pins σ H s->t σ H Q ->
  wpAny (model X.prog X.w) X.A (forIn ifs true fun c r=>if r=true then do let ok ← isTrue c X.env (eval c X.env);pure (ForInStep.yield ok) else pure (ForInStep.yield r)) (fun b s'=>∃ H',Inv X pins σ H' s'/\Q b H') X.xe s
def tYes:TT:=fun _ H Q=>Q true H
theorem vE{X:Cx}:PTs X [] tYes:=fun _ _ _ H _ I h=>wpAny_tests_nil ⟨H,I,h⟩
theorem Ii{X:Cx}{c:Expr}{t:TT}(h:PT X c t):PTs X [c] t:=fun pins s σ H Q I q=>wpAny_tests_one (h pins s σ H Q I q)
section
variable{prog:Program}{w:World}{A:Around}{s:Shared}
theorem Kc{elt target iter:Expr}{ifs:List Expr}{scope:Scope}{pos:Pos}{it acc:Value}{env:Env}{R:Result->Shared->Prop}(I:Nat->Shared->Prop)
  (turn:∀ n s,I n s->wpAny (model prog w) A (pyNext it) (fun r s₁=>match r with
   |none=>R (.ok .next) s₁
   |some v=>wpAny (model prog w) A (letOwnedTupleGo target it v) (fun _ s₀=>wpAny (model prog w) A (assign target env v) (fun _ s₂ =>
     wpAny (model prog w) A (forIn ifs true fun c r=>if r=true then do let ok ← isTrue c env (eval c env);pure (ForInStep.yield ok) else pure (ForInStep.yield r)) (fun ok s₃=>if ok=true then wpAny (model prog w) A (eval elt env) (fun x s₄ =>
      wpAny (model prog w) A (call (.builtin "list.append") [acc,x]) (fun _ s₅=>∃ m,m<n/\I m s₅) (notedBy (model prog w) A env fun e s'=>R (.error e) s') s₄) (notedBy (model prog w) A env fun e s'=>R (.error e) s') s₃
      else ∃ m,m<n/\I m s₃) (notedBy (model prog w) A env fun e s'=>R (.error e) s') s₂)
     (notedBy (model prog w) A env fun e s'=>R (.error e) s') s₀) (notedBy (model prog w) A env fun e s'=>R (.error e) s') s₁) (notedBy (model prog w) A env fun e s'=>R (.error e) s') s)
  (n:Nat) (h:I n s):codeAny (model prog w) A (.compLoop (.ListComp elt [⟨target,iter,ifs,0⟩] scope pos) 0 it acc env) R s:=by
 refine codeAny_loop rfl I (fun n s hI=>?_) n h
 show wpAny _ A ((compTurn (.ListComp elt [⟨target,iter,ifs,0⟩] scope pos) 0 it acc env).onRaise (fun x=>do noteFrame x env;theTreesLotGoes x)) _ _ s
 refine wpAny_noted ?_
 rw[compTurn_list]
 refine wpAny_bind (wpAny_standAt (wpAny_bind (wpAny_mono (turn n s hI) (fun r s₁ h₁=>?_) fun _ _ h'=>h')))
 cases r with
 |none=>exact wpAny_pure h₁
 |some v =>
  refine wpAny_bind (wpAny_mono h₁ (fun _ s₀ h₀'=>?_) fun _ _ h'=>h')
  refine wpAny_bind (wpAny_mono h₀' (fun _ s₂ h₂=>?_) fun _ _ h'=>h')
  refine wpAny_bind (wpAny_mono h₂ (fun okb s₃ h₃=>?_) fun _ _ h'=>h')
  cases okb with
  |false=>exact wpAny_pure ⟨rfl,h₃⟩
  |true=>exact wpAny_bind (wpAny_bind (wpAny_mono h₃ (fun x s₄ h₄=>wpAny_bind (wpAny_mono h₄ (fun _ s₅ h₅=>wpAny_pure (wpAny_pure ⟨rfl,h₅⟩)) fun _ _ h'=>h')) fun _ _ h'=>h'))
end
def qd(g:TG)(tt:TT)(te:TE)(n:Nat)(fv:St)(J:It)(H1:Hp)(QQ:List V->Hp->Prop):Prop :=
 ∃ W:Nat->Nat->List V->Hp->Prop,(∃ m,W 0 m [] H1)/\∀ i m ys H,W i m ys H->ys.length<=sizeLine /\
  ((J.stop i H/\QQ ys H)∨(J.go i H/\∃ N:List V->Hp->Prop,(∀ zs H2,N zs H2->∃ m',m'<m/\W (i+1) m' zs H2) /\
   ∀ x H',J.yld i H x H'->g x (PU n none++fv) H' fun σ2 H2=>σ2.drop n=fv/\tt σ2 H2 fun b H3=>if b=true then te σ2 H3 (fun y H4=>N (ys++[y]) H4) else N ys H3))
section
variable{X:Cx}{scope:Scope}{fr:List (Str×Nat)}{xs:List Str}{elt iter tg:Expr}{ifs:List Expr}{pos:Pos}{te:TE}{tt:TT}{tgt:TG}{wi:TI}
theorem uE{pins:List (Addr×Obj)}{σ:St}{H:Hp}{s:Shared}{E:Value->Shared->Prop}{it:Addr}{fp:List Addr}{tn:Nat->Heap->Prop}{J:It}{RR:Value->Addr->Result->Shared->Prop}{QQ:List V->Hp->Prop}(hc:X.calm=true)(O:mO X scope fr xs)
  (hg0:∀ C ex s H,PG (cxG X scope fr xs C ex s H) tg tgt) (ht:∀ C ex s H,PTs (cxG X scope fr xs C ex s H) ifs tt) (he:∀ C ex s H,PE (cxG X scope fr xs C ex s H) elt te) (I:Inv X pins σ H s) (T:Turn X.prog X.w X.K tg J fp it tn) (st:tn 0 s.heap) (hf:∀ b∈fp,FpOk X pins H b) (hq:qd tgt tt te xs.length (frOf fr σ) J H QQ)
  (fin:∀ D C H4 ys s4 m,Inv X pins σ (upd H4 D (.lst ys)) s4->H4 D=none->FpOk X pins (upd H4 D (.lst ys)) C->s4.heap.Ns C m->QQ ys H4->RR (.ref D) C (.ok .next) s4) :
  wpAny (model X.prog X.w) X.A (newList []) (fun acc s₃=>wpAny (model X.prog X.w) X.A (newFunctionEnv scope X.env.globals (clOf X.env fr) [] X.env.qual none .none (some X.env)) (fun cenv s₄ =>
   codeAny (model X.prog X.w) X.A (.compStart (.ListComp elt [⟨tg,iter,ifs,0⟩] scope pos) 0 (.ref it) acc { cenv with scope:=relabel scope X.env }) (RR acc cenv.locals) s₄) E s₃) E s:=by
 obtain⟨W,⟨m0,w0⟩,turn⟩:=hq
 have hfs:∀ b∈fp,b<s.heap.objs.size:=fun b hb=>by
  obtain⟨o,e,_⟩:=T.obj 0 s.heap st b hb
  exact Heap.lt_size e
 refine wpAny_newObj_type (wpAny_newFunctionEnv O.cell (by intro y hy;simp at hy) (fun h₁ hns₁ hsb₁=>?_) O.kind)
 dsimp only at hns₁ hsb₁ ⊢
 generalize hH2:s.heap.push { cls:=.type "list",dict:=none,data:=.seq ([]:List Value).toArray }=g at hns₁ hsb₁ ⊢
 have hg:g=s.heap.push (LCg.lst []):=hH2.symm
 have hsz:g.objs.size=s.heap.objs.size+1:=by rw[hg,Heap.size_push]
 have hk:∀ b o,g.get? b=some o->h₁.get? b=some o:=fun b o e=>hsb₁.extBut b o (Qk (Heap.lt_size e)) (Heap.get?_push_of_some _ e)
 have kp:∀ b o,s.heap.get? b=some o->h₁.get? b=some o:=fun b o e=>hk b o (by rw[hg];exact Heap.get?_push_of_some _ e)
 have J0:=Jv (h':=h₁) (tk:=s.toks+([]:List (Str×Value)).length) O I hf hfs hg hk hns₁
 have stat:∀{H':Hp}{us:List Value},(∀ b∈fp,H' b=none)->∀ b∈fp,FpOk (cxG X scope fr xs g.objs.size (s.heap.objs.size::fp) { s with heap:=g } H) (X.pn++pins++[(s.heap.objs.size,LCg.lst us)]) H' b:=fun{H' us} hn b hb=>by
  obtain⟨_,f1,f2,f3,f4,f5⟩:=hf b hb
  refine⟨hn b hb,?_,fun z=>(Pw.mp (I.stkSub b z)).elim f1 f2,.inl (PD _ hb),fun y c e=>f4 y c (O.cells I e),fun p hp=>?_⟩
  ·show b≠g.objs.size
   rw[hsz];exact Qk (RE (hfs b hb))
  ·rcases PM.mp hp with hp | hp
   ·cases hp
   ·rcases PM.mp hp with hp | hp
    ·exact f5 p hp
    ·have ep:p=(s.heap.objs.size,LCg.lst us):=by simpa using hp
     rw[ep]
     exact RA (hfs b hb)
 have loop:codeAny (model X.prog X.w) X.A (.compLoop (.ListComp elt [⟨tg,iter,ifs,0⟩] scope pos) 0 (.ref it) (.ref s.heap.objs.size) (compEnvC scope (clOf X.env fr) g.objs.size X.env))
   (RR (.ref s.heap.objs.size) g.objs.size) { s with heap:=h₁,toks:=s.toks+([]:List (Str×Value)).length }:=by
  refine Kc (fun n s'=>∃ i ys us H',Inv (cxG X scope fr xs g.objs.size (s.heap.objs.size::fp) { s with heap:=g } H) (X.pn++pins++[(s.heap.objs.size,LCg.lst us)]) (nons xs++frOf fr σ) H' s'/\Vals ys us/\tn i s'.heap/\(∀ b∈fp,H' b=none)/\W i n ys H') ?_ m0
   ⟨0,[],[],H,J0,.nil,T.keep 0 s.heap h₁ st fun b _ o e=>kp b o e,fun b hb=>(hf b hb).1,w0⟩
  rintro n s3 ⟨i,ys,us,H3,J3,hv,st3,fr3,w3⟩
  obtain⟨hlen,hh⟩:=turn i n ys H3 w3
  have none_err:∀{α:Type}{t:Sem α}{Q:α->Shared->Prop}{E':Value->Shared->Prop}{s:Shared},wpAny (model X.prog X.w) X.A t Q (fun _ _=>False) s->wpAny (model X.prog X.w) X.A t Q E' s:=fun h=>wpAny_mono h (fun _ _ q=>q) fun _ _ z=>z.elim
  have weakN:∀{σ6:St},σ6.length=(nons xs++frOf fr σ).length->σ6.drop xs.length=frOf fr σ->∀(i:Nat) v,(nons xs++frOf fr σ)[i]?=some (some v)->σ6[i]?=some (some v):=fun{σ6} hl6 e6 i v e=>by
   by_cases hi:i<xs.length
   ·rw[Py (by simpa using hi),QU,if_pos hi]at e
    cases e
   ·rw[Pu (by simp;omega),← e6,SF]at e
    have:xs.length+(i-(nons xs).length)=i:=by simp;omega
    rw[this]at e
    exact e
  rcases hh with⟨stop,qn⟩ | ⟨go,N,hN,step⟩
  ·refine none_err (thn (T.done (cxG X scope fr xs g.objs.size (s.heap.objs.size::fp) { s with heap:=g } H) rfl rfl rfl hc i _ s3 _ H3 _ J3 (stat fr3) st3 stop) fun r s4 ⟨hr,J4⟩=>?_)
   subst hr
   obtain⟨I4,nD,fC,m,hn⟩:=xo I hf hg J4 hv hlen
   exact fin _ _ H3 ys s4 m I4 nD fC hn qn
  ·refine none_err (thn (T.item (cxG X scope fr xs g.objs.size (s.heap.objs.size::fp) { s with heap:=g } H) rfl rfl rfl hc i _ s3 _ H3 _ J3 (stat fr3) st3 go) fun r s4 ⟨u,hr,h4⟩=>?_)
   subst hr
   refine none_err (thn h4 fun _ s5 ⟨v,H5,J5,r5,y5,st5,fr5⟩=>?_)
   have J5':=J5.pinned (stat fr5) (T.obj _ _ st5)
   refine none_err (thn (hg0 _ _ _ _ _ s5 _ H5 v u _ J5' r5 (step v H5 y5)) fun _ s6 ⟨σ6,H6,J6,e6,q6⟩=>?_)
   refine none_err (thn (ht _ _ _ _ _ s6 σ6 H6 _ J6 q6) fun b s6' ⟨H6',J6',q6'⟩=>?_)
   have hl6:σ6.length=(nons xs++frOf fr σ).length:=J6.len.trans J3.len.symm
   cases b with
   |false =>
    rw[if_neg Qe]at q6' ⊢
    obtain⟨m',hm,w7⟩:=hN ys H6' q6'
    have pinF:∀ b∈fp,∀ o,s5.heap.get? b=some o->s6'.heap.get? b=some o/\H6' b=none:=fun b hb o e=>by
     obtain⟨q1,q2,_⟩:=J6'.pin (b,o) (P0 _ (P0 _ (gH hb e)))
     exact⟨q1,q2⟩
    refine⟨m',hm,i+1,ys,us,H6',J6'.unpinned.weak (σ':=nons xs++frOf fr σ) hl6.symm (weakN hl6 e6),hv,T.keep _ _ _ st5 fun b hb o e=>(pinF b hb o e).1,fun b hb=>?_,w7⟩
    obtain⟨o,e,_⟩:=T.obj _ _ st5 b hb
    exact(pinF b hb o e).2
   |true =>
    rw[if_pos rfl]at q6' ⊢
    refine none_err (thn (he _ _ _ _ _ s6' _ H6' _ J6' q6') fun u7 s7 ⟨v7,H7,J7,r7,q7⟩=>?_)
    obtain⟨m',hm,w7⟩:=hN _ H7 q7
    obtain⟨eD,nD,dC,dF,dd⟩:=J7.pin (s.heap.objs.size,LCg.lst us) (P0 _ (QC _ (P0 _ (by simp))))
    have hvl:=hv.length
    refine append_at (hsz:=by show us.toArray.size<=sizeLine;rw[P8,← hvl];exact hlen) eD fun h8 hs8 hD8=>?_
    have pinD:∀ p∈X.pn++pins,p.1≠s.heap.objs.size:=fun p hp z=>by
     have:=Heap.lt_size (I.pin p hp).1
     rw[z]at this
     exact Qs _ this
    have J7a:Inv (cxG X scope fr xs g.objs.size (s.heap.objs.size::fp) { s with heap:=g } H) (X.pn++pins) _ H7 s7:=J7.pins_of fun p hp=>J7.pin p (P0 _ (QC _ (QC _ hp)))
    have J8:Inv (cxG X scope fr xs g.objs.size (s.heap.objs.size::fp) { s with heap:=g } H) (X.pn++pins) _ H7 { s7 with heap:=h8 }:=J7a.turned (t':=s7.toks) (fun b o hb e=>(hs8.2 b hb).trans e) nD dC (.inl PH) (fun y c e z=>by
     obtain⟨w',q⟩:=I.cell y c (O.cells I e)
     have:=q.lt
     rw[z]at this
     exact Qs _ this) (fun p hp=>(PM.mp hp).elim (fun z=>by cases z) (pinD p))
    have J9:Inv (cxG X scope fr xs g.objs.size (s.heap.objs.size::fp) { s with heap:=g } H) (X.pn++pins++[(s.heap.objs.size,LCg.lst (us++[u7]))]) _ H7 { s7 with heap:=h8 }:=J8.pins_of fun p hp=>by
     rcases PM.mp hp with hp | hp
     ·exact J8.pin p (P0 _ hp)
     ·have ep:p=(s.heap.objs.size,LCg.lst (us++[u7])):=by simpa using hp
      subst ep
      exact⟨hD8.trans (congrArg some (LCg.lst_snoc us u7)),nD,dC,dF,fun v z=>by cases z⟩
    have J10:=J9.weak (σ':=nons xs++frOf fr σ) hl6.symm (weakN hl6 e6)
    have pinF:∀ b∈fp,∀ o,s5.heap.get? b=some o->s7.heap.get? b=some o/\H7 b=none:=fun b hb o e=>by
     obtain⟨q1,q2,_⟩:=J7.pin (b,o) (P0 _ (P0 _ (gH hb e)))
     exact⟨q1,q2⟩
    refine⟨m',hm,i+1,ys++[v7],us++[u7],H7,J10,hv.append (.cons r7 .nil),T.keep _ _ _ st5 fun b hb o e=>(hs8.2 b (Qk (hfs b hb))).trans (pinF b hb o e).1,fun b hb=>?_,w7⟩
    obtain⟨o,e,_⟩:=T.obj _ _ st5 b hb
    exact(pinF b hb o e).2
 exact codeAny_compStart_list loop (T.self X.A 0 _ _ _ (T.keep 0 s.heap h₁ st fun b _ o e=>kp b o e) loop)
def tCompE(wi:TI)(g:TG)(tt:TT)(te:TE)(n:Nat)(fr:List (Str×Nat)):TE:=fun σ H Q=>wi σ H fun J H1=>qd g tt te n (frOf fr σ) J H1 fun ys H2=>∀ D,H2 D=none->Q (.ref D) (upd H2 D (.lst ys))
theorem pJ(hc:X.calm=true)(O:mO X scope fr xs)(hi:PI X tg iter wi)(hg0:∀ C ex s H,PG (cxG X scope fr xs C ex s H) tg tgt)(ht:∀ C ex s H,PTs (cxG X scope fr xs C ex s H) ifs tt)(he:∀ C ex s H,PE (cxG X scope fr xs C ex s H) elt te)(hs:∀ x,foldedSetIterable iter X.env x=pure x:=by intro _;rfl) :
  PE X (.ListComp elt [⟨tg,iter,ifs,0⟩] scope pos) (tCompE wi tgt tt te xs.length fr):=by
 intro pins s σ H Q I h
 rw[eval_ListComp]
 refine wpAny_comprehension_free (use:=none) rfl hs O.clos O.kind O.names (thn (hi pins s σ H _ I h) fun xv s1 h1=>thn h1 fun itv s2 h2=>?_)
 obtain⟨it,fp,tn,J,H2,e,I2,T,st2,f2,q2⟩:=h2
 subst e
 refine uE (RR:=fun acc C=>compPost (model X.prog X.w) X.A X.xe none (EP X pins σ Q) acc C) hc O hg0 ht he I2 T st2 f2 q2 ?_
 intro D C H4 ys s4 m I4 nD fC hn q4
 refine⟨m,hn,fun h' hs'=>?_⟩
 obtain⟨g0,g1,g2,g3,g4,g5⟩:=fC
 exact⟨.ref D,_,I4.turned (t':=s4.toks) (fun b o hb e=>(hs'.2 b hb).trans e) g0 g1 g3 g4 g5,rfl,q4 D nD⟩
def Hx(i:Nat)(wi:TI)(g:TG)(tt:TT)(te:TE)(n:Nat)(fr:List (Str×Nat)):TS:=fun D σ H=>wi σ H fun J H1=>qd g tt te n (frOf fr σ) J H1 fun ys H2=>∀ a,H2 a=none->D.nx (σ.set i (some (.ref a))) (upd H2 a (.lst ys))
theorem qu{i:Nat}{y:Str}{py spos:Pos}(hc:X.calm=true)(hN:X.N.Nodup)(hi':X.N[i]?=some y)(hy:X.env.scope.names.lookup y=some .local)(O:mO X scope fr xs)(hi:PI X tg iter wi)(hg0:∀ C ex s H,PG (cxG X scope fr xs C ex s H) tg tgt)(ht:∀ C ex s H,PTs (cxG X scope fr xs C ex s H) ifs tt)(he:∀ C ex s H,PE (cxG X scope fr xs C ex s H) elt te)
  (hsw:swapsWith (.ListComp elt [⟨tg,iter,ifs,0⟩] scope pos) (some (.Name y py)) spos.line X.env=pure true:=by rfl) (hs:∀ x,foldedSetIterable iter X.env x=pure x:=by intro _;rfl) :
  PS X (.Assign [.Name y py] (.ListComp elt [⟨tg,iter,ifs,0⟩] scope pos) spos) (Hx i wi tgt tt te xs.length fr):=by
 intro pins s σ H D I h
 rw[exec_Assign_Name_used _ _ _ _ hsw]
 refine wpAny_bind (wpAny_standAt (wpAny_bind ?_))
 show wpAny _ X.A (do let _ ← comprehension (.ListComp elt [⟨tg,iter,ifs,0⟩] scope pos) scope X.env _ (newList []) false (eval iter X.env) (some (assign (.Name y py) X.env))) _ _ s
 refine wpAny_bind (thn (wpAny_comprehension_free (use:=some (assign (.Name y py) X.env)) (Q:=fun _ s'=>SP X pins D .next s') rfl hs O.clos O.kind O.names (thn (hi pins s σ H _ I h) fun xv s1 h1=>thn h1 fun itv s2 h2=>?_)) fun _ s' hq=>wpAny_pure (wpAny_pure hq))
 obtain⟨it,fp,tn,J,H2,e,I2,T,st2,f2,q2⟩:=h2
 subst e
 refine uE (RR:=fun acc C=>compPost (model X.prog X.w) X.A X.xe (some (assign (.Name y py) X.env)) (fun _ s'=>SP X pins D .next s') acc C) hc O hg0 ht he I2 T st2 f2 q2 ?_
 intro a C H4 ys s4 m I4 nD fC hn q4
 obtain⟨g0,g1,g2,g3,g4,g5⟩:=fC
 obtain⟨oC,eC,hoC⟩:=LCg.ns_obj hn
 have I5:Inv X (pins++[(C,oC)]) σ (upd H4 a (.lst ys)) s4:=I4.pins_of fun p hp=>by
  rcases PM.mp hp with hp | hp
  ·exact I4.pin p (P0 _ hp)
  ·have ep:p=(C,oC):=by simpa using hp
   subst ep
   obtain⟨es,epp,hd,_⟩:=hoC
   exact⟨eC,g0,g1,g2,fun v z=>by rw[hd]at z;cases z⟩
 show wpAny _ X.A (assign (.Name y py) X.env (.ref a)) _ _ _
 refine wpAny_assign_Name (pI I5 hN hi' (.inl hy) (v:=.ref a) rfl (fun s6 I6=>?_) (.inr hy))
 obtain⟨e6,_⟩:=I6.pin (C,oC) (P0 _ (P0 _ (by simp)))
 refine⟨m,hoC.ns e6,fun h' hs'=>?_⟩
 exact⟨_,_,I6.unpinned.turned (t':=s6.toks) (fun b o hb e=>(hs'.2 b hb).trans e) g0 g1 g3 g4 g5,q4 a nD⟩
end
theorem uF{K:Pt}{a:Addr}{xs:List V}{g:TG}{tt:TT}{te:TE}{n:Nat}{fv:St}{H1:Hp}{QQ:List V->Hp->Prop}(Pv:Nat->List V->Hp->Prop)(hz:xs.length<=sizeLine)(h0:Pv 0 [] H1)(hl:∀ i ys H,i<=xs.length->Pv i ys H->SqL K H a xs)
  (hs:∀ i x ys H,xs[i]?=some x->Pv i ys H->g x (PU n none++fv) H fun σ2 H2=>σ2.drop n=fv/\tt σ2 H2 fun b H3=>if b=true then te σ2 H3 (fun y H4=>Pv (i+1) (ys++[y]) H4) else Pv (i+1) ys H3) (hd:∀ ys H,Pv xs.length ys H->QQ ys H) (hy:∀ i ys H,Pv i ys H->ys.length<=i)
  : qd g tt te n fv (Itl K a) H1 QQ:=by
 refine⟨fun i m ys H=>m=xs.length-i/\i<=xs.length/\Pv i ys H,⟨xs.length,by simp,QJ _,h0⟩,?_⟩
 rintro i m ys H ⟨rfl,hi,p⟩
 have q:=hl i ys H hi p
 have hyl:=hy i ys H p
 refine⟨by omega,?_⟩
 by_cases hlt:i<xs.length
 ·refine .inr ⟨⟨xs,xs[i],q,by simp[hlt]⟩,fun zs H2=>Pv (i+1) zs H2,fun zs H2 p2=>⟨xs.length-(i+1),by omega,rfl,hlt,p2⟩,fun x H' y=>?_⟩
  obtain⟨e,y⟩:=y
  subst e
  exact hs i x ys _ (y xs q) p
 ·have e:i=xs.length:=by omega
  subst e
  exact .inl ⟨⟨xs,q,Pz _⟩,hd ys H p⟩
theorem rD{lo:Int}{k:Nat}{g:TG}{tt:TT}{te:TE}{n:Nat}{fv:St}{H1:Hp}{QQ:List V->Hp->Prop}(Pv:Nat->List V->Hp->Prop)(hz:k<=sizeLine)(h0:Pv 0 [] H1)
  (hs:∀ i ys H,i<k->Pv i ys H->g (.int (lo+i)) (PU n none++fv) H fun σ2 H2=>σ2.drop n=fv/\tt σ2 H2 fun b H3=>if b=true then te σ2 H3 (fun y H4=>Pv (i+1) (ys++[y]) H4) else Pv (i+1) ys H3) (hd:∀ ys H,Pv k ys H->QQ ys H) (hy:∀ i ys H,Pv i ys H->ys.length<=i)
  : qd g tt te n fv (Itr lo k) H1 QQ:=by
 refine⟨fun i m ys H=>m=k-i/\i<=k/\Pv i ys H,⟨k,by simp,QJ _,h0⟩,?_⟩
 rintro i m ys H ⟨rfl,hi,p⟩
 have hyl:=hy i ys H p
 refine⟨by omega,?_⟩
 by_cases hlt:i<k
 ·refine .inr ⟨hlt,fun zs H2=>Pv (i+1) zs H2,fun zs H2 p2=>⟨k-(i+1),by omega,rfl,hlt,p2⟩,fun x H' y=>?_⟩
  obtain⟨e,y⟩:=y
  subst e y
  exact hs i ys _ hlt p
 ·have e:i=k:=by omega
  subst e
  exact .inl ⟨Pz _,hd ys H p⟩
theorem GW{K:Pt}{a:Addr}{xs:List V}{g:TG}{tt:TT}{te:TE}{n:Nat}{fv:St}{H1:Hp}{QQ:List V->Hp->Prop}(Pv:Nat->List V->Hp->Prop)(hz:xs.length<=sizeLine)(h0:Pv 0 [] H1)(hl:∀ i ys H,i<=xs.length->Pv i ys H->SqL K H a xs)
  (hs:∀ i x ys H T,xs[i]?=some x->Pv i ys H->H T=none->g (.ref T) (PU n none++fv) (upd H T (.tup [.int (i:Int),x])) fun σ2 H2=>σ2.drop n=fv/\tt σ2 H2 fun b H3=>if b=true then te σ2 H3 (fun y H4=>Pv (i+1) (ys++[y]) H4) else Pv (i+1) ys H3) (hd:∀ ys H,Pv xs.length ys H->QQ ys H) (hy:∀ i ys H,Pv i ys H->ys.length<=i)
  : qd g tt te n fv (Ite K a) H1 QQ:=by
 refine⟨fun i m ys H=>m=xs.length-i/\i<=xs.length/\Pv i ys H,⟨xs.length,by simp,QJ _,h0⟩,?_⟩
 rintro i m ys H ⟨rfl,hi,p⟩
 have q:=hl i ys H hi p
 have hyl:=hy i ys H p
 refine⟨by omega,?_⟩
 by_cases hlt:i<xs.length
 ·refine .inr ⟨⟨xs,xs[i],q,by simp[hlt]⟩,fun zs H2=>Pv (i+1) zs H2,fun zs H2 p2=>⟨xs.length-(i+1),by omega,rfl,hlt,p2⟩,fun v H' y=>?_⟩
  obtain⟨T,x,hT,rfl,rfl,y⟩:=y
  exact hs i x ys _ T (y xs q) p hT
 ·have e:i=xs.length:=by omega
  subst e
  exact .inl ⟨⟨xs,q,Pz _⟩,hd ys H p⟩
end L2
namespace L2
open PySem PySem.Spec PyProof.Rows
section
variable{X:Cx}{K:Pt}{pos:Pos}
theorem xn(h:X.K=K):IxR X (rIxL K):=h▸az
theorem qX(h:X.K=K):IxR X (rIxT K):=h▸aH
theorem Cc{es:List Expr}{k:Nat}{t:TGs}{n:Nat}(hK:X.K=K)(hc:X.calm=true)(h:PGs X es t)(hn:(assignEach es X.env).length=n:=by rfl)(hst:(assignEach es X.env).findIdx? (·.1)=none:=by rfl):PG X (.Tuple es k pos) (gTup K n t):=hK▸uy hc h hn hst
theorem uO(h:X.K=K):pH X (.type "list") (fun xs H Q=>∃ p ys,xs = [.ref p]/\(SqL K H p ys∨SqT K H p ys)/\∀ l,H l=none->Q (.ref l) (upd H l (.lst ys))):=h▸gc
theorem Ce{e:Expr}{f:Str}{ta:TE}(h:X.K=K)(he:PE X e ta)(hb:attributeBase e f X.env (eval e X.env)=eval e X.env):PE X (.Attribute e f pos) (tFld K ta f):=h▸b9 he hb
end
end L2
namespace L2
open PySem PySem.Spec PyProof.Rows
section
variable{X:Cx}
def NK:V->List V->Hp->VK->Prop:=fun x vs H Q=>∃ l xs k y,x=.ref l/\vs = [.int k,y]/\H l=some (.lst xs)/\0<=k/\k<=xs.length/\xs.length<sizeLine/\Q .non (upd H l (.lst (xs.take k.toNat++y::xs.drop k.toNat)))
theorem zA:MtM X "list.insert" NK:=by
 intro pins s σ H x vs v us Q I rx rv h
 obtain⟨l,xs,k,y,rfl,rfl,hH,h0,hk,hz,q⟩:=h
 cases rx
 obtain⟨u1,u2,rfl,r1,r2⟩:=rv.two
 obtain⟨t,rfl⟩:=r1
 obtain⟨z,its,n,r,hl,e⟩:=I.lstM hH
 have hn:=uB
 have hfit:¬ (!Builtin.List.listFitsIndex k)=true:=by
  rw[fitsIndex_both (by omega) (by omega)]
  exact Qe
 refine call_meets F.slot_list_insert ⟨_,e,rfl⟩ F.entry_list_insert (F.args_list_insert_3 _ _ _) (AutoListH.list_insert_list_int_val_1 l its.toArray n k t u2 hfit (by rw[P8];omega)) ⟨e,?_⟩
 refine⟨.non,_,I.lset (its':=its.take k.toNat++u2::its.drop k.toNat) hH e ?_ ((r.take _).append (.cons r2 (r.drop _))) ?_,rfl,q⟩
 ·dsimp only
  rw[if_neg (by omega),P8,RB (by omega)]
  simp
  exact QK (by rw[QX];omega)
 ·rw[Px,Qc,Qr,QX]
  omega
theorem pP:∀{ns:List Int}{us:List Value},Vals (ns.map V.int) us->IntsAre us ns
 |[],_,.nil=>.nil
 |n::ns,_,.cons r rr=>by
  obtain⟨t,rfl⟩:=r
  exact .cons n t (pP rr)
theorem MA(hc:X.calm=true):pH X (.builtin "sum") (fun xs H Q=>∃(p:Addr)(ns:List Int),xs = [.ref p]/\SqL X.K H p (ns.map V.int)/\Q (.int ns.sum) H):=by
 intro pins s σ H xs us Q I r h
 obtain⟨p,ns,rfl,hq,q⟩:=h
 obtain⟨u,rfl,ru⟩:=ym r
 cases ru
 obtain⟨its,rv,pl,hz⟩:=I.list hq
 have hi:=pP rv
 obtain⟨zs,e⟩:=hi.allInts.items
 have hns:(numsOf its)=ns:=hi.numsOf
 have hl:s.heap.IsList p (intItems zs):=by rw[← e];exact pl.isList
 refine sum_intListG (I.ok.hd hc) hl fun h' tk t' hk=>⟨.int ns.sum,H,I.kept (t':=tk) hk,⟨t',?_⟩,q⟩
 have h2:numsOf (intItems zs).toList=ns:=by rw[← e];exact hns
 rw[nums_intItems]at h2
 rw[preSum_eq,QK (by simp),← h2]
end
end L2
namespace L2
open PySem PySem.Spec PyProof.Rows
theorem qb:∀{ps:List Nat},(∀ p∈ps,p<1000)->PyData.weightAll ((ps.map fun(p:Nat)=>((p:Nat):Int)).map PyData.int)<=12*ps.length
 |[],_=>by simp[PyData.weightAll]
 |p::ps,h=>by
  have ih:=qb (ps:=ps) fun x hx=>h x (PD _ hx)
  have hp:=h p (by simp)
  have hw:PyData.weight (.int (p:Int))<=11:=by
   rw[PyData.weight]
   split
   ·exact QJ _
   ·rename_i z
    have z':p≠0:=fun e=>z (by rw[e];rfl)
    have e:((p:Int)).natAbs=p:=rfl
    rw[e]
    have:=(Nat.log2_lt z').mpr (show p<2^10 by omega)
    omega
  rw[P7,P7,PyData.weightAll,Qc]
  omega
theorem Mg{ps:List Nat}(h:∀ p∈ps,p<1000)(hl:ps.length<=1000):PyData.layable0 (.list ((ps.map fun(p:Nat)=>((p:Nat):Int)).map PyData.int))=true:=by
 have h1:=PySem.W.shaped_ints (ps.map fun(p:Nat)=>((p:Nat):Int))
 have h2:=qb h
 have h3:PyData.weight (.list ((ps.map fun(p:Nat)=>((p:Nat):Int)).map PyData.int))<=2^20:=by
  rw[PyData.weight];omega +splitDisjunctions
 unfold PyData.layable0
 unfold SeqAt.shaped at h1
 rw[h1,decide_eq_true h3]
 rfl
section
variable{X:Cx}
def rIndex(K:Pt):V->List V->Hp->VK->Prop:=fun x vs H Q=>∃(l:Addr)(ps:List Nat)(k:Nat),x=.ref l/\vs = [.int (k:Int)]/\SqL K H l (ps.map fun(p:Nat)=>V.int (p:Int))/\(∀ p∈ps,p<1000)/\ps.length<=1000/\k∈ps/\Q (.int ((ps.idxOf k:Nat):Int)) H
theorem Mn{ps:List Nat}{k:Nat}:(ps.map fun(p:Nat)=>((p:Nat):Int)).idxOf (k:Int)=ps.idxOf k:=by
 induction ps with
 |nil=>rfl
 |cons p ps ih =>
  rw[P7,List.idxOf_cons,List.idxOf_cons,ih]
  have e:(((p:Nat):Int) == (k:Int))=(p == k):=by
   by_cases h:p=k
   ·subst h;simp
   ·have h2:¬ (p:Int)=(k:Int):=fun z=>h (by omega)
    rw[beq_eq_false_iff_ne.mpr h,beq_eq_false_iff_ne.mpr h2]
  rw[e]
theorem ES:MtM X "list.index" (rIndex X.K):=by
 intro pins s σ H x vs v us Q I rx rv h
 obtain⟨l,ps,k,rfl,rfl,hq,hs,hl,hk,q⟩:=h
 cases rx
 obtain⟨u,rfl,ru⟩:=rv.one
 obtain⟨t,rfl⟩:=ru
 have e:(ps.map fun(p:Nat)=>V.int (p:Int))=(ps.map fun(p:Nat)=>((p:Nat):Int)).map V.int:=by rw[RU];rfl
 rw[e]at hq
 obtain⟨its,r,pl,hz⟩:=I.list hq
 refine index_list_ints pl.isList (pP r) (Mg hs hl) (Qv.mpr ⟨k,hk,rfl⟩) ?_
 rw[Mn]
 exact⟨.int _,H,I.tok _,⟨_,rfl⟩,q⟩
end
end L2
namespace L2
open PySem PySem.Spec PyProof.Rows
theorem Hr:∀{us:List Value}{ns:List Int},IntsAre us ns->Vals (ns.map V.int) us
 |_,_,.nil=>.nil
 |_,_,.cons _ t r=>.cons ⟨t,rfl⟩ (Hr r)
section
variable{X:Cx}
def Ig(K:Pt):List V->Hp->VK->Prop:=fun xs H Q=>∃(p:Addr)(ns:List Int),xs = [.ref p]/\SqL K H p (ns.map V.int)/\ns.length<64/\∀(l:Addr)(out:List Int),H l=none->out.Perm ns->out.Pairwise (·<=·)->Q (.ref l) (upd H l (.lst (out.map V.int)))
theorem D1:pH X (.builtin "sorted") (Ig X.K):=by
 intro pins s σ H xs us Q I r h
 obtain⟨p,ns,rfl,hq,h64,q⟩:=h
 obtain⟨u,rfl,ru⟩:=ym r
 cases ru
 obtain⟨its,rv,pl,hz⟩:=I.list hq
 have hi:=pP rv
 have hl:=rv.length
 rw[PB]at hl
 refine sorted_ints pl.isList hi (by omega) fun out ns' a1 a2 a3=>?_
 obtain⟨e,he⟩:=sortedAll_at s.heap its out
 refine⟨.ref (s.heap.objs.size+1),_,I.laid (t':=s.toks) (fun _ _=>sortedAll_old) (Rj _) (show cf X.prog X.w _ _ _ (.lst (ns'.map V.int)) from⟨?_,out.toList,e,Hr a1,?_⟩),rfl,q _ ns' (I.hok.fresh (Rj _)) a2 a3⟩
 ·rw[PB,a2.length_eq]
  exact Ql (au (by omega))
 ·exact he
theorem AB{K:Pt}(h:X.K=K):pH X (.builtin "sorted") (Ig K):=h▸D1
end
end L2
namespace L2
open PySem PySem.Spec PyProof.Rows
section
variable{X:Cx}{tg:Expr}
end
end L2
namespace L2
open PySem PySem.Spec PyProof.Rows
theorem E8:bootBuiltins "min" = some (.builtin "min"):=by decide +kernel
theorem Ks:bootBuiltins "max" = some (.builtin "max"):=by decide +kernel
section
variable{X:Cx}
def rCatS(K:Pt):R2:=fun x y H Q=>∃ l b xs zs,x=.ref l/\y=.ref b/\SqL K H l xs/\SqL K H b zs/\xs.length+zs.length<=sizeLine/\∀ p,H p=none->Q (.ref p) (upd H p (.lst (xs++zs)))
theorem qz:OpR X (binaryOp .Add) (rCatS X.K):=by
 intro pins s σ H x y v u Q I rx ry h
 obtain⟨l,b,xs,zs,rfl,rfl,hH,hB,hz,q⟩:=h
 cases rx
 cases ry
 obtain⟨its,r,pl,_⟩:=I.list hH
 obtain⟨its2,r2,pl2,_⟩:=I.list hB
 obtain⟨⟨cls,dd,data,sl⟩,ho,hc,n,hd⟩:=pl.isList
 obtain⟨⟨cls2,dd2,data2,sl2⟩,ho2,hc2,n2,hd2⟩:=pl2.isList
 simp only at hc hd hc2 hd2
 subst hc hd hc2 hd2
 have ea:its.toArray++its2.toArray=(its++its2).toArray:=by simp
 have e1:=r.length
 have e2:=r2.length
 refine concat_meets ⟨_,ho,rfl⟩ ⟨_,ho2,rfl⟩ noFill_list_add seq_list_add PySem.F.slot_list_add PySem.F.entry_list_add (PySem.F.args_list_add_2 _ _) (list_addW l b its.toArray its2.toArray n n2 dd dd2 sl sl2 (by rw[P8,P8];omega)) ⟨ho,ho2,?_⟩
 rw[ea]
 exact⟨.ref _,_,I.lnew (t':=s.toks) (r.append r2) (by rw[Px];omega),rfl,q _ I.fresh⟩
theorem EN:∀{ns:List Int}{us:List Value},Vals (ns.map V.int) us->IntsAre us ns
 |[],_,.nil=>.nil
 |n::ns,_,.cons r rr=>by
  obtain⟨t,rfl⟩:=r
  exact .cons n t (EN rr)
end
end L2
namespace L2
open PySem PySem.Spec PyProof.Rows
theorem yesT{σ:St}{H:Hp}{A B:Hp->Prop}(h:A H):tYes σ H fun b H3=>if b=true then A H3 else B H3 :=
 show(if true=true then A H else B H) from iteT (B:=B H) h
theorem bt_zip:bootBuiltins "zip" = some (.type "zip"):=by decide +kernel
def Itz(K:Pt)(a b:Addr):It :=
 ⟨fun i H=>∃ xs ys x y,SqL K H a xs/\SqL K H b ys/\xs[i]?=some x/\ys[i]?=some y,
  fun i H v H'=>∃ T x y,H T=none/\v=.ref T/\H'=upd H T (.tup [x,y])/\(∀ xs,SqL K H a xs->xs[i]?=some x)/\∀ ys,SqL K H b ys->ys[i]?=some y,
  fun i H=>∃ xs ys,SqL K H a xs/\SqL K H b ys/\(xs.length<=i∨ys.length<=i)⟩
theorem K9{P:Program}{w:World}{K:Pt}{es:List Expr}{k:Nat}{pos:Pos}(a b z TI TO i1 i2:Addr)(D:ZipApart z TI TO i1 i2 a b):Turn P w K (.Tuple es k pos) (Itz K a b) [z,TI,TO,i1,i2] z
  (fun i h=>IsZip h z TI TO .none/\IsPair h TI (.ref i1) (.ref i2)/\(∃ u v,IsPair h TO u v)/\h.IsListIter i1 a i/\h.IsListIter i2 b i) where
 mem:=by simp
 obj:=fun i h st c hc=>by
  obtain⟨kz,kI,⟨u,v,kO⟩,⟨o1,q1,c1,d1⟩,⟨o2,q2,c2,d2⟩⟩:=st
  simp only[Pw,QH,or_false]at hc
  rcases hc with rfl | rfl | rfl | rfl | rfl
  ·exact⟨_,kz,fun v z=>by have z':Data.fields _=Data.cell v:=z;cases z'⟩
  ·exact⟨_,kI,fun v z=>by have z':Data.seq _ _=Data.cell v:=z;cases z'⟩
  ·exact⟨_,kO,fun v z=>by have z':Data.seq _ _=Data.cell v:=z;cases z'⟩
  ·exact⟨o1,q1,fun v z=>by rw[d1]at z;cases z⟩
  ·exact⟨o2,q2,fun v z=>by rw[d2]at z;cases z⟩
 keep:=fun i h h' st kk=>by
  obtain⟨kz,kI,⟨u,v,kO⟩,k1,k2⟩:=st
  exact⟨kk _ (by simp) _ kz,kk _ (by simp) _ kI,⟨u,v,kk _ (by simp) _ kO⟩,k1.at fun o q=>kk i1 (by simp) o q,k2.at fun o q=>kk i2 (by simp) o q⟩
 item:=by
  intro X hP hw hK hc i pins s σ H E I hf st hg
  subst hP hw hK
  obtain⟨xs,ys,x,y,hq,hr,hx,hy⟩:=hg
  obtain⟨its,rv,p,hz⟩:=I.list hq
  obtain⟨its2,rv2,p2,hz2⟩:=I.list hr
  obtain⟨u,hu,ru⟩:=rv.get hx
  obtain⟨u2,hu2,ru2⟩:=rv2.get hy
  obtain⟨kz,kI,⟨o1,o2,kO⟩,k1,k2⟩:=st
  refine wpAny_pyNext_zip_item D kz kI kO k1 k2 p.isList p2.isList (x:=u) (y:=u2) (by simpa using hu) (by simpa using hu2) fun h' a1 a2 a3 a4 a5 a6 hk=>?_
  refine⟨_,rfl,?_⟩
  refine wpAny_letOwnedTupleGo_zip a1 fun h2 g1 hs2=>?_
  have hs2':Heap.SameBut z h' h2:=hs2
  have lz:z<s.heap.objs.size:=Heap.lt_size kz
  have lI:TI<s.heap.objs.size:=Heap.lt_size kI
  have lO:TO<s.heap.objs.size:=Heap.lt_size kO
  have l1:i1<s.heap.objs.size:=by obtain⟨_,q,_⟩:=k1;exact Heap.lt_size q
  have l2:i2<s.heap.objs.size:=by obtain⟨_,q,_⟩:=k2;exact Heap.lt_size q
  have hfr:H s.heap.objs.size=none:=I.hok.fresh (Pz _)
  have I0:Inv X pins σ (upd H s.heap.objs.size (.tup [x,y])) { s with heap:=s.heap.push { cls:=.type "tuple",data:=.seq #[u,u2] },toks:=s.toks } :=
   I.laid (t':=s.toks) (fun b u e=>Heap.get?_push_of_some _ e) (Pz _) ⟨by show 2<=sizeLine;decide,[u,u2],.cons ru (.cons ru2 .nil),⟨_,Heap.get?_push_size _ rfl,rfl,_,rfl⟩⟩
  have hfb:∀ c∈[z,TI,TO,i1,i2],c<s.heap.objs.size:=fun c hc=>by
   simp only[Pw,QH,or_false]at hc
   rcases hc with rfl | rfl | rfl | rfl | rfl<;>assumption
  have hn:∀ c∈[z,TI,TO,i1,i2],upd H s.heap.objs.size (.tup [x,y]) c=none:=fun c hc=>by
   rw[ao (Qk (hfb c hc))]
   exact(hf c hc).1
  have I2:Inv X pins σ (upd H s.heap.objs.size (.tup [x,y])) { s with heap:=h2,toks:=s.toks }:=Inv.turnedL (s:={ s with heap:=s.heap.push { cls:=.type "tuple",data:=.seq #[u,u2] },toks:=s.toks }) (h':=h2) I0 (t':=s.toks) (fp:=[z,TI,TO,i1,i2]) (fun c o hc q=>by
   have n1:c≠z:=fun e=>hc (by simp[e])
   have n3:c≠TO:=fun e=>hc (by simp[e])
   have n4:c≠i1:=fun e=>hc (by simp[e])
   have n5:c≠i2:=fun e=>hc (by simp[e])
   refine(hs2'.2 c n1).trans ?_
   rcases Heap.get?_push_cases q with⟨z1,z2⟩ | q
   ·rw[z1,z2];exact a5
   ·exact hk c o n1 n3 n4 n5 q) fun c hc=>⟨hn c hc,(hf c hc).2⟩
  refine⟨.ref s.heap.objs.size,_,I2,rfl,⟨s.heap.objs.size,x,y,hfr,rfl,rfl,fun zs h=>by rw[I.list_inj h hq];exact hx,fun zs h=>by rw[I.list_inj h hr];exact hy⟩,?_,hn⟩
  refine⟨g1,(hs2'.2 TI D.TIz).trans (hk _ _ D.TIz D.TITO D.TIi1 D.TIi2 kI),⟨_,_,(hs2'.2 TO D.TOz).trans a2⟩,a3.at fun o q=>(hs2'.2 i1 D.i1z).trans q,a4.at fun o q=>(hs2'.2 i2 D.i2z).trans q⟩
 done:=by
  intro X hP hw hK hc i pins s σ H E I hf st hg
  subst hP hw hK
  obtain⟨xs,ys,hq,hr,hx⟩:=hg
  obtain⟨its,rv,p,hz⟩:=I.list hq
  obtain⟨its2,rv2,p2,hz2⟩:=I.list hr
  obtain⟨kz,kI,⟨o1,o2,kO⟩,k1,k2⟩:=st
  have hl:=rv.length
  have hl2:=rv2.length
  refine wpAny_pyNext_zip_end (I.ok.hd hc) D kz kI kO k1 k2 p.isList p2.isList ?_ fun h' eb=>⟨rfl,Inv.turnedL I (t':=s.toks) (fun c o hc e=>eb c o (fun e=>hc (by simp[e])) (fun e=>hc (by simp[e])) (fun e=>hc (by simp[e])) (fun e=>hc (by simp[e])) e) hf⟩
  rcases hx with hx | hx
  ·exact .inl (by simp;omega)
  ·exact .inr (by simp;omega)
 self:=fun _ _ _ _ _ st h=>wpAny_pyIter_zip st.1 h
theorem cX(x y:Nat)(h:¬ x=y):@Ne Addr x y:=h
theorem Hk(n a b:Nat)(ha:a<n)(hb:b<n):ZipApart (n+4) (n+2) (n+3) n (n+1) a b :=
 ⟨cX _ _ (by omega),cX _ _ (by omega),cX _ _ (by omega),cX _ _ (by omega),cX _ _ (by omega),cX _ _ (by omega),cX _ _ (by omega),cX _ _ (by omega),cX _ _ (by omega),
  cX _ _ (by omega),cX _ _ (by omega),cX _ _ (by omega),cX _ _ (by omega),cX _ _ (by omega),cX _ _ (by omega),cX _ _ (by omega),cX _ _ (by omega),cX _ _ (by omega)⟩
section
variable{X:Cx}
def iZip(K:Pt)(ta:TA):TI:=fun σ H R=>ta σ H fun vs H1=>∃ a b,vs = [.ref a,.ref b]/\(∃ xs,SqL K H1 a xs)/\(∃ ys,SqL K H1 b ys)/\R (Itz K a b) H1
theorem pi_zip{l1 l2:Expr}{ta:TA}{es:List Expr}{k:Nat}{tp p pos:Pos} (hg:Gl X "zip") (hm:X.mg "zip" = none) (ha:PA X [l1,l2] ta) (hs:starEach [l1,l2] X.env=(false,eval l1 X.env)::starEach [l2] X.env:=by rfl) (hs2:(backTo pos (starEach [l2] X.env)).any (·.1)=false:=by rfl) :
  PI X (.Tuple es k tp) (.Call (.Name "zip" p) [l1,l2] [] pos) (iZip X.K ta):=by
 intro pins s σ H R I h
 refine Call_ (l7 I hg hm bt_zip (PyProof.Rows.callWith_type1 (thn (ha pos pins s σ H _ I h) fun us s1 ⟨vs,H1,I1,r1,q1⟩=>?_) hs hs2))
 obtain⟨a,b,e,⟨xs,hq⟩,⟨ys,hr⟩,q⟩:=q1
 subst e
 obtain⟨u,u2,rfl,ru,ru2⟩:=Nr r1
 cases ru
 cases ru2
 obtain⟨its,rv,p,hz⟩:=I1.list hq
 obtain⟨its2,rv2,p2,hz2⟩:=I1.list hr
 have la:a<s1.heap.objs.size:=by obtain⟨_,_,q,_⟩:=p;exact Heap.lt_size q
 have lb:b<s1.heap.objs.size:=by obtain⟨_,_,q,_⟩:=p2;exact Heap.lt_size q
 refine call_zip_2 p.isList p2.isList fun h' kz kI kO k1 k2 hsz hk=>?_
 refine wpAny_pyIter_zip kz ?_
 refine⟨s1.heap.objs.size+4,[s1.heap.objs.size+4,s1.heap.objs.size+2,s1.heap.objs.size+3,s1.heap.objs.size,s1.heap.objs.size+1],_,_,H1,rfl,I1.kept (t':=s1.toks) hk,
  K9 a b (s1.heap.objs.size+4) (s1.heap.objs.size+2) (s1.heap.objs.size+3) s1.heap.objs.size (s1.heap.objs.size+1) (Hk _ a b la lb),⟨kz,kI,⟨_,_,kO⟩,k1,k2⟩,fun c hc=>?_,q⟩
 have hb':s1.heap.objs.size<=c:=by
  simp only[Pw,QH,or_false]at hc
  rcases hc with rfl | rfl | rfl | rfl | rfl
  ·exact Sh _ _
  ·exact Sh _ _
  ·exact Sh _ _
  ·exact Pz _
  ·exact Sh _ _
 exact I1.fpOk hb' (I1.hok.fresh hb')
end
theorem Kd{K:Pt}{a b:Addr}{xs zs:List V}{g:TG}{tt:TT}{te:TE}{n:Nat}{fv:St}{H1:Hp}{QQ:List V->Hp->Prop}(Pv:Nat->List V->Hp->Prop)(hz:xs.length<=sizeLine)(he:zs.length=xs.length)(h0:Pv 0 [] H1)(hl:∀ i ys H,i<=xs.length->Pv i ys H->SqL K H a xs/\SqL K H b zs)
  (hs:∀ i x z ys H T,xs[i]?=some x->zs[i]?=some z->Pv i ys H->H T=none->g (.ref T) (PU n none++fv) (upd H T (.tup [x,z])) fun σ2 H2=>σ2.drop n=fv/\tt σ2 H2 fun b H3=>if b=true then te σ2 H3 (fun y H4=>Pv (i+1) (ys++[y]) H4) else Pv (i+1) ys H3) (hd:∀ ys H,Pv xs.length ys H->QQ ys H) (hy:∀ i ys H,Pv i ys H->ys.length<=i)
  : qd g tt te n fv (Itz K a b) H1 QQ:=by
 refine⟨fun i m ys H=>m=xs.length-i/\i<=xs.length/\Pv i ys H,⟨xs.length,by simp,QJ _,h0⟩,?_⟩
 rintro i m ys H ⟨rfl,hi,p⟩
 have q:=hl i ys H hi p
 have hyl:=hy i ys H p
 refine⟨by omega,?_⟩
 by_cases hlt:i<xs.length
 ·have hlz:i<zs.length:=by omega
  refine .inr ⟨⟨xs,zs,xs[i],zs[i],q.1,q.2,by simp[hlt],by simp[hlz]⟩,fun zs H2=>Pv (i+1) zs H2,fun zs H2 p2=>⟨xs.length-(i+1),by omega,rfl,hlt,p2⟩,fun v H' y=>?_⟩
  obtain⟨T,x,z,hT,rfl,rfl,y1,y2⟩:=y
  exact hs i x z ys _ T (y1 xs q.1) (y2 zs q.2) p hT
 ·have e:i=xs.length:=by omega
  subst e
  exact .inl ⟨⟨xs,zs,q.1,q.2,.inl (Pz _)⟩,hd ys H p⟩
section
variable{X:Cx}
def rMinL(K:Pt):List V->Hp->VK->Prop:=fun xs H Q=>∃(p:Addr)(ns:List Int),xs = [.ref p]/\SqL K H p (ns.map V.int)/\0<ns.length/\∀ m:Int,m∈ns->(∀ x∈ns,m<=x)->Q (.int m) H
theorem Kj(hc:X.calm=true):pH X (.builtin "min") (rMinL X.K):=by
 intro pins s σ H xs us Q I r h
 obtain⟨p,ns,rfl,hq,hne,q⟩:=h
 obtain⟨u,rfl,ru⟩:=ym r
 cases ru
 obtain⟨its,rv,pl,hz⟩:=I.list hq
 have hi:=EN rv
 obtain⟨zs,e⟩:=hi.allInts.items
 have hl:s.heap.IsList p (intItems zs):=by rw[← e];exact pl.isList
 have e1:ns=zs.toList.map (·.1):=by
  rw[← nums_intItems,← e]
  exact(show numsOf its.toArray.toList=ns from hi.numsOf).symm
 subst e1
 rw[PB,Rp]at hne
 refine min_intList (I.ok.hd hc) hl hne fun v h' tk hv hk=>?_
 obtain⟨t,rfl⟩:=intItems_at hv
 obtain⟨h1,h2⟩:=argBest_lt (numAt zs) (zs.size-1)
 refine⟨.int _,H,I.kept (t':=tk) hk,⟨t,rfl⟩,q _ ?_ fun a ha=>?_⟩
 ·rw[numAt_eq];exact PySem.getD_mem (by rw[PB,Rp];omega)
 ·obtain⟨j,hj,rfl⟩:=PySem.mem_getD ha
  rw[PB,Rp]at hj
  rw[← numAt_eq];exact h2 j (by omega)
end
end L2
namespace L2
open PySem PySem.Spec PyProof.Rows
def LsAt{α:Type}(R:Hp->V->α->Prop)(H:Hp)(ys:List V)(xs:List α):Prop:=ys.length=xs.length/\∀(i:Nat)(x:α),xs[i]?=some x->∃ y,ys[i]?=some y/\R H y x
theorem LsAt.nil{α:Type}{R:Hp->V->α->Prop}{H:Hp}:LsAt R H [] []:=⟨rfl,fun i x e=>by simp at e⟩
theorem LsAt.imp{α:Type}{R R':Hp->V->α->Prop}{H H':Hp}{ys:List V}{xs:List α}(h:LsAt R H ys xs)(m:∀ y x,R H y x->R' H' y x):LsAt R' H' ys xs:=⟨h.1,fun i x e=>by
 obtain⟨y,a,b⟩:=h.2 i x e
 exact⟨y,a,m y x b⟩⟩
theorem LsAt.snoc{α:Type}{R:Hp->V->α->Prop}{H:Hp}{ys:List V}{xs:List α}{y:V}{x:α}(h:LsAt R H ys xs)(r:R H y x):LsAt R H (ys++[y]) (xs++[x]):=by
 refine⟨by rw[Px,Px,h.1];rfl,fun j k e=>?_⟩
 by_cases hj:j<xs.length
 ·rw[Py hj]at e
  obtain⟨p,a1,a2⟩:=h.2 j k e
  exact⟨p,by rw[Py (by rw[h.1];exact hj)];exact a1,a2⟩
 ·rw[Pu (by omega)]at e
  have hj2:j=xs.length:=by
   have:=(Pp.mp e).1
   rw[PY]at this
   omega
  subst hj2
  rw[P1]at e
  cases e
  exact⟨y,by rw[← h.1,Pu (Pz _),P1];rfl,r⟩
theorem LsAt.get{α:Type}{R:Hp->V->α->Prop}{H:Hp}{ys:List V}{xs:List α}{i:Nat}{y:V}(h:LsAt R H ys xs)(e:ys[i]?=some y):∃ x,xs[i]?=some x/\R H y x:=by
 have hi:i<xs.length:=by rw[← h.1];exact(Pp.mp e).1
 obtain⟨z,a,b⟩:=h.2 i _ (Pq hi)
 rw[e]at a
 cases a
 exact⟨_,Pq hi,b⟩
end L2
namespace L2
open PySem PySem.Spec PyProof.Rows
section
variable{X:Cx}
end
section
variable{X:Cx}{tg:Expr}
end
section
variable{P:Program}{w:World}{K:Pt}{mg:Str->Option Value}{base:Heap}
end
end L2
namespace L2
open PySem PySem.Spec PyProof.Rows
section
variable{X:Cx}
end
end L2
namespace L2
open PySem PySem.Spec PyProof.Rows
section
variable{prog:Program}{w:World}{A:Around}{E:Value->Shared->Prop}{s:Shared}{z TI TO i1 i2 l1 l2:Addr}{f0:Value}{f1:Bool}
end
section
variable{X:Cx}
end
end L2
namespace L2
open PySem PySem.Spec PyProof.Rows
section
variable{X:Cx}
end
end L2
namespace L2
open PySem PySem.Spec PyProof.Rows
section
variable{prog:Program}{w:World}{A:Around}{E:Value->Shared->Prop}{s:Shared}{d:Addr}
end
section
variable{X:Cx}{pins:List (Addr×Obj)}{σ:St}{H:Hp}{s:Shared}{d:Addr}{u:HO}{o:Obj}
end
section
variable{X:Cx}
end
end L2
namespace L2
open PySem PySem.Spec PyProof.Rows
abbrev uC(p:Pos):Arguments:={ posonlyargs:=[],args:=[{ arg:="each",annotation:=none,pos:=p }],vararg:=none,kwonlyargs:=[],kw_defaults:=[],kwarg:=none,defaults:=[] }
abbrev Dc:Scope:={ kind:=.function,names:=[("each",.local),("told",.free)],isGenerator:=false,isCoroutine:=false,more:=[] }
abbrev Ge(p1 p2 p3:Pos):Expr:=.Subscript (.Name "told" p1) (.Name "each" p2) p3
section
variable{prog:Program}{w:World}{A:Around}{E:Value->Shared->Prop}{s:Shared}
theorem OG{f c' ct t:Addr}{qual:Str}{p0 p1 p2 p3:Pos}{pm ctv v:Value}{its:Array Value}{k:Int}{tk:Tok}{Q:Value->Shared->Prop}
  (hroom:A.depth<recursionLimit) (hf:s.heap.get? f=some (Sk "<lambda>" qual (uC p0) (Ge p1 p2 p3) Dc [("told",ct)] pm c' ctv)) (hcr:s.heap.CodeRec (.ref c') qual) (lim:s.heap.NoLimit)
  (hc:s.heap.IsCell ct (some (.ref t))) (hl:s.heap.IsList t its) (k0:0<=k) (k63:k<2^63) (hit:its[k.toNat]?=some v)
  (hQ:∀ h' tk',(∀ b o,s.heap.get? b=some o->h'.get? b=some o)->Q v { s with heap:=h',toks:=tk' }) :
  wpAny (model prog w) A (call (.ref f) [.int k tk]) Q E s:=by
 refine wpAny_call (PySem.W.kla_callFunE hroom hf rfl rfl rfl rfl hcr ?_)
 have hb:bindArgs (PySem.W.kla_fn "<lambda>" qual (uC p0) (Ge p1 p2 p3) Dc [("told",ct)] pm (.ref c') ctv) ⟨[.int k tk],[]⟩=(pure [(("each" : Str),Value.int k tk)]:Sem (List (Str×Value))):=rfl
 rw[hb]
 refine wpAny_pure (wpAny_newFunctionEnv (fun x hx=>?_) (fun x hx=>?_) (fun h1 hns hsb=>?_) rfl)
 ·have hx':x=(("each" : Str),NameKind.local)∨x=(("told" : Str),NameKind.free):=by simpa using hx
  rcases hx' with rfl | rfl<;>exact fun z=>by cases z
 ·rw[Qy.mp hx]
  rfl
 have kp:∀ b o,s.heap.get? b=some o->h1.get? b=some o:=fun b o e=>hsb.extBut b o (Qk (Heap.lt_size e)) (Heap.get?_push_of_some _ e)
 refine⟨lim.keeps kp,PySem.W.kla_codeExpr ?_⟩
 refine Subscript_ (wpAny_Name (wpAny_loadName_free (c:=ct) rfl rfl rfl (hc.keeps kp) ?_))
 refine wpAny_Name (wpAny_loadName_local rfl rfl hns rfl ?_)
 exact item_listR (hl.at fun o e=>kp _ _ e) k0 k63 hit (hQ _ _ kp)
abbrev Kp(h h':Heap):Prop:=∀ b o,h.get? b=some o->h'.get? b=some o
theorem Kp.but{g h h':Heap}{I:Addr}(k:Kp g h)(n:g.get? I=none)(m:∀ b o,b∉[I]->h.get? b=some o->h'.get? b=some o):Kp g h':=fun b o e=>m b o (fun z=>by rw[Qy.mp z,n]at e;cases e) (k b o e)
theorem Kp.same{g h h':Heap}{S:Addr}(k:Kp g h)(n:g.get? S=none)(m:Heap.SameBut S h h'):Kp g h':=fun b o e=>(m.2 b (fun z=>by rw[z,n]at e;cases e)).trans (k b o e)
theorem L3{J S q:Addr}{fp:List Addr}{n:Nat}{P:Nat->Value->Prop}{St:Nat->Heap->Prop}{g:Heap}{R:Result->Shared->Prop}(W:Walks prog w A.in1 J fp [J] n P St)(gJ:g.get? J=none)(gS:g.get? S=none)(hSJ:S≠J)(hSf:S∉fp)
  (turn:∀ i v,i<n->P i v->∀(h:Heap)(tk:Nat)(Q:Value->Shared->Prop)(E:Value->Shared->Prop),Kp g h->(∀ nv t h' tk',Kp h h'->Q (.int nv t) { s with heap:=h',toks:=tk' })->wpAny (model prog w) A.in1 (call (.ref q) [v]) Q E { s with heap:=h,toks:=tk })
  (fin:∀ i v h' tk',i<n->P i v->Kp g h'->R (.ok (.ret v)) { s with heap:=h',toks:=tk' }) :
  ∀(r j i:Nat)(h:Heap)(tk:Nat)(vb:Value)(nb:Int)(tb:Tok)(c:Nat),n-(j+1)=r->j+1<=n->Kp g h->h.get? S=some (seqObj "list" #[vb,.int nb tb] c)->St (j+1) h->i<n->P i vb ->
   codeAny (model prog w) A (.builtin "min.loop" ⟨[.ref J,.ref q,.ref S],[]⟩) R { s with heap:=h,toks:=tk }:=by
 have nm:(toString "min"++toString ".loop" : String) = "min.loop":=by decide
 intro r
 induction r with
 |zero =>
  intro j i h tk vb nb tb c er hj kg hS st hi hP
  have ej:j+1=n:=by omega
  refine codeAny_builtin Rb ?_;rw[Around.under_plainId Qq _]
  refine wpAny_bind (m:=seqItems? (.ref S)) (wpAny_seqItems hS rfl ?_)
  show wpAny _ A.in1 (tryCatch (pyNext (.ref J)) _ >>= _) _ _ _
  refine wpAny_bind (wpAny_tryCatch (W.done _ _ _ (by rw[← ej];exact st) fun h' tk' kk=>?_))
  have kg':=kg.but gJ kk
  have hS':=kk S _ (by simpa using hSJ) hS
  have su:=Heap.SameBut.update h' S (Obj.mapSeq fun _=>(#[]:Array Value))
  refine wpAny_bind (m:=updateSeq S fun _=>#[]) (wpAny_updateSeq hS' rfl (wpAny_bind (wpAny_letGo (wpAny_pure ?_))))
  exact fin i vb _ _ hi hP (kg'.same gS su)
 |succ r ih =>
  intro j i h tk vb nb tb c er hj kg hS st hi hP
  have lt:j+1<n:=by omega
  refine codeAny_builtin Rb ?_;rw[Around.under_plainId Qq _]
  refine wpAny_bind (m:=seqItems? (.ref S)) (wpAny_seqItems hS rfl ?_)
  show wpAny _ A.in1 (tryCatch (pyNext (.ref J)) _ >>= _) _ _ _
  refine wpAny_bind (wpAny_tryCatch (W.item (j+1) _ _ _ lt st fun v h1 tk1 hv st1 k1=>?_))
  have kg1:=kg.but gJ k1
  have hS1:=k1 S _ (by simpa using hSJ) hS
  show wpAny _ A.in1 (tryCatch (holding [v] (call (.ref q) [v])) _ >>= _) _ _ _
  refine wpAny_bind (wpAny_tryCatch (wpAny_holding (turn (j+1) v lt hv h1 tk1 _ _ kg1 fun nv t h2 tk2 k2=>?_)))
  have kg2:Kp g h2:=fun b o e=>k2 b o (kg1 b o e)
  have hS2:=k2 _ _ hS1
  have st2:=W.frame _ _ h2 st1 fun b _ o e=>k2 b o e
  show wpAny _ A.in1 (tryCatch (holding [v,.int nv t] (richCompare .Lt (.int nv t) (.int nb tb) >>= _)) _ >>= _) _ _ _
  refine wpAny_bind (wpAny_tryCatch (wpAny_holding (wpAny_bind (CmpOf.ints_lt (prog:=prog) (w:=w) (A:=A.in1) (P:=fun(i:Nat) v=>∃ t,v=.int (if i=0 then nv else nb) t) (fun i=>if i=0 then nv else nb) (fun i v h=>h) 0 1 _ _ _ _ _ ⟨t,rfl⟩ ⟨tb,rfl⟩ ?_))))
  refine wpAny_bind (wpAny_holding (wpAny_truthy_bool (wpAny_bind (wpAny_letGo (wpAny_pure ?_)))))
  by_cases cc:nv<nb
  ·have su:=Heap.SameBut.update h2 S (Obj.mapSeq fun _=>#[v,.int nv t])
   obtain⟨c2,hc2⟩:∃ c2,(h2.update S (Obj.mapSeq fun _=>#[v,.int nv t])).get? S=some (seqObj "list" #[v,.int nv t] c2):=⟨_,get?_update_seq hS2 fun _=>#[v,.int nv t]⟩
   simp[cc]
   refine wpAny_bind (wpAny_updateSeq hS2 rfl (wpAny_bind (wpAny_letGo ?_)))
   refine wpAny_pure ⟨plainId_quiet Qq _,ih (j+1) (j+1) _ _ v nv t c2 (by omega) lt (kg2.same gS su) hc2 (W.frame _ _ _ st2 fun b hb o e=>(su.2 b (fun z=>hSf (z▸hb))).trans e) lt hv⟩
  ·simp[cc]
   refine wpAny_bind (wpAny_letGo (wpAny_pure ?_));refine⟨plainId_quiet Qq _,ih (j+1) i _ _ vb nb tb c (by omega) lt kg2 hS2 st2 hi hP⟩
theorem OB{d q:Addr}{KK:Type} [DecidableEq KK] {knd:PySem.KeyKind prog w KK} {kvs:List (KK×Value)} {ep:Nat} {Q:Value->Shared->Prop} (hh:A.handled=none) (hd:Heap.DictAt knd s.heap d kvs ep) (ds:(d == sysModules)=false) (hne:0<kvs.length)
  (turn:∀(i:Nat)(v:Value)(k:KK)(x:Value),kvs[i]?=some (k,x)->knd.is k v=true->∀(h:Heap)(tk:Nat)(Q:Value->Shared->Prop)(E:Value->Shared->Prop),Kp s.heap h->(∀ nv t h' tk',Kp h h'->Q (.int nv t) { s with heap:=h',toks:=tk' })->wpAny (model prog w) A.in1 (call (.ref q) [v]) Q E { s with heap:=h,toks:=tk })
  (fin:∀(i:Nat)(v:Value)(k:KK)(x:Value)(h':Heap)(tk':Nat),kvs[i]?=some (k,x)->knd.is k v=true->Kp s.heap h'->Q v { s with heap:=h',toks:=tk' }) :
  wpAny (model prog w) A (call (.builtin "min") [.ref d] [(Str.ofString "key",.ref q)]) Q E s:=by
 have nm:(toString "min"++toString ".loop" : String) = "min.loop":=by decide
 obtain⟨od,_,hod,_⟩:=id hd
 have dl:d<s.heap.objs.size:=Heap.lt_size hod
 refine kmk_tree PySem.F.kind_min PySem.F.plain_min PySem.F.entry_min (kmk_min_key _ _) ?_
 show wpAny _ A.in1 (Builtin.Builtins.bindParams "min" ["key","default"] 0 ⟨[],[(Str.ofString "key",.ref q)]⟩ >>= _) _ _ s
 refine wpAny_bind (wpAny_of_eq (show Builtin.Builtins.bindParams "min" ["key","default"] 0 ⟨[],[(Str.ofString "key",.ref q)]⟩=pure [some (.ref q),none] from rfl) (wpAny_bind (wpAny_pure (wpAny_bind (wpAny_pyIter_dict ds hd ?_)))))
 refine wpAny_bind (wpAny_newList ?_ (QJ _));rw[nm]
 obtain⟨ob,eob⟩:∃ ob:Obj,ob={ cls:=Value.type "dict_keyiterator",data:=Data.fields #[Value.ref d,Value.int 0 0,Value.int (kvs.length:Int) 0,Value.int (ep:Int) 0] }:=⟨_,rfl⟩
 rw[← eob]
 have sz:(s.heap.push ob).objs.size=s.heap.objs.size+1:=by rw[Heap.size_push]
 have neS:(s.heap.push ob).objs.size≠s.heap.objs.size:=by omega
 have neD:d≠s.heap.objs.size:=Qk dl
 have fr:∀ b,s.heap.objs.size<=b->s.heap.get? b=none:=fun b hb=>Heap.get?_none_of_le hb
 have kp:Kp s.heap ((s.heap.push ob).push (seqObj "list" #[] 0)):=fun b o e=>Heap.get?_push_of_some _ (Heap.get?_push_of_some _ e)
 have hS:((s.heap.push ob).push (seqObj "list" #[] 0)).get? (s.heap.push ob).objs.size=some (seqObj "list" #[] 0):=Heap.get?_push_size _ rfl
 have hJ:((s.heap.push ob).push (seqObj "list" #[] 0)).get? s.heap.objs.size=some ob:=Heap.get?_push_of_some _ (Heap.get?_push_size _ (by rw[eob];rfl))
 have W:=Walks.dictKeys (prog:=prog) (w:=w) (knd:=knd) (A:=A.in1) hh s.heap.objs.size d neD kvs ep
 have turn':∀(i:Nat)(v:Value),i<kvs.length->(∃ k x,kvs[i]?=some (k,x)/\knd.is k v=true)->∀(h:Heap)(tk:Nat)(Q:Value->Shared->Prop)(E:Value->Shared->Prop),Kp s.heap h->(∀ nv t h' tk',Kp h h'->Q (.int nv t) { s with heap:=h',toks:=tk' })->wpAny (model prog w) A.in1 (call (.ref q) [v]) Q E { s with heap:=h,toks:=tk }:=fun i v _ ⟨k,x,e1,e2⟩=>turn i v k x e1 e2
 refine wpAny_pure ⟨plainId_quiet Qq _,codeAny_builtin Rb ?_⟩;rw[Around.under_plainId Qq _]
 refine wpAny_bind (m:=seqItems? (.ref (s.heap.push ob).objs.size)) (wpAny_seqItems hS rfl ?_)
 show wpAny _ A.in1 (tryCatch (pyNext (.ref s.heap.objs.size)) _ >>= _) _ _ _
 refine wpAny_bind (wpAny_tryCatch (W.item 0 _ _ _ hne ⟨⟨ob,hJ,by rw[eob],by rw[eob];rfl⟩,hd.at' fun o e=>kp _ _ e⟩ fun v h1 tk1 hv st1 k1=>?_))
 have kg1:=kp.but (fr _ (Pz _)) k1
 have hS1:=k1 _ _ (by simpa using neS) hS
 show wpAny _ A.in1 (tryCatch (holding [v] (call (.ref q) [v])) _ >>= _) _ _ _
 refine wpAny_bind (wpAny_tryCatch (wpAny_holding (turn' 0 v hne hv h1 tk1 _ _ kg1 fun nv t h2 tk2 k2=>?_)))
 have kg2:Kp s.heap h2:=fun b o e=>k2 b o (kg1 b o e)
 have hS2:=k2 _ _ hS1
 have st2:=W.frame _ _ h2 st1 fun b _ o e=>k2 b o e
 have su:=Heap.SameBut.update h2 (s.heap.push ob).objs.size (Obj.mapSeq fun _=>#[v,.int nv t])
 obtain⟨c2,hc2⟩:∃ c2,(h2.update (s.heap.push ob).objs.size (Obj.mapSeq fun _=>#[v,.int nv t])).get? (s.heap.push ob).objs.size=some (seqObj "list" #[v,.int nv t] c2):=⟨_,get?_update_seq hS2 fun _=>#[v,.int nv t]⟩
 have nf:(s.heap.push ob).objs.size∉[s.heap.objs.size,d]:=fun z=>by
  rcases Pw.mp z with z | z
  ·exact neS z
  ·have z':=Qy.mp z
   exact absurd dl (by rw[← z',sz];exact SN (Rj _))
 refine wpAny_bind (m:=updateSeq _ fun _=>#[v,.int nv t]) (wpAny_updateSeq hS2 rfl ?_);rw[nm]
 refine wpAny_pure ⟨plainId_quiet Qq _,L3 W (fr _ (Pz _)) (fr _ (by omega)) neS nf turn' (fun i v h' tk' _ ⟨k,x,e1,e2⟩ kk=>fin i v k x h' tk' e1 e2 kk) _ 0 0 _ _ v nv t c2 rfl hne (kg2.same (fr _ (by omega)) su) hc2 (W.frame _ _ _ st2 fun b hb o e=>(su.2 b (fun z=>nf (z▸hb))).trans e) hne hv⟩
end
section
variable{X:Cx}{pins:List (Addr×Obj)}{σ:St}{H:Hp}{s:Shared}{h':Heap}{T:Addr}{ps more:Array Value}{t':Nat}
theorem Inv.tab(I:Inv X pins σ H s)(e:H T=some (.tbl ps))(hx:∀ b o,b≠T->s.heap.get? b=some o->h'.get? b=some o)(hT:h'.get? T=some { cls:=.none,data:=.fields (ps++more) }) :
  Inv X pins σ (upd H T (.tbl (ps++more))) { s with heap:=h',toks:=t' }:=by
 have ne:∀{b:Addr}{o:Option HO},H b=o->o≠some (.tbl ps)->b≠T:=fun q n z=>n (by rw[← q,z,e])
 refine I.un ⟨fun b o g n _ _=>hx b o (ne n (by simp)) g,fun b o g n _ _=>⟨o.slots,hx b o (ne n (by simp)) g⟩,fun b o g n _=>?_,fun b o g _=>?_,fun b xs q=>?_,fun b o u q=>?_,fun b p q=>?_⟩ fun b u q=>?_
 ·rw[ao (ne n (by simp))]
  exact n
 ·by_cases z:b=T
  ·rw[z];exact⟨_,hT⟩
  ·exact⟨o,hx b o z g⟩
 ·rw[ao (ne q (by simp))]
  exact q
 ·rw[ao (ne q (by simp))]
  exact q
 ·by_cases z:b=T
  ·subst z
   rw[e]at q
   cases q
   exact⟨more,af⟩
  ·exact⟨#[],by rw[ao z,q];simp⟩
 ·by_cases z:b=T
  ·subst z
   rw[af]at q
   cases q
   exact hT
  ·rw[ao z]at q
   refine(I.hok b u q).stay (fun c o hc g=>hx c o (fun y=>?_) g) (fun c g=>?_) fun c o g=>?_
   ·rcases hc with y2 | y2
    ·exact z (y2▸y)
    ·rw[y,e]at y2;cases y2
   ·rw[ao (ne g (by simp))];exact g
   ·rw[ao (ne g (by simp))];exact g
end
def codO(c:Addr)(q:Str):HO:=.ext fun h=>h.CodeRec (.ref c) q
def Tb(q:Str)(lp:Pos)(T:Addr)(H:Hp):Prop:=H T=some (.tbl #[])∨∃ c,H T=some (.tbl #[rawInt lp.line,rawInt lp.col,.ref c])/\H c=some (codO c q)
def TbS(T:Addr)(H H':Hp):Prop:=∀ b o,b≠T->H b=some o->H' b=some o
structure Lam(X:Cx)(c T ct:Addr)(lq:Str):Prop where
 code:X.env.code=.ref c
 hd:Rr X.base c T
 bm:∃ bm o,X.mg "__builtins__" = some (.ref bm)/\bm≠builtinsNs/\X.base.get? bm=some o/\o.cls=.type "module"/\o.dict=some builtinsNs/\o.data=.plain
 kind:X.env.kindOf "told" = some .cell
 cl:closureFor Dc X.env=pure [(("told" : Str),ct)]
 cell:X.env.cells.lookup ("told" : Str)=some ct
 q:X.env.qual++"<lambda>" = lq
theorem OJ{κ:Type}:∀{kvs:List (κ×V)}{vs:List (κ×Value)},KV kvs vs->∀{i:Nat}{k:κ}{y:Value},vs[i]?=some (k,y)->∃ kv,kv∈kvs/\k=kv.1
 |_,_,.nil,i,k,y,e=>by simp at e
 |p::_,q::_,.cons h r,0,k,y,e=>by
  cases e
  exact⟨p,PH ..,h.1.symm⟩
 |p::_,_::_,.cons _ r,i+1,k,y,e=>by
  obtain⟨kv,m,ek⟩:=OJ r (show _=some (k,y) from e)
  exact⟨kv,PD _ m,ek⟩
def tMinK(lq:Str)(lp:Pos)(T:Addr)(it:Nat)(t:TA):TE:=fun σ H Q=>t σ H fun vs H1=>∃ d kvs a xs,vs = [.ref d]/\H1 d=some (.dK kvs)/\kvs≠[]/\σ[it]?=some (some (.ref a))/\H1 a=some (.lst xs)/\Tb lq lp T H1 /\
 (∀ kv∈kvs,∃(k:Nat)(n:Int),kv.1=.inl (k:Int)/\xs[k]?=some (.int n))/\∀ kv∈kvs,∀ H',TbS T H1 H'->Tb lq lp T H'->Q (kV kv.1) H'
theorem NT{X:Cx}{c T ct:Addr}{lq x:Str}{it:Nat}{t:TA}{np xp p0 p1 p2 p3 lp kp pos:Pos}(L:Lam X c T ct lq)(hx:X.ex = [])(hc:X.calm=true)(hr:Room 0 X.A) (hN:X.N[it]?=some ("told" : Str)) (hv:Vis X.env.scope "told") (hg:Gl X "min") (hm:X.mg "min" = none) (ha:PA X [.Name x xp] t) :
  PE X (.Call (.Name "min" np) [.Name x xp] [⟨some "key",.Lambda (uC p0) (Ge p1 p2 p3) Dc lp,kp⟩] pos) (tMinK lq lp T it t):=by
 intro pins s σ H Q I h
 refine wpAny_Call_Name_kw (l7 I hg hm E8 ?_)
 refine callWith_kw (thn (ha pos pins s σ H _ I h) fun us s1 ⟨vs,H1,I1,r1,q1⟩=>?_)
 obtain⟨d,kvs,a,xs,rfl,hd,hne,hσ,hl,tb,hk,q⟩:=q1
 obtain⟨u,rfl,ru⟩:=ym r1
 cases ru
 refine kws_cons (PySem.W.kla_eval rfl ?_)
 rw[L.q]
 have lp':0<kvs.length:=List.length_pos_iff.mpr hne
 have go:∀(H2:Hp)(s2:Shared)(f c':Addr)(pm ctv:Value),Inv X pins σ H2 s2->s2.heap.get? f=some (Sk "<lambda>" lq (uC p0) (Ge p1 p2 p3) Dc [("told",ct)] pm c' ctv)->s2.heap.CodeRec (.ref c') lq->H2 d=some (.dK kvs)->H2 a=some (.lst xs)->(∀ kv∈kvs,Q (kV kv.1) H2) ->
   wpAny (model X.prog X.w) X.A (call (.builtin "min") [.ref d] [(Str.ofString "key",.ref f)]) (EP X pins σ Q) X.xe s2:=by
  intro H2 s2 f c' pm ctv I2 hf hcr hd2 hl2 q2
  obtain⟨_,ds,vs,kv2,od,es,ep,hod⟩:=Gz I2.hok hd2
  have vl:=kv2.length
  refine OB (knd:=bN X.prog X.w) (kvs:=vs) (ep:=ep) (I2.ok.hd hc) ⟨od,es,hod⟩ ds (by omega) ?_ ?_
  ·intro i v k y e1 e2 h' tk Q' E' kk hQ'
   obtain⟨⟨k1,w1⟩,m1,ek⟩:=OJ kv2 e1
   obtain⟨j,n,ej,hn⟩:=hk _ m1
   have ek':k=.inl (j:Int):=ek.trans ej
   subst ek'
   have sh:∃ t,v=Value.int (j:Int) t:=by
    rcases bh (show zJ (.inl (j:Int)) v=true from e2) with⟨i',t',z1,z2⟩ | ⟨_,_,z1,_⟩
    ·cases z1;exact⟨t',z2⟩
    ·cases z1
   obtain⟨tv,rfl⟩:=sh
   obtain⟨hz,its,ncap,rv,hgl⟩:=I2.hok a _ hl2
   obtain⟨wv,hwv,rwv⟩:=rv.get hn
   obtain⟨tn,rfl⟩:=rwv
   have jl:j<xs.length:=(Pp.mp hn).1
   have l63:=uB
   obtain⟨m,hns,hlook⟩:=I2.loc
   obtain⟨u,ru,lk⟩:=hlook it "told" (.ref a) hN hσ hv
   cases ru
   have hcell:s2.heap.IsCell ct (some (.ref a)):=by
    rcases lk with⟨kl,_⟩ | ⟨_,c2,ec,z⟩
    ·exact absurd kl (by rw[L.kind];intro z;cases z)
    ·rw[L.cell]at ec;cases ec;exact z
   refine OG (A:=X.A.in1) (f:=f) (c':=c') (t:=a) (its:=its.toArray) (k:=(j:Int)) ?_ (kk _ _ hf) (hcr.keeps kk) (I2.nolimit.keeps kk) (hcell.keeps kk) ⟨_,kk _ _ hgl,rfl,_,rfl⟩ (by omega) (by omega) (by rw[PQ];simpa using hwv) fun h3 tk3 k3=>hQ' _ _ _ _ k3
   have:=hr.dp
   show X.A.depth<recursionLimit
   omega
  ·intro i v k y h' tk e1 e2 kk
   obtain⟨kv,m1,ek⟩:=OJ kv2 e1
   refine⟨kV k,H2,I2.kept kk,?_,by rw[ek];exact q2 kv m1⟩
   rcases bh (show zJ k v=true from e2) with⟨i',t',rfl,rfl⟩ | ⟨y',t',rfl,rfl⟩
   ·exact⟨t',rfl⟩
   ·exact⟨t',rfl⟩
 have bat:s1.heap.BuiltinsAt X.mg T:=by
  obtain⟨bm,o,b1,b2,b3,b4,b5,b6⟩:=L.bm
  obtain⟨o1,es1,ep1,g1,g2,_⟩:=id I1.mod.glob
  have hT:H1 T≠none:=by
   rcases tb with z | ⟨_,z,_⟩<;>rw[z]<;>simp
  refine⟨bm,o,b1,b2,fun z=>?_,fun z=>?_,I1.bk _ _ b3,b4,b5,b6⟩
  ·rw[z,g1]at b3;cases b3;rw[g2]at b6;cases b6
  ·rw[z]at b3;exact hT (I1.bs _ _ b3).2
 have neT:mainGlobals≠T:=fun z=>by
  obtain⟨o1,es1,ep1,g1,g2,_⟩:=id I1.mod.glob
  have:=(I1.bs _ _ g1).2
  rw[z]at this
  rcases tb with y | ⟨_,y,_⟩<;>rw[y]at this<;>cases this
 have nsg:=I1.mod.glob.keeps I1.bk
 rcases tb with hT | ⟨c',hT,hco⟩
 ·have gT:s1.heap.get? T=some (SX #[]):=I1.hok T _ hT
  refine PySem.W.kla_makeFunction (mg:=X.mg) L.cl I1.ok.glob nsg L.code (L.hd.keeps I1.bk) gT trivial rfl neT bat fun c' ctv h' tk hxt hge hlt hrec htb=>kws_nil ?_
  have cT:c'≠T:=fun z=>by
   have:=Heap.lt_size gT
   rw[← z]at this
   exact absurd this (SN hge)
  have I2:=I1.tab (more:=#[rawInt lp.line,rawInt lp.col,.ref c']) (t':=tk) hT (fun b o n e=>hxt b o n e) (by simpa using htb)
  have e0:(#[]:Array Value)++#[rawInt lp.line,rawInt lp.col,.ref c']=#[rawInt lp.line,rawInt lp.col,.ref c']:=by simp
  rw[e0]at I2
  have fr:s1.heap.get? c'=none:=Heap.get?_none_of_le hge
  have H1c:H1 c'=none:=I1.hok.none_of fr
  obtain⟨c3,oc,vs3,t3,ec,g1,g2,g3⟩:=id hrec
  cases ec
  have I3:=I2.xtrack (a:=c') (o:=codO c' lq) (I1.xok hx fr (by rw[ao cT];exact H1c)) ⟨hrec,⟨oc,g1⟩,fun h1 h2 ⟨c4,o4,v4,t4,z1,z2,z3,z4⟩ kk=>by cases z1;exact⟨_,o4,v4,t4,rfl,kk o4 z2,z3,z4⟩⟩
  have kpsh:Kp h' (h'.push (Sk "<lambda>" lq (uC p0) (Ge p1 p2 p3) Dc [("told",ct)] ((X.mg "__name__").getD .none) c' ctv)):=fun b o e=>Heap.get?_push_of_some _ e
  have I4:=I3.kept (t':=tk) kpsh
  have dT:d≠T:=fun z=>by rw[z,hT]at hd;cases hd
  have aT:a≠T:=fun z=>by rw[z,hT]at hl;cases hl
  have dc:d≠c':=fun z=>by rw[z,H1c]at hd;cases hd
  have ac:a≠c':=fun z=>by rw[z,H1c]at hl;cases hl
  have sm:TbS T H1 (upd (upd H1 T (.tbl #[rawInt lp.line,rawInt lp.col,.ref c'])) c' (codO c' lq)):=fun b o n e=>by
   rw[ao (fun z=>by rw[z,H1c]at e;cases e),ao n]
   exact e
  refine go _ _ h'.objs.size c' _ _ I4 (Heap.get?_push_size _ rfl) (hrec.keeps kpsh) (sm _ _ dT hd) (sm _ _ aT hl) fun kv m=>q kv m _ sm (.inr ⟨c',by rw[ao (Ne.symm cT)];exact af,af⟩)
 ·have gT:s1.heap.get? T=some (SX #[rawInt lp.line,rawInt lp.col,.ref c']):=I1.hok T _ hT
  obtain⟨hrec,_,_⟩:=(show cf X.prog X.w H1 s1.heap c' (codO c' lq) from I1.hok c' _ hco)
  refine PySem.W.kla_makeFunctionHit (mg:=X.mg) (cv:=.ref c') L.cl I1.ok.glob nsg L.code (L.hd.keeps I1.bk) gT trivial (by simp[codeAmong,rawInt]) bat fun ctv h' tk kk sz=>kws_nil ?_
  have kpsh:Kp s1.heap (h'.push (Sk "<lambda>" lq (uC p0) (Ge p1 p2 p3) Dc [("told",ct)] ((X.mg "__name__").getD .none) c' ctv)):=fun b o e=>Heap.get?_push_of_some _ (kk b o e)
  have I4:=I1.kept (t':=tk) kpsh
  exact go _ _ h'.objs.size c' _ _ I4 (Heap.get?_push_size _ rfl) (hrec.keeps kpsh) hd hl fun kv m=>q kv m _ (fun b o _ e=>e) (.inr ⟨c',hT,hco⟩)
abbrev Bm(mg:Str->Option Value)(h:Heap):Prop:=∃ bm o,mg "__builtins__" = some (.ref bm)/\bm≠builtinsNs/\h.get? bm=some o/\o.cls=.type "module"/\o.dict=some builtinsNs/\o.data=.plain
theorem Jg{P:Program}{w:World}{K:Pt}{mg mb:Str->Option Value}{CX:CXT}{k:Nat}{fa a c T:Addr}{fd:FuncData}{x:Str}{sp:Sp}{s:Shared}{vs:List Value}{ns:List Int}
  (KX:K.In s.heap) (hg:s.heap.Ns mainGlobals mg) (hb:s.heap.Ns builtinsNs mb) (hbb:∀ x:Str,x≠"__name__"->mb x=bootBuiltins x) (lim:s.heap.NoLimit) (gens:s.gens=#[])
  (hc:Rr s.heap c T) (hT:s.heap.get? T=some (SX #[])) (nT:K.lookup T=none) (hbm:Bm mg s.heap)
  (ha:s.heap.get? a=some { cls:=.type "list",data:=.seq vs.toArray }) (hi:IntsAre vs ns) (hl:ns.length<=sizeLine) (hr:Room k callerA)
  (F:∀ base:Heap,K.In base->base.Ns mainGlobals mg->Rr base c T->Bm mg base->FnOk P w K mg base CX k fa fd [x] sp) (bind:∀(s:Shared)(u:Value),BindsTo s fd ⟨[u],[]⟩ [(x,u)])
  (hsp:∀ H:Hp,H T=some (.tbl #[])->SqL K H a (ns.map V.int)->sp [.ref a] H (fun v _=>v=.bl true) fun _ _ _=>False)
  (hCX:∀ H e s',CX [] H s (fun _ _ _=>False) e s'->False) :
  codeAny (model P w) callerA (.call (.ref fa) ⟨[.ref a],[]⟩) (fun r s'=>r=.ok (.ret (.bool true))/\OldK s.heap s'.heap/\s'.os=s.os/\AllBare s'.gens) s:=by
 have rv:=yk hi
 have aT:a≠T:=fun z=>by rw[z,hT]at ha;cases ha
 obtain⟨H,eT,eS,hok,only,frz⟩:∃ H:Hp,H T=some (.tbl #[])/\SqL K H a (ns.map V.int)/\HOk P w H s.heap/\(∀ b,H b≠none->(b=T∨b=a)/\K.lookup b=none)/\(∀ b u,H b=some u->b≠T->∃ o ys,u=.frz o (.lst ys)):=by
  cases hk:K.lookup a with
  |some o =>
   have e:=KX a o hk
   rw[ha]at e
   cases e
   refine⟨upd (fun _=>none) T (.tbl #[]),af,.inr ⟨_,vs.toArray,_,hk,rfl,rfl,rfl,by rw[P8,hi.length];exact hl,by simpa using rv⟩,fun b u z=>?_,fun b z=>?_,fun b u z n=>?_⟩
   ·by_cases y:b=T
    ·subst y;rw[af]at z;cases z;exact hT
    ·rw[ao y]at z;cases z
   ·by_cases y:b=T
    ·exact⟨.inl y,y▸nT⟩
    ·rw[ao y]at z;exact absurd rfl z
   ·rw[ao n]at z;cases z
  |none =>
   refine⟨upd (upd (fun _=>none) a (.frz { cls:=.type "list",data:=.seq vs.toArray } (.lst (ns.map V.int)))) T (.tbl #[]),af,.inl (.inr ⟨{ cls:=.type "list",data:=.seq vs.toArray },by rw[ao aT];exact af⟩),fun b u z=>?_,fun b z=>?_,fun b u z n=>?_⟩
   ·by_cases y:b=T
    ·subst y;rw[af]at z;cases z;exact hT
    ·rw[ao y]at z
     by_cases y2:b=a
     ·subst y2;rw[af]at z;cases z
      exact⟨ha,by rw[PB];exact hl,vs,_,rv,ha⟩
     ·rw[ao y2]at z;cases z
   ·by_cases y:b=T
    ·exact⟨.inl y,y▸nT⟩
    ·rw[ao y]at z
     by_cases y2:b=a
     ·exact⟨.inr y2,y2▸hk⟩
     ·rw[ao y2]at z;exact absurd rfl z
   ·rw[ao n]at z
    by_cases y2:b=a
    ·subst y2;rw[af]at z;cases z;exact⟨_,_,rfl⟩
    ·rw[ao y2]at z;cases z
 have un0:∀{b:Addr}{o:Obj},s.heap.get? b=some o->o.cls≠.none->o.cls≠.type "list"->H b=none:=fun{b o} e n1 n2=>by
  cases q:H b with
  |none=>rfl
  |some u =>
   rcases(only b (by rw[q];simp)).1 with z | z
   ·rw[z,hT]at e;cases e;exact absurd rfl n1
   ·rw[z,ha]at e;cases e;exact absurd rfl n2
 have unD:∀{b:Addr}{o:Obj}{es:Array DictEntry}{ep:Nat},s.heap.get? b=some o->o.data=.dict es ep->H b=none:=fun{b o es ep} e d=>by
  cases q:H b with
  |none=>rfl
  |some u =>
   rcases(only b (by rw[q];simp)).1 with z | z
   ·rw[z,hT]at e;cases e;cases d
   ·rw[z,ha]at e;cases e;cases d
 have nsB:∀{b:Addr}{m:Str->Option Value},s.heap.Ns b m->(hidT s.heap H).Ns b m:=fun{b m} ⟨o,es,ep,e,d,r⟩=>⟨o,es,ep,pQ e (unD e d),d,r⟩
 have kB:K.In (hidT s.heap H):=fun b o e=>pQ (KX b o e) (by
  cases q:H b with
  |none=>rfl
  |some u=>rw[(only b (by rw[q];simp)).2]at e;cases e)
 have cB:Rr (hidT s.heap H) c T:=by
  obtain⟨o,v2,file,tf,flags,tg,inF,text,tt,e1,e2,r⟩:=hc
  exact⟨o,v2,file,tf,flags,tg,inF,text,tt,pQ e1 (un0 e1 (by rw[e2];simp) (by rw[e2];simp)),e2,r⟩
 have bB:Bm mg (hidT s.heap H):=by
  obtain⟨bm,o,b1,b2,b3,b4,r⟩:=hbm
  exact⟨bm,o,b1,b2,pQ b3 (un0 b3 (by rw[b4];simp) (by rw[b4];simp)),b4,r⟩
 have md:Mod K mg (hidT s.heap H):=⟨kB,nsB hg,⟨mb,nsB hb,hbb⟩,let ⟨mc,h1,h2⟩:=lim;⟨mc,nsB h1,h2⟩⟩
 have e0:Env0 P w K mg (hidT s.heap H) callerA [] s H:=⟨rfl,md,fun b o e=>Oh e,Nat.le_of_eq (JC _ _),trivial,fun b z=>absurd (show b∈([]:List Addr) from z) (by simp),hok,.of_eq gens⟩
 refine codeAny_mono ((F _ kB (nsB hg) cB bB).run callerA [] s H ⟨[.ref a],[]⟩ [.ref a] [.ref a] _ _ hr e0 (bind s (.ref a)) (.cons rfl .nil) (hsp H eT eS)) fun r s' h=>?_
 cases r with
 |error e=>exact(hCX H e s' h).elim
 |ok fl =>
  cases fl with
  |next=>exact False.elim h
  |brk=>exact False.elim h
  |cont=>exact False.elim h
  |ret u =>
   obtain⟨v,H',os,bare,un,hok',r',q⟩:=h
   have q':v=.bl true:=q
   subst q'
   obtain rfl:u=Value.bool true:=r'
   have nil:∀ b:Addr,b∉frs []:=fun b z=>absurd (show b∈([]:List Addr) from z) (by simp)
   have gT:∃ more,s'.heap.get? T=some { cls:=.none,data:=.fields (#[]++more) }:=by
    obtain⟨more,e⟩:=un.tbls T _ eT
    exact⟨more,hok' T _ e⟩
   have kp:∀ b o,b≠T->s.heap.get? b=some o->s'.heap.get? b=some o:=fun b o n e=>by
    cases q:H b with
    |none=>exact un.keep b o e q (nil b) (by simp)
    |some u =>
     obtain⟨ob,ys,rfl⟩:=frz b u q n
     have z2:=un.frzs b ob _ q
     obtain⟨g1,_⟩:=hok b _ q
     obtain⟨g2,_⟩:=hok' b _ z2
     rw[e]at g1;cases g1
     exact g2
   refine⟨rfl,⟨fun b o e=>?_,fun b o e=>?_⟩,os,bare⟩
   ·by_cases z:b=T
    ·subst z
     rw[hT]at e
     cases e
     obtain⟨more,g⟩:=gT
     exact .inr (.inl ⟨(hc.tab hT).isCodeTable,rfl,#[],more,rfl,g⟩)
    ·exact .inl (kp b o z e)
   ·by_cases z:b=T
    ·subst z
     obtain⟨more,g⟩:=gT
     exact⟨_,g⟩
    ·exact⟨o,kp b o z e⟩
theorem walk_ofT{l:SR}{n k:Nat}{q:Program}{loose:List Str}{XP:(Str->Option Value)->Heap->Prop}{YP:World->Heap->Prop}{d df:DefRec}{K:Params->Pt}{CX:CXT}{sp:Pt->Addr->Sp}{x fn:Str}
  (hn:l.most=some n) (hn2:n<=sizeLine) (hdf:d.params.defaults = []) (hr:Room k callerA) (hY:∀(w:World)(h:Heap),YP w h->(K w.params).In h)
  (hrec:(recsOf q).find? (fun e=>e.name == fn)=some df)
  (F:∀(w:World)(mg:Str->Option Value)(fa:Addr)(h:Heap),(K w.params).In h->h.Ns mainGlobals mg->mg d.name=some (.ref fa)->∃ fd:FuncData,(∀(s:Shared)(u:Value),BindsTo s fd ⟨[u],[]⟩ [(x,u)]) /\
   ∃ c T,RC (K w.params) fn=some (c,T)/\(K w.params).lookup T=none/\∀ base:Heap,(K w.params).In base->base.Ns mainGlobals mg->Rr base c T->Bm mg base->FnOk l.prog w (K w.params) mg base CX k fa fd [x] (sp (K w.params) T))
  (hsp:∀(K:Pt)(T:Addr)(H:Hp)(a:Addr)(ns:List Int),ns.length<=n->H T=some (.tbl #[])->SqL K H a (ns.map V.int)->sp K T [.ref a] H (fun v _=>v=.bl true) fun _ _ _=>False)
  (hCX:∀(H:Hp)(s:Shared)(e:Value)(s':Shared),CX [] H s (fun _ _ _=>False) e s'->False) :
  PySem.W.WalkO q loose XP YP l.row.toRowW d [] (fun f vs=>PySem.call f vs):=by
 refine Att.attach_call hn hdf fun w s₀ s₁ mg mb fa o pm cd doc a vs ns G Y ho hd hcd hmg hobj hints hlen hg=>?_
 have KX:=hY w _ Y
 obtain⟨fd,hb,c,T,ht,nT,hF⟩:=F w mg fa _ KX G.T.g hmg
 obtain⟨t1,t2⟩:=PySem.W.tab_of G.T KX hrec ht
 exact Jg KX G.T.g G.T.b G.T.builtins G.T.nolimit hg t1 t2 nT G.T.bmain hobj hints (QG hlen hn2) hr hF hb (fun H h1 h2=>hsp _ T H a ns hlen h1 h2) fun H e s'=>hCX H s₁ e s'
theorem op_neE{X:Cx}(hu:X.A.units+64<cLine):OpR X (compareOp .NotEq) (fun x y H Q=>∃ a b kvs,x=.ref a/\y=.ref b/\H a=some (.dK kvs)/\H b=some (.dK [])/\Q (.bl (!kvs.isEmpty)) H):=by
 intro pins s σ H x y v u Q I rx ry h
 obtain⟨a,b,kvs,rfl,rfl,ha,hb,q⟩:=h
 cases rx
 cases ry
 obtain⟨_,da,vs,kv,dd⟩:=Gz I.hok ha
 obtain⟨_,db,vs2,kv2,dd2⟩:=Gz I.hok hb
 have l1:=kv.length
 have l2:=kv2.length
 have e2:vs2 = []:=SO l2.symm
 subst e2
 refine PySem.W.keq_ne (r:=true) da db dd dd2 (by omega) (fun e=>?_) ⟨.bl (!(vs.length == 0&&true)),H,I,rfl,?_⟩
 ·have e1:vs = []:=SO e
  subst e1
  exact .nil
 ·cases kvs with
  |nil =>
   cases vs with
   |nil=>exact q
   |cons p r=>cases l1
  |cons p r =>
   cases vs with
   |nil=>cases l1
   |cons p r=>exact q
end L2
namespace L2
open PySem PySem.Spec PyProof.Rows
def lexB:List (Int×Int)->Bool
 |[]=>false
 | (x,y)::r=>if x=y then lexB r else decide (x<y)
section
variable{prog:Program}{w:World}{A:Around}{E:Value->Shared->Prop}{s:Shared}
def Ps:List (Value×Value)->List (Int×Int)->Prop
 |[],[]=>True
 | (u,v)::r,(x,y)::q=>(∃ t,u=.int x t)/\(∃ t,v=.int y t)/\Ps r q
 |_,_=>False
theorem Nt{a b:Addr}{oa ob:Obj}{us vs:Array Value}{na nb:Nat}{ps:List (Int×Int)}{P:PySem.Fin->Shared->Prop}(ga:s.heap.get? a=some oa)(da:oa.data=.seq us na)(gb:s.heap.get? b=some ob) (cb:ob.cls=.type "tuple") (db:ob.data=.seq vs nb)
  (hp:Ps (us.toList.zip vs.toList) ps) (hl:us.size=vs.size) (h:P (.done (.ret (.bool (lexB ps)))) s):wpAny (model prog w) A (Builtin.«tuple.__lt__» ⟨[.ref a,.ref b],[]⟩) P E s:=by
 show wpAny _ _ (isInstance (.ref b) (.type "tuple") >>= _) _ _ s
 refine wpAny_bind (wpAny_isInstance (T:="tuple") ⟨ob,gb,cb⟩ isSubtype_tuple_tuple ?_)
 simp only[Bool.not_true,Rw,if_false]
 refine wpAny_bind (wpAny_tupleItemsOf ga da (wpAny_bind (wpAny_tupleItemsOf gb db (wpAny_bind ?_))))
 refine wpAny_forIn_list _ (fun rest r s'=>r.1=none/\s'=s/\∃ q,Ps rest q/\lexB q=lexB ps) _ ?_ ?_ _ _ ⟨rfl,rfl,ps,hp,rfl⟩
 ·rintro⟨u,v⟩ rest r s' ⟨hr,rfl,q,hq,e⟩
  match q,hq with
  | (x,y)::q,⟨⟨t,h1⟩,⟨t',h2⟩,hq'⟩ =>
   subst h1;subst h2
   refine wpAny_bind (wpAny_eqBool_int ?_)
   by_cases c:x=y
   ·have:(x == y)=true:=by simp[c]
    rw[this]
    simp only[Bool.not_true,Rw,if_false]
    refine wpAny_pure ⟨rfl,rfl,q,hq',?_⟩
    rw[← e]
    show lexB q=if x=y then lexB q else decide (x<y)
    rw[if_pos c]
   ·have:(x == y)=false:=by simp[c]
    rw[this]
    simp only[Bool.not_false,if_true]
    have e2:lexB ps=decide (x<y):=by
     rw[← e]
     show(if x=y then lexB q else decide (x<y))=_
     rw[if_neg c]
    rw[e2]at h
    refine wpAny_bind (wpAny_rule (wpAny_bind (CmpOf.ints_lt (prog:=prog) (w:=w) (A:=A) (P:=fun(i:Nat) v=>∃ t,v=.int (if i=0 then x else y) t) (fun i=>if i=0 then x else y) (fun i v h=>h) 0 1 _ _ _ _ _ ⟨t,rfl⟩ ⟨t',rfl⟩ ?_)))
    exact wpAny_bind (wpAny_pure (wpAny_pure (wpAny_pure h)))
 ·rintro⟨r1,r2⟩ s' ⟨hr,rfl,q,hq,e⟩
  simp only at hr
  subst hr
  have q0:q = []:=by
   cases q with
   |nil=>rfl
   |cons z q=>exact hq.elim
  subst q0
  have e3:Builtin.Tuple.tupleCompareSizes CmpOp.Lt us.size vs.size=Value.bool (lexB ps):=by
   rw[← e,hl]
   show Value.bool (decide (vs.size<vs.size))=Value.bool false
   rw[decide_eq_false (Qs _)]
  show wpAny _ _ (ret (Builtin.Tuple.tupleCompareSizes CmpOp.Lt us.size vs.size)) _ _ _
  rw[e3]
  exact wpAny_pure h
theorem tup_lt{a b:Addr}{oa ob:Obj}{us vs:Array Value}{na nb:Nat}{ps:List (Int×Int)}{Q:Value->Shared->Prop}(ga:s.heap.get? a=some oa) (ca:oa.cls=.type "tuple") (da:oa.data=.seq us na) (gb:s.heap.get? b=some ob) (cb:ob.cls=.type "tuple") (db:ob.data=.seq vs nb)
  (hp:Ps (us.toList.zip vs.toList) ps) (hl:us.size=vs.size) (hu:A.units<cLine) (h:Q (.bool (lexB ps)) s):wpAny (model prog w) A (richCompare .Lt (.ref a) (.ref b)) Q E s:=by
 refine wpAny_richCompare_same_room (op:=.Lt) (T:="tuple") ⟨oa,ga,ca⟩ ⟨ob,gb,cb⟩ PySem.F.slot_tuple_lt (wpAny_call_entry PySem.F.slot_tuple_lt ⟨oa,ga,ca⟩ PySem.F.entry_tuple_lt ?_ (PySem.F.args_tuple_lt_2 _ _)) hu
 exact Nt ga da gb cb db hp hl ⟨_,rfl,(fun z=>by cases z),h⟩
theorem IY{J S:Addr}{fp:List Addr}{n:Nat}{P:Nat->Value->Prop}{St:Nat->Heap->Prop}{g:Heap}{R:Result->Shared->Prop}(W:Walks prog w A.in1 J fp [J] n P St)(bt:Nat->Nat->Bool)(gJ:g.get? J=none)(gS:g.get? S=none)(hSJ:S≠J)(hSf:S∉fp)
  (cmp:∀ i j u v,i<n->j<n->P i u->P j v->∀(h:Heap)(tk:Nat)(Q:Value->Shared->Prop)(E:Value->Shared->Prop),Kp g h->Q (.bool (bt i j)) { s with heap:=h,toks:=tk }->wpAny (model prog w) A.in1 (richCompare .Lt u v) Q E { s with heap:=h,toks:=tk })
  (fin:∀ v h' tk',P (argBest bt (n-1)) v->Kp g h'->R (.ok (.ret v)) { s with heap:=h',toks:=tk' }) :
  ∀(r j:Nat)(h:Heap)(tk:Nat)(vb:Value)(c:Nat),n-(j+1)=r->j+1<=n->Kp g h->h.get? S=some (seqObj "list" #[vb,vb] c)->St (j+1) h->P (argBest bt j) vb->argBest bt j<n ->
   codeAny (model prog w) A (.builtin "min.loop" ⟨[.ref J,.none,.ref S],[]⟩) R { s with heap:=h,toks:=tk }:=by
 intro r
 induction r with
 |zero =>
  intro j h tk vb c er hj kg hS st hP hb
  have ej:j+1=n:=by omega
  refine codeAny_builtin Rb ?_;rw[Around.under_plainId Qq _]
  refine wpAny_bind (m:=seqItems? (.ref S)) (wpAny_seqItems hS rfl ?_)
  show wpAny _ A.in1 (tryCatch (pyNext (.ref J)) _ >>= _) _ _ _
  refine wpAny_bind (wpAny_tryCatch (W.done _ _ _ (by rw[← ej];exact st) fun h' tk' kk=>?_))
  have kg':=kg.but gJ kk
  have hS':=kk S _ (by simpa using hSJ) hS
  have su:=Heap.SameBut.update h' S (Obj.mapSeq fun _=>(#[]:Array Value))
  refine wpAny_bind (m:=updateSeq S fun _=>#[]) (wpAny_updateSeq hS' rfl (wpAny_bind (wpAny_letGo (wpAny_pure ?_))))
  exact fin vb _ _ (by rw[← ej];exact hP) (kg'.same gS su)
 |succ r ih =>
  intro j h tk vb c er hj kg hS st hP hb
  have lt:j+1<n:=by omega
  refine codeAny_builtin Rb ?_;rw[Around.under_plainId Qq _]
  refine wpAny_bind (m:=seqItems? (.ref S)) (wpAny_seqItems hS rfl ?_)
  show wpAny _ A.in1 (tryCatch (pyNext (.ref J)) _ >>= _) _ _ _
  refine wpAny_bind (wpAny_tryCatch (W.item (j+1) _ _ _ lt st fun v h1 tk1 hv st1 k1=>?_))
  have kg1:=kg.but gJ k1
  have hS1:=k1 S _ (by simpa using hSJ) hS
  show wpAny _ A.in1 (tryCatch (holding [v,v] (richCompare .Lt v vb >>= _)) _ >>= _) _ _ _
  refine wpAny_bind (wpAny_tryCatch (wpAny_holding (wpAny_bind (cmp (j+1) (argBest bt j) v vb lt hb hv hP h1 tk1 _ _ kg1 ?_))))
  refine wpAny_bind (wpAny_holding (wpAny_truthy_bool (wpAny_bind (wpAny_letGo (wpAny_pure ?_)))))
  have eA:argBest bt (j+1)=if bt (j+1) (argBest bt j)=true then j+1 else argBest bt j:=rfl
  cases cc:bt (j+1) (argBest bt j) with
  |true =>
   have su:=Heap.SameBut.update h1 S (Obj.mapSeq fun _=>#[v,v])
   obtain⟨c2,hc2⟩:∃ c2,(h1.update S (Obj.mapSeq fun _=>#[v,v])).get? S=some (seqObj "list" #[v,v] c2):=⟨_,get?_update_seq hS1 fun _=>#[v,v]⟩
   simp
   refine wpAny_bind (wpAny_updateSeq hS1 rfl (wpAny_bind (wpAny_letGo ?_)))
   rw[if_pos cc]at eA
   refine wpAny_pure ⟨plainId_quiet Qq _,ih (j+1) _ _ v c2 (by omega) lt (kg1.same gS su) hc2 (W.frame _ _ _ st1 fun b hb o e=>(su.2 b (fun z=>hSf (z▸hb))).trans e) (by rw[eA];exact hv) (by rw[eA];exact lt)⟩
  |false =>
   simp
   rw[if_neg (by rw[cc];simp)]at eA
   refine wpAny_bind (wpAny_letGo (wpAny_pure ?_));refine⟨plainId_quiet Qq _,ih (j+1) _ _ vb c (by omega) lt kg1 hS1 st1 (by rw[eA];exact hP) (by rw[eA];exact hb)⟩
theorem L4{l:Addr}{vs:List Value}{Q:Value->Shared->Prop}(bt:Nat->Nat->Bool)(hh:A.handled=none)(hl:s.heap.IsList l vs.toArray)(hne:0<vs.length)
  (cmp:∀(i j:Nat)(u v:Value),vs[i]?=some u->vs[j]?=some v->∀(h:Heap)(tk:Nat)(Q:Value->Shared->Prop)(E:Value->Shared->Prop),Kp s.heap h->Q (.bool (bt i j)) { s with heap:=h,toks:=tk }->wpAny (model prog w) A.in1 (richCompare .Lt u v) Q E { s with heap:=h,toks:=tk })
  (fin:∀ v h' tk',vs[argBest bt (vs.length-1)]?=some v->Kp s.heap h'->Q v { s with heap:=h',toks:=tk' }) :
  wpAny (model prog w) A (call (.builtin "min") [.ref l]) Q E s:=by
 have nm:(toString "min"++toString ".loop" : String) = "min.loop":=by decide
 obtain⟨ol,hol,_⟩:=id hl
 have ll:l<s.heap.objs.size:=Heap.lt_size hol
 refine kmk_tree PySem.F.kind_min PySem.F.plain_min PySem.F.entry_min (PySem.F.args_min1 _) ?_
 show wpAny _ A.in1 (Builtin.Builtins.bindParams "min" ["key","default"] 0 ⟨[],[]⟩ >>= _) _ _ s
 refine wpAny_bind (wpAny_of_eq (show Builtin.Builtins.bindParams "min" ["key","default"] 0 ⟨[],[]⟩=pure [none,none] from rfl) (wpAny_bind (wpAny_pure (wpAny_bind (wpAny_pyIter_list hl ?_)))))
 refine wpAny_bind (wpAny_newList ?_ (QJ _));rw[nm]
 obtain⟨ob,eob⟩:∃ ob:Obj,ob={ cls:=Value.type "list_iterator",data:=Data.fields #[Value.ref l,Value.int 0 0] }:=⟨_,rfl⟩
 rw[← eob]
 have sz:(s.heap.push ob).objs.size=s.heap.objs.size+1:=by rw[Heap.size_push]
 have neS:(s.heap.push ob).objs.size≠s.heap.objs.size:=by omega
 have neL:l≠s.heap.objs.size:=Qk ll
 have fr:∀ b,s.heap.objs.size<=b->s.heap.get? b=none:=fun b hb=>Heap.get?_none_of_le hb
 have kp:Kp s.heap ((s.heap.push ob).push (seqObj "list" #[] 0)):=fun b o e=>Heap.get?_push_of_some _ (Heap.get?_push_of_some _ e)
 have hS:((s.heap.push ob).push (seqObj "list" #[] 0)).get? (s.heap.push ob).objs.size=some (seqObj "list" #[] 0):=Heap.get?_push_size _ rfl
 have hJ:((s.heap.push ob).push (seqObj "list" #[] 0)).get? s.heap.objs.size=some ob:=Heap.get?_push_of_some _ (Heap.get?_push_size _ (by rw[eob];rfl))
 have W:=Walks.list (prog:=prog) (w:=w) (A:=A.in1) hh s.heap.objs.size l neL vs.toArray
 have vsz:vs.toArray.size=vs.length:=P8 ..
 rw[vsz]at W
 have cmp':∀ i j u v,i<vs.length->j<vs.length->vs.toArray[i]?=some u->vs.toArray[j]?=some v->∀(h:Heap)(tk:Nat)(Q:Value->Shared->Prop)(E:Value->Shared->Prop),Kp s.heap h->Q (.bool (bt i j)) { s with heap:=h,toks:=tk }->wpAny (model prog w) A.in1 (richCompare .Lt u v) Q E { s with heap:=h,toks:=tk }:=fun i j u v _ _ h1 h2=>cmp i j u v (by simpa using h1) (by simpa using h2)
 refine wpAny_pure ⟨plainId_quiet Qq _,codeAny_builtin Rb ?_⟩;rw[Around.under_plainId Qq _]
 refine wpAny_bind (m:=seqItems? (.ref (s.heap.push ob).objs.size)) (wpAny_seqItems hS rfl ?_)
 show wpAny _ A.in1 (tryCatch (pyNext (.ref s.heap.objs.size)) _ >>= _) _ _ _
 refine wpAny_bind (wpAny_tryCatch (W.item 0 _ _ _ hne ⟨⟨ob,hJ,by rw[eob],by rw[eob];rfl⟩,hl.at fun o e=>kp _ _ e⟩ fun v h1 tk1 hv st1 k1=>?_))
 have kg1:=kp.but (fr _ (Pz _)) k1
 have hS1:=k1 _ _ (by simpa using neS) hS
 have su:=Heap.SameBut.update h1 (s.heap.push ob).objs.size (Obj.mapSeq fun _=>#[v,v])
 obtain⟨c2,hc2⟩:∃ c2,(h1.update (s.heap.push ob).objs.size (Obj.mapSeq fun _=>#[v,v])).get? (s.heap.push ob).objs.size=some (seqObj "list" #[v,v] c2):=⟨_,get?_update_seq hS1 fun _=>#[v,v]⟩
 have nf:(s.heap.push ob).objs.size∉[s.heap.objs.size,l]:=fun z=>by
  rcases Pw.mp z with z | z
  ·exact neS z
  ·have z':=Qy.mp z
   exact absurd ll (by rw[← z',sz];exact SN (Rj _))
 refine wpAny_bind (m:=updateSeq _ fun _=>#[v,v]) (wpAny_updateSeq hS1 rfl ?_);rw[nm]
 refine wpAny_pure ⟨plainId_quiet Qq _,IY W bt (fr _ (Pz _)) (fr _ (by omega)) neS nf cmp' (fun v h' tk' e kk=>fin v h' tk' (by simpa using e) kk) _ 0 _ _ v c2 rfl hne (kg1.same (fr _ (by omega)) su) hc2 (W.frame _ _ _ st1 fun b hb o e=>(su.2 b (fun z=>nf (z▸hb))).trans e) hv hne⟩
end
abbrev T3:=Int×Int×Int
def TrA(H:Hp)(v:V)(t:T3):Prop:=∃ a,v=.ref a/\H a=some (.tup [.int t.1,.int t.2.1,.int t.2.2])
def lt3(a b:T3):Bool:=lexB [(a.1,b.1),(a.2.1,b.2.1),(a.2.2,b.2.2)]
theorem lt3_le{a b:T3}(h:lt3 a b=true):a.1<=b.1:=by
 unfold lt3 lexB at h
 by_cases c:a.1=b.1
 ·omega
 ·rw[if_neg c]at h
  have:=of_decide_eq_true h
  omega
theorem lt3_ge{a b:T3}(h:lt3 a b=false):b.1<=a.1:=by
 unfold lt3 lexB at h
 by_cases c:a.1=b.1
 ·omega
 ·rw[if_neg c]at h
  have:=of_decide_eq_false h
  omega
theorem best3(W:Nat->T3):∀ k,argBest (fun i j=>lt3 (W i) (W j)) k<=k/\∀ j,j<=k->(W (argBest (fun i j=>lt3 (W i) (W j)) k)).1<=(W j).1
 |0=>by
  refine⟨Pz _,fun j hj=>?_⟩
  have e:j=0:=by omega
  rw[e]
  exact QV _
 |k+1=>by
  obtain⟨h1,h2⟩:=best3 W k
  have e:argBest (fun i j=>lt3 (W i) (W j)) (k+1)=if lt3 (W (k+1)) (W (argBest (fun i j=>lt3 (W i) (W j)) k))=true then k+1 else argBest (fun i j=>lt3 (W i) (W j)) k:=rfl
  rw[e]
  cases c:lt3 (W (k+1)) (W (argBest (fun i j=>lt3 (W i) (W j)) k)) with
  |true =>
   rw[if_pos rfl]
   have h3:=lt3_le c
   refine⟨Pz _,fun j hj=>?_⟩
   by_cases z:j=k+1
   ·subst z;exact QV _
   ·have:=h2 j (by omega);omega
  |false =>
   rw[if_neg Qe]
   have h3:=lt3_ge c
   refine⟨by omega,fun j hj=>?_⟩
   by_cases z:j=k+1
   ·subst z;exact h3
   ·exact h2 j (by omega)
def rMin3(K:Pt):List V->Hp->VK->Prop:=fun xs H Q=>∃ p ys ws,xs = [.ref p]/\SqL K H p ys/\LsAt TrA H ys ws/\ws≠[]/\∀(i:Nat)(y:V)(t:T3),ys[i]?=some y->ws[i]?=some t->(∀ t'∈ws,t.1<=t'.1)->Q y H
theorem Kk{X:Cx}(hc:X.calm=true)(hu:X.A.units+64<cLine):pH X (.builtin "min") (rMin3 X.K):=by
 intro pins s σ H xs us Q I r h
 obtain⟨p,ys,ws,rfl,hS,hL,hne,q⟩:=h
 obtain⟨u,rfl,rx⟩:=ym r
 cases rx
 obtain⟨its,rv,pl,_⟩:=I.list hS
 have yl:=hL.1
 have il:=rv.length
 have wp:0<ws.length:=List.length_pos_iff.mpr hne
 let W:Nat->T3:=fun i=>ws.getD i (0,0,0)
 have Wi:∀ i t,ws[i]?=some t->W i=t:=fun i t e=>by show ws.getD i (0,0,0)=t;rw[Qm,e];rfl
 have look:∀(i:Nat)(v:Value),its[i]?=some v->∃ a o y1 y2 y3 n,v=.ref a/\s.heap.get? a=some o/\o.cls=.type "tuple"/\o.data=.seq #[y1,y2,y3] n/\(∃ t,y1=.int (W i).1 t)/\(∃ t,y2=.int (W i).2.1 t)/\(∃ t,y3=.int (W i).2.2 t):=fun i v e=>by
  have hi:i<ys.length:=by rw[il];exact(Pp.mp e).1
  obtain⟨t,ht,a,ea,ha⟩:=hL.get (Pq hi)
  obtain⟨v',ev,rv'⟩:=rv.get (Pq hi)
  rw[e]at ev
  cases ev
  rw[ea]at rv'
  obtain rfl:v=.ref a:=rv'
  obtain⟨_,tis,rt,o,ho,hcl,n,hd⟩:=I.hok a _ ha
  rw[Wi i t ht]
  match tis,rt with
  |[y1,y2,y3],.cons r1 (.cons r2 (.cons r3 .nil))=>exact⟨a,o,y1,y2,y3,n,rfl,ho,hcl,hd,r1,r2,r3⟩
 refine L4 (vs:=its) (fun i j=>lt3 (W i) (W j)) (I.ok.hd hc) pl.isList (by omega) ?_ ?_
 ·intro i j u v hu' hv' h tk Q' E' kk hQ
  have in1u:X.A.in1.units<cLine:=by
   have e:X.A.in1.units<=X.A.units+64:=by simp[Around.in1]
   omega
  obtain⟨a,oa,y1,y2,y3,n,rfl,ga,ca,da,r1,r2,r3⟩:=look i u hu'
  obtain⟨b,ob,z1,z2,z3,m,rfl,gb,cb,db,q1,q2,q3⟩:=look j v hv'
  exact tup_lt (kk _ _ ga) ca da (kk _ _ gb) cb db (ps:=[((W i).1,(W j).1),((W i).2.1,(W j).2.1),((W i).2.2,(W j).2.2)]) ⟨r1,q1,r2,q2,r3,q3,trivial⟩ rfl in1u hQ
 ·intro v h' tk e kk
  obtain⟨b1,b2⟩:=best3 W (its.length-1)
  have hi:argBest (fun i j=>lt3 (W i) (W j)) (its.length-1)<ys.length:=by omega
  obtain⟨t,ht,_⟩:=hL.get (Pq hi)
  obtain⟨v',ev,rv'⟩:=rv.get (Pq hi)
  rw[e]at ev
  cases ev
  refine⟨_,H,I.kept kk,rv',q _ _ t (Pq hi) ht fun t' ht'=>?_⟩
  obtain⟨j,hj,ej⟩:=Q9 ht'
  have:=b2 j (by omega)
  rw[Wi _ t ht,Wi j t' (by rw[Pq hj,ej])]at this
  exact this
end L2
namespace K1
end K1
namespace K2
def S:List Nat->Nat
 |[]=>0
 |p::r=>2^p+S r
theorem Pj{n p:Nat}(h:n.testBit p=false)(i:Nat):(n+2^p).testBit i=(n.testBit i||decide (i=p)):=by
 have e:n+2^p=n|||2^p:=by
  have hz:n&&&2^p=0:=by
   apply Qt
   intro j
   rw[Q3,Qb,Qu]
   by_cases hj:p=j
   ·subst hj;simp[h]
   ·simp[hj]
  have q:∀ m k:Nat,(m|||k)+(m&&&k)=m+k:=by
   intro m
   induction m using Nat.strongRecOn with
   |ind m ih =>
    intro n
    by_cases h0:m=0
    ·subst h0;simp
    ·have ih':=ih (m/2) (by omega) (n/2)
     rw[← Nat.or_div_two,← Nat.and_div_two]at ih'
     have o1:=@Nat.or_mod_two_eq_one m n
     have a1:=@Nat.and_mod_two_eq_one m n
     omega
  have:=q n (2^p)
  rw[hz]at this
  omega
 rw[e,Q0,Qb]
 congr 1
 exact decide_eq_decide.mpr ⟨fun h=>h.symm,fun h=>h.symm⟩
theorem S_bit:∀{D:List Nat},D.Nodup->∀ i,(S D).testBit i=decide (i∈D)
 |[],_,i=>by simp[S]
 |p::r,nd,i=>by
  have ⟨h1,h2⟩:=PF.mp nd
  have hp:(S r).testBit p=false:=by rw[S_bit h2];exact decide_eq_false h1
  have e:S (p::r)=S r+2^p:=Nat.add_comm _ _
  rw[e,Pj hp,S_bit h2]
  by_cases a:i=p<;>by_cases b:i∈r<;>simp[a,b]
def bitsF(k n:Nat):List Nat:=if h:n=0 then[] else(if n%2=1 then[k] else[])++bitsF (k+1) (n/2)
termination_by n
decreasing_by omega
theorem bitsF_zero(k:Nat):bitsF k 0 = []:=by rw[bitsF];simp
theorem bitsF_odd{k n:Nat}(h:n%2=1):bitsF k n=k::bitsF (k+1) (n/2):=by
 rw[bitsF,dif_neg (by omega),if_pos h];rfl
theorem bitsF_even{k n:Nat}(h0:n≠0)(h:¬ n%2=1):bitsF k n=bitsF (k+1) (n/2):=by
 rw[bitsF,dif_neg h0,if_neg h];rfl
theorem xW:∀(f n k:Nat),n<=f->∀ p∈bitsF k n,k<=p
 |0,n,k,h=>by
  have z:n=0:=by omega
  subst z;rw[bitsF_zero];intro p hp;cases hp
 |f+1,n,k,h=>by
  intro p hp
  by_cases z:n=0
  ·subst z;rw[bitsF_zero]at hp;cases hp
  ·by_cases o:n%2=1
   ·rw[bitsF_odd o]at hp
    rcases Pw.mp hp with e | hp
    ·omega
    ·have:=xW f (n/2) (k+1) (by omega) p hp;omega
   ·rw[bitsF_even z o]at hp
    have:=xW f (n/2) (k+1) (by omega) p hp;omega
theorem bitsF_sorted:∀(f n k:Nat),n<=f->(bitsF k n).Pairwise (· < ·)
 |0,n,k,h=>by
  have z:n=0:=by omega
  subst z;rw[bitsF_zero];exact Se
 |f+1,n,k,h=>by
  by_cases z:n=0
  ·subst z;rw[bitsF_zero];exact Se
  ·by_cases o:n%2=1
   ·rw[bitsF_odd o]
    exact List.Pairwise.cons (fun p hp=>xW f (n/2) (k+1) (by omega) p hp) (bitsF_sorted f (n/2) (k+1) (by omega))
   ·rw[bitsF_even z o];exact bitsF_sorted f (n/2) (k+1) (by omega)
theorem bitsF_sum:∀(f n k:Nat),n<=f->S (bitsF k n)=n*2^k
 |0,n,k,h=>by
  have z:n=0:=by omega
  subst z;rw[bitsF_zero];simp[S]
 |f+1,n,k,h=>by
  by_cases z:n=0
  ·subst z;rw[bitsF_zero];simp[S]
  ·have ih:=bitsF_sum f (n/2) (k+1) (by omega)
   have e:n/2*2^(k+1)=(2*(n/2))*2^k:=by rw[Nat.pow_succ,Nat.mul_comm (2^k) 2,← Nat.mul_assoc,Nat.mul_comm (n/2) 2]
   by_cases o:n%2=1
   ·rw[bitsF_odd o]
    show 2^k+S (bitsF (k+1) (n/2))=_
    rw[ih,e]
    have:n=2*(n/2)+1:=by omega
    have e2:n*2^k=(2*(n/2)+1)*2^k:=by rw[← this]
    rw[e2,Nat.add_mul,Nat.one_mul];omega
   ·rw[bitsF_even z o,ih,e]
    have:n=2*(n/2):=by omega
    have e2:n*2^k=(2*(n/2))*2^k:=by rw[← this]
    rw[e2]
theorem bitsF_lt:∀(m n k:Nat),n<2^m->∀ p∈bitsF k n,p<k+m
 |0,n,k,h=>by
  have z:n=0:=by omega
  subst z;rw[bitsF_zero];intro p hp;cases hp
 |m+1,n,k,h=>by
  intro p hp
  have h2:n/2<2^m:=by rw[Nat.pow_succ]at h;omega
  by_cases z:n=0
  ·subst z;rw[bitsF_zero]at hp;cases hp
  ·by_cases o:n%2=1
   ·rw[bitsF_odd o]at hp
    rcases Pw.mp hp with e | hp
    ·omega
    ·have:=bitsF_lt m (n/2) (k+1) h2 p hp;omega
   ·rw[bitsF_even z o]at hp
    have:=bitsF_lt m (n/2) (k+1) h2 p hp;omega
theorem bitsF_len:∀(m n k:Nat),n<2^m->(bitsF k n).length<=m
 |0,n,k,h=>by
  have z:n=0:=by omega
  subst z;rw[bitsF_zero];exact Pz _
 |m+1,n,k,h=>by
  have h2:n/2<2^m:=by rw[Nat.pow_succ]at h;omega
  by_cases z:n=0
  ·subst z;rw[bitsF_zero];exact QJ _
  ·by_cases o:n%2=1
   ·rw[bitsF_odd o]
    have:=bitsF_len m (n/2) (k+1) h2
    show _+1<=_
    omega
   ·rw[bitsF_even z o]
    have:=bitsF_len m (n/2) (k+1) h2
    omega
theorem nodup_of_lt{l:List Nat}(h:l.Pairwise (· < ·)):l.Nodup:=h.imp fun h=>Qk h
end K2
namespace KF
open PySem L2
local macro_rules | `(tactic| walk_at "cc") => `(tactic| first | exact ⟨by decide, by decide⟩ | (show (0 : Int) < _; decide) | (show (0 : Int) < _; omega) | (show (0 : Int) ≤ _; omega) | exact ⟨by decide, by decide, by decide⟩ | exact ⟨by omega, by omega, by decide⟩ | exact Or.inl ⟨by decide, by decide⟩ | exact Or.inl ⟨by omega, by omega⟩)
local macro_rules | `(tactic| walk_at "rd") => `(tactic| repeat (first | refine ⟨_, rfl, ?_⟩ | refine ⟨_, _, rfl, rfl, ?_⟩ | refine ⟨rfl, ?_⟩ | (refine ⟨?cc, ?_⟩; (case cc => walk_at "cc"))))
def top(i:Nat):Stmt:=PySem.Challenge.pw_spinfloor_k37_ties_that_are_set.main.body.getD i (.Pass ⟨0,0,0,0⟩)
abbrev cM:Stmt:=top 15
abbrev gX:Stmt:=top 17
abbrev c7:Stmt:=top 18
abbrev iO:Stmt:=top 19
abbrev gU:Stmt:=top 20
abbrev kr:Stmt:=top 21
abbrev qp:Stmt:=top 10
abbrev qo:Stmt:=top 11
abbrev BM:Stmt:=top 12
abbrev cN:Stmt:=top 13
abbrev bp:Stmt:=top 24
abbrev cn:Stmt:=top 25
abbrev aZ:Stmt:=top 26
abbrev cm:Stmt:=top 27
abbrev gW:Stmt:=top 28
abbrev Lk:=Nat×Nat×Int
def bey(l:Lk)(r:Nat):Nat:=if r=l.1 then l.2.1 else l.1
def pq(l:Lk)(r:Nat):Prop:=r=l.1∨r=l.2.1
theorem xX{l:Lk}{r:Nat}(h:pq l r):pq l (bey l r):=by
 unfold bey
 split
 ·exact .inr rfl
 ·exact .inl rfl
theorem r8{l:Lk}{r:Nat}(h:pq l r):bey l (bey l r)=r:=by
 unfold bey
 by_cases c:r=l.1
 ·rw[if_pos c]
  by_cases d:l.2.1=l.1
  ·rw[if_pos d];omega
  ·rw[if_neg d];exact c.symm
 ·rw[if_neg c,if_pos rfl]
  rcases h with h | h
  ·exact absurd h c
  ·exact h.symm
theorem bey_lt{l:Lk}{r n:Nat}(h1:l.1<n)(h2:l.2.1<n):bey l r<n:=by
 unfold bey
 split<;>assumption
inductive Up(ls:List Lk)(vv:List (Option Nat))(s:Nat):Nat->Nat->Prop where
 |root:Up ls vv s 0 s
 |step {j r k:Nat} {l:Lk} (hv:vv[r]?=some (some k)) (hl:ls[k]?=some l) (h:Up ls vv s j (bey l r)):Up ls vv s (j+1) r
theorem Up.uniq{ls:List Lk}{vv:List (Option Nat)}{s:Nat}(h0:vv[s]?=some none):∀{j i r:Nat},Up ls vv s j r->Up ls vv s i r->j=i
 |_,_,_,.root,.root=>rfl
 |_,_,_,.root,.step hv _ _=>by rw[h0]at hv;cases hv
 |_,_,_,.step hv _ _,.root=>by rw[h0]at hv;cases hv
 |_,_,_,.step hv hl h,.step hv' hl' h'=>by
  rw[hv]at hv';cases hv'
  rw[hl]at hl';cases hl'
  rw[Up.uniq h0 h h']
theorem Up.lt{ls:List Lk}{vv:List (Option Nat)}{s j r:Nat}(h0:vv[s]?=some none)(h:Up ls vv s j r):r<vv.length:=by
 cases h with
 |root=>exact(Pp.mp h0).1
 |step hv _ _=>exact(Pp.mp hv).1
theorem Up.chain{ls:List Lk}{vv:List (Option Nat)}{s:Nat}(h0:vv[s]?=some none):∀{j r:Nat},Up ls vv s j r->∃ c:List Nat,c.length=j+1/\c.Nodup/\∀ x∈c,x<vv.length/\∃ i,i<=j/\Up ls vv s i x
 |_,_,.root=>⟨[s],rfl,PF.mpr ⟨(by simp),Rk⟩,fun x hx=>by rw[Qy.mp hx];exact⟨Up.lt (ls:=ls) h0 .root,0,Pz _,.root⟩⟩
 |j+1,r,.step hv hl h=>by
  obtain⟨c,cl,nd,hc⟩:=Up.chain h0 h
  have me:Up ls vv s (j+1) r:=.step hv hl h
  refine⟨r::c,by rw[Qc,cl],PF.mpr ⟨fun hr=>?_,nd⟩,fun x hx=>?_⟩
  ·obtain⟨_,i,hi,hu⟩:=hc r hr
   have:=Up.uniq h0 me hu
   omega
  ·rcases Pw.mp hx with rfl | hx
   ·exact⟨Up.lt h0 me,j+1,Pz _,me⟩
   ·obtain⟨a,i,hi,hu⟩:=hc x hx
    exact⟨a,i,by omega,hu⟩
theorem lZ:∀(n:Nat)(c:List Nat),c.Nodup->(∀ x∈c,x<n)->c.length<=n
 |0,c,_,h=>by
  cases c with
  |nil=>exact Pz _
  |cons x r=>exact absurd (h x (PH ..)) (QA _)
 |n+1,c,nd,h=>by
  have h1:=lZ n (c.erase n) (nd.erase _) fun x hx=>by
   have hm:=List.mem_of_mem_erase hx
   have:=h x hm
   have:x≠n:=fun e=>by rw[e]at hx;exact absurd hx (List.Nodup.not_mem_erase nd)
   omega
  have h2:c.length<=(c.erase n).length+1:=by rw[List.length_erase];split<;>omega
  omega
theorem Up.short{ls:List Lk}{vv:List (Option Nat)}{s j r:Nat}(h0:vv[s]?=some none)(h:Up ls vv s j r):j+1<=vv.length:=by
 obtain⟨c,cl,nd,hc⟩:=Up.chain h0 h
 rw[← cl]
 exact lZ _ c nd fun x hx=>(hc x hx).1
def cOf(o:Option Int):Nat:=if o.isSome then 1 else 0
def cnt(T:List (Option Int)):Nat:=(T.map cOf).sum
def vOf(B:Nat)(o:Option Int):Nat:=match o with | none=>B | some x=>x.toNat
def wgt(B:Nat)(T:List (Option Int)):Nat:=(T.map (vOf B)).sum
theorem ve{α:Type}(f:α->Nat):∀(l:List α)(i:Nat)(x y:α),l[i]?=some x->((l.set i y).map f).sum+f x=(l.map f).sum+f y
 |a::l,0,x,y,e=>by
  cases e
  rw[List.set_cons_zero,P7,P7,Ri,Ri]
  omega
 |a::l,i+1,x,y,e=>by
  have:=ve f l i x y e
  rw[List.set_cons_succ,P7,P7,Ri,Ri]
  omega
 |[],i,x,y,e=>by cases i<;>cases e
theorem M9:∀(T:List (Option Int)){i:Nat},T[i]?=some none->cnt T+1<=T.length
 |[],i,e=>by cases i<;>cases e
 |a::T,0,e=>by
  cases e
  have:∀ T:List (Option Int),cnt T<=T.length:=fun T=>by
   induction T with
   |nil=>exact Pz _
   |cons b T ih =>
    have e1:cnt (b::T)=cOf b+cnt T:=by unfold cnt;rw[P7,Ri]
    have e2:cOf b<=1:=by unfold cOf;split<;>omega
    rw[e1,Qc];omega
  have e1:cnt (none::T)=cOf none+cnt T:=by unfold cnt;rw[P7,Ri]
  have e2:cOf none=0:=rfl
  have:=this T
  rw[e1,Qc];omega
 |a::T,i+1,e=>by
  have ih:=M9 T (i:=i) e
  have e1:cnt (a::T)=cOf a+cnt T:=by unfold cnt;rw[P7,Ri]
  have e2:cOf a<=1:=by unfold cOf;split<;>omega
  rw[e1,Qc];omega
structure FI(n:Nat)(ls:List Lk)(s:Nat)(M:Nat)(T:List (Option Int))(vv:List (Option Nat))(W:List Nat)(ex:Nat->Nat->Prop):Prop where
 w0:∀ l∈ls,0<=l.2.2/\l.2.2<=(M:Int)
 tl:T.length=n
 vl:vv.length=n
 st:T[s]?=some (some 0)
 vs:vv[s]?=some none
 nn:∀(r:Nat)(x:Int),T[r]?=some (some x)->0<=x
 bd:∀(r:Nat)(x:Int),T[r]?=some (some x)->x+(M:Int)<=(cnt T:Int)*(M:Int)
 pr:∀(r k:Nat),vv[r]?=some (some k)->∃(l:Lk)(x y:Int),ls[k]?=some l/\pq l r/\T[r]?=some (some x)/\T[bey l r]?=some (some y)/\y+l.2.2<=x
 up:∀(r:Nat)(x:Int),T[r]?=some (some x)->∃ j,Up ls vv s j r
 rl:∀(r:Nat)(x:Int)(i:Nat)(l:Lk),T[r]?=some (some x)->r∉W->ls[i]?=some l->pq l r->ex r i∨∃ y:Int,T[bey l r]?=some (some y)/\y<=x+l.2.2
 wk:∀ r∈W,∃ x:Int,T[r]?=some (some x)
theorem yB{α:Type}{l:List α}{i j:Nat}{x:α}(hi:i<l.length):(l.set i x)[j]?=if i=j then some x else l[j]?:=by
 rw[Qh]
 by_cases c:i=j
 ·rw[if_pos c,if_pos c,if_pos hi]
 ·rw[if_neg c,if_neg c]
theorem FI.mend{n:Nat}{ls:List Lk}{s M:Nat}{T:List (Option Int)}{vv:List (Option Nat)}{W W':List Nat}{ex ex':Nat->Nat->Prop}(I:FI n ls s M T vv W ex){m k:Nat}{l:Lk}{x:Int}{o:Option Int}
  (hl:ls[k]?=some l) (hm:pq l m) (hx:T[m]?=some (some x)) (ho:T[bey l m]?=some o) (hlt:∀ y,o=some y->x+l.2.2<y)
  (hW:∀ r,r∈W'↔r∈W∨r=bey l m) (hex:∀ r i,ex r i->ex' r i∨(r=m/\i=k)) :
  FI n ls s M (T.set (bey l m) (some (x+l.2.2))) (vv.set (bey l m) (some k)) W' ex':=by
 obtain⟨h0,hM⟩:=I.w0 l (Pr hl)
 have tt:bey l m<T.length:=(Pp.mp ho).1
 have tl:=I.tl
 have vl:=I.vl
 have x0:=I.nn m x hx
 have ns:bey l m≠s:=fun e=>by
  rw[e,I.st]at ho
  cases ho
  have:=hlt 0 rfl
  omega
 have nm:bey l m≠m:=fun e=>by
  rw[e,hx]at ho
  cases ho
  have:=hlt x rfl
  omega
 have gT:∀ r:Nat,(T.set (bey l m) (some (x+l.2.2)))[r]?=if bey l m=r then some (some (x+l.2.2)) else T[r]?:=fun r=>yB tt
 have gV:∀ r:Nat,(vv.set (bey l m) (some k))[r]?=if bey l m=r then some (some k) else vv[r]?:=fun r=>yB (by omega)
 have low:∀(r:Nat)(y:Int),T[r]?=some (some y)->∃ z:Int,(T.set (bey l m) (some (x+l.2.2)))[r]?=some (some z)/\z<=y:=fun r y e=>by
  rw[gT]
  by_cases c:bey l m=r
  ·rw[if_pos c]
   rw[← c,ho]at e
   cases e
   exact⟨_,rfl,Int.le_of_lt (hlt y rfl)⟩
  ·rw[if_neg c]
   exact⟨y,e,QV _⟩
 have keep:∀{j r:Nat},Up ls vv s j r->∀ y,T[r]?=some (some y)->(∀ z,o=some z->y<z)->Up ls (vv.set (bey l m) (some k)) s j r:=by
  intro j r h
  induction h with
  |root=>intro _ _ _;exact .root
  | @step j r k' l' hv hl' h ih =>
   intro y hy hz
   have ne:bey l m≠r:=fun e=>by
    rw[e,hy]at ho
    cases ho
    exact absurd (hz y rfl) (Int.lt_irrefl _)
   obtain⟨l2,x2,y2,e1,e2,e3,e4,e5⟩:=I.pr r k' hv
   rw[hl']at e1;cases e1
   rw[hy]at e3;cases e3
   have w0:=(I.w0 l' (Pr hl')).1
   refine .step (by rw[gV,if_neg ne];exact hv) hl' (ih y2 e4 fun z hz'=>?_)
   have:=hz z hz'
   omega
 obtain⟨jm,um⟩:=I.up m x hx
 have um':=keep um x hx fun z hz=>by have:=hlt z hz;omega
 have ut:Up ls (vv.set (bey l m) (some k)) s (jm+1) (bey l m):=.step (by rw[gV,if_pos rfl]) hl (by rw[r8 hm];exact um')
 have all:∀{j r:Nat},Up ls vv s j r->∃ i,Up ls (vv.set (bey l m) (some k)) s i r:=by
  intro j r h
  induction h with
  |root=>exact⟨0,.root⟩
  | @step j r k' l' hv hl' h ih =>
   by_cases c:bey l m=r
   ·rw[← c];exact⟨_,ut⟩
   ·obtain⟨i,hi⟩:=ih
    exact⟨i+1,.step (by rw[gV,if_neg c];exact hv) hl' hi⟩
 have cs:=ve cOf T (bey l m) o (some (x+l.2.2)) ho
 have c1:cOf (some (x+l.2.2))=1:=rfl
 have cc:cnt (T.set (bey l m) (some (x+l.2.2)))+cOf o=cnt T+1:=by unfold cnt;rw[c1]at cs;exact cs
 have cle:cnt T<=cnt (T.set (bey l m) (some (x+l.2.2))):=by
  have:cOf o<=1:=by unfold cOf;split<;>omega
  omega
 have mul_le:(cnt T:Int)*(M:Int)<=(cnt (T.set (bey l m) (some (x+l.2.2))):Int)*(M:Int):=Int.mul_le_mul_of_nonneg_right (by omega) (by omega)
 have bm:=I.bd m x hx
 refine⟨I.w0,by rw[Qa];exact tl,by rw[Qa];exact vl,by rw[gT,if_neg ns];exact I.st,by rw[gV,if_neg ns];exact I.vs,fun r y e=>?_,fun r y e=>?_,fun r k' e=>?_,fun r y e=>?_,fun r y i l' e hr hl' hend=>?_,fun r hr=>?_⟩
 ·rw[gT]at e
  by_cases c:bey l m=r
  ·rw[if_pos c]at e;cases e;omega
  ·rw[if_neg c]at e;exact I.nn r y e
 ·rw[gT]at e
  by_cases c:bey l m=r
  ·rw[if_pos c]at e;cases e
   cases o with
   |none =>
    have e1:cnt (T.set (bey l m) (some (x+l.2.2)))=cnt T+1:=by have:cOf none=0:=rfl;omega
    rw[e1]
    have:((cnt T+1:Nat):Int)*(M:Int)=(cnt T:Int)*(M:Int)+(M:Int):=by push_cast;rw[Int.add_mul,SU]
    omega
   |some z =>
    have:=hlt z rfl
    have:=I.bd (bey l m) z ho
    omega
  ·rw[if_neg c]at e
   have:=I.bd r y e
   omega
 ·rw[gV]at e
  by_cases c:bey l m=r
  ·rw[if_pos c]at e;cases e
   refine⟨l,x+l.2.2,x,hl,c▸xX hm,by rw[gT,if_pos c],?_,QV _⟩
   rw[← c,r8 hm,gT,if_neg nm]
   exact hx
  ·rw[if_neg c]at e
   obtain⟨l2,x2,y2,e1,e2,e3,e4,e5⟩:=I.pr r k' e
   obtain⟨z,e6,e7⟩:=low _ _ e4
   exact⟨l2,x2,z,e1,e2,by rw[gT,if_neg c];exact e3,e6,by omega⟩
 ·rw[gT]at e
  by_cases c:bey l m=r
  ·rw[← c];exact⟨_,ut⟩
  ·rw[if_neg c]at e
   obtain⟨j,u⟩:=I.up r y e
   exact all u
 ·have nr:r∉W/\r≠bey l m:=⟨fun z=>hr ((hW r).mpr (.inl z)),fun z=>hr ((hW r).mpr (.inr z))⟩
  rw[gT,if_neg (Ne.symm nr.2)]at e
  rcases I.rl r y i l' e nr.1 hl' hend with h | ⟨z,h1,h2⟩
  ·rcases hex r i h with h | ⟨h1,h2⟩
   ·exact .inl h
   ·subst h1;subst h2
    rw[hl]at hl';cases hl'
    rw[hx]at e;cases e
    exact .inr ⟨x+l.2.2,by rw[gT,if_pos rfl],QV _⟩
  ·obtain⟨z',h3,h4⟩:=low _ _ h1
   exact .inr ⟨z',h3,by omega⟩
 ·rcases(hW r).mp hr with h | h
  ·obtain⟨y,e⟩:=I.wk r h
   obtain⟨z,h3,_⟩:=low _ _ e
   exact⟨z,h3⟩
  ·rw[h];exact⟨_,by rw[gT,if_pos rfl]⟩
theorem FI.leave{n:Nat}{ls:List Lk}{s M:Nat}{T:List (Option Int)}{vv:List (Option Nat)}{W:List Nat}{ex ex':Nat->Nat->Prop}(I:FI n ls s M T vv W ex){m k:Nat}{l:Lk}{x y:Int}
  (hl:ls[k]?=some l) (hx:T[m]?=some (some x)) (hy:T[bey l m]?=some (some y)) (hge:y<=x+l.2.2) (hex:∀ r i,ex r i->ex' r i∨(r=m/\i=k)):FI n ls s M T vv W ex' :=
 ⟨I.w0,I.tl,I.vl,I.st,I.vs,I.nn,I.bd,I.pr,I.up,fun r z i l' e hr hl' hend=>by
  rcases I.rl r z i l' e hr hl' hend with h | h
  ·rcases hex r i h with h | ⟨h1,h2⟩
   ·exact .inl h
   ·subst h1;subst h2
    rw[hl]at hl';cases hl'
    rw[hx]at e;cases e
    exact .inr ⟨y,hy,hge⟩
  ·exact .inr h,I.wk⟩
theorem K6{n M:Nat}{ls:List Lk}{s:Nat}{T:List (Option Int)}{vv:List (Option Nat)}{W:List Nat}{ex:Nat->Nat->Prop}(I:FI n ls s M T vv W ex){m t:Nat}{x w:Int}{o:Option Int}(w0:0<=w)(wM:w<=(M:Int))(hx:T[m]?=some (some x))(ho:T[t]?=some o)(hlt:∀ y,o=some y->x+w<y) :
  wgt (n*M+1) (T.set t (some (x+w)))+1<=wgt (n*M+1) T:=by
 have e:=ve (vOf (n*M+1)) T t o (some (x+w)) ho
 have x0:=I.nn m x hx
 have b:=I.bd m x hx
 have e1:vOf (n*M+1) (some (x+w))=(x+w).toNat:=rfl
 unfold wgt
 rw[e1]at e
 cases o with
 |none =>
  have cl:=M9 T ho
  have e2:vOf (n*M+1) none=n*M+1:=rfl
  rw[e2]at e
  have h1:cnt T*M<=n*M:=Su M (by rw[I.tl]at cl;omega)
  have h2:x+(M:Int)<=((n*M:Nat):Int):=by
   have:((cnt T*M:Nat):Int)<=((n*M:Nat):Int):=by exact_mod_cast h1
   have h3:((cnt T*M:Nat):Int)=(cnt T:Int)*(M:Int):=by push_cast;rfl
   omega
  omega
 |some z =>
  have:=hlt z rfl
  have e2:vOf (n*M+1) (some z)=z.toNat:=rfl
  rw[e2]at e
  omega
theorem FI.first{n:Nat}{ls:List Lk}{s M:Nat}(w0:∀ l∈ls,0<=l.2.2/\l.2.2<=(M:Int))(hs:s<n):FI n ls s M ((PU n none).set s (some 0)) (PU n none) [s] (fun _ _=>False):=by
 have gT:∀ r:Nat,((PU n (none:Option Int)).set s (some 0))[r]?=if s=r then some (some 0) else(PU n none)[r]?:=fun r=>yB (by rw[Q4];exact hs)
 have rep:∀{α:Type}(r:Nat)(x:α),(PU n (none:Option α))[r]?≠some (some x):=fun r x e=>by
  have:=Pr e
  have:=(R8.mp this).2
  cases this
 have one:∀(r:Nat)(x:Int),((PU n (none:Option Int)).set s (some 0))[r]?=some (some x)->r=s/\x=0:=fun r x e=>by
  rw[gT]at e
  by_cases c:s=r
  ·rw[if_pos c]at e;cases e;exact⟨c.symm,rfl⟩
  ·rw[if_neg c]at e;exact absurd e (rep r x)
 refine⟨w0,by rw[Qa,Q4],Q4,by rw[gT,if_pos rfl],by rw[QU,if_pos hs],fun r x e=>?_,fun r x e=>?_,fun r k e=>absurd e (rep r k),fun r x e=>?_,fun r x i l e hr=>?_,fun r hr=>?_⟩
 ·rw[(one r x e).2];exact QV _
 ·rw[(one r x e).2]
  have cs:=ve cOf (PU n (none:Option Int)) s none (some 0) (by rw[QU,if_pos hs])
  have c1:cOf (some 0)=1:=rfl
  have c0:cOf none=0:=rfl
  have:1<=cnt ((PU n (none:Option Int)).set s (some 0)):=by unfold cnt;omega
  have h2:1*M<=cnt ((PU n (none:Option Int)).set s (some 0))*M:=Su M this
  have h3:((1*M:Nat):Int)<=((cnt ((PU n (none:Option Int)).set s (some 0))*M:Nat):Int):=by exact_mod_cast h2
  push_cast at h3
  omega
 ·rw[(one r x e).1];exact⟨0,.root⟩
 ·rw[(one r x e).1]at hr
  exact absurd (Qy.mpr rfl) hr
 ·rw[Qy.mp hr];exact⟨0,by rw[gT,if_pos rfl]⟩
theorem FI.take{n:Nat}{ls:List Lk}{s M:Nat}{T:List (Option Int)}{vv:List (Option Nat)}{W W':List Nat}(I:FI n ls s M T vv W (fun _ _=>False)){m:Nat}(hW:∀ r,r∈W'↔r∈W/\r≠m):FI n ls s M T vv W' (fun r _=>r=m) :=
 ⟨I.w0,I.tl,I.vl,I.st,I.vs,I.nn,I.bd,I.pr,I.up,fun r x i l e hr hl hend=>by
  by_cases c:r=m
  ·exact .inl c
  ·rcases I.rl r x i l e (fun z=>hr ((hW r).mpr ⟨z,c⟩)) hl hend with h | h
   ·exact h.elim
   ·exact .inr h,fun r hr=>I.wk r ((hW r).mp hr).1⟩
theorem FI.exw{n:Nat}{ls:List Lk}{s M:Nat}{T:List (Option Int)}{vv:List (Option Nat)}{W:List Nat}{ex ex':Nat->Nat->Prop}(I:FI n ls s M T vv W ex)(h:∀ r i l,ls[i]?=some l->pq l r->ex r i->ex' r i):FI n ls s M T vv W ex' :=
 ⟨I.w0,I.tl,I.vl,I.st,I.vs,I.nn,I.bd,I.pr,I.up,fun r x i l e hr hl hend=>by
  rcases I.rl r x i l e hr hl hend with z | z
  ·exact .inl (h r i l hl hend z)
  ·exact .inr z,I.wk⟩
theorem ak{H:Hp}{p:Addr}(h:H p=none)(o:HO):Same H (upd H p o):=fun b u q=>by rw[ao (aM q h)];exact q
theorem aR{H H2:Hp}{l:Addr}(h:Same H H2)(hl:H l=none)(o:HO):Same H (upd H2 l o):=fun b u q=>by rw[ao (aM q hl)];exact h b u q
theorem iN{H H':Hp}(s:Same H H'){p:Addr}(h:H' p=none):H p=none:=by
 cases y:H p with
 |none=>rfl
 |some o=>rw[s _ _ y]at h;cases h
def iV(p:Nat):V:=.int (p:Int)
theorem at1{x y:V}:atI [x,y] 1=some y:=rfl
theorem a30{x y z:V}:atI [x,y,z] 0=some x:=rfl
theorem a31{x y z:V}:atI [x,y,z] 1=some y:=rfl
theorem a32{x y z:V}:atI [x,y,z] 2=some z:=rfl
def LkAt(H:Hp)(v:V)(l:Lk):Prop:=∃ t,v=.ref t/\H t=some (.tup [.int (l.1:Int),.int (l.2.1:Int),.int l.2.2])
def LnAt(H:Hp)(v:V)(ls:List Lk):Prop:=∃ a ys,v=.ref a/\H a=some (.lst ys)/\LsAt LkAt H ys ls
theorem LkAt.mono{H H':Hp}{v:V}{p:Lk}(h:LkAt H v p)(s:Same H H'):LkAt H' v p:=by
 obtain⟨t,e,z⟩:=h
 exact⟨t,e,s _ _ z⟩
theorem LnAt.mono{H H':Hp}{v:V}{r:List Lk}(h:LnAt H v r)(s:Same H H'):LnAt H' v r:=by
 obtain⟨a,ys,e,z,l⟩:=h
 exact⟨a,ys,e,s _ _ z,l.imp fun _ _ q=>q.mono s⟩
def MM:Nat:=10^31
structure Lok(n:Nat)(ls:List Lk):Prop where
 n1:n<=40
 l9:ls.length<=60
 sm:∀ l∈ls,l.1<n/\l.2.1<n
 w0:∀ l∈ls,0<=l.2.2/\l.2.2<=(MM:Int)
def bb(S:Addr->Prop)(H:Hp)(xs:List V)(ts:List (List Nat)):Prop:=xs.length=ts.length/\∀(i:Nat)(l:List Nat),ts[i]?=some l->∃ p,xs[i]?=some (.ref p)/\¬ S p/\H p=some (.lst (l.map iV))
theorem bb.mono{S:Addr->Prop}{H H':Hp}{xs:List V}{ts:List (List Nat)}(h:bb S H xs ts)(s:∀ b u,¬ S b->H b=some u->H' b=some u):bb S H' xs ts:=⟨h.1,fun i e q=>by
 obtain⟨p,a,n,b⟩:=h.2 i e q
 exact⟨p,a,n,s _ _ n b⟩⟩
theorem bb.snoc{S:Addr->Prop}{H:Hp}{xs:List V}{ts:List (List Nat)}{q:Addr}{l:List Nat}(h:bb S H xs ts)(n:¬ S q)(e:H q=some (.lst (l.map iV))):bb S H (xs++[.ref q]) (ts++[l]):=by
 refine⟨by rw[Px,Px,h.1];rfl,fun j k ej=>?_⟩
 by_cases hj:j<ts.length
 ·rw[Py hj]at ej
  obtain⟨p,a1,a2⟩:=h.2 j k ej
  exact⟨p,by rw[Py (by rw[h.1];exact hj)];exact a1,a2⟩
 ·rw[Pu (Sf hj)]at ej
  have hj2:j=ts.length:=by
   have:=(Pp.mp ej).1
   rw[PY]at this
   omega
  subst hj2
  rw[P1]at ej
  cases ej
  exact⟨q,by rw[← h.1,Pu (Pz _),P1];rfl,n,e⟩
def Dist(xs:List V):Prop:=∀(i j:Nat)(p:Addr),xs[i]?=some (.ref p)->xs[j]?=some (.ref p)->i=j
theorem bb.set{S:Addr->Prop}{H:Hp}{xs:List V}{ts:List (List Nat)}{i:Nat}{p:Addr}{l':List Nat}(h:bb S H xs ts)(D:Dist xs)(e:xs[i]?=some (.ref p)):bb S (upd H p (.lst (l'.map iV))) xs (ts.set i l'):=by
 refine⟨by rw[Qa];exact h.1,fun j l z=>?_⟩
 have hi:i<ts.length:=by rw[← h.1];exact(Pp.mp e).1
 rw[Qh]at z
 by_cases hj:i=j
 ·subst hj
  rw[if_pos rfl,if_pos hi]at z
  cases z
  obtain⟨p',a1,a2,a3⟩:=h.2 i _ (Pq hi)
  rw[e]at a1
  cases a1
  exact⟨p,e,a2,af⟩
 ·rw[if_neg hj]at z
  obtain⟨p',a1,a2,a3⟩:=h.2 j l z
  exact⟨p',a1,a2,by rw[ao (fun y=>by rw[y]at a1;exact hj (D i j p e a1))];exact a3⟩
theorem ra{S:Addr->Prop}{H:Hp}{xs:List V}{ts:List (List Nat)}{q:Addr}(h:bb S H xs ts)(D:Dist xs)(hq:H q=none):Dist (xs++[.ref q]):=by
 have old:∀ i p,xs[i]?=some (V.ref p)->p≠q:=fun i p e z=>by
  have hi:i<ts.length:=by rw[← h.1];exact(Pp.mp e).1
  obtain⟨p',a1,_,a3⟩:=h.2 i _ (Pq hi)
  rw[e]at a1;cases a1
  rw[z,hq]at a3;cases a3
 have cas:∀ i p,(xs++[V.ref q])[i]?=some (V.ref p)->(xs[i]?=some (V.ref p))∨(i=xs.length/\p=q):=fun i p e=>by
  by_cases c:i<xs.length
  ·rw[Py c]at e;exact .inl e
  ·rw[Pu (Sf c)]at e
   have h2:=(Pp.mp e).1
   rw[PY]at h2
   have h3:i-xs.length=0:=by omega
   rw[h3]at e
   cases e
   exact .inr ⟨by omega,rfl⟩
 intro i j p e1 e2
 rcases cas i p e1 with h1 | ⟨h1,h1'⟩
 ·rcases cas j p e2 with h2 | ⟨h2,h2'⟩
  ·exact D i j p h1 h2
  ·exact absurd h2' (old i p h1)
 ·rcases cas j p e2 with h2 | ⟨h2,h2'⟩
  ·exact absurd h1' (old j p h2)
  ·omega
structure AtM(n c:Nat)(rows:List (List Nat))(mem:Nat->Nat->Prop):Prop where
 len:rows.length=n
 mm:∀(r:Nat)(row:List Nat),rows[r]?=some row->∀ j,j∈row↔mem r j
 few:∀ row∈rows,row.length<=c
theorem AtM.put{n c:Nat}{rows:List (List Nat)}{mem:Nat->Nat->Prop}(h:AtM n c rows mem){a i:Nat}{l:List Nat}(hl:rows[a]?=some l):AtM n (c+1) (rows.set a (l++[i])) (fun r j=>mem r j∨(r=a/\j=i)):=by
 have ha:=(Pp.mp hl).1
 refine⟨by rw[Qa];exact h.len,fun r row e j=>?_,fun row hr=>?_⟩
 ·rw[yB ha]at e
  by_cases z:a=r
  ·rw[if_pos z]at e
   cases e
   subst z
   rw[PM,Qy,h.mm a l hl j]
   exact⟨fun y=>y.imp id fun y=>⟨rfl,y⟩,fun y=>y.imp id fun y=>y.2⟩
  ·rw[if_neg z]at e
   rw[h.mm r row e j]
   exact⟨.inl,fun y=>y.elim id fun y=>absurd y.1.symm z⟩
 ·rcases RH hr with y | y
  ·have:=h.few row y;omega
  ·have:=h.few l (Pr hl)
   rw[y,Px,PY];omega
def memL(ls:List Lk)(r j:Nat):Prop:=∃ l,ls[j]?=some l/\pq l r
structure Txt(mg:Str->Option Value):Prop where
 n_len:mg "len" = none
 n_int:mg "int" = none
 n_bool:mg "bool" = none
 n_list:mg "list" = none
 n_tuple:mg "tuple" = none
 n_range:mg "range" = none
 n_min:mg "min" = none
 n_abs:mg "abs" = none
 n_enumerate:mg "enumerate" = none
 n_isinstance:mg "isinstance" = none
def spBey:Sp:=fun vs H Q _=>∃(v:V)(l:Lk)(r:Nat),vs = [v,.int (r:Int)]/\LkAt H v l/\Q (.int ((bey l r:Nat):Int)) H
def spAt:Sp:=fun vs H Q _=>∃(v:V)(n:Nat)(ls:List Lk),vs = [.int (n:Int),v]/\LnAt H v ls/\Lok n ls/\∀(p:Addr)(ys:List V)(rows:List (List Nat)) H',Same H H'->H p=none->H' p=some (.lst ys)->bb (fun q=>q=p∨H q≠none) H' ys rows->AtM n 120 rows (memL ls)->Q (.ref p) H'
section
variable{P:Program}{w:World}{K:Pt}{mg:Str->Option Value}{base:Heap}
theorem Ia:aC ["link","room"] ["link","room"] (aj gX):=⟨rfl,rfl,rfl,by decide +kernel,rfl,by decide +kernel,by decide +kernel⟩
theorem ok_bey{f:Addr}{fd:FuncData} (F:Fun K "beyond" "beyond" gX f fd):FnOk P w K mg base CX0 1 f fd ["link","room"] spBey:=by
 refine F.ok Ia (fun vs H Q E h=>?_) (fun cdv A outer s H vs Q E hr h=>?_)
 ·obtain⟨v,l,r,rfl,_⟩:=h
  rfl
 obtain⟨v,l,r,rfl,⟨t,rfl,ht⟩,q⟩:=h
 refine⟨_,(aq (aI (lX (aG iS (pv 1) (ax aH (pv 0) ah (fun _ _=>rfl)) (aN _)) (ax aH (pv 0) ah (fun _ _=>rfl)) (ax aH (pv 0) ah (fun _ _=>rfl))))),?_⟩
 refine⟨_,rfl,_,rfl,t,_,0,_,rfl,rfl,SqT.of ht,a30,rfl,_,rfl,?_⟩
 refine ite2 (fun c=>?_) (fun c=>?_)
 ·have c':r=l.1:=by have:=V.int.inj (of_decide_eq_true c);omega
  have e:bey l r=l.2.1:=by unfold bey;rw[if_pos c']
  rw[e]at q
  exact⟨_,rfl,t,_,1,_,rfl,rfl,SqT.of ht,a31,q⟩
 ·have c':¬ r=l.1:=fun z=>c (decide_eq_true (congrArg V.int (by omega)))
  have e:bey l r=l.1:=by unfold bey;rw[if_neg c']
  rw[e]at q
  exact⟨_,rfl,t,_,0,_,rfl,rfl,SqT.of ht,a30,q⟩
theorem gQ:aC ["many","links","at","number","link"] ["many","links"] (aj c7):=⟨rfl,rfl,rfl,by decide +kernel,rfl,by decide +kernel,by decide +kernel⟩
theorem ok_at{f:Addr}{fd:FuncData} (F:Fun K "links_at" "links_at" c7 f fd) (T:Txt mg):FnOk P w K mg base CX0 1 f fd ["many","links"] spAt:=by
 refine F.ok gQ (fun vs H Q E h=>?_) (fun cdv A outer s H vs Q E hr h=>?_)
 ·obtain⟨v,n,ls,rfl,_⟩:=h
  rfl
 obtain⟨v,n,ls,rfl,⟨a,xs,rfl,hA,hL⟩,ok,kk⟩:=h
 have n1:=ok.n1
 have l9:=ok.l9
 have xl:=hL.1
 refine⟨_,(ag (gF (i:=2) rfl gQ.nd rfl rfl (fr:=[]) (by exact bq.plain (by rfl) (by decide +kernel) (by rfl) (by decide +kernel) (by rfl) (by decide +kernel)) (aW rfl T.n_range (ae (pv 0) ai)) (fun C ex s H=>(bY ai)))
   (ag (bM PassesOwn.never rfl (vN rfl T.n_enumerate (ae (pv 1) ai)) (uy rfl (bw (aO (i:=3) gQ.nd rfl (Or.inl rfl)) (bw (aO (i:=4) gQ.nd rfl (Or.inl rfl)) iP))) (ag (a7 (gf P4 Qj Qi a8 (ax az (pv 2) (ax aH (pv 4) ah (fun _ _=>rfl)) (fun _ _=>rfl)) (ae (pv 3) ai)))
   (aq (a7 (gf P4 Qj Qi a8 (ax az (pv 2) (ax aH (pv 4) ah (fun _ _=>rfl)) (fun _ _=>rfl)) (ae (pv 3) ai))))))
   (aq (aI (pv 2))))),?_⟩
 refine⟨_,rfl,_,rfl,by omega,by omega,dt (n:=(n:Int).toNat) (fun i ys H2=>Same H H2/\bb (fun p=>H p≠none) H2 ys (PU i [])/\Dist ys) (by rw[PQ];exact Ql (au (by omega))) ⟨fun _ _ e=>e,⟨rfl,fun i l e=>by simp at e⟩,fun i j p e=>by simp at e⟩ ?_ ?_⟩
 ·rintro i ys H2 hi ⟨s2,rx,D⟩
  refine⟨(by show 0<=sizeLine;decide),fun l hl=>?_⟩
  have s3:=ak hl (.lst [])
  refine⟨s2.trans s3,?_,ra rx D hl⟩
  rw[RF]
  exact(rx.mono fun b u _ z=>s3 _ _ z).snoc (fun z=>z (iN s2 hl)) af
 rintro ys H2 hyl ⟨s2,rx,D⟩ pn hpn
 rw[PQ]at rx
 have s3:=ak hpn (.lst ys)
 have hpn0:H pn=none:=iN s2 hpn
 have rx3:bb (fun p=>p=pn∨H p≠none) (upd H2 pn (.lst ys)) ys (PU n []):=⟨rx.1,fun i l z=>by
  obtain⟨p,a1,a2,a3⟩:=rx.2 i l z
  have n2:p≠pn:=aM a3 hpn
  exact⟨p,a1,by rintro(y | y);exact n2 y;exact a2 y,s3 _ _ a3⟩⟩
 have m0:AtM n 0 (PU n []) (memL (ls.take 0)):=⟨Q4,fun r row e j=>by
  have:=(R8.mp (Pr e)).2
  subst this
  exact⟨(fun z=>nomatch z),fun⟨l,z,_⟩=>by rw[S2]at z;cases z⟩,fun row hr=>by rw[(R8.mp hr).2];exact Pz _⟩
 refine⟨_,rfl,a,rfl,⟨_,SqL.of ((s2.trans s3) _ _ hA)⟩,xr (K:=K) (xs:=xs) (fun i σ H5=>∃ v4 v5 rows,σ = [some (.int (n:Int)),some (.ref a),some (.ref pn),v4,v5]/\Same H H5/\H5 pn=some (.lst ys)/\bb (fun p=>p=pn∨H p≠none) H5 ys rows/\AtM n (2*i) rows (memL (ls.take i)))
  ⟨_,_,_,rfl,s2.trans s3,af,rx3,m0⟩ (fun i σ H5 _ ⟨_,_,_,_,z,_⟩=>SqL.of (z _ _ hA)) ?_ ?_⟩
 ·rintro i x σ H5 T2 hx ⟨v4,v5,rows,rfl,s5,hpn5,rx5,am⟩ hT2
  obtain⟨l,hl,p,rfl,hp⟩:=hL.get hx
  obtain⟨b1,b2⟩:=ok.sm l (Pr hl)
  have sT:=ak hT2 (.tup [.int (i:Int),.ref p])
  have s6:=s5.trans sT
  have hp6:=s6 _ _ hp
  have rlen:=am.len
  have ilt:i<ls.length:=(Pp.mp hl).1
  obtain⟨r1,hr1⟩:∃ r,rows[l.1]?=some r:=⟨_,Pq (by omega)⟩
  have rx6:bb (fun p=>p=pn∨H p≠none) (upd H5 T2 (.tup [.int (i:Int),.ref p])) ys rows:=rx5.mono fun b u _ z=>sT _ _ z
  obtain⟨p1,y1,y2,y3⟩:=rx6.2 _ _ hr1
  have no_S:∀{p:Addr},¬ (p=pn∨H p≠none)->H p=none/\p≠pn:=fun{p} n=>by
   refine⟨?_,fun z=>n (.inl z)⟩
   cases y:H p with
   |none=>rfl
   |some o=>exact absurd (.inr (by rw[y];exact fun z=>nomatch z)) n
  obtain⟨hp1,np1⟩:=no_S y2
  have f1:=am.few r1 (Pr hr1)
  have hpn6:=sT _ _ hpn5
  refine⟨T2,_,rfl,SqT.of af,rfl,_,_,rfl,_,_,rfl,rfl,?_⟩
  refine⟨_,rfl,_,rfl,p,_,0,_,rfl,rfl,SqT.of hp6,a30,pn,ys,_,_,rfl,rfl,SqL.of hpn6,aA y1,.inl ⟨rfl,_,SqL.of y3⟩,_,rfl,p1,_,_,rfl,rfl,y3,au (by rw[PB];omega),?_⟩
  have e1':(r1.map iV)++[V.int (i:Int)]=(r1++[i]).map iV:=by rw[Qw];rfl
  rw[e1']
  have rx7:=rx6.set D y1 (l':=r1++[i])
  have am1:=am.put (i:=i) hr1
  have s7:Same H (upd (upd H5 T2 (.tup [.int (i:Int),.ref p])) p1 (.lst ((r1++[i]).map iV))):=aR s6 hp1 _
  have hp7:=s7 _ _ hp
  have hpn7:(upd (upd H5 T2 (.tup [.int (i:Int),.ref p])) p1 (.lst ((r1++[i]).map iV))) pn=some (.lst ys):=by rw[ao np1.symm];exact hpn6
  obtain⟨r2,hr2⟩:∃ r,(rows.set l.1 (r1++[i]))[l.2.1]?=some r:=⟨_,Pq (by rw[Qa];omega)⟩
  obtain⟨p2,z1,z2,z3⟩:=rx7.2 _ _ hr2
  obtain⟨hp2,np2⟩:=no_S z2
  have f2:=am1.few r2 (Pr hr2)
  refine⟨_,rfl,_,rfl,p,_,1,_,rfl,rfl,SqT.of hp7,a31,pn,ys,_,_,rfl,rfl,SqL.of hpn7,aA z1,.inl ⟨rfl,_,SqL.of z3⟩,_,rfl,p2,_,_,rfl,rfl,z3,au (by rw[PB];omega),?_⟩
  have e2':(r2.map iV)++[V.int (i:Int)]=(r2++[i]).map iV:=by rw[Qw];rfl
  rw[e2']
  have am2:=am1.put (i:=i) hr2
  refine⟨_,_,(rows.set l.1 (r1++[i])).set l.2.1 (r2++[i]),rfl,aR s7 hp2 _,by rw[ao np2.symm];exact hpn7,rx7.set D z1,am2.len,fun r row e j=>?_,fun row hr=>?_⟩
  ·rw[am2.mm r row e j]
   unfold memL
   rw[Qf,hl]
   have til:(ls.take i).length=i:=by rw[Qr];omega
   constructor
   ·rintro((⟨l',h1,h2⟩ | ⟨h1,h2⟩) | ⟨h1,h2⟩)
    ·exact⟨l',by rw[Py (Pp.mp h1).1];exact h1,h2⟩
    ·subst h2;exact⟨l,by rw[Pu (by omega),til,P1];rfl,.inl h1⟩
    ·subst h2;exact⟨l,by rw[Pu (by omega),til,P1];rfl,.inr h1⟩
   ·rintro⟨l',h1,h2⟩
    by_cases c:j<i
    ·rw[Py (by omega)]at h1
     exact .inl (.inl ⟨l',h1,h2⟩)
    ·rw[Pu (by omega)]at h1
     have h3:=(Pp.mp h1).1
     have h4:j=i:=by
      have:(Option.toList (some l)).length=1:=rfl
      omega
     subst h4
     rw[til,P1]at h1
     cases h1
     rcases h2 with h2 | h2
     ·exact .inl (.inr ⟨h2,rfl⟩)
     ·exact .inr ⟨h2,rfl⟩
  ·have:=am2.few row hr;omega
 ·rintro σ H5 ⟨v4,v5,rows,rfl,s5,hpn5,rx5,am⟩
  rw[xl,Qn]at am
  exact⟨_,rfl,kk pn ys rows H5 s5 hpn0 hpn5 rx5 ⟨am.len,am.mm,fun row hr=>by have:=am.few row hr;omega⟩⟩
end
def spBits:Sp:=fun vs H Q _=>∃ n:Int,vs = [.int n]/\0<=n/\n<1208925819614629174706176/\∀ r H',Same H H'->H r=none->H' r=some (.lst ((K2.bitsF 0 n.toNat).map iV))->Q (.ref r) H'
section
variable{P:Program}{w:World}{K:Pt}{mg:Str->Option Value}{base:Heap}
theorem mT:aC ["mask","numbers","number","rest"] ["mask"] (aj qp):=⟨rfl,rfl,rfl,by decide +kernel,rfl,by decide +kernel,by decide +kernel⟩
theorem ok_bits{f:Addr}{fd:FuncData} (F:Fun K "bits" "bits" qp f fd):FnOk P w K mg base CX0 1 f fd ["mask"] spBits:=by
 refine F.ok mT (fun vs H Q E h=>?_) (fun cdv A outer s H vs Q E hr h=>?_)
 ·obtain⟨n,rfl,_⟩:=h
  rfl
 obtain⟨n,rfl,h0,h1,k⟩:=h
 refine⟨_,(ag (av (i:=1) mT.nd rfl (Or.inl rfl) (bY ai))
   (ag (av (i:=2) mT.nd rfl (Or.inl rfl) ah)
   (ag (av (i:=3) mT.nd rfl (Or.inl rfl) (pv 0))
   (ag (gY PassesOwn.never (aG IC (pv 3) ah (aN _)) (ag (bZ (aG iS (aw bE (pv 3) ah) ah (aN _)) (aq (a7 (gf P4 Qj Qi a8 (pv 1) (ae (pv 2) ai)))) aS)
   (ag (av (i:=3) mT.nd rfl (Or.inl rfl) (aw cP (pv 3) ah))
   (aq (av (i:=2) mT.nd rfl (Or.inl rfl) (aw bA (pv 2) ah))))))
   (aq (aI (pv 1))))))),?_⟩
 refine⟨(by show 0<=sizeLine;decide),fun l hl=>?_⟩
 have z80:(2:Nat)^80=1208925819614629174706176:=by decide
 have hlen:(K2.bitsF 0 n.toNat).length<=80:=K2.bitsF_len 80 n.toNat 0 (by omega)
 refine⟨_,rfl,gL (fun σ H2=>∃(kn rn:Nat)(pre:List Nat),σ = [some (.int n),some (.ref l),some (.int (kn:Int)),some (.int (rn:Int))]/\H2 l=some (.lst (pre.map iV))/\pre++K2.bitsF kn rn=K2.bitsF 0 n.toNat/\Same H H2)
  (fun σ _=>match σ with | [_,_,_,some (.int r)]=>r.toNat | _=>0) ⟨0,n.toNat,[],?_,af,rfl,ak hl _⟩ ?_ ?_⟩
 ·have e:((n.toNat:Nat):Int)=n:=by omega
  rw[e]
  rfl
 ·rintro σ H2 ⟨kn,rn,pre,rfl,hp,hb,hs⟩
  refine⟨_,rfl,_,_,rfl,rfl,_,rfl,?_⟩
  refine ite2 (fun c=>?_) (fun c=>?_)
  ·have c':(0:Int)<(rn:Int):=of_decide_eq_true c
   have d2:((rn:Int)/2)=((rn/2:Nat):Int):=by omega
   have hlp:pre.length<=80:=by
    have:=congrArg List.length hb
    rw[Px]at this
    omega
   walk_at "rd"
   refine ite2 (fun o=>?_) (fun o=>?_)
   ·have o':(rn:Int)%2=1:=V.int.inj (of_decide_eq_true o)
    refine⟨_,rfl,.inl ⟨rfl,_,SqL.of hp⟩,_,rfl,l,_,_,rfl,rfl,hp,au (by rw[PB];omega),?_⟩
    walk_at "rd"
    refine⟨⟨kn+1,rn/2,pre++[kn],?_,?_,?_,?_⟩,?_⟩
    ·show[some (V.int n),some (V.ref l),some (V.int ((kn:Int)+1)),some (V.int ((rn:Int)/2))]=_
     rw[d2];rfl
    ·rw[af,Qw];rfl
    ·rw[Ro,← hb]
     have z:=K2.bitsF_odd (k:=kn) (n:=rn) (by omega)
     rw[z];rfl
    ·exact aR hs hl _
    ·show((rn:Int)/2).toNat<((rn:Nat):Int).toNat
     omega
   ·have o':¬ (rn:Int)%2=1:=fun z=>o (decide_eq_true (congrArg V.int z))
    walk_at "rd"
    refine⟨⟨kn+1,rn/2,pre,?_,hp,?_,hs⟩,?_⟩
    ·show[some (V.int n),some (V.ref l),some (V.int ((kn:Int)+1)),some (V.int ((rn:Int)/2))]=_
     rw[d2];rfl
    ·rw[← hb,K2.bitsF_even (k:=kn) (n:=rn) (by omega) (by omega)]
    ·show((rn:Int)/2).toNat<((rn:Nat):Int).toNat
     omega
  ·have c':¬ (0:Int)<(rn:Int):=fun z=>c (decide_eq_true z)
   have z:rn=0:=by omega
   subst z
   rw[K2.bitsF_zero,RL]at hb
   refine⟨_,rfl,?_⟩
   exact k l H2 hs hl (by rw[hp,hb])
 ·rintro σ H2 Q1 Q2 hi ⟨v,e,i,j,a,b,kk,e2,q⟩
  exact⟨v,e,i,j,a,b,kk,e2,hi _ _ q⟩
end
def flat(PL:List (Nat×Nat)):List Nat:=PL.flatMap fun p=>[p.1,p.2]
def cst(d:Nat->Nat->Int)(PL:List (Nat×Nat)):Int:=(PL.map fun p=>d p.1 p.2).sum
def Cs(d:Nat->Nat->Int)(S:List Nat)(c:Int):Prop:=∃ PL,(flat PL).Perm S/\cst d PL=c
structure Met(n:Nat)(d:Nat->Nat->Int):Prop where
 sy:∀ a b,d a b=d b a
 nn:∀ a b,0<=d a b
 tr:∀ a b c,a<n->b<n->c<n->d a c<=d a b+d b c
theorem flat_cons(p:Nat×Nat)(PL:List (Nat×Nat)):flat (p::PL)=p.1::p.2::flat PL:=rfl
theorem mC(d:Nat->Nat->Int)(p:Nat×Nat)(PL:List (Nat×Nat)):cst d (p::PL)=d p.1 p.2+cst d PL:=by unfold cst;rw[P7,Ri]
theorem Cs.perm{d:Nat->Nat->Int}{S S':List Nat}{c:Int}(h:Cs d S c)(p:S.Perm S'):Cs d S' c:=by
 obtain⟨PL,h1,h2⟩:=h
 exact⟨PL,h1.trans p,h2⟩
theorem part0{d:Nat->Nat->Int}(sy:∀ a b,d a b=d b a){a:Nat}:∀{PL:List (Nat×Nat)},a∈flat PL->∃ e PL',(flat PL).Perm (a::e::flat PL')/\cst d PL=d a e+cst d PL'
 |[],h=>nomatch h
 | (x,y)::PL,h=>by
  rw[flat_cons]at h
  by_cases c1:a=x
  ·subst c1
   exact⟨y,PL,.refl _,mC ..⟩
  by_cases c2:a=y
  ·subst c2
   exact⟨x,PL,.swap _ _ _,by rw[mC];show d x a+_=_;rw[sy x a]⟩
  have h':a∈flat PL:=by
   rcases Pw.mp h with h | h
   ·exact absurd h c1
   ·rcases Pw.mp h with h | h
    ·exact absurd h c2
    ·exact h
  obtain⟨e,PL',p,ec⟩:=part0 sy h'
  refine⟨e,(x,y)::PL',?_,by rw[mC,mC,ec];omega⟩
  rw[flat_cons,flat_cons]
  have p1:(x::y::flat PL).Perm (x::y::a::e::flat PL'):=(p.cons y).cons x
  refine p1.trans ?_
  have q1:([x,y]++([a,e]++flat PL')).Perm ([a,e]++([x,y]++flat PL')):=by
   rw[← Ro,← Ro]
   exact(QP).append_right _
  exact q1
theorem Cs.part{d:Nat->Nat->Int}(sy:∀ a b,d a b=d b a){S:List Nat}{c:Int}{a:Nat}(h:Cs d S c)(ha:a∈S):∃ e R c0,S.Perm (a::e::R)/\Cs d R c0/\c=d a e+c0:=by
 obtain⟨PL,p,ec⟩:=h
 obtain⟨e,PL',p',ec'⟩:=part0 sy (p.mem_iff.mpr ha)
 exact⟨e,flat PL',cst d PL',p.symm.trans p',⟨PL',.refl _,rfl⟩,by rw[← ec,ec']⟩
theorem Cs.add{d:Nat->Nat->Int}{R:List Nat}{c0:Int}(a e:Nat)(h:Cs d R c0):Cs d (a::e::R) (d a e+c0):=by
 obtain⟨PL,p,ec⟩:=h
 exact⟨(a,e)::PL,by rw[flat_cons];exact(p.cons e).cons a,by rw[mC,ec]⟩
def tog(S:List Nat)(a:Nat):List Nat:=if a∈S then S.erase a else a::S
theorem tog_nd{S:List Nat}(h:S.Nodup)(a:Nat):(tog S a).Nodup:=by
 unfold tog
 split
 ·exact h.erase _
 ·exact PF.mpr ⟨by assumption,h⟩
theorem Lc{S S':List Nat}(p:S.Perm S')(a:Nat):(tog S a).Perm (tog S' a):=by
 unfold tog
 by_cases c:a∈S
 ·rw[if_pos c,if_pos (p.mem_iff.mp c)]
  exact p.erase a
 ·rw[if_neg c,if_neg (fun z=>c (p.mem_iff.mpr z))]
  exact p.cons a
theorem Nu{S:List Nat}(h:S.Nodup)(a:Nat):(tog (tog S a) a).Perm S:=by
 by_cases c:a∈S
 ·have e:tog S a=S.erase a:=by unfold tog;rw[if_pos c]
  have n:a∉S.erase a:=h.not_mem_erase
  have e2:tog (S.erase a) a=a::S.erase a:=by unfold tog;rw[if_neg n]
  rw[e,e2]
  exact(List.perm_cons_erase c).symm
 ·have e:tog S a=a::S:=by unfold tog;rw[if_neg c]
  have e2:tog (a::S) a=S:=by unfold tog;rw[if_pos (PH ..),Rl]
  rw[e,e2]
theorem OC{S:List Nat}(h:S.Nodup){a x:Nat}:x∈tog S a↔(x∈S/\x≠a)∨(x=a/\a∉S):=by
 unfold tog
 by_cases c:a∈S
 ·rw[if_pos c,h.mem_erase_iff]
  exact⟨fun z=>.inl ⟨z.2,z.1⟩,fun z=>z.elim (fun y=>⟨y.2,y.1⟩) fun y=>absurd c y.2⟩
 ·rw[if_neg c,Pw]
  constructor
  ·rintro(z | z)
   ·exact .inr ⟨z,c⟩
   ·exact .inl ⟨z,fun y=>c (y▸z)⟩
  ·rintro(z | z)
   ·exact .inr z.1
   ·exact .inl z.1
theorem Cs.two{n:Nat}{d:Nat->Nat->Int}(M:Met n d){S:List Nat}{c:Int}(nd:S.Nodup)(lt:∀ x∈S,x<n)(h:Cs d S c){a b:Nat}(ha:a<n)(hb:b<n):∃ c',Cs d (tog (tog S a) b) c'/\c'<=c+d a b:=by
 have dn:=M.nn a b
 by_cases ab:a=b
 ·subst ab
  exact⟨c,h.perm (Nu nd a).symm,by omega⟩
 by_cases ca:a∈S
 ·obtain⟨e,R,c0,p,h0,ec⟩:=h.part M.sy ca
  have ea:tog S a=S.erase a:=by unfold tog;rw[if_pos ca]
  have p1:(S.erase a).Perm (e::R):=by
   have:=p.erase a
   rw[Rl]at this
   exact this
  have elt:e<n:=lt e (p.mem_iff.mpr (PD _ (PH ..)))
  rw[ea]
  by_cases cb:b∈S.erase a
  ·have eb:tog (S.erase a) b=(S.erase a).erase b:=by unfold tog;rw[if_pos cb]
   rw[eb]
   by_cases ebb:e=b
   ·subst ebb
    have p2:=p1.erase e
    rw[Rl]at p2
    refine⟨c0,h0.perm p2.symm,?_⟩
    have:=M.nn a e
    omega
   ·have bR:b∈R:=by
     rcases Pw.mp (p1.mem_iff.mp cb)with z | z
     ·exact absurd z.symm ebb
     ·exact z
    obtain⟨f,R2,c1,q,h1,ec1⟩:=h0.part M.sy bR
    have flt:f<n:=lt f (p.mem_iff.mpr (PD _ (PD _ (q.mem_iff.mpr (PD _ (PH ..))))))
    have p2:((S.erase a).erase b).Perm (e::f::R2):=by
     have z1:(S.erase a).Perm (b::e::f::R2):=p1.trans ((q.cons e).trans (.swap _ _ _))
     have z2:=z1.erase b
     rw[Rl]at z2
     exact z2
    refine⟨d e f+c1,(h1.add e f).perm p2.symm,?_⟩
    have t1:=M.tr e a f elt ha flt
    have t2:=M.tr a b f ha hb flt
    have s1:=M.sy e a
    omega
  ·have eb:tog (S.erase a) b=b::S.erase a:=by unfold tog;rw[if_neg cb]
   rw[eb]
   refine⟨d b e+c0,(h0.add b e).perm (p1.symm.cons b),?_⟩
   have t1:=M.tr b a e hb ha elt
   have s1:=M.sy b a
   omega
 ·have ea:tog S a=a::S:=by unfold tog;rw[if_neg ca]
  rw[ea]
  by_cases cb:b∈S
  ·have eb:tog (a::S) b=a::S.erase b:=by
    unfold tog
    rw[if_pos (PD _ cb),List.erase_cons_tail (by simpa using ab)]
   rw[eb]
   obtain⟨e,R,c0,p,h0,ec⟩:=h.part M.sy cb
   have p1:(S.erase b).Perm (e::R):=by
    have:=p.erase b
    rw[Rl]at this
    exact this
   have elt:e<n:=lt e (p.mem_iff.mpr (PD _ (PH ..)))
   refine⟨d a e+c0,(h0.add a e).perm (p1.symm.cons a),?_⟩
   have t1:=M.tr a b e ha hb elt
   omega
  ·have eb:tog (a::S) b=b::a::S:=by
    unfold tog
    rw[if_neg (fun z=>by rcases Pw.mp z with z | z;exact ab z.symm;exact cb z)]
   rw[eb]
   refine⟨d b a+c,h.add b a,?_⟩
   have:=M.sy b a
   omega
end KF
namespace KF
open PySem L2
local macro_rules | `(tactic| walk_at "cc") => `(tactic| first | exact ⟨by decide, by decide⟩ | (show (0 : Int) < _; decide) | (show (0 : Int) < _; omega) | (show (0 : Int) ≤ _; omega) | exact ⟨by decide, by decide, by decide⟩ | exact ⟨by omega, by omega, by decide⟩ | exact Or.inl ⟨by decide, by decide⟩ | exact Or.inl ⟨by omega, by omega⟩)
local macro_rules | `(tactic| walk_at "rd") => `(tactic| repeat (first | refine ⟨_, rfl, ?_⟩ | refine ⟨_, _, rfl, rfl, ?_⟩ | refine ⟨rfl, ?_⟩ | (refine ⟨?cc, ?_⟩; (case cc => walk_at "cc"))))
def lpF:Pos:=⟨66,32,66,55⟩
theorem Fun.okT{P:Program}{w:World}{K:Pt}{mg:Str->Option Value}{base:Heap}{x qual:Str}{st:Stmt}{f c TT:Addr}{fd:FuncData}{N ps:List Str}{k:Nat}{sp:Sp}(F:Fun K x qual st f fd)(S:aC N ps (aj st))(ht:RC K x=some (c,TT))(hn:PK K mainGlobals x=some (some (.ref f)))
  (len:∀ vs H Q E,sp vs H Q E->vs.length=ps.length)
  (hbody:∀(A:Around)(outer:List Env)(s:Shared)(H:Hp)(vs:List V)(Q:VK)(E:XK),Room k (A.deeper (PyProof.Rows.envOfC qual (aj st) s.heap.objs.size f (.ref c)))->sp vs H Q E ->
   ∃ t,PSs (cxOf CX0 P w K mg base N qual (aj st) f (.ref c) A outer s H E).nox (aB st) t/\t { nx:=fun _ H'=>Q .non H',rt:=Q } (vf N vs) H):FnOk P w K mg base CX0 (k+1) f fd ps sp:=by
 obtain⟨oc,od,kV,doc,pm,an,cdv,ct,osl,rfl,lk,hcd⟩:=F.ex
 have e:cdv=.ref c:=by
  unfold RC at ht
  rw[hn]at ht
  simp only[lk]at ht
  cases cdv<;>first | (cases ht;done) | skip
  simp only at ht
  split at ht
  ·split at ht
   ·cases ht;rfl
   ·cases ht
  ·cases ht
 subst e
 refine fn_of lk hcd S len fun A outer s H vs Q E hr hsp=>?_
 obtain⟨t,h,q⟩:=hbody A outer s H vs Q E hr hsp
 exact⟨t,h.nox,q⟩
def oV:Option Int->V | none=>.non | some x=>.int x
def oN:Option Nat->V | none=>.non | some k=>.int (k:Int)
def kw(r:Nat):Key×V:=(Sum.inl (r:Int),.bl true)
def lqF:Str:=("fares" : Str)++".<locals>."++"<lambda>"
def sF(ta va wd TT p:Addr):Prop:=p=TT∨p=ta∨p=va∨p=wd
def KpS(S:Addr->Prop)(H H':Hp):Prop:=∀ b o,¬ S b->H b=some o->H' b=some o
theorem KpS.upd{S:Addr->Prop}{H H1:Hp}(a:KpS S H H1){p:Addr}(hp:S p)(o:HO):KpS S H (L2.upd H1 p o):=fun c u n h=>by
 rw[ao (fun z=>n (by rw[z];exact hp))]
 exact a c u n h
def spFares(TT:Addr):Sp:=fun vs H Q _=>∃(v:V)(n s:Nat)(ls:List Lk),vs = [.int (n:Int),v,.int (s:Int)]/\LnAt H v ls/\Lok n ls/\s<n/\Tb lqF lpF TT H /\
 ∀(t ta va:Addr)(TL:List (Option Int))(VL:List (Option Nat)) H',TbS TT H H'->Tb lqF lpF TT H'->H ta=none->H va=none->H' t=some (.tup [.ref ta,.ref va])->H' ta=some (.lst (TL.map oV))->H' va=some (.lst (VL.map oN))->FI n ls s MM TL VL [] (fun _ _=>False)->Q (.ref t) H'
structure FH(ta va wd TT:Addr)(n s:Nat)(ls:List Lk)(H1:Hp)(TL:List (Option Int))(VL:List (Option Nat))(W:List Nat)(ex:Nat->Nat->Prop)(H:Hp):Prop where
 kp:KpS (sF ta va wd TT) H1 H
 ht:H ta=some (.lst (TL.map oV))
 hv:H va=some (.lst (VL.map oN))
 hw:H wd=some (.dK (W.map kw))
 tb:Tb lqF lpF TT H
 fi:FI n ls s MM TL VL W ex
 nd:W.Nodup
def vW(n:Nat)(v:V):Nat:=match v with | .int x=>x.toNat | _=>n*MM+1
def mesH(n:Nat)(ta wd:Addr)(H:Hp):Nat:=match H ta,H wd with
 |some (.lst xs),some (.dK kvs)=>(xs.map (vW n)).sum*(n+1)+kvs.length
 |_,_=>0
theorem FH.mes{ta va wd TT:Addr}{n s:Nat}{ls:List Lk}{H1 H:Hp}{TL:List (Option Int)}{VL:List (Option Nat)}{W:List Nat}{ex:Nat->Nat->Prop}(h:FH ta va wd TT n s ls H1 TL VL W ex H):mesH n ta wd H=wgt (n*MM+1) TL*(n+1)+W.length:=by
 unfold mesH wgt
 rw[h.ht,h.hw]
 have e:(TL.map oV).map (vW n)=TL.map (vOf (n*MM+1)):=by
  rw[RU]
  refine R5 fun o _=>?_
  cases o<;>rfl
 show((TL.map oV).map (vW n)).sum*(n+1)+(W.map kw).length=_
 rw[e,PB]
theorem FH.wlen{ta va wd TT:Addr}{n s:Nat}{ls:List Lk}{H1 H:Hp}{TL:List (Option Int)}{VL:List (Option Nat)}{W:List Nat}{ex:Nat->Nat->Prop}(h:FH ta va wd TT n s ls H1 TL VL W ex H):W.length<=n :=
 lZ n W h.nd fun x hx=>by
  obtain⟨y,hy⟩:=h.fi.wk x hx
  have:=(Pp.mp hy).1
  rw[h.fi.tl]at this
  exact this
theorem M0{r s:Nat}(h:(kw r).1=(kw s).1):r=s:=by
 have:(r:Int)=(s:Int):=by injection h
 omega
theorem Hs{r:Nat}:∀{W:List Nat},r∈W->valV (W.map kw) (.inl (r:Int))=some (.bl true)
 |w::W,h=>by
  rw[P7]
  by_cases c:(kw w).1=Sum.inl (r:Int)
  ·rw[bI c];rfl
  ·rw[bJ c]
   refine Hs ?_
   rcases Pw.mp h with h | h
   ·exact absurd (by rw[h];rfl) c
   ·exact h
theorem no_kw{r:Nat}:∀{W:List Nat},r∉W->valV (W.map kw) (.inl (r:Int))=none
 |[],_=>rfl
 |w::W,h=>by
  rw[P7,bJ (fun c=>h (by rw[M0 (r:=w) (s:=r) c];exact PH ..))]
  exact no_kw fun z=>h (PD _ z)
theorem DA(r:Nat):∀ W:List Nat,pz (W.map kw) (.inl (r:Int))=(W.filter (fun x=>decide (x≠r))).map kw
 |[]=>rfl
 |w::W=>by
  rw[P7]
  by_cases c:w=r
  ·rw[JH (by rw[c];rfl),DA r W,List.filter_cons_of_neg (by simpa using c)]
  ·rw[JI (k:=Sum.inl (r:Int)) (fun z=>c (M0 (r:=w) (s:=r) z)),DA r W,List.filter_cons_of_pos (by simpa using c),P7]
theorem put_kw{t:Nat}{W:List Nat}(nd:W.Nodup):∃ W':List Nat,putK (W.map kw) (.inl (t:Int)) (.bl true)=W'.map kw/\W'.Nodup/\∀ r,r∈W'↔r∈W∨r=t:=by
 by_cases c:t∈W
 ·refine⟨W,?_,nd,fun r=>⟨.inl,fun z=>z.elim id fun z=>z▸c⟩⟩
  unfold putK
  rw[gN,Hs c,Option.isSome_some,if_pos rfl]
  rw[RU]
  refine R5 fun x _=>?_
  show(if(kw x).1=Sum.inl (t:Int) then((kw x).1,V.bl true) else kw x)=kw x
  split<;>rfl
 ·refine⟨W++[t],by rw[EG _ (no_kw c),Qw];rfl,CJ nd c,fun r=>by rw[PM,Qy]⟩
structure Sg(la aa ta va wd TT:Addr)(n s:Nat)(ls:List Lk)(xs ys:List V)(rows:List (List Nat))(H1:Hp):Prop where
 hA:H1 la=some (.lst xs)
 hL:LsAt LkAt H1 xs ls
 ok:Lok n ls
 hR:H1 aa=some (.lst ys)
 rx:bb (sF ta va wd TT) H1 ys rows
 am:AtM n 120 rows (memL ls)
 nla:¬ sF ta va wd TT la
 naa:¬ sF ta va wd TT aa
 tt:∀ t o,H1 t=some (.tup o)->¬ sF ta va wd TT t
 ntv:ta≠va
 ntw:ta≠wd
 nvw:va≠wd
 nTt:ta≠TT
 nTv:va≠TT
 nTw:wd≠TT
theorem vd{q:Str}{lp:Pos}{TT:Addr}{H H':Hp}(h:Tb q lp TT H)(k:∀ b,(b=TT∨∃ c,H b=some (codO c q))->H' b=H b):Tb q lp TT H':=by
 rcases h with h | ⟨c,h1,h2⟩
 ·exact .inl ((k TT (.inl rfl)).trans h)
 ·exact .inr ⟨c,(k TT (.inl rfl)).trans h1,(k c (.inr ⟨c,h2⟩)).trans h2⟩
theorem FH.new{ta va wd TT:Addr}{n s:Nat}{ls:List Lk}{H1 H:Hp}{TL:List (Option Int)}{VL:List (Option Nat)}{W:List Nat}{ex:Nat->Nat->Prop}(h:FH ta va wd TT n s ls H1 TL VL W ex H){p:Addr}(hp:H p=none)(o:HO):FH ta va wd TT n s ls H1 TL VL W ex (upd H p o):=by
 have sm:=ak hp o
 refine⟨fun b u nb e=>sm _ _ (h.kp b u nb e),sm _ _ h.ht,sm _ _ h.hv,sm _ _ h.hw,vd h.tb fun b hb=>ao fun z=>?_,h.fi,h.nd⟩
 subst z
 rcases hb with hb | ⟨c,hb⟩
 ·subst hb
  rcases h.tb with y | ⟨_,y,_⟩<;>rw[hp]at y<;>cases y
 ·rw[hp]at hb;cases hb
theorem FH.tab{ta va wd TT:Addr}{n s:Nat}{ls:List Lk}{H1 H H':Hp}{TL:List (Option Int)}{VL:List (Option Nat)}{W:List Nat}{ex:Nat->Nat->Prop}(h:FH ta va wd TT n s ls H1 TL VL W ex H)(nTt:ta≠TT)(nTv:va≠TT)(nTw:wd≠TT)(sm:TbS TT H H')(tb:Tb lqF lpF TT H'):FH ta va wd TT n s ls H1 TL VL W ex H' :=
 ⟨fun b u nb e=>sm _ _ (fun z=>nb (.inl z)) (h.kp b u nb e),sm _ _ nTt h.ht,sm _ _ nTv h.hv,sm _ _ nTw h.hw,tb,h.fi,h.nd⟩
def FrI(la aa ta va wd TT:Addr)(n s:Nat)(ls:List Lk)(H1:Hp)(σ:St)(H:Hp):Prop:=∃(v7 v8 v9 v10:Option V)(TL:List (Option Int))(VL:List (Option Nat))(W:List Nat),
 σ = [some (.int (n:Int)),some (.ref la),some (.int (s:Int)),some (.ref aa),some (.ref ta),some (.ref va),some (.ref wd),v7,v8,v9,v10]/\FH ta va wd TT n s ls H1 TL VL W (fun _ _=>False) H
def InI(la aa ta va wd TT:Addr)(n s:Nat)(ls:List Lk)(row:List Nat)(m w0 l0:Nat)(H1:Hp)(i:Nat)(σ:St)(H:Hp):Prop:=∃(v8 v9 v10:Option V)(TL:List (Option Int))(VL:List (Option Nat))(W:List Nat),
 σ = [some (.int (n:Int)),some (.ref la),some (.int (s:Int)),some (.ref aa),some (.ref ta),some (.ref va),some (.ref wd),some (.int (m:Int)),v8,v9,v10]/\FH ta va wd TT n s ls H1 TL VL W (fun r j=>r=m/\j∉row.take i) H/\(∃ x,TL[m]?=some (some x)) /\
 ((wgt (n*MM+1) TL=w0/\W.length<l0)∨wgt (n*MM+1) TL<w0)
def restF(la TT:Addr)(n s:Nat)(ls:List Lk):TS:=fun D σ H=>∃(aa ta va wd:Addr)(xs ys:List V)(rows:List (List Nat))(H1:Hp)(v8 v9 v10:Option V)(TL:List (Option Int))(VL:List (Option Nat))(W:List Nat)(m l0:Nat),Sg la aa ta va wd TT n s ls xs ys rows H1 /\
 σ = [some (.int (n:Int)),some (.ref la),some (.int (s:Int)),some (.ref aa),some (.ref ta),some (.ref va),some (.ref wd),some (.int (m:Int)),v8,v9,v10]/\FH ta va wd TT n s ls H1 TL VL W (fun r _=>r=m) H/\(∃ x,TL[m]?=some (some x))/\W.length<l0 /\
 ∀ σ' H',FrI la aa ta va wd TT n s ls H1 σ' H'->mesH n ta wd H'<wgt (n*MM+1) TL*(n+1)+l0->D.nx σ' H'
def restM(la TT:Addr)(n s:Nat)(ls:List Lk):TS:=fun D σ H=>∃(aa ta va wd:Addr)(xs ys:List V)(rows:List (List Nat))(H1:Hp)(TL:List (Option Int))(VL:List (Option Nat))(W:List Nat)(m w0 l0 i k:Nat)(row:List Nat)(l:Lk)(x:Int)(o:Option Int),Sg la aa ta va wd TT n s ls xs ys rows H1 /\
 σ = [some (.int (n:Int)),some (.ref la),some (.int (s:Int)),some (.ref aa),some (.ref ta),some (.ref va),some (.ref wd),some (.int (m:Int)),some (.int (k:Int)),some (.int ((bey l m:Nat):Int)),some (.int (x+l.2.2))]/\FH ta va wd TT n s ls H1 TL VL W (fun r j=>r=m/\j∉row.take i) H /\
 ls[k]?=some l/\pq l m/\TL[m]?=some (some x)/\TL[bey l m]?=some o/\(∀ y,o=some y->x+l.2.2<y)/\row[i]?=some k/\((wgt (n*MM+1) TL=w0/\W.length<l0)∨wgt (n*MM+1) TL<w0) /\
 ∀ σ' H',InI la aa ta va wd TT n s ls row m w0 l0 H1 (i+1) σ' H'->D.nx σ' H'
theorem JF{row:List Nat}{m i k:Nat}(hk:row[i]?=some k):∀ r j,(r=m/\j∉row.take i)->(r=m/\j∉row.take (i+1))∨(r=m/\j=k):=fun r j ⟨h1,h2⟩=>by
 by_cases c:j=k
 ·exact .inr ⟨h1,c⟩
 ·refine .inl ⟨h1,fun z=>?_⟩
  rw[Qf,hk]at z
  rcases PM.mp z with z | z
  ·exact h2 z
  ·exact c (Qy.mp z)
theorem IW{TL:List (Option Int)}{r:Nat}{o:Option Int}(h:TL[r]?=some o):(TL.map oV)[r]?=some (oV o):=by rw[PR,h];rfl
section
variable{P:Program}{w:World}{K:Pt}{mg:Str->Option Value}{base:Heap}
theorem eh:aC ["many","links","start","at","told","via","waiting","room","number","there","fare"] ["many","links","start"] (aj iO):=⟨rfl,rfl,rfl,by decide +kernel,rfl,by decide +kernel,by decide +kernel⟩
theorem ok_fares{f f1 f2 c TT:Addr}{fd fd1 fd2:FuncData} (F:Fun K "fares" "fares" iO f fd) (T:Txt mg) (ht:RC K "fares" = some (c,TT)) (hn:PK K mainGlobals "fares" = some (some (.ref f))) (hcd:Rr base c TT) (hbm:Bm mg base)
  (G_links_at:Cal P w K mg base 1 "links_at" ["many","links"] spAt f1 fd1) (G_beyond:Cal P w K mg base 1 "beyond" ["link","room"] spBey f2 fd2):FnOk P w K mg base CX0 2 f fd ["many","links","start"] (spFares TT):=by
 refine Fun.okT F eh ht hn (fun vs H Q E h=>?_) (fun A outer s H vs Q E hr h=>?_)
 ·obtain⟨v,n,st0,ls,rfl,_⟩:=h
  rfl
 obtain⟨v,n,st0,ls,rfl,⟨la,xs,rfl,hA,hL⟩,ok,hs,tb0,kk⟩:=h
 have hu:=JB hr
 have hu64:=hr.units
 have n1:=ok.n1
 have l9:=ok.l9
 have LM:∀ N,Lam (cxOf CX0 P w K mg base N "fares" (aj iO) f (.ref c) A outer s H E).nox c TT (s.heap.objs.size+1) lqF:=fun N=>⟨rfl,hcd,hbm,rfl,rfl,rfl,rfl⟩
 refine⟨_,(ag (av (i:=3) eh.nd rfl (Or.inl rfl) (ay G_links_at.ok (hr.mono (by decide)) rfl G_links_at.mg G_links_at.kp G_links_at.bn .nil aP (ae (pv 0) (ae (pv 1) ai))))
   (ag (av (i:=4) eh.nd rfl (Or.inr rfl) (dr rfl (fr:=[]) (by exact bq.plain (by rfl) (by decide +kernel) (by rfl) (by decide +kernel) (by rfl) (by decide +kernel)) (aW rfl T.n_range (ae (pv 0) ai)) (fun C ex s H=>gG)))
   (ag (gF (i:=5) rfl eh.nd rfl rfl (fr:=[]) (by exact bq.plain (by rfl) (by decide +kernel) (by rfl) (by decide +kernel) (by rfl) (by decide +kernel)) (aW rfl T.n_range (ae (pv 0) ai)) (fun C ex s H=>gG))
   (ag (lU ah (lV (pv 4) (pv 2) d8))
   (ag (av (i:=6) eh.nd rfl (Or.inl rfl) (Iy (EI (pv 2) Cg Ij) rfl rfl (fun z=>by cases z) (by decide)))
   (ag (gY PassesOwn.never (aG (op_neE hu64) (pv 6) vU (aN _)) (ag (av (i:=7) eh.nd rfl (Or.inl rfl) (NT (it:=4) (LM _) rfl rfl (hr.mono (by decide)) rfl (Or.inr (Or.inl rfl)) rfl T.n_min (ae (pv 6) ai)))
   (ag (a7 (Lx (pv 6) (pv 7) ⟨rfl,rfl,rfl,rfl⟩))
   (qq (t2:=restF la TT n st0 ls) (aq (bM PassesOwn.never rfl (a9 (ax az (pv 3) (pv 7) (fun _ _=>rfl))) (aO (i:=8) eh.nd rfl (Or.inl rfl)) (ag (av (i:=9) eh.nd rfl (Or.inl rfl) (ay G_beyond.ok (hr.mono (by decide)) rfl G_beyond.mg G_beyond.kp G_beyond.bn .nil aP (ae (ax az (pv 1) (pv 8) (fun _ _=>rfl)) (ae (pv 7) ai))))
   (ag (av (i:=10) eh.nd rfl (Or.inl rfl) (aw bA (ax az (pv 4) (pv 7) (fun _ _=>rfl)) (ax aH (ax az (pv 1) (pv 8) (fun _ _=>rfl)) ah (fun _ _=>rfl))))
   (aq (bZ (PW.pt (yI (aG EL (ax az (pv 4) (pv 9) (fun _ _=>rfl)) gG (aN _)) (ux (aG yZ (pv 10) (ax az (pv 4) (pv 9) (fun _ _=>rfl)) (aN _))))) (qq (t2:=restM la TT n st0 ls) (ag (lU (pv 10) (lV (pv 4) (pv 9) d8))
   (ag (lU (pv 8) (lV (pv 5) (pv 9) d8))
   (aq (vF hu (pv 6) (pv 9) Cg rfl)))) (fun D0 S0 H0 h0=>?restm)) aS)))))) (fun D0 S0 H0 h0=>?restf)))))
   (aq (aI (bK (ae (pv 4) (ae (pv 5) ai))))))))))),?_⟩
 case restm =>
  obtain⟨aa,ta,va,wd,xs,ys,rows,H1,TL,VL,W,m,w0,l0,i,k,row,l,x,o,sg,rfl,fh,hl,hm,hx,ho,hlt,hk,dec,kn⟩:=h0
  have tl:=fh.fi.tl
  have vl:=fh.fi.vl
  have tt:bey l m<n:=by rw[← tl];exact(Pp.mp ho).1
  have l0':=(fh.fi.w0 l (Pr hl))
  have ntv:=sg.ntv
  have ntw:=sg.ntw
  have nvw:=sg.nvw
  have nTt:=sg.nTt
  have nTv:=sg.nTv
  have nTw:=sg.nTw
  refine⟨_,rfl,_,rfl,_,rfl,ta,_,_,bey l m,rfl,rfl,fh.ht,fu (by rw[PB];omega),?_⟩
  refine⟨_,rfl,_,rfl,_,rfl,va,_,_,bey l m,rfl,rfl,by rw[ao (Ne.symm ntv)];exact fh.hv,fu (by rw[PB];omega),?_⟩
  have hw2:(upd (upd H0 ta (.lst ((TL.map oV).set (bey l m) (.int (x+l.2.2))))) va (.lst ((VL.map oN).set (bey l m) (.int (k:Int))))) wd=some (.dK (W.map kw)):=by rw[ao (Ne.symm nvw),ao (Ne.symm ntw)];exact fh.hw
  have wl:=fh.wlen
  refine⟨_,rfl,_,rfl,wd,_,rfl,DPut.k (k:=.inl ((bey l m:Nat):Int)) (v:=.bl true) hw2 (by rw[PB];exact au (by omega)),?_⟩
  obtain⟨W',eW,nd',mW⟩:=put_kw (t:=bey l m) fh.nd
  rw[eW]
  have e1:(TL.map oV).set (bey l m) (.int (x+l.2.2))=(TL.set (bey l m) (some (x+l.2.2))).map oV:=by rw[SK];rfl
  have e2:(VL.map oN).set (bey l m) (.int (k:Int))=(VL.set (bey l m) (some k)).map oN:=by rw[SK];rfl
  rw[e1,e2]
  have fi2:=fh.fi.mend (W':=W') hl hm hx ho hlt mW (JF hk)
  have wd2:=K6 fh.fi l0'.1 l0'.2 hx ho hlt
  have nm:bey l m≠m:=fun e=>by
   rw[e,hx]at ho
   cases ho
   have:=hlt x rfl
   omega
  refine kn _ _ ⟨_,_,_,_,_,W',rfl,⟨((fh.kp.upd (.inr (.inl rfl)) _).upd (.inr (.inr (.inl rfl))) _).upd (.inr (.inr (.inr rfl))) _,?_,?_,af,?_,fi2,nd'⟩,⟨x,by rw[yB (by omega),if_neg nm];exact hx⟩,.inr (by rcases dec with d | d<;>omega)⟩
  ·rw[ao ntw,ao ntv];exact af
  ·rw[ao nvw];exact af
  ·refine vd fh.tb fun b hb=>?_
   rw[ao (fun z=>?_),ao (fun z=>?_),ao (fun z=>?_)]
   ·rcases hb with hb | ⟨c',hb⟩
    ·exact nTt (z▸hb)
    ·rw[z,fh.ht]at hb;cases hb
   ·rcases hb with hb | ⟨c',hb⟩
    ·exact nTv (z▸hb)
    ·rw[z,fh.hv]at hb;cases hb
   ·rcases hb with hb | ⟨c',hb⟩
    ·exact nTw (z▸hb)
    ·rw[z,fh.hw]at hb;cases hb
 case restf =>
  obtain⟨aa,ta,va,wd,xs,ys,rows,H1,v8,v9,v10,TL,VL,W,m,l0,sg,rfl,fh,⟨x,hx⟩,hl0,kn⟩:=h0
  have mn:m<n:=by rw[← fh.fi.tl];exact(Pp.mp hx).1
  have rl:=sg.am.len
  obtain⟨row,hrow⟩:∃ row,rows[m]?=some row:=⟨_,Pq (by omega)⟩
  obtain⟨pr,r1,r2,r3⟩:=sg.rx.2 _ _ hrow
  have hR:=fh.kp _ _ sg.naa sg.hR
  have hrw:=fh.kp _ _ r2 r3
  have few:=sg.am.few row (Pr hrow)
  refine⟨_,rfl,_,rfl,aa,_,_,_,rfl,rfl,SqL.of hR,aA r1,pr,rfl,⟨_,SqL.of hrw⟩,cS (K:=K) (xs:=row.map iV) (InI la aa ta va wd TT n st0 ls row m (wgt (n*MM+1) TL) l0 H1) ⟨_,_,_,TL,VL,W,rfl,⟨fh.kp,fh.ht,fh.hv,fh.hw,fh.tb,fh.fi.exw fun r i l _ _ z=>⟨z,by rw[S2];exact fun y=>nomatch y⟩,fh.nd⟩,⟨x,hx⟩,.inl ⟨rfl,hl0⟩⟩ (fun i σ H2 _ z=>?_) ?_ ?_⟩
  ·obtain⟨_,_,_,_,_,_,_,f2,_⟩:=z
   exact SqL.of (f2.kp _ _ r2 r3)
  ·rintro i y σ H2 hy ⟨v8,v9,v10,TL2,VL2,W2,rfl,f2,⟨x2,hx2⟩,dec⟩
   rw[PR]at hy
   obtain⟨k,hk,rfl⟩:=Qp.mp hy
   obtain⟨l,hl,hend⟩:=(sg.am.mm m row hrow k).mp (Pr hk)
   obtain⟨lv,hlv,hlk⟩:=sg.hL.2 k l hl
   obtain⟨lt,rfl,hlt0⟩:=hlk
   have hlt2:=f2.kp _ _ (sg.tt _ _ hlt0) hlt0
   have hA2:=f2.kp _ _ sg.nla sg.hA
   obtain⟨b1,b2⟩:=sg.ok.sm l (Pr hl)
   have tt:bey l m<n:=bey_lt b1 b2
   have tl2:=f2.fi.tl
   obtain⟨o,ho⟩:∃ o,TL2[bey l m]?=some o:=⟨_,Pq (by omega)⟩
   refine⟨_,rfl,_,rfl,la,_,_,_,rfl,rfl,SqL.of hA2,aA hlv,_,rfl,.ref lt,l,m,rfl,⟨lt,rfl,hlt2⟩,?_⟩
   refine⟨_,rfl,_,rfl,ta,_,_,_,rfl,rfl,SqL.of f2.ht,aA (IW hx2),_,rfl,_,rfl,la,_,_,_,rfl,rfl,SqL.of hA2,aA hlv,lt,_,2,_,rfl,rfl,SqT.of hlt2,a32,_,_,rfl,rfl,?_⟩
   refine⟨_,rfl,_,rfl,ta,_,_,_,rfl,rfl,SqL.of f2.ht,aA (IW ho),rfl,_,rfl,?_⟩
   cases o with
   |none =>
    refine iteT (iteT ?_)
    exact⟨aa,ta,va,wd,xs,ys,rows,H1,TL2,VL2,W2,m,wgt (n*MM+1) TL,l0,i,k,row,l,x2,none,sg,rfl,f2,hl,hend,hx2,ho,(fun y e=>nomatch e),hk,dec,fun σ' H' z=>z⟩
   |some y0 =>
    refine iteF ?_
    refine⟨_,rfl,_,rfl,_,rfl,ta,_,_,_,rfl,rfl,SqL.of f2.ht,aA (IW ho),_,_,rfl,rfl,_,rfl,?_⟩
    refine ite2 (fun c=>?_) (fun c=>?_)
    ·have c':x2+l.2.2<y0:=of_decide_eq_true c
     exact⟨aa,ta,va,wd,xs,ys,rows,H1,TL2,VL2,W2,m,wgt (n*MM+1) TL,l0,i,k,row,l,x2,some y0,sg,rfl,f2,hl,hend,hx2,ho,(fun y e=>by cases e;exact c'),hk,dec,fun σ' H' z=>z⟩
    ·have c':¬ x2+l.2.2<y0:=fun z=>c (decide_eq_true z)
     exact⟨_,_,_,TL2,VL2,W2,rfl,⟨f2.kp,f2.ht,f2.hv,f2.hw,f2.tb,f2.fi.leave hl hx2 ho (by omega) (JF hk),f2.nd⟩,⟨x2,hx2⟩,dec⟩
  ·rintro σ H2 ⟨v8,v9,v10,TL2,VL2,W2,rfl,f2,_,dec⟩
   have fin:FH ta va wd TT n st0 ls H1 TL2 VL2 W2 (fun _ _=>False) H2:=⟨f2.kp,f2.ht,f2.hv,f2.hw,f2.tb,f2.fi.exw fun r i l hl hend ⟨z1,z2⟩=>by
    subst z1
    rw[PB,Qn]at z2
    exact z2 ((sg.am.mm r row hrow i).mpr ⟨l,hl,hend⟩),f2.nd⟩
   refine kn _ _ ⟨_,_,_,_,TL2,VL2,W2,rfl,fin⟩ ?_
   rw[fin.mes]
   have wl:=fin.wlen
   rcases dec with⟨d1,d2⟩ | d
   ·rw[d1];omega
   ·have h1:(wgt (n*MM+1) TL2+1)*(n+1)<=wgt (n*MM+1) TL*(n+1):=Su _ d
    rw[Nat.add_mul,Nat.one_mul]at h1
    omega
 refine⟨_,rfl,_,rfl,.ref la,n,ls,rfl,⟨la,xs,rfl,hA,hL⟩,ok,fun aa ys rows Ha sa haa0 haa rx am=>?_⟩
 refine⟨_,rfl,_,rfl,by omega,by omega,dt (n:=(n:Int).toNat) (fun i zs H2=>H2=Ha/\zs=PU i V.non) (by rw[PQ];exact Ql (au (by omega))) ⟨rfl,rfl⟩ ?_ ?_⟩
 ·rintro i zs H2 hi ⟨rfl,rfl⟩
  exact⟨rfl,by rw[RF]⟩
 rintro zs H2 _ ⟨rfl,rfl⟩ ta hta
 rw[PQ]
 have z1:=ak hta (.lst (PU n V.non))
 refine⟨_,rfl,_,rfl,by omega,by omega,dt (n:=(n:Int).toNat) (fun i zs H3=>H3=upd H2 ta (.lst (PU n V.non))/\zs=PU i V.non) (by rw[PQ];exact Ql (au (by omega))) ⟨rfl,rfl⟩ ?_ ?_⟩
 ·rintro i zs H3 hi ⟨rfl,rfl⟩
  exact⟨rfl,by rw[RF]⟩
 rintro zs H3 _ ⟨rfl,rfl⟩ va hva
 rw[PQ]
 have ntv:ta≠va:=fun z=>by rw[← z,af]at hva;cases hva
 have z2:=ak hva (.lst (PU n V.non))
 refine⟨_,rfl,_,rfl,ta,_,_,st0,rfl,rfl,by rw[ao ntv];exact af,fu (by rw[Q4];exact hs),?_⟩
 intro wd hwd
 refine⟨_,rfl,af,[kw st0],rfl,(by show 1<=15;decide),?_⟩
 have ntw:ta≠wd:=fun z=>by rw[← z,af]at hwd;cases hwd
 have hva0:H2 va=none:=iN z1 hva
 have hwd0:(upd (upd H2 ta (.lst (PU n V.non))) va (.lst (PU n V.non))) wd=none:=by rw[ao (Ne.symm ntw)]at hwd;exact hwd
 have nvw:va≠wd:=fun z=>by rw[← z,af]at hwd0;cases hwd0
 have hwd1:H2 wd=none:=iN (z1.trans z2) hwd0
 have hT0:H TT≠none:=by rcases tb0 with y | ⟨_,y,_⟩<;>rw[y]<;>simp
 have hT2:H2 TT≠none:=by
  cases y:H TT with
  |none=>exact absurd y hT0
  |some o=>rw[sa _ _ y];simp
 have nTt:ta≠TT:=fun z=>hT2 (z▸hta)
 have nTv:va≠TT:=fun z=>hT2 (z▸hva0)
 have nTw:wd≠TT:=fun z=>hT2 (z▸hwd1)
 have sm1:Same H2 (upd (upd (upd (upd (upd H2 ta (.lst (PU n V.non))) va (.lst (PU n V.non))) ta (.lst ((PU n V.non).set st0 (.int 0)))) wd (.dK [])) wd (.dK (ka [] [kw st0]))):=aR (aR (aR (z1.trans z2) hta _) hwd1 _) hwd1 _
 have eT:((PU n V.non).set st0 (.int 0))=((PU n (none:Option Int)).set st0 (some 0)).map oV:=by rw[SK,List.map_replicate];rfl
 have eV:(PU n V.non)=(PU n (none:Option Nat)).map oN:=by rw[List.map_replicate];rfl
 have g1:(upd (upd (upd (upd (upd H2 ta (.lst (PU n V.non))) va (.lst (PU n V.non))) ta (.lst ((PU n V.non).set st0 (.int 0)))) wd (.dK [])) wd (.dK (ka [] [kw st0]))) ta=some (.lst (((PU n (none:Option Int)).set st0 (some 0)).map oV)):=by
  rw[ao ntw,ao ntw,← eT];exact af
 have g2:(upd (upd (upd (upd (upd H2 ta (.lst (PU n V.non))) va (.lst (PU n V.non))) ta (.lst ((PU n V.non).set st0 (.int 0)))) wd (.dK [])) wd (.dK (ka [] [kw st0]))) va=some (.lst ((PU n (none:Option Nat)).map oN)):=by
  rw[ao nvw,ao nvw,ao (Ne.symm ntv),← eV];exact af
 have g3:(upd (upd (upd (upd (upd H2 ta (.lst (PU n V.non))) va (.lst (PU n V.non))) ta (.lst ((PU n V.non).set st0 (.int 0)))) wd (.dK [])) wd (.dK (ka [] [kw st0]))) wd=some (.dK ([st0].map kw)):=af
 generalize (upd (upd (upd (upd (upd H2 ta (.lst (PU n V.non))) va (.lst (PU n V.non))) ta (.lst ((PU n V.non).set st0 (.int 0)))) wd (.dK [])) wd (.dK (ka [] [kw st0])))=H1 at sm1 g1 g2 g3
 have sH:Same H H1:=sa.trans sm1
 have nS:∀ b,H2 b≠none->b≠TT->¬ sF ta va wd TT b:=fun b hb nT z=>by
  rcases z with z | z | z | z
  ·exact nT z
  ·exact hb (z▸hta)
  ·exact hb (z▸hva0)
  ·exact hb (z▸hwd1)
 have sg:Sg la aa ta va wd TT n st0 ls xs ys rows H1:=⟨sH _ _ hA,hL.imp fun _ _ q=>q.mono sH,ok,sm1 _ _ haa,⟨rx.1,fun i l e=>by
   obtain⟨p,p1,p2,p3⟩:=rx.2 i l e
   exact⟨p,p1,nS p (by rw[p3];simp) (fun z=>p2 (.inr (z▸hT0))),sm1 _ _ p3⟩⟩,am,nS la (by rw[sa _ _ hA];simp) (fun z=>by rcases tb0 with y | ⟨_,y,_⟩<;>rw[← z,hA]at y<;>cases y),nS aa (by rw[haa];simp) (fun z=>hT0 (z▸haa0)),(fun t o e z=>by
   rcases z with z | z | z | z
   ·rw[z]at e
    rcases tb0 with y | ⟨_,y,_⟩<;>rw[sH _ _ y]at e<;>cases e
   ·rw[z,g1]at e;cases e
   ·rw[z,g2]at e;cases e
   ·rw[z,g3]at e;cases e),ntv,ntw,nvw,nTt,nTv,nTw⟩
 have tb1:Tb lqF lpF TT H1:=by
  rcases tb0 with y | ⟨c',y1,y2⟩
  ·exact .inl (sH _ _ y)
  ·exact .inr ⟨c',sH _ _ y1,sH _ _ y2⟩
 refine gL (FrI la aa ta va wd TT n st0 ls H1) (fun _ H'=>mesH n ta wd H') ⟨_,_,_,_,_,_,[st0],rfl,⟨fun _ _ _ e=>e,g1,g2,g3,tb1,FI.first ok.w0 hs,PF.mpr ⟨(by simp),Rk⟩⟩⟩ ?_ ?_
 ·rintro σ H3 ⟨v7,v8,v9,v10,TL,VL,W,rfl,fh⟩
  refine⟨_,rfl,fun p hp=>?_⟩
  have fh3:=fh.new hp (.dK [])
  refine⟨wd,p,W.map kw,rfl,rfl,fh3.hw,af,_,rfl,?_⟩
  refine ite2 (fun c=>?_) (fun c=>?_)
  ·have ne:W.map kw≠[]:=fun z=>by rw[z]at c;cases c
   refine⟨_,rfl,wd,W.map kw,ta,_,rfl,fh3.hw,ne,rfl,fh3.ht,fh3.tb,fun kv hkv=>?_,fun kv hkv H4 sm4 tb4=>?_⟩
   ·obtain⟨r,hr,rfl⟩:=Qv.mp hkv
    obtain⟨x,hx⟩:=fh3.fi.wk r hr
    exact⟨r,x,rfl,IW hx⟩
   obtain⟨r,hr,rfl⟩:=Qv.mp hkv
   have fh4:=fh3.tab nTt nTv nTw sm4 tb4
   obtain⟨x,hx⟩:=fh4.fi.wk r hr
   refine⟨_,rfl,wd,rfl,.inl ⟨_,.inl fh4.hw⟩,_,rfl,W.map kw,.inl (r:Int),.bl true,fh4.hw,rfl,Hs hr,?_⟩
   rw[DA]
   have mW:∀ y,y∈W.filter (fun x=>decide (x≠r))↔y∈W/\y≠r:=fun y=>by rw[R4];simp
   have lW:(W.filter (fun x=>decide (x≠r))).length<W.length:=by
    refine Nat.lt_of_le_of_ne (RV _ _) fun z=>?_
    have:=List.filter_eq_self.mp (List.Sublist.eq_of_length (List.filter_sublist ..) z) r hr
    simp at this
   refine⟨aa,ta,va,wd,xs,ys,rows,H1,_,_,_,TL,VL,_,r,W.length,sg,rfl,⟨fh4.kp.upd (.inr (.inr (.inr rfl))) _,by rw[ao ntw];exact fh4.ht,by rw[ao nvw];exact fh4.hv,af,vd fh4.tb fun b hb=>ao fun z=>?_,fh4.fi.take mW,fh4.nd.filter _⟩,⟨x,hx⟩,lW,fun σ' H' y1 y2=>⟨y1,by rw[fh.mes];exact y2⟩⟩
   rcases hb with hb | ⟨c',hb⟩
   ·exact nTw (z▸hb)
   ·rw[z,fh4.hw]at hb;cases hb
  ·have e0:W = []:=by
    cases W with
    |nil=>rfl
    |cons a b=>exact absurd rfl c
   subst e0
   refine⟨_,rfl,_,rfl,(by show 2<=sizeLine;decide),fun t ht=>?_⟩
   have fh4:=fh3.new ht (.tup [.ref ta,.ref va])
   refine kk t ta va TL VL _ (fun b o nb e=>?_) fh4.tb (iN sa hta) (iN sa hva0) af fh4.ht fh4.hv fh4.fi
   exact fh4.kp _ _ (nS b (by rw[sa _ _ e];simp) nb) (sH _ _ e)
 ·rintro σ H4 Q1 Q2 hi ⟨v1,e1,h⟩
  refine⟨v1,e1,fun p hp=>?_⟩
  obtain⟨a,b,kvs,q1,q2,q3,q4,c',q5,q6⟩:=h p hp
  exact⟨a,b,kvs,q1,q2,q3,q4,c',q5,hi _ _ q6⟩
end
end KF
namespace KF
open PySem L2
local macro_rules | `(tactic| walk_at "cc") => `(tactic| first | exact ⟨by decide, by decide⟩ | (show (0 : Int) < _; decide) | (show (0 : Int) < _; omega) | (show (0 : Int) ≤ _; omega) | exact ⟨by decide, by decide, by decide⟩ | exact ⟨by omega, by omega, by decide⟩ | exact Or.inl ⟨by decide, by decide⟩ | exact Or.inl ⟨by omega, by omega⟩)
local macro_rules | `(tactic| walk_at "rd") => `(tactic| repeat (first | refine ⟨_, rfl, ?_⟩ | refine ⟨_, _, rfl, rfl, ?_⟩ | refine ⟨rfl, ?_⟩ | (refine ⟨?cc, ?_⟩; (case cc => walk_at "cc"))))
theorem andN(a b:Nat):Builtin.bitAnd (a:Int) (b:Int)=((a&&&b:Nat):Int):=by
 rw[PyProof.Rows.bitAnd_pp (RN _) (RN _),PQ,PQ]
theorem shlN(p:Nat):(1:Int)*2^((p:Nat):Int).toNat=((2^p:Nat):Int):=by
 rw[SU,PQ,Sq]
 rfl
theorem xa(m n:Nat):(m^^^n)+2*(m&&&n)=m+n:=by
 have h:=PyProof.Rows.nat_or_add_and m n
 have h2:(m|||n)=(m^^^n)+(m&&&n):=by
  have e:(m^^^n)+(m&&&n)=(m^^^n)|||(m&&&n):=by
   have q:=PyProof.Rows.nat_or_add_and (m^^^n) (m&&&n)
   have z:(m^^^n)&&&(m&&&n)=0:=by
    apply Qt
    intro i
    simp only[Q3,QF,Qu]
    cases m.testBit i<;>cases n.testBit i<;>rfl
   omega
  rw[e]
  apply Qt
  intro i
  simp only[Q3,QF,Q0]
  cases m.testBit i<;>cases n.testBit i<;>rfl
 omega
theorem xorN(a b:Nat):Builtin.bitXor (a:Int) (b:Int)=((a^^^b:Nat):Int):=by
 rw[PyProof.Rows.bitXor_and,andN]
 have q:=xa a b
 omega
def bl(c:Nat):List Nat:=K2.bitsF 0 c
theorem Ku(c:Nat):(bl c).Pairwise (· < ·):=K2.bitsF_sorted c c 0 (Pz _)
theorem bl_nd(c:Nat):(bl c).Nodup:=K2.nodup_of_lt (Ku c)
theorem iH{c x:Nat}:x∈bl c↔c.testBit x=true:=by
 have e:K2.S (K2.bitsF 0 c)=c:=by
  have:=K2.bitsF_sum c c 0 (Pz _)
  rw[this,Nat.pow_zero,Nat.mul_one]
 have b:=K2.S_bit (bl_nd c) x
 unfold bl at b ⊢
 rw[e]at b
 rw[b,decide_eq_true_iff]
theorem bl_lt{c m x:Nat}(h:c<2^m)(hx:x∈bl c):x<m:=by
 have:=K2.bitsF_lt m c 0 h x hx
 omega
theorem D5:bl 0 = []:=K2.bitsF_zero 0
def cut2(c f t:Nat):Nat:=c^^^2^f^^^2^t
theorem pY{c f t:Nat}(hf:f∈bl c)(ht:t∈bl c)(n:f≠t)(x:Nat):x∈bl (cut2 c f t)↔x∈bl c/\x≠f/\x≠t:=by
 rw[iH]at hf ht
 rw[iH,iH]
 unfold cut2
 rw[QF,QF,Qb,Qb]
 by_cases c1:x=f
 ·subst c1
  rw[hf]
  simp[Ne.symm n]
 ·by_cases c2:x=t
  ·subst c2
   rw[ht]
   simp[n]
  ·have c1':¬ f=x:=fun z=>c1 z.symm
   have c2':¬ t=x:=fun z=>c2 z.symm
   simp[c1,c2,c1',c2']
theorem JW{c f t:Nat}{rest:List Nat}(e:bl c=f::rest)(ht:t∈rest):(bl (cut2 c f t)).Perm (rest.erase t):=by
 have nd:=bl_nd c
 rw[e]at nd
 obtain⟨n1,n2⟩:=PF.mp nd
 have nf:f≠t:=fun z=>n1 (z▸ht)
 refine(QM (bl_nd _) (n2.erase _)).mpr fun x=>?_
 rw[pY (by rw[e];exact PH ..) (by rw[e];exact PD _ ht) nf,e,n2.mem_erase_iff,Pw]
 constructor
 ·rintro⟨h1 | h1,h2,h3⟩
  ·exact absurd h1 h2
  ·exact⟨h3,h1⟩
 ·rintro⟨h1,h2⟩
  exact⟨.inr h2,fun z=>n1 (z▸h2),h1⟩
theorem O1{c f t m:Nat}(h:c<2^m)(hf:f<m)(ht:t<m):cut2 c f t<2^m :=
 Rg (Rg h (QI (by decide) hf)) (QI (by decide) ht)
def Opt(D:Nat->Nat->Int)(l:List Nat)(t:Int):Prop:=Cs D l t/\∀ c,Cs D l c->t<=c
theorem Opt.perm{D:Nat->Nat->Int}{l l':List Nat}{t:Int}(h:Opt D l t)(p:l.Perm l'):Opt D l' t:=⟨h.1.perm p,fun c z=>h.2 c (z.perm p.symm)⟩
theorem Opt.nil{D:Nat->Nat->Int}:Opt D [] 0:=by
 refine⟨⟨[],.refl _,rfl⟩,fun c h=>?_⟩
 obtain⟨PL,p,e⟩:=h
 cases PL with
 |nil=>rw[← e];exact QV _
 |cons q r=>have:=p.length_eq;cases this
theorem Opt.step{D:Nat->Nat->Int}(sy:∀ a b,D a b=D b a){f t0:Nat}{rest:List Nat}{tr0:Int}(h0:t0∈rest)(o0:Opt D (rest.erase t0) tr0)(hm:∀ t∈rest,∃ tr,Opt D (rest.erase t) tr/\D f t0+tr0<=D f t+tr):Opt D (f::rest) (D f t0+tr0):=by
 refine⟨(o0.1.add f t0).perm ((List.perm_cons_erase h0).symm.cons f),fun c hc=>?_⟩
 obtain⟨e,R,c0,p,hR,ec⟩:=hc.part sy (PH ..)
 have p1:rest.Perm (e::R):=p.cons_inv
 have er:e∈rest:=p1.mem_iff.mpr (PH ..)
 have p2:R.Perm (rest.erase e):=by
  have:=(p1.erase e).symm
  rw[Rl]at this
  exact this
 obtain⟨tr,o1,h2⟩:=hm e er
 have h1:=o1.2 c0 (hR.perm p2)
 omega
def BtAt(H:Hp)(v:V)(D:Nat->Nat->Int)(m:Nat):Prop:=∃ a ys,v=.ref a/\H a=some (.lst ys)/\∀ i,i<m->∃ p xs,ys[i]?=some (.ref p)/\H p=some (.lst xs)/\∀ k,k<m->xs[k]?=some (.int (D i k))
def oj(H:Hp)(v:V)(t:Int):Prop:=∃ a y z,v=.ref a/\H a=some (.tup [.int t,y,z])
def Ent(H:Hp)(D:Nat->Nat->Int)(m:Nat)(kvs:List (Key×V))(c:Nat)(v:V):Prop:=c<2^m/\((c=0/\oj H v 0)∨∃(t:Int)(f g:Nat)(a:Addr)(vr:V)(tr:Int),v=.ref a/\H a=some (.tup [.int t,.int (f:Int),.int (g:Int)])/\f∈bl c/\g∈bl c/\f≠g/\valV kvs (.inl ((cut2 c f g:Nat):Int))=some vr/\oj H vr tr/\t=D f g+tr/\Opt D (bl c) t)
structure TI(H:Hp)(D:Nat->Nat->Int)(m:Nat)(kvs:List (Key×V)):Prop where
 en:∀ k v,valV kvs k=some v->∃ c:Nat,k=.inl (c:Int)/\Ent H D m kvs c v
 z:∃ v,valV kvs (.inl ((0:Nat):Int))=some v
 nd:(kvs.map (·.1)).Nodup
def Grw(kvs kvs':List (Key×V))(n:Nat):Prop:=(∀ k v,valV kvs k=some v->valV kvs' k=some v)/\∀ c:Nat,valV kvs (.inl (c:Int))=none->valV kvs' (.inl (c:Int))≠none->(bl c).length<=n
def Tps(H H':Hp):Prop:=∀ a xs,H a=some (.tup xs)->H' a=some (.tup xs)
theorem oj.mono{H H':Hp}{v:V}{t:Int}(h:oj H v t)(s:Tps H H'):oj H' v t:=by
 obtain⟨a,y,z,e,q⟩:=h
 exact⟨a,y,z,e,s _ _ q⟩
theorem Ent.cost{H:Hp}{D:Nat->Nat->Int}{m c:Nat}{kvs:List (Key×V)}{v:V}(h:Ent H D m kvs c v):∃ t,oj H v t/\Opt D (bl c) t:=by
 obtain⟨_,⟨rfl,h⟩ | ⟨t,f,g,a,vr,tr,e1,e2,_,_,_,_,_,_,e9⟩⟩:=h
 ·exact⟨0,h,by rw[D5];exact Opt.nil⟩
 ·exact⟨t,⟨a,_,_,e1,e2⟩,e9⟩
theorem Ent.mono{H H':Hp}{D:Nat->Nat->Int}{m c:Nat}{kvs kvs':List (Key×V)}{v:V}(h:Ent H D m kvs c v)(s:Tps H H')(g:∀ k v,valV kvs k=some v->valV kvs' k=some v):Ent H' D m kvs' c v:=by
 obtain⟨h0,⟨e,h⟩ | ⟨t,f,g',a,vr,tr,e1,e2,e3,e4,e5,e6,e7,e8,e9⟩⟩:=h
 ·exact⟨h0,.inl ⟨e,h.mono s⟩⟩
 ·exact⟨h0,.inr ⟨t,f,g',a,vr,tr,e1,s _ _ e2,e3,e4,e5,g _ _ e6,e7.mono s,e8,e9⟩⟩
theorem TI.mono{H H':Hp}{D:Nat->Nat->Int}{m:Nat}{kvs:List (Key×V)}(h:TI H D m kvs)(s:Tps H H'):TI H' D m kvs:=⟨fun k v e=>by
 obtain⟨c',e1,e2⟩:=h.en k v e
 exact⟨c',e1,e2.mono s fun _ _ z=>z⟩,h.z,h.nd⟩
theorem TrA.mono{H H':Hp}{v:V}{t:T3}(h:TrA H v t)(s:Tps H H'):TrA H' v t:=by
 obtain⟨a,e,q⟩:=h
 exact⟨a,e,s _ _ q⟩
theorem TbS.tps{H H':Hp}{tb:Addr}{kvs:List (Key×V)}(s:TbS tb H H')(ht:H tb=some (.dK kvs)):Tps H H':=fun a xs q=>s _ _ (fun w=>by rw[w,ht]at q;cases q) q
theorem BtAt.mono{H H':Hp}{D:Nat->Nat->Int}{m:Nat}{v:V}{tb:Addr}{kvs:List (Key×V)}(h:BtAt H v D m)(ht:H tb=some (.dK kvs))(s:TbS tb H H'):BtAt H' v D m:=by
 obtain⟨a,ys,e,q,r⟩:=h
 refine⟨a,ys,e,s _ _ (fun w=>by rw[w,ht]at q;cases q) q,fun i hi=>?_⟩
 obtain⟨p,xs,r1,r2,r3⟩:=r i hi
 exact⟨p,xs,r1,s _ _ (fun w=>by rw[w,ht]at r2;cases r2) r2,r3⟩
theorem zz{α β:Type}{f:α->β}:∀{l:List α},l.Nodup->(∀ a∈l,∀ b∈l,f a=f b->a=b)->(l.map f).Nodup
 |[],_,_=>Rk
 |x::l,nd,h=>by
  obtain⟨n1,n2⟩:=PF.mp nd
  rw[P7]
  refine PF.mpr ⟨fun z=>?_,zz n2 fun a ha b hb=>h a (PD _ ha) b (PD _ hb)⟩
  obtain⟨y,hy,e⟩:=Qv.mp z
  exact n1 (h x (PH ..) y (PD _ hy) e.symm▸hy)
theorem TI.len{H:Hp}{D:Nat->Nat->Int}{m:Nat}{kvs:List (Key×V)}(h:TI H D m kvs)(hm:m<=14):kvs.length<sizeLine:=by
 have key:∀ k∈kvs.map (·.1),∃ c:Nat,k=Sum.inl (c:Int)/\c<2^m:=fun k hk=>by
  cases hv:valV kvs k with
  |none=>exact absurd hk (EA hv)
  |some v =>
   obtain⟨c,e,q⟩:=h.en k v hv
   exact⟨c,e,q.1⟩
 have l1:((kvs.map (·.1)).map fun k:Key=>match k with | .inl i=>i.toNat | .inr _=>0).Nodup:=by
  refine zz h.nd fun a ha b hb e=>?_
  obtain⟨c1,rfl,_⟩:=key a ha
  obtain⟨c2,rfl,_⟩:=key b hb
  have e':c1=c2:=by simpa using e
  rw[e']
 have l2:=lZ (2^m) _ l1 fun x hx=>by
  obtain⟨k,hk,rfl⟩:=Qv.mp hx
  obtain⟨c,rfl,hc⟩:=key k hk
  simpa using hc
 rw[PB,PB]at l2
 have:2^m<=2^14:=QD (by decide) hm
 have e14:(2:Nat)^14=16384:=by decide
 have:=PySem.sizeLine_eq
 omega
def restR(tb:Addr)(bv:V)(c m:Nat)(D:Nat->Nat->Int)(kvs:List (Key×V))(H0:Hp)(Q:VK):TS:=fun D0 σ H=>∃(v4 v5 v6 v7 v8:Option V)(kvs':List (Key×V))(v:V),σ = [some bv,some (.int (c:Int)),some (.ref tb),v4,v5,v6,v7,v8]/\TbS tb H0 H/\H tb=some (.dK kvs')/\TI H D m kvs'/\Grw kvs kvs' (bl c).length/\valV kvs' (.inl (c:Int))=some v/\∀ x H',Q x H'->D0.rt x H'
def LpI(bv:V)(tb r wa:Addr)(c f m:Nat)(D:Nat->Nat->Int)(kvs:List (Key×V))(rest:List Nat)(Hb:Hp)(i:Nat)(σ:St)(H:Hp):Prop:=∃(v7 v8:Option V)(kvs2:List (Key×V))(ws:List T3)(ys:List V),σ = [some bv,some (.int (c:Int)),some (.ref tb),some (.ref r),some (.int (f:Int)),some (.ref wa),v7,v8]/\(∀ b o,b≠tb->b≠wa->Hb b=some o->H b=some o)/\H tb=some (.dK kvs2)/\TI H D m kvs2/\Grw kvs kvs2 (rest.length-1)/\H wa=some (.lst ys)/\LsAt TrA H ys ws/\ws.length=i /\
 ∀(idx t:Nat),(rest.take i)[idx]?=some t->∃(tr:Int)(vr:V),ws[idx]?=some (D f t+tr,(f:Int),(t:Int))/\Opt D (rest.erase t) tr/\valV kvs2 (.inl ((cut2 c f t:Nat):Int))=some vr/\oj H vr tr
def spLaid(D:Nat->Nat->Int)(m j:Nat):Sp:=fun vs H Q _=>∃(bv:V)(tb:Addr)(c:Nat)(kvs:List (Key×V)),vs = [bv,.int (c:Int),.ref tb]/\BtAt H bv D m/\H tb=some (.dK kvs)/\TI H D m kvs/\c<2^m/\m<=14/\(bl c).length<2*j/\(bl c).length%2=0 /\
 ∀ v t kvs' H',TbS tb H H'->H' tb=some (.dK kvs')->TI H' D m kvs'->Grw kvs kvs' (bl c).length->valV kvs' (.inl (c:Int))=some v->oj H' v t->Opt D (bl c) t->Q v H'
section
variable{P:Program}{w:World}{K:Pt}{mg:Str->Option Value}{base:Heap}
theorem bj:aC ["between","chosen","table","numbers","first","ways","mate","rest"] ["between","chosen","table"] (aj aZ):=⟨rfl,rfl,rfl,by decide +kernel,rfl,by decide +kernel,by decide +kernel⟩
theorem LP{f f1:Addr}{fd fd1:FuncData}{D:Nat->Nat->Int}{m j:Nat}(sy:∀ a b,D a b=D b a) (F:Fun K "laid_in_pairs" "laid_in_pairs" aZ f fd) (T:Txt mg) (G_bits:Cal P w K mg base 1 "bits" ["mask"] spBits f1 fd1) (G_laid_in_pairs:Cal P w K mg base (j+2) "laid_in_pairs" ["between","chosen","table"] (spLaid D m j) f fd):FnOk P w K mg base CX0 (j+3) f fd ["between","chosen","table"] (spLaid D m (j+1)):=by
 refine F.ok bj (fun vs H Q E h=>?_) (fun cdv A outer s H vs Q E hr h=>?_)
 ·obtain⟨bv,tb,c,kvs,rfl,_⟩:=h
  rfl
 obtain⟨bv,tb,c,kvs,rfl,hB,hT,ti,hc,m14,len,ev,kk⟩:=h
 have hu:=JB hr
 have hu64:=hr.units
 refine⟨_,(ag (bZ (MT (yW hu (pv 1) (pv 2))) (ag (av (i:=3) bj.nd rfl (Or.inl rfl) (ay G_bits.ok (hr.mono (by omega)) rfl G_bits.mg G_bits.kp G_bits.bn .nil aP (ae (pv 1) ai)))
   (ag (av (i:=4) bj.nd rfl (Or.inl rfl) (ax az (pv 3) ah (fun _ _=>rfl)))
   (ag (av (i:=5) bj.nd rfl (Or.inl rfl) (bY ai))
   (ag (bM PassesOwn.never rfl (a9 (eu gP (pv 3) (fe ah) kx)) (aO (i:=6) bj.nd rfl (Or.inl rfl)) (ag (av (i:=7) bj.nd rfl (Or.inl rfl) (aw lY (aw lY (pv 1) (aw cW ah (pv 4))) (aw cW ah (pv 6))))
   (aq (a7 (gf P4 Qj Qi a8 (pv 5) (ae (bK (ae (aw bA (ax az (ax az (pv 0) (pv 4) (fun _ _=>rfl)) (pv 6) (fun _ _=>rfl)) (ax aH (ay G_laid_in_pairs.ok (hr.mono (by omega)) rfl G_laid_in_pairs.mg G_laid_in_pairs.kp G_laid_in_pairs.bn .nil aP (ae (pv 0) (ae (pv 7) (ae (pv 2) ai)))) ah (fun _ _=>rfl))) (ae (pv 4) (ae (pv 6) ai)))) ai))))))
   (aq (vF hu (pv 2) (pv 1) (aE (Kk rfl hu64) (by rfl) T.n_min E8 (ae (pv 5) ai)) rfl)))))) aS)
   (qq (t2:=restR tb bv c m D kvs H Q) (aq (aI (qy hu (pv 2) (pv 1) (fun _ _=>rfl)))) (fun D0 S0 H0 h0=>?restr))),?_⟩
 case restr =>
  obtain⟨v4,v5,v6,v7,v8,kvs',v,rfl,sT,hT',ti',gr,hv,kq⟩:=h0
  obtain⟨c',e,en⟩:=ti'.en _ v hv
  have ec:c'=c:=by
   have:((c:Nat):Int)=(c':Int):=by injection e
   omega
  subst ec
  obtain⟨t,h1,h2⟩:=en.cost
  refine⟨_,rfl,_,rfl,tb,v,rfl,by have:=DGet.k (k:=.inl ((c':Nat):Int)) hT';rw[hv]at this;exact this,?_⟩
  exact kq _ _ (kk v t kvs' H0 sT hT' ti' gr hv h1 h2)
 refine⟨_,rfl,_,rfl,tb,_,rfl,DGet.k (k:=.inl ((c:Nat):Int)) hT,_,rfl,?_⟩
 cases hv:valV kvs (.inl ((c:Nat):Int)) with
 |some v =>
  exact iteF ⟨_,_,_,_,_,kvs,v,rfl,(fun _ _ _ e=>e),hT,ti,⟨fun _ _ z=>z,fun c' z1 z2=>absurd z1 z2⟩,hv,fun _ _ z=>z⟩
 |none =>
  refine iteT ?_
  have c0:c≠0:=fun z=>by
   subst z
   obtain⟨v0,hv0⟩:=ti.z
   rw[hv]at hv0;cases hv0
  obtain⟨f,rest,ebl⟩:∃ f rest,bl c=f::rest:=by
   cases q:bl c with
   |cons f rest=>exact⟨f,rest,rfl⟩
   |nil =>
    refine absurd (Qt fun i=>?_) c0
    rw[Qu]
    cases z:c.testBit i with
    |false=>rfl
    |true =>
     have:=iH.mpr z
     rw[q]at this;cases this
  have nd:=bl_nd c
  rw[ebl]at nd
  obtain⟨nf,ndr⟩:=PF.mp nd
  have rlen:(bl c).length=rest.length+1:=by rw[ebl,Qc]
  have flt:f<m:=bl_lt hc (by rw[ebl];exact PH ..)
  have tlt:∀ t∈rest,t<m:=fun t ht=>bl_lt hc (by rw[ebl];exact PD _ ht)
  have rm:rest.length+1<=m:=by
   rw[← rlen]
   exact lZ m _ (bl_nd c) fun x hx=>bl_lt hc hx
  have c14:c<16384:=by
   have:2^m<=2^14:=QD (by decide) m14
   have e14:(2:Nat)^14=16384:=by decide
   omega
  refine⟨_,rfl,(c:Int),rfl,by omega,by omega,fun r H1 s1 hr0 hr1=>?_⟩
  have enb:(K2.bitsF 0 ((c:Nat):Int).toNat).map iV=iV f::rest.map iV:=by
   rw[PQ]
   show(bl c).map iV=_
   rw[ebl,P7]
  rw[enb]at hr1
  refine⟨_,rfl,r,_,0,_,rfl,rfl,SqL.of hr1,(show atI (iV f::rest.map iV) ((0:Nat):Int)=some (iV f) from aA rfl),?_⟩
  refine⟨(by show 0<=sizeLine;decide),fun wa hwa=>?_⟩
  have s2:=ak hwa (.lst [])
  refine⟨_,rfl,_,rfl,r,_,rfl,SqL.of (s2 _ _ hr1),fun sl hsl=>?_⟩
  have ecut:cutV (iV f::rest.map iV) (some 1) none=rest.map iV:=by
   have e1:HT.sIx (iV f::rest.map iV).length 0 (some ((1:Nat):Int))=1:=by rw[HT.sIx_nat,Qc,PB];omega
   unfold cutV
   rw[show(some (1:Int))=some ((1:Nat):Int) from rfl,e1,HT.sIx_none,List.drop_succ_cons,S3,Qc]
   exact QK (by omega)
  rw[ecut]
  have s3:=ak hsl (.lst (rest.map iV))
  have s13:Same H (upd (upd H1 wa (.lst [])) sl (.lst (rest.map iV))):=s1.trans (s2.trans s3)
  have wsl:wa≠sl:=fun z=>by rw[← z,af]at hsl;cases hsl
  have g1:(upd (upd H1 wa (.lst [])) sl (.lst (rest.map iV))) wa=some (.lst []):=by rw[ao wsl];exact af
  have g2:=af (H:=upd H1 wa (.lst [])) (a:=sl) (o:=.lst (rest.map iV))
  have wa0:H wa=none:=iN s1 hwa
  generalize (upd (upd H1 wa (.lst [])) sl (.lst (rest.map iV)))=Hb at s13 g1 g2
  have hTb:=s13 _ _ hT
  have wtb:wa≠tb:=fun z=>by rw[z,hT]at wa0;cases wa0
  have sltb:sl≠tb:=fun z=>by rw[z,hTb]at g2;cases g2
  have tsb:TbS tb H Hb:=fun b o _ e=>s13 _ _ e
  have tib:TI Hb D m kvs:=ti.mono fun a xs q=>s13 _ _ q
  have btb:BtAt Hb bv D m:=hB.mono hT tsb
  refine⟨sl,rfl,⟨_,SqL.of g2⟩,cS (K:=K) (xs:=rest.map iV) (LpI bv tb r wa c f m D kvs rest Hb) ⟨_,_,kvs,[],[],rfl,fun _ _ _ _ e=>e,hTb,tib,⟨fun _ _ z=>z,fun c' z1 z2=>absurd z1 z2⟩,g1,LsAt.nil,rfl,fun idx t e=>by simp at e⟩ (fun i σ H2 _ ⟨_,_,_,_,_,_,z,_⟩=>SqL.of (z _ _ sltb (Ne.symm wsl) g2)) ?_ ?_⟩
  ·rintro i x σ H2 hx ⟨v7,v8,kvs2,ws,ys,rfl,k2,hT2,ti2,gr2,hwa2,hL,wl,done⟩
   rw[PR]at hx
   obtain⟨t,ht,rfl⟩:=Qp.mp hx
   have tm:=Pr ht
   have tl:=tlt t tm
   have ftn:f≠t:=fun z=>nf (z▸tm)
   have cp:=JW ebl tm
   have cl:(bl (cut2 c f t)).length+1=rest.length:=by
    rw[cp.length_eq,Tc tm]
    have:=Rc tm
    omega
   refine⟨_,rfl,_,rfl,_,_,rfl,rfl,⟨by show(0:Int)<=(f:Int);omega,by show(f:Int)<=1000000;omega,by decide⟩,_,_,rfl,rfl,_,rfl,_,_,rfl,rfl,⟨by show(0:Int)<=(t:Int);omega,by show(t:Int)<=1000000;omega,by decide⟩,_,_,rfl,rfl,?_⟩
   have ec:Builtin.bitXor (Builtin.bitXor (c:Int) (1*2^((f:Nat):Int).toNat)) (1*2^((t:Nat):Int).toNat)=((cut2 c f t:Nat):Int):=by rw[shlN,shlN,xorN,xorN];rfl
   simp only[ec]
   have yl:=hL.1
   have upL:∀ b zs,H b=some (.lst zs)->H2 b=some (.lst zs):=fun b zs q=>k2 b _ (fun z=>by rw[z,hT]at q;cases q) (fun z=>by rw[z,wa0]at q;cases q) (s13 _ _ q)
   obtain⟨ba,zs,rfl,hba,rr⟩:=id hB
   have bt2:BtAt H2 (.ref ba) D m:=⟨ba,zs,rfl,upL _ _ hba,fun i' hi'=>by
    obtain⟨p,xs,r1,r2,r3⟩:=rr i' hi'
    exact⟨p,xs,r1,upL _ _ r2,r3⟩⟩
   obtain⟨p,xs,r1,r2,r3⟩:=rr f flt
   refine⟨_,rfl,.inl ⟨rfl,_,SqL.of hwa2⟩,_,rfl,_,rfl,ba,_,_,_,rfl,rfl,SqL.of (upL _ _ hba),aA r1,_,rfl,p,_,_,_,rfl,rfl,SqL.of (upL _ _ r2),aA (r3 t tl),_,rfl,_,rfl,_,rfl,.ref ba,tb,cut2 c f t,kvs2,rfl,bt2,hT2,ti2,O1 hc flt tl,m14,by omega,by omega,fun v tr kvs3 H3 sT3 hT3 ti3 gr3 hv3 cv3 op3=>?_⟩
   obtain⟨va,y,z,rfl,hva⟩:=id cv3
   refine⟨va,_,0,_,rfl,rfl,SqT.of hva,a30,_,_,rfl,rfl,_,rfl,_,rfl,(by show 3<=sizeLine;decide),fun t3 ht3=>?_⟩
   have s4:=ak ht3 (.tup [.int (D f t+tr),.int (f:Int),.int (t:Int)])
   have hwa3:H3 wa=some (.lst ys):=sT3 _ _ wtb hwa2
   have itl:i<rest.length:=(Pp.mp ht).1
   refine⟨wa,ys,_,rfl,rfl,s4 _ _ hwa3,au (by omega),?_⟩
   have tp23:Tps H2 H3:=TbS.tps sT3 hT2
   have tp35:Tps H3 (upd (upd H3 t3 (.tup [.int (D f t+tr),.int (f:Int),.int (t:Int)])) wa (.lst (ys++[.ref t3]))):=fun a xs q=>by
    rw[ao (fun z=>by rw[z,hwa3]at q;cases q)]
    exact s4 _ _ q
   have tp25:Tps H2 (upd (upd H3 t3 (.tup [.int (D f t+tr),.int (f:Int),.int (t:Int)])) wa (.lst (ys++[.ref t3]))):=fun a xs q=>tp35 _ _ (tp23 _ _ q)
   have wt3:t3≠wa:=fun z=>by rw[z,hwa3]at ht3;cases ht3
   refine⟨_,_,kvs3,ws++[(D f t+tr,(f:Int),(t:Int))],ys++[.ref t3],rfl,fun b o n1 n2 e=>?_,?_,ti3.mono tp35,⟨fun k v z=>gr3.1 _ _ (gr2.1 _ _ z),fun c' y1 y2=>?_⟩,af,?_,by rw[Px,wl];rfl,fun idx t' e=>?_⟩
   ·rw[ao n2]
    exact s4 _ _ (sT3 _ _ n1 (k2 b o n1 n2 e))
   ·rw[ao (Ne.symm wtb)]
    exact s4 _ _ hT3
   ·cases q2:valV kvs2 (.inl (c':Int)) with
    |none=>have:=gr3.2 c' q2 y2;omega
    |some v'=>exact gr2.2 c' y1 (by rw[q2];simp)
   ·exact(hL.imp fun _ _ q=>TrA.mono q tp25).snoc ⟨t3,rfl,by rw[ao wt3];exact af⟩
   ·have til:(rest.take i).length=i:=by rw[Qr];omega
    rw[Qf,ht]at e
    by_cases ci:idx<i
    ·rw[Py (by omega)]at e
     obtain⟨tr',vr,d1,d2,d3,d4⟩:=done idx t' e
     exact⟨tr',vr,by rw[Py (by omega)];exact d1,d2,gr3.1 _ _ d3,d4.mono tp25⟩
    ·rw[Pu (by omega)]at e
     have h5:=(Pp.mp e).1
     have h6:idx=i:=by
      have:(Option.toList (some t)).length=1:=rfl
      omega
     subst h6
     rw[til,P1]at e
     cases e
     exact⟨tr,.ref va,by rw[Pu (by omega),wl,P1];rfl,op3.perm cp,hv3,cv3.mono tp35⟩
  ·rintro σ H2 ⟨v7,v8,kvs2,ws,ys,rfl,k2,hT2,ti2,gr2,hwa2,hL,wl,done⟩
   rw[PB]at wl done
   rw[Qn]at done
   have rp:1<=rest.length:=by omega
   have wne:ws≠[]:=fun z=>by rw[z]at wl;simp at wl;omega
   refine⟨_,rfl,wa,ys,ws,rfl,SqL.of hwa2,hL,wne,fun idx y t3 hy ht3 hmin=>?_⟩
   have il:idx<rest.length:=by rw[← wl];exact(Pp.mp ht3).1
   obtain⟨t,et⟩:∃ t,rest[idx]?=some t:=⟨_,Pq il⟩
   have tm:=Pr et
   obtain⟨tr,vr,d1,d2,d3,d4⟩:=done idx t et
   rw[ht3]at d1
   cases d1
   obtain⟨w',ew',a,rfl,ha⟩:=hL.get hy
   rw[ht3]at ew'
   cases ew'
   have ftn:f≠t:=fun z=>nf (z▸tm)
   have fb:f∈bl c:=by rw[ebl];exact PH ..
   have tbm:t∈bl c:=by rw[ebl];exact PD _ tm
   have opt:Opt D (bl c) (D f t+tr):=by
    rw[ebl]
    refine Opt.step sy tm d2 fun t' ht'=>?_
    obtain⟨k,hk,ek⟩:=Q9 ht'
    obtain⟨tr',vr',d1',d2',_,_⟩:=done k t' (by rw[Pq hk,ek])
    exact⟨tr',d2',hmin _ (Pr d1')⟩
   have cabs:valV kvs2 (.inl ((c:Nat):Int))=none:=by
    cases q2:valV kvs2 (.inl ((c:Nat):Int)) with
    |none=>rfl
    |some v'=>have:=gr2.2 c hv (by rw[q2];simp);omega
   have cne:((cut2 c f t:Nat):Int)≠(c:Int):=fun z=>by
    have z':cut2 c f t=c:=by omega
    have:=(pY fb tbm ftn f).mp (by rw[z'];exact fb)
    exact this.2.1 rfl
   have vput:∀ k v,valV kvs2 k=some v->valV (putK kvs2 (.inl ((c:Nat):Int)) (.ref a)) k=some v:=fun k v e=>by
    rw[gM,if_neg (fun z=>by rw[z,cabs]at e;cases e)]
    exact e
   refine⟨_,rfl,_,rfl,tb,_,rfl,DPut.k (k:=.inl ((c:Nat):Int)) (v:=.ref a) hT2 (ti2.len m14),?_⟩
   have tp:Tps H2 (upd H2 tb (.dK (putK kvs2 (.inl ((c:Nat):Int)) (.ref a)))):=fun b xs q=>by
    rw[ao (fun z=>by rw[z,hT2]at q;cases q)]
    exact q
   refine⟨_,_,_,_,_,putK kvs2 (.inl ((c:Nat):Int)) (.ref a),.ref a,rfl,fun b o n1 e=>?_,af,⟨fun k v e=>?_,?_,Oz _ ti2.nd cabs⟩,⟨fun k v e=>vput _ _ (gr2.1 _ _ e),fun c' y1 y2=>?_⟩,by rw[gM,if_pos rfl],fun _ _ z=>z⟩
   ·rw[ao n1]
    exact k2 b o n1 (fun z=>by rw[z,wa0]at e;cases e) (s13 _ _ e)
   ·rw[gM]at e
    by_cases ck:k=.inl ((c:Nat):Int)
    ·rw[if_pos ck]at e
     cases e
     exact⟨c,ck,hc,.inr ⟨D f t+tr,f,t,a,vr,tr,rfl,tp _ _ ha,fb,tbm,ftn,vput _ _ d3,d4.mono tp,rfl,opt⟩⟩
    ·rw[if_neg ck]at e
     obtain⟨c',e1,e2⟩:=ti2.en k v e
     exact⟨c',e1,e2.mono tp vput⟩
   ·obtain⟨v0,hv0⟩:=ti2.z
    exact⟨v0,vput _ _ hv0⟩
   ·by_cases cc:c'=c
    ·rw[cc];exact Pz _
    ·rw[gM,if_neg (fun z=>cc (by have:(c':Int)=(c:Int):=by injection z
                                 omega))]at y2
     have:=gr2.2 c' y1 y2
     omega
theorem ok_laid{f f1:Addr}{fd fd1:FuncData}{D:Nat->Nat->Int}{m:Nat}(sy:∀ a b,D a b=D b a) (F:Fun K "laid_in_pairs" "laid_in_pairs" aZ f fd) (T:Txt mg) (G_bits:Cal P w K mg base 1 "bits" ["mask"] spBits f1 fd1) (bn:om K fd ["between","chosen","table"] []) (hm:mg "laid_in_pairs" = some (.ref f)) (kp:PJ K (.ref f)=true):∀ j,FnOk P w K mg base CX0 (j+2) f fd ["between","chosen","table"] (spLaid D m j)
 |0=>⟨fun vs H Q E h=>by
   obtain⟨bv,tb,c,kvs,_,_,_,_,_,_,z,_⟩:=h
   omega,fun A outer s H args us vs Q E _ _ _ _ h=>by
   obtain⟨bv,tb,c,kvs,_,_,_,_,_,_,z,_⟩:=h
   omega⟩
 |j+1=>LP sy F T G_bits ⟨ok_laid sy F T G_bits bn hm kp j,bn,hm,kp⟩
end
end KF
namespace KF
open PySem L2
local macro_rules | `(tactic| walk_at "cc") => `(tactic| first | exact ⟨by decide, by decide⟩ | (show (0 : Int) < _; decide) | (show (0 : Int) < _; omega) | (show (0 : Int) ≤ _; omega) | exact ⟨by decide, by decide, by decide⟩ | exact ⟨by omega, by omega, by decide⟩ | exact Or.inl ⟨by decide, by decide⟩ | exact Or.inl ⟨by omega, by omega⟩)
local macro_rules | `(tactic| walk_at "rd") => `(tactic| repeat (first | refine ⟨_, rfl, ?_⟩ | refine ⟨_, _, rfl, rfl, ?_⟩ | refine ⟨rfl, ?_⟩ | (refine ⟨?cc, ?_⟩; (case cc => walk_at "cc"))))
theorem LY{VL:List (Option Nat)}{r:Nat}{o:Option Nat}(h:VL[r]?=some o):(VL.map oN)[r]?=some (oN o):=by rw[PR,h];rfl
theorem FI.even{n:Nat}{ls:List Lk}{s M:Nat}{T:List (Option Int)}{vv:List (Option Nat)}(I:FI n ls s M T vv [] (fun _ _=>False)){r k:Nat}(h:vv[r]?=some (some k)):∃(l:Lk)(x y:Int),ls[k]?=some l/\pq l r/\T[r]?=some (some x)/\T[bey l r]?=some (some y)/\y+l.2.2=x:=by
 obtain⟨l,x,y,e1,e2,e3,e4,e5⟩:=I.pr r k h
 rcases I.rl (bey l r) y k l e4 (by simp) e1 (xX e2)with h' | ⟨x',h',hx⟩
 ·exact h'.elim
 ·rw[r8 e2,e3]at h';cases h'
  exact⟨l,x,y,e1,e2,e3,e4,by omega⟩
inductive Pth(ls:List Lk)(vv:List (Option Nat))(s:Nat):Nat->List Nat->Prop where
 |root:Pth ls vv s s []
 |step {r k:Nat} {l:Lk} {ks:List Nat} (hv:vv[r]?=some (some k)) (hl:ls[k]?=some l) (h:Pth ls vv s (bey l r) ks):Pth ls vv s r (k::ks)
theorem Up.path{ls:List Lk}{vv:List (Option Nat)}{s j r:Nat}(h:Up ls vv s j r):∃ ks,Pth ls vv s r ks/\ks.length=j:=by
 induction h with
 |root=>exact⟨[],.root,rfl⟩
 |step hv hl _ ih =>
  obtain⟨ks,p,e⟩:=ih
  exact⟨_::ks,.step hv hl p,by rw[Qc,e]⟩
theorem Pth.up{ls:List Lk}{vv:List (Option Nat)}{s r:Nat}{ks:List Nat}(h:Pth ls vv s r ks):Up ls vv s ks.length r:=by
 induction h with
 |root=>exact .root
 |step hv hl _ ih=>exact .step hv hl ih
def lkA(ls:List Lk)(k:Nat):Lk:=ls.getD k (0,0,0)
theorem lkA_is{ls:List Lk}{k:Nat}{l:Lk}(h:ls[k]?=some l):lkA ls k=l:=by unfold lkA;rw[Qm,h];rfl
def endX(l:Lk):Nat:=2^l.1^^^2^l.2.1
def oddE(ls:List Lk)(u:Nat):Nat->Nat
 |0=>0
 |i+1=>if u.testBit i=true then oddE ls u i^^^endX (lkA ls i) else oddE ls u i
def cstU(ls:List Lk)(u:Nat):Nat->Int
 |0=>0
 |i+1=>if u.testBit i=true then cstU ls u i+(lkA ls i).2.2 else cstU ls u i
theorem Hq(x a:Nat):(bl (x^^^2^a)).Perm (tog (bl x) a):=by
 refine(QM (bl_nd _) (tog_nd (bl_nd x) a)).mpr fun y=>?_
 rw[OC (bl_nd x),iH,QF,Qb,iH,iH]
 by_cases c:y=a
 ·subst c
  cases x.testBit y<;>simp
 ·have c':¬ a=y:=fun z=>c z.symm
  cases x.testBit y<;>simp[c,c']
theorem low_join{n:Nat}{d:Nat->Nat->Int}(M:Met n d){ls:List Lk}(u:Nat)(hl:∀ l∈ls,l.1<n/\l.2.1<n/\d l.1 l.2.1<=l.2.2):∀ i,i<=ls.length->oddE ls u i<2^n/\∃ c,Cs d (bl (oddE ls u i)) c/\c<=cstU ls u i
 |0,_=>⟨QT n,0,by show Cs d (bl 0) 0;rw[D5];exact Opt.nil.1,QV _⟩
 |i+1,h=>by
  obtain⟨h1,c,h2,h3⟩:=low_join M u hl i (by omega)
  unfold oddE cstU
  by_cases b:u.testBit i=true
  ·rw[if_pos b,if_pos b]
   obtain⟨l,e⟩:∃ l,ls[i]?=some l:=⟨_,Pq (by omega)⟩
   obtain⟨l1,l2,l3⟩:=hl l (Pr e)
   rw[lkA_is e]
   have ex:oddE ls u i^^^endX l=oddE ls u i^^^2^l.1^^^2^l.2.1:=by unfold endX;rw[QB]
   rw[ex]
   refine⟨Rg (Rg h1 (QI (by decide) l1)) (QI (by decide) l2),?_⟩
   obtain⟨c',g1,g2⟩:=h2.two M (bl_nd _) (fun x hx=>bl_lt h1 hx) l1 l2
   refine⟨c',g1.perm ?_,by omega⟩
   exact((Hq _ _).trans (Lc (Hq _ _) _)).symm
  ·rw[if_neg b,if_neg b]
   exact⟨h1,c,h2,h3⟩
theorem wc(ls:List Lk)(u v:Nat):∀ i,oddE ls (u^^^v) i=oddE ls u i^^^oddE ls v i
 |0=>(Ry 0).symm
 |i+1=>by
  unfold oddE
  rw[wc ls u v i,QF]
  have x4:∀ a b e:Nat,(a^^^e)^^^(b^^^e)=a^^^b:=fun a b e=>by rw[RT b e,← QB,QB a e e,Ry,Rx]
  cases u.testBit i<;>cases v.testBit i<;>simp
  ·rw[QB]
  ·rw[QB,QB,RT (oddE ls v i)]
  ·exact(x4 _ _ _).symm
theorem xP(ls:List Lk)(hw:∀ l∈ls,0<=l.2.2)(u v:Nat):∀ i,i<=ls.length->cstU ls (u^^^v) i<=cstU ls u i+cstU ls v i
 |0,_=>QV _
 |i+1,h=>by
  have ih:=xP ls hw u v i (by omega)
  obtain⟨l,e⟩:∃ l,ls[i]?=some l:=⟨_,Pq (by omega)⟩
  have w0:=hw l (Pr e)
  unfold cstU
  rw[QF,lkA_is e]
  cases u.testBit i<;>cases v.testBit i<;>simp<;>omega
inductive Wk(ls:List Lk):Nat->Nat->Int->Prop where
 |nil (a:Nat):Wk ls a a 0
 |step {a b i:Nat} {x:Int} {l:Lk} (h:Wk ls a b x) (hl:ls[i]?=some l) (he:pq l b):Wk ls a (bey l b) (x+l.2.2)
theorem Wk.trans{ls:List Lk}{a b c:Nat}{x y:Int}(h:Wk ls a b x)(g:Wk ls b c y):Wk ls a c (x+y):=by
 induction g with
 |nil=>rw[SM];exact h
 |step _ hl he ih =>
  rw[← Int.add_assoc]
  exact .step ih hl he
theorem Wk.link{ls:List Lk}{a i:Nat}{l:Lk}(hl:ls[i]?=some l)(he:pq l a):Wk ls a (bey l a) l.2.2:=by
 have:=Wk.step (.nil a) hl he
 rw[QR]at this
 exact this
theorem Wk.rev{ls:List Lk}{a b:Nat}{x:Int}(h:Wk ls a b x):Wk ls b a x:=by
 induction h with
 |nil=>exact .nil _
 | @step b i x l h hl he ih =>
  have g:=Wk.link hl (xX he)
  rw[r8 he]at g
  rw[Int.add_comm]
  exact g.trans ih
theorem Wk.nn{ls:List Lk}(hw:∀ l∈ls,0<=l.2.2){a b:Nat}{x:Int}(h:Wk ls a b x):0<=x:=by
 induction h with
 |nil=>exact QV _
 |step _ hl _ ih=>have:=hw _ (Pr hl);omega
theorem Wk.rel{n:Nat}{ls:List Lk}{s M:Nat}{T:List (Option Int)}{vv:List (Option Nat)}(I:FI n ls s M T vv [] (fun _ _=>False)){a b:Nat}{x:Int}(h:Wk ls a b x):∀ y,T[a]?=some (some y)->∃ z,T[b]?=some (some z)/\z<=y+x:=by
 induction h with
 |nil=>intro y hy;exact⟨y,hy,by omega⟩
 | @step b i x l h hl he ih =>
  intro y hy
  obtain⟨z,h1,h2⟩:=ih y hy
  rcases I.rl b z i l h1 (by simp) hl he with q | ⟨z',h3,h4⟩
  ·exact q.elim
  ·exact⟨z',h3,by omega⟩
theorem Up.wk{n:Nat}{ls:List Lk}{s M:Nat}{T:List (Option Int)}{vv:List (Option Nat)}(I:FI n ls s M T vv [] (fun _ _=>False)){j r:Nat}(h:Up ls vv s j r):∀ x,T[r]?=some (some x)->Wk ls s r x:=by
 induction h with
 |root=>intro x hx;rw[I.st]at hx;cases hx;exact .nil _
 | @step j r k l hv hl h ih =>
  intro x hx
  obtain⟨l',x',y,e1,e2,e3,e4,e5⟩:=I.even hv
  rw[hl]at e1;cases e1
  rw[hx]at e3;cases e3
  have g:=Wk.step (ih y e4) hl (xX e2)
  rw[r8 e2,e5]at g
  exact g
theorem least{P:Nat->Prop}(h:∃ n,P n):∃ n,P n/\∀ m,P m->n<=m:=by
 obtain⟨n,hn⟩:=h
 induction n using Nat.strongRecOn with
 |ind n ih =>
  by_cases c:∃ m,m<n/\P m
  ·obtain⟨m,h1,h2⟩:=c
   exact ih m h1 h2
  ·exact⟨n,hn,fun m hm=>Sf fun z=>c ⟨m,z,hm⟩⟩
open Classical in
noncomputable def farD (ls:List Lk) (a b:Nat):Int:=if h:∃ x:Nat,Wk ls a b (x:Int) then((Classical.choose (least h):Nat):Int) else 0
theorem mr{ls:List Lk}(hw:∀ l∈ls,0<=l.2.2){a b:Nat}{x:Int}(h:Wk ls a b x):Wk ls a b (farD ls a b)/\∀ y,Wk ls a b y->farD ls a b<=y:=by
 have x0:=h.nn hw
 have ex:∃ x:Nat,Wk ls a b (x:Int):=⟨x.toNat,by rw[QZ x0];exact h⟩
 have e:farD ls a b=((Classical.choose (least ex):Nat):Int):=by unfold farD;rw[dif_pos ex]
 obtain⟨c1,c2⟩:=Sr (least ex)
 rw[e]
 refine⟨c1,fun y hy=>?_⟩
 have y0:=hy.nn hw
 have:=c2 y.toNat (by rw[QZ y0];exact hy)
 omega
theorem M5(ls:List Lk)(a b:Nat):farD ls a b=farD ls b a:=by
 have e:∀ x:Nat,Wk ls a b (x:Int)=Wk ls b a (x:Int):=fun x=>propext ⟨Wk.rev,Wk.rev⟩
 have e2:(fun x:Nat=>Wk ls a b (x:Int))=fun x:Nat=>Wk ls b a (x:Int):=funext e
 unfold farD
 by_cases h:∃ x:Nat,Wk ls a b (x:Int)
 ·have h':∃ x:Nat,Wk ls b a (x:Int):=h.imp fun x z=>z.rev
  rw[dif_pos h,dif_pos h']
  have c1:=Sr (least h)
  have c2:=Sr (least h')
  have l1:=c1.2 _ c2.1.rev
  have l2:=c2.2 _ c1.1.rev
  omega
 ·have h':¬ ∃ x:Nat,Wk ls b a (x:Int):=fun z=>h (z.imp fun x y=>y.rev)
  rw[dif_neg h,dif_neg h']
def Conn(n:Nat)(ls:List Lk):Prop:=∀ b,b<n->∃ x,Wk ls 0 b x
theorem Conn.two{n:Nat}{ls:List Lk}(h:Conn n ls){a b:Nat}(ha:a<n)(hb:b<n):∃ x,Wk ls a b x:=by
 obtain⟨x,hx⟩:=h a ha
 obtain⟨y,hy⟩:=h b hb
 exact⟨_,hx.rev.trans hy⟩
theorem far_met{n:Nat}{ls:List Lk}(hw:∀ l∈ls,0<=l.2.2)(hc:Conn n ls):Met n (farD ls) where
 sy:=M5 ls
 nn:=fun a b=>by
  unfold farD
  split
  ·omega
  ·exact QV _
 tr:=fun a b c ha hb hc'=>by
  obtain⟨x,hx⟩:=hc.two ha hb
  obtain⟨y,hy⟩:=hc.two hb hc'
  exact(mr hw (hx.trans hy)).2 _ ((mr hw hx).1.trans (mr hw hy).1)
theorem far_link{ls:List Lk}(hw:∀ l∈ls,0<=l.2.2){l:Lk}(hl:l∈ls):farD ls l.1 l.2.1<=l.2.2:=by
 obtain⟨i,hi,e⟩:=Q9 hl
 have g:=Wk.link (ls:=ls) (i:=i) (l:=l) (a:=l.1) (by rw[Pq hi,e]) (.inl rfl)
 have b1:bey l l.1=l.2.1:=by unfold bey;rw[if_pos rfl]
 rw[b1]at g
 exact(mr hw g).2 _ g
theorem FI.is{n:Nat}{ls:List Lk}{s M:Nat}{T:List (Option Int)}{vv:List (Option Nat)}(I:FI n ls s M T vv [] (fun _ _=>False))(hc:Conn n ls)(hs:s<n){r:Nat}(hr:r<n):T[r]?=some (some (farD ls s r)):=by
 have hw:∀ l∈ls,0<=l.2.2:=fun l hl=>(I.w0 l hl).1
 obtain⟨x,hx⟩:=hc.two hs hr
 obtain⟨z,h1,h2⟩:=hx.rel I 0 I.st
 obtain⟨j,u⟩:=I.up r z h1
 have wz:=u.wk I z h1
 obtain⟨f1,f2⟩:=mr hw hx
 obtain⟨z',h3,h4⟩:=f1.rel I 0 I.st
 rw[h1]at h3;cases h3
 have:=f2 z wz
 have e:z=farD ls s r:=by omega
 rw[← e]
 exact h1
def g8(ks:List Nat):Nat:=ks.foldl (fun m k=>m|||2^k) 0
theorem i3(ks:List Nat)(i:Nat):(g8 ks).testBit i=decide (i∈ks):=by
 have gen:∀(ks:List Nat)(m:Nat),(ks.foldl (fun m k=>m|||2^k) m).testBit i=(m.testBit i||decide (i∈ks)):=by
  intro ks
  induction ks with
  |nil=>intro m;simp
  |cons k ks ih =>
   intro m
   rw[List.foldl_cons,ih,Q0,Qb]
   by_cases c:k=i
   ·subst c;simp
   ·have c':¬ i=k:=fun z=>c z.symm
    simp[c,c']
 unfold g8
 rw[gen]
 simp
theorem EM(ls:List Lk)(k:Nat):∀ i,oddE ls (2^k) i=if k<i then endX (lkA ls k) else 0
 |0=>by rw[if_neg (QA _)];rfl
 |i+1=>by
  unfold oddE
  rw[EM ls k i,Qb]
  by_cases c:k=i
  ·subst c
   rw[if_pos (by simp),if_neg (Qs _),if_pos (QE _),Nat.zero_xor]
  ·rw[if_neg (by simpa using c)]
   by_cases d:k<i
   ·rw[if_pos d,if_pos (by omega)]
   ·rw[if_neg d,if_neg (by omega)]
theorem E5(ls:List Lk)(k:Nat):∀ i,cstU ls (2^k) i=if k<i then(lkA ls k).2.2 else 0
 |0=>by rw[if_neg (QA _)];rfl
 |i+1=>by
  unfold cstU
  rw[E5 ls k i,Qb]
  by_cases c:k=i
  ·subst c
   rw[if_pos (by simp),if_neg (Qs _),if_pos (QE _),QR]
  ·rw[if_neg (by simpa using c)]
   by_cases d:k<i
   ·rw[if_pos d,if_pos (by omega)]
   ·rw[if_neg d,if_neg (by omega)]
theorem qA(ls:List Lk):∀ i,oddE ls 0 i=0
 |0=>rfl
 |i+1=>by unfold oddE;rw[Qu,if_neg Qe];exact qA ls i
theorem rC(ls:List Lk):∀ i,cstU ls 0 i=0
 |0=>rfl
 |i+1=>by unfold cstU;rw[Qu,if_neg Qe];exact rC ls i
theorem Pth.node{ls:List Lk}{vv:List (Option Nat)}{s r:Nat}{ks:List Nat}(h:Pth ls vv s r ks):∀ k∈ks,∃ q j,vv[q]?=some (some k)/\Up ls vv s j q/\j<=ks.length:=by
 induction h with
 |root=>intro k hk;cases hk
 | @step r k l ks hv hl h ih =>
  intro k' hk
  rcases Pw.mp hk with rfl | hk
  ·exact⟨r,_,hv,.step hv hl h.up,Pz _⟩
  ·obtain⟨q,j,h1,h2,h3⟩:=ih k' hk
   exact⟨q,j,h1,h2,by rw[Qc];omega⟩
theorem Pth.join{n:Nat}{ls:List Lk}{s M:Nat}{T:List (Option Int)}{vv:List (Option Nat)}(I:FI n ls s M T vv [] (fun _ _=>False)){r:Nat}{ks:List Nat}(h:Pth ls vv s r ks) :
  (∀ k∈ks,k<ls.length)/\oddE ls (g8 ks) ls.length=2^s^^^2^r/\∀ x,T[r]?=some (some x)->cstU ls (g8 ks) ls.length<=x:=by
 induction h with
 |root =>
  refine⟨(fun k hk=>nomatch hk),?_,fun x hx=>?_⟩
  ·show oddE ls 0 ls.length=_
   rw[qA,Ry]
  ·rw[I.st]at hx;cases hx
   show cstU ls 0 ls.length<=0
   rw[rC];exact QV _
 | @step r k l ks hv hl h ih =>
  obtain⟨h0,h1,h2⟩:=ih
  obtain⟨l',x,y,e1,e2,e3,e4,e5⟩:=I.even hv
  rw[hl]at e1;cases e1
  have kl:k<ls.length:=(Pp.mp hl).1
  have me:Up ls vv s (ks.length+1) r:=.step hv hl h.up
  have nk:k∉ks:=fun z=>by
   obtain⟨q,j,g1,g2,g3⟩:=h.node k z
   obtain⟨l2,_,_,f1,f2,_⟩:=I.pr q k g1
   rw[hl]at f1;cases f1
   have qr:q≠r:=fun w=>by
    subst w
    have:=Up.uniq I.vs me g2
    omega
   have eb:bey l q=r:=by
    unfold bey
    rcases f2 with z1 | z1<;>rcases e2 with z2 | z2
    ·exact absurd (z1.trans z2.symm) qr
    ·rw[if_pos z1];exact z2.symm
    ·rw[if_neg (fun w=>qr (w.trans z2.symm))];exact z2.symm
    ·exact absurd (z1.trans z2.symm) qr
   have:Up ls vv s (ks.length+1+1) q:=.step g1 hl (by rw[eb];exact me)
   have:=Up.uniq I.vs this g2
   omega
  have em:g8 (k::ks)=g8 ks^^^2^k:=Qt fun i=>by
   rw[i3,QF,i3,Qb]
   by_cases c:i=k
   ·subst c;simp[nk]
   ·have c':¬ k=i:=fun z=>c z.symm
    simp[c,c']
  rw[em]
  refine⟨fun k' hk=>?_,?_,fun x' hx'=>?_⟩
  ·rcases Pw.mp hk with rfl | hk
   ·exact kl
   ·exact h0 k' hk
  ·rw[wc,h1,EM,if_pos kl,lkA_is hl]
   have ee:endX l=2^bey l r^^^2^r:=by
    unfold endX bey
    rcases e2 with z | z
    ·rw[if_pos z,z,RT]
    ·by_cases w:r=l.1
     ·rw[if_pos w,w,RT]
     ·rw[if_neg w,z]
   rw[ee,← QB,QB (2^s),Ry,Rx]
  ·rw[hx']at e3;cases e3
   have g1:=xP ls (fun l hl=>(I.w0 l hl).1) (g8 ks) (2^k) ls.length (Pz _)
   have g2:=h2 y e4
   rw[E5,if_pos kl,lkA_is hl]at g1
   omega
end KF
namespace KF
open PySem L2
local macro_rules | `(tactic| walk_at "cc") => `(tactic| first | exact ⟨by decide, by decide⟩ | (show (0 : Int) < _; decide) | (show (0 : Int) < _; omega) | (show (0 : Int) ≤ _; omega) | exact ⟨by decide, by decide, by decide⟩ | exact ⟨by omega, by omega, by decide⟩ | exact Or.inl ⟨by decide, by decide⟩ | exact Or.inl ⟨by omega, by omega⟩)
local macro_rules | `(tactic| walk_at "rd") => `(tactic| repeat (first | refine ⟨_, rfl, ?_⟩ | refine ⟨_, _, rfl, rfl, ?_⟩ | refine ⟨rfl, ?_⟩ | (refine ⟨?cc, ?_⟩; (case cc => walk_at "cc"))))
def Dz(l:Lk):Nat:=2^l.1|||2^l.2.1
def one1(m:Nat)(l:Lk):Nat:=if m&&&Dz l=0 then m else m|||Dz l
def cK(ls:List Lk)(m:Nat):Nat:=ls.foldl one1 m
inductive Run(ls:List Lk):Nat->Nat->Nat->Prop where
 |stop {m:Nat}:Run ls m m m
 |go {m a r:Nat} (h:m≠a) (n:Run ls (cK ls m) m r):Run ls m a r
theorem IE(m:Nat)(l:Lk):m<=one1 m l:=by
 unfold one1
 split
 ·exact Pz _
 ·exact S1
theorem ID{n m:Nat}{l:Lk}(h:m<2^n)(h1:l.1<n)(h2:l.2.1<n):one1 m l<2^n:=by
 unfold one1 Dz
 split
 ·exact h
 ·exact Sa h (Sa (QI (by decide) h1) (QI (by decide) h2))
theorem yX{ls:List Lk}{i:Nat}{l:Lk}{m:Nat}(h:ls[i]?=some l):cK (ls.take (i+1)) m=one1 (cK (ls.take i) m) l:=by
 unfold cK
 rw[Qf,h,Sd]
 rfl
theorem orN(a b:Nat):Builtin.bitOr (a:Int) (b:Int)=((a|||b:Nat):Int):=by
 rw[PyProof.Rows.bitOr_and,andN]
 have q:=PyProof.Rows.nat_or_add_and a b
 omega
theorem endsV(l:Lk):Builtin.bitOr (1*2^((l.1:Nat):Int).toNat) (1*2^((l.2.1:Nat):Int).toNat)=((Dz l:Nat):Int):=by rw[shlN,shlN,orN];rfl
def PaAt(H:Hp)(v:V)(l:Lk):Prop:=∃ t,v=.ref t/\H t=some (.tup [.int (l.1:Int),.int (l.2.1:Int)])
theorem JL(a b:Int):decide (V.int a=V.int b)=decide (a=b):=decide_eq_decide.mpr ⟨V.int.inj,congrArg V.int⟩
def spReach:Sp:=fun vs H Q _=>∃(a:Addr)(ys:List V)(n:Nat)(ls:List Lk),vs = [.int 0,.ref a]/\H a=some (.lst ys)/\LsAt PaAt H ys ls/\Lok n ls/\1<=n/\∀ r:Nat,Run ls 1 0 r->Q (.int (r:Int)) H
def spWhl:Sp:=fun vs H Q _=>∃(v:V)(n:Nat)(ls:List Lk),vs = [.int (n:Int),v]/\LnAt H v ls/\Lok n ls/\1<=n/\∀(r:Nat) H',Run ls 1 0 r->Same H H'->Q (.bl (decide ((r:Int)=1*2^((n:Nat):Int).toNat-1))) H'
structure TxtR(mg:Str->Option Value):Prop where
 n_list:mg "list" = none
 n_reversed:mg "reversed" = none
section
variable{P:Program}{w:World}{K:Pt}{mg:Str->Option Value}{base:Heap}
theorem aQ:aC ["start","pairs","mask","ahead","one","two","ends"] ["start","pairs"] (aj cM):=⟨rfl,rfl,rfl,by decide +kernel,rfl,by decide +kernel,by decide +kernel⟩
theorem ok_reached{f:Addr}{fd:FuncData} (F:Fun K "reached" "reached" cM f fd):FnOk P w K mg base CX0 1 f fd ["start","pairs"] spReach:=by
 refine F.ok aQ (fun vs H Q E h=>?_) (fun cdv A outer s H vs Q E hr h=>?_)
 ·obtain⟨a,ys,n,ls,rfl,_⟩:=h
  rfl
 obtain⟨a,ys,n,ls,rfl,hA,hL,ok,n1,kk⟩:=h
 have n40:=ok.n1
 refine⟨_,(ag (av (i:=2) aQ.nd rfl (Or.inl rfl) (aw cW ah (pv 0)))
   (ag (av (i:=3) aQ.nd rfl (Or.inl rfl) ah)
   (ag (gY PassesOwn.never (aG oZ (pv 2) (pv 3) (aN _)) (ag (av (i:=3) aQ.nd rfl (Or.inl rfl) (pv 2))
   (aq (bM PassesOwn.never rfl (a9 (pv 1)) (uy rfl (bw (aO (i:=4) aQ.nd rfl (Or.inl rfl)) (bw (aO (i:=5) aQ.nd rfl (Or.inl rfl)) iP))) (ag (av (i:=6) aQ.nd rfl (Or.inl rfl) (aw FE (aw cW ah (pv 4)) (aw cW ah (pv 5))))
   (aq (bZ (aG oZ (aw y7 (pv 2) (pv 6)) ah (aN _)) (aq (av (i:=2) aQ.nd rfl (Or.inl rfl) (aw FE (pv 2) (pv 6)))) aS)))))))
   (aq (aI (pv 2)))))),?_⟩
 refine⟨_,rfl,_,_,rfl,rfl,⟨by decide,by decide,by decide⟩,?_⟩
 refine gL (fun σ H2=>∃(M Ah:Nat),∃ v4 v5 v6,H2=H/\σ = [some (.int 0),some (.ref a),some (.int (M:Int)),some (.int (Ah:Int)),v4,v5,v6]/\M<2^n/\∀ r,Run ls M Ah r->Run ls 1 0 r)
  (fun σ _=>match σ with | [_,_,some (.int M),some (.int Ah),_,_,_]=>2*((2^n:Nat)-M).toNat+(if M=Ah then 0 else 1) | _=>0) ⟨1,0,_,_,_,rfl,rfl,SD (by omega),fun r z=>z⟩ ?_ ?_
 ·rintro σ H2 ⟨M,Ah,v4,v5,v6,rfl,rfl,hM,run⟩
  refine⟨_,rfl,_,rfl,rfl,_,rfl,?_⟩
  by_cases c':M=Ah
  ·subst c'
   refine tU rfl ?_
   exact⟨_,rfl,kk M (run M .stop)⟩
  refine ite2 (fun c=>?_) (fun c=>absurd (by rw[JL,decide_eq_false (fun z=>c' (by omega))];rfl) c)
  refine⟨_,rfl,?_⟩
  refine⟨_,rfl,a,rfl,⟨_,SqL.of hA⟩,cS (K:=K) (xs:=ys) (fun i σ H3=>∃ v4 v5 v6,H3=H2/\σ = [some (.int 0),some (.ref a),some (.int ((cK (ls.take i) M:Nat):Int)),some (.int (M:Int)),v4,v5,v6]/\cK (ls.take i) M<2^n/\M<=cK (ls.take i) M) ⟨_,_,_,rfl,rfl,hM,Pz _⟩ (fun i σ H3 _ ⟨_,_,_,z,_⟩=>by rw[z];exact SqL.of hA) ?_ ?_⟩
  ·rintro i x σ H3 hx ⟨v4,v5,v6,rfl,rfl,hM',hle⟩
   obtain⟨l,hl,p,rfl,hp⟩:=hL.get hx
   obtain⟨b1,b2⟩:=ok.sm l (Pr hl)
   refine⟨p,_,rfl,SqT.of hp,rfl,_,_,rfl,_,_,rfl,rfl,?_⟩
   refine⟨_,rfl,_,_,rfl,rfl,⟨by omega,by omega,by decide⟩,_,rfl,_,_,rfl,rfl,⟨by omega,by omega,by decide⟩,_,_,rfl,rfl,?_⟩
   simp only[endsV]
   refine⟨_,rfl,_,rfl,_,_,rfl,rfl,rfl,_,rfl,?_⟩
   have ps:=yX (m:=M) hl
   have lt1:=ID hM' b1 b2
   have le1:=IE (cK (ls.take i) M) l
   simp only[andN]
   by_cases z:cK (ls.take i) M&&&Dz l=0
   ·refine tU (by rw[z];rfl) ?_
    have e:one1 (cK (ls.take i) M) l=cK (ls.take i) M:=by unfold one1;rw[if_pos z]
    exact⟨_,_,_,rfl,by rw[ps,e];rfl,by rw[ps];exact lt1,by rw[ps];omega⟩
   ·refine ite2 (fun _=>?_) (fun c=>absurd (by rw[JL,decide_eq_false (fun y=>z (by omega))];rfl) c)
    have e:one1 (cK (ls.take i) M) l=cK (ls.take i) M|||Dz l:=by unfold one1;rw[if_neg z]
    refine⟨_,rfl,_,rfl,_,_,rfl,rfl,?_⟩
    simp only[orN]
    exact⟨_,_,_,rfl,by rw[ps,e];rfl,by rw[ps];exact lt1,by rw[ps];omega⟩
  ·rintro σ H3 ⟨v4,v5,v6,rfl,rfl,hM',hle⟩
   rw[hL.1,Qn]at hM' hle ⊢
   refine⟨⟨_,M,_,_,_,rfl,rfl,hM',fun r z=>run r (.go c' z)⟩,?_⟩
   show 2*(((2^n:Nat):Int)-((cK ls M:Nat):Int)).toNat+(if((cK ls M:Nat):Int)=(M:Int) then 0 else 1)<2*(((2^n:Nat):Int)-(M:Int)).toNat+(if(M:Int)=(Ah:Int) then 0 else 1)
   rw[if_neg (show ¬ (M:Int)=(Ah:Int) from fun z=>c' (by omega))]
   generalize (2^n:Nat)=N at hM hM'
   split<;>omega
 ·rintro σ H4 Q1 Q2 hi ⟨v1,e1,v2,e2,e3,b,e4,q'⟩
  exact⟨v1,e1,v2,e2,e3,b,e4,hi _ _ q'⟩
theorem Ln:aC ["many","links"] ["many","links"] (aj kr):=⟨rfl,rfl,rfl,by decide +kernel,rfl,by decide +kernel,by decide +kernel⟩
theorem ok_whl{f f1:Addr}{fd fd1:FuncData} (F:Fun K "whole" "whole" kr f fd) (G_reached:Cal P w K mg base 1 "reached" ["start","pairs"] spReach f1 fd1):FnOk P w K mg base CX0 2 f fd ["many","links"] spWhl:=by
 refine F.ok Ln (fun vs H Q E h=>?_) (fun cdv A outer s H vs Q E hr h=>?_)
 ·obtain⟨v,n,ls,rfl,_⟩:=h
  rfl
 obtain⟨v,n,ls,rfl,⟨a,xs,rfl,hA,hL⟩,ok,n1,kk⟩:=h
 have n40:=ok.n1
 have l9:=ok.l9
 have xl:=hL.1
 refine⟨_,(aq (aI (Cf iS (ay G_reached.ok (hr.mono (by decide)) rfl G_reached.mg G_reached.kp G_reached.bn .nil aP (ae ah (ae (dr rfl (fr:=[]) (by exact bq.plain (by rfl) (by decide +kernel) (by rfl) (by decide +kernel) (by rfl) (by decide +kernel)) (a9 (pv 1)) (fun C ex s H=>(bK (ae (ax (qX (K:=K) rfl) (pv 0) ah (fun _ _=>rfl)) (ae (ax (qX (K:=K) rfl) (pv 0) ah (fun _ _=>rfl)) ai))))) ai))) (aw iR (aw cW ah (pv 0)) ah) (aN _)))),?_⟩
 refine⟨_,rfl,a,rfl,⟨_,SqL.of hA⟩,bS (K:=K) (xs:=xs) (fun i zs H2=>Same H H2/\LsAt PaAt H2 zs (ls.take i)) (Ql (au (by omega))) ⟨fun _ _ e=>e,LsAt.nil⟩ (fun i zs H2 _ z=>SqL.of (z.1 _ _ hA)) ?_ ?_⟩
 ·rintro i x zs H2 hx ⟨s2,hZ⟩
  obtain⟨l,hl,p,rfl,hp⟩:=hL.get hx
  have hp2:=s2 _ _ hp
  refine⟨_,rfl,p,_,0,_,rfl,rfl,SqT.of hp2,a30,_,rfl,p,_,1,_,rfl,rfl,SqT.of hp2,a31,(by show 2<=sizeLine;decide),fun t ht=>?_⟩
  have s3:=ak ht (.tup [.int (l.1:Int),.int (l.2.1:Int)])
  refine⟨s2.trans s3,?_⟩
  rw[Qf,hl]
  exact(hZ.imp fun _ _ ⟨t,e,z⟩=>⟨t,e,s3 _ _ z⟩).snoc ⟨t,rfl,af⟩
 rintro zs H2 _ ⟨s2,hZ⟩ D hD
 rw[xl,Qn]at hZ
 have s3:=ak hD (.lst zs)
 refine⟨D,zs,n,ls,rfl,af,hZ.imp fun _ _ ⟨t,e,z⟩=>⟨t,e,s3 _ _ z⟩,ok,n1,fun r run=>?_⟩
 refine⟨_,rfl,_,_,rfl,rfl,⟨by omega,by omega,by decide⟩,_,_,rfl,rfl,rfl,?_⟩
 rw[JL]
 exact kk r _ run (s2.trans s3)
end
structure TxtM(mg:Str->Option Value):Prop where
 most:∃ t,mg "MOST_MARKS" = some (.int 14 t)
theorem vc{M p q:Nat}:(M&&&(2^p|||2^q)=0↔M.testBit p=false/\M.testBit q=false)/\(M|||(2^p|||2^q)=M->M.testBit p=true/\M.testBit q=true):=by
 have b1:∀ i,(2^p|||2^q).testBit i=(decide (p=i)||decide (q=i)):=fun i=>by rw[Q0,Qb,Qb]
 refine⟨⟨fun h=>?_,fun⟨h1,h2⟩=>?_⟩,fun h=>?_⟩
 ·have h1:=congrArg (fun z=>RI z p) h
  have h2:=congrArg (fun z=>RI z q) h
  simp only[Q3,b1,Qu]at h1 h2
  constructor
  ·simpa using h1
  ·simpa using h2
 ·refine Qt fun i=>?_
  rw[Q3,b1,Qu]
  by_cases z1:p=i
  ·subst z1;rw[h1];rfl
  ·by_cases z2:q=i
   ·subst z2;rw[h2];rfl
   ·simp[z1,z2]
 ·have h1:=congrArg (fun z=>RI z p) h
  have h2:=congrArg (fun z=>RI z q) h
  simp only[Q0 (x:=M),b1]at h1 h2
  constructor
  ·simpa using h1.symm
  ·simpa using h2.symm
theorem q8{M m:Nat}(h:M<2^m)(k:∀ p,p<m->M.testBit p=true):M=2^m-1:=by
 refine Qt fun i=>?_
 rw[Rz]
 by_cases z:i<m
 ·rw[k i z,decide_eq_true z]
 ·rw[decide_eq_false z]
  exact Rv (Qd h (QD (by decide) (by omega)))
theorem vS{X:Cx}{x:Str}{n:Int}{pos:Pos}(hg:Gl X x)(hm:∃ t,X.mg x=some (.int n t)) (hd:(x == ("__debug__" : Str))=false:=by decide):PE X (.Name x pos) (tC (.int n)):=by
 obtain⟨t,h⟩:=hm
 exact Iw hg h ⟨t,rfl⟩ hd
theorem oq{ls:List Lk}{m:Nat}:∀ i,m<=cK (ls.take i) m/\cK (ls.take i) m<=cK ls m:=fun i=>by
 have le:∀(l:List Lk)(m:Nat),m<=cK l m:=fun l=>by
  induction l with
  |nil=>intro m;exact Pz _
  |cons x l ih=>intro m;exact QG (IE m x) (ih _)
 refine⟨le _ _,?_⟩
 have e:cK ls m=cK (ls.drop i) (cK (ls.take i) m):=by
  unfold cK
  rw[← Sd,Rh]
 rw[e]
 exact le _ _
theorem DZ{ls:List Lk}{r:Nat}(h:cK ls r=r){l:Lk}(hl:l∈ls):r.testBit l.1=r.testBit l.2.1:=by
 obtain⟨i,hi,e⟩:=Q9 hl
 have hi':ls[i]?=some l:=by rw[Pq hi,e]
 have t1:=oq (ls:=ls) (m:=r) i
 have t2:=oq (ls:=ls) (m:=r) (i+1)
 have e1:cK (ls.take i) r=r:=by omega
 have e2:cK (ls.take (i+1)) r=r:=by omega
 rw[yX hi',e1]at e2
 obtain⟨b1,b2⟩:=vc (M:=r) (p:=l.1) (q:=l.2.1)
 unfold one1 Dz at e2
 split at e2
 ·rename_i c
  obtain⟨z1,z2⟩:=b1.mp c
  rw[z1,z2]
 ·obtain⟨z1,z2⟩:=b2 e2
  rw[z1,z2]
theorem Run.shut{ls:List Lk}{n m a r:Nat}(h:Run ls m a r)(hl:∀ l∈ls,l.1<n/\l.2.1<n):(m=a->cK ls m=m)->m<2^n->cK ls r=r/\r<2^n/\(m.testBit 0=true->r.testBit 0=true):=by
 induction h with
 |stop=>intro h1 h2;exact⟨h1 rfl,h2,id⟩
 | @go m a r h nx ih =>
  intro _ h2
  have lt:∀(k:List Lk),(∀ l∈k,l.1<n/\l.2.1<n)->∀ m,m<2^n->cK k m<2^n:=fun k=>by
   induction k with
   |nil=>intro _ m hm;exact hm
   |cons x k ihk =>
    intro hk m hm
    obtain⟨b1,b2⟩:=hk x (PH ..)
    exact ihk (fun l hl=>hk l (PD _ hl)) _ (ID hm b1 b2)
  have bit:∀(k:List Lk)(m:Nat),m.testBit 0=true->(cK k m).testBit 0=true:=fun k=>by
   induction k with
   |nil=>intro m hm;exact hm
   |cons x k ihk =>
    intro m hm
    refine ihk _ ?_
    unfold one1
    split
    ·exact hm
    ·rw[Q0,hm];rfl
  obtain⟨g1,g2,g3⟩:=ih (fun e=>by rw[e];exact e) (lt ls hl m h2)
  exact⟨g1,g2,fun z=>g3 (bit ls m z)⟩
theorem Lp{ls:List Lk}{n r:Nat}(h:Run ls 1 0 r)(hl:∀ l∈ls,l.1<n/\l.2.1<n)(n1:1<=n)(hc:Conn n ls):r=2^n-1:=by
 obtain⟨g1,g2,g3⟩:=h.shut hl (fun z=>by cases z) (SD (by omega))
 refine q8 g2 fun p hp=>?_
 obtain⟨x,hx⟩:=hc p hp
 have gen:∀{a b:Nat}{x:Int},Wk ls a b x->r.testBit a=r.testBit b:=fun h=>by
  induction h with
  |nil=>rfl
  | @step b i x l h' hl' he ih =>
   rw[ih]
   have cl:=DZ g1 (Pr hl')
   unfold bey
   rcases he with z | z
   ·rw[if_pos z,z];exact cl
   ·by_cases w:b=l.1
    ·rw[if_pos w,w];exact cl
    ·rw[if_neg w,z];exact cl.symm
 rw[← gen hx]
 exact g3 (by decide)
def spOnes:Sp:=fun vs H Q _=>∃ n:Nat,vs = [.int (n:Int)]/\n<2^40/\∀ H',Same H H'->Q (.int (((bl n).length:Nat):Int)) H'
def spOdd:Sp:=fun vs H Q _=>∃ n:Nat,vs = [.int (n:Int)]/\n<2^40/\∀ H',Same H H'->Q (.int (((bl n).length:Nat)%2:Int)) H'
def spMask(K:Pt):Sp:=fun vs H Q _=>∃(a:Addr)(ks:List Nat),vs = [.ref a]/\SqL K H a (ks.map iV)/\(∀ k∈ks,k<80)/\Q (.int ((g8 ks:Nat):Int)) H
def spRef:Sp:=fun vs H Q _=>∃(v:V)(n mk:Nat)(ls:List Lk),vs = [.int (n:Int),v,.int (mk:Int)]/\LnAt H v ls/\Lok n ls/\1<=n/\Conn n ls/\mk<2^n/\(bl mk).length%2=0/\(bl mk).length<=14/\∀ H',Same H H'->Q .non H'
section
variable{P:Program}{w:World}{K:Pt}{mg:Str->Option Value}{base:Heap}
theorem NJ:aC ["mask"] ["mask"] (aj qo):=⟨rfl,rfl,rfl,by decide +kernel,rfl,by decide +kernel,by decide +kernel⟩
theorem ok_ones{f f1:Addr}{fd fd1:FuncData} (F:Fun K "ones" "ones" qo f fd) (T:Txt mg) (G_bits:Cal P w K mg base 1 "bits" ["mask"] spBits f1 fd1):FnOk P w K mg base CX0 2 f fd ["mask"] spOnes:=by
 refine F.ok NJ (fun vs H Q E h=>?_) (fun cdv A outer s H vs Q E hr h=>?_)
 ·obtain⟨n,rfl,_⟩:=h
  rfl
 obtain⟨n,rfl,hn,kk⟩:=h
 have e40:(2:Nat)^40=1099511627776:=by decide
 refine⟨_,(aq (aI (aE ar (by rfl) T.n_len aY (ae (ay G_bits.ok (hr.mono (by decide)) rfl G_bits.mg G_bits.kp G_bits.bn .nil aP (ae (pv 0) ai)) ai)))),?_⟩
 refine⟨_,rfl,_,rfl,by omega,by omega,fun r H1 s1 _ hr1=>?_⟩
 refine⟨r,_,rfl,.inl (SqL.of hr1),?_⟩
 rw[PB,PQ]
 exact kk _ s1
theorem sc_odd:aC ["mask"] ["mask"] (aj BM):=⟨rfl,rfl,rfl,by decide +kernel,rfl,by decide +kernel,by decide +kernel⟩
theorem ok_odd{f f1:Addr}{fd fd1:FuncData} (F:Fun K "odd" "odd" BM f fd) (G_ones:Cal P w K mg base 2 "ones" ["mask"] spOnes f1 fd1):FnOk P w K mg base CX0 3 f fd ["mask"] spOdd:=by
 refine F.ok sc_odd (fun vs H Q E h=>?_) (fun cdv A outer s H vs Q E hr h=>?_)
 ·obtain⟨n,rfl,_⟩:=h
  rfl
 obtain⟨n,rfl,hn,kk⟩:=h
 refine⟨_,(aq (aI (aw bE (ay G_ones.ok (hr.mono (by decide)) rfl G_ones.mg G_ones.kp G_ones.bn .nil aP (ae (pv 0) ai)) ah))),?_⟩
 exact⟨_,rfl,n,rfl,hn,fun H1 s1=>⟨_,_,rfl,rfl,(by show(0:Int)<2;decide),kk _ s1⟩⟩
theorem bV:aC ["places","mask","place"] ["places"] (aj cN):=⟨rfl,rfl,rfl,by decide +kernel,rfl,by decide +kernel,by decide +kernel⟩
theorem ok_mask{f:Addr}{fd:FuncData} (F:Fun K "mask_of" "mask_of" cN f fd):FnOk P w K mg base CX0 1 f fd ["places"] (spMask K):=by
 refine F.ok bV (fun vs H Q E h=>?_) (fun cdv A outer s H vs Q E hr h=>?_)
 ·obtain⟨a,ks,rfl,_⟩:=h
  rfl
 obtain⟨a,ks,rfl,hS,k80,q⟩:=h
 refine⟨_,(ag (av (i:=1) bV.nd rfl (Or.inl rfl) ah)
   (ag (bM PassesOwn.never rfl (a9 (pv 0)) (aO (i:=2) bV.nd rfl (Or.inl rfl)) (aq (av (i:=1) bV.nd rfl (Or.inl rfl) (aw FE (pv 1) (aw cW ah (pv 2))))))
   (aq (aI (pv 1))))),?_⟩
 refine⟨_,rfl,a,rfl,⟨_,hS⟩,cS (K:=K) (xs:=ks.map iV) (fun i σ H2=>∃ v2,σ = [some (.ref a),some (.int ((g8 (ks.take i):Nat):Int)),v2]/\H2=H) ⟨_,rfl,rfl⟩ (fun i σ H2 _ ⟨_,_,z⟩=>by rw[z];exact hS) ?_ ?_⟩
 ·rintro i x σ H2 hx ⟨v2,rfl,rfl⟩
  rw[PR]at hx
  obtain⟨k,hk,rfl⟩:=Qp.mp hx
  have kb:=k80 k (Pr hk)
  refine⟨_,rfl,_,rfl,_,_,rfl,rfl,⟨by show(0:Int)<=(k:Int);omega,by show(k:Int)<=1000000;omega,by decide⟩,_,_,rfl,rfl,?_⟩
  have e:Builtin.bitOr ((g8 (ks.take i):Nat):Int) (1*2^((k:Nat):Int).toNat)=((g8 (ks.take (i+1)):Nat):Int):=by
   rw[shlN,orN]
   unfold g8
   rw[Qf,hk,Sd]
   rfl
  simp only[e]
  exact⟨_,rfl,rfl⟩
 ·rintro σ H2 ⟨v2,rfl,rfl⟩
  rw[PB,Qn]
  exact⟨_,rfl,q⟩
theorem ql:aC ["many","links","marks"] ["many","links","marks"] (aj bp):=⟨rfl,rfl,rfl,by decide +kernel,rfl,by decide +kernel,by decide +kernel⟩
theorem ok_ref{f f1 f2 f3:Addr}{fd fd1 fd2 fd3:FuncData} (F:Fun K "refuse_marks" "refuse_marks" bp f fd) (T:TxtM mg) (G_odd:Cal P w K mg base 3 "odd" ["mask"] spOdd f1 fd1) (G_whole:Cal P w K mg base 2 "whole" ["many","links"] spWhl f2 fd2) (G_ones:Cal P w K mg base 2 "ones" ["mask"] spOnes f3 fd3):FnOk P w K mg base CX0 4 f fd ["many","links","marks"] spRef:=by
 refine F.ok ql (fun vs H Q E h=>?_) (fun cdv A outer s H vs Q E hr h=>?_)
 ·obtain⟨v,n,mk,ls,rfl,_⟩:=h
  rfl
 obtain⟨v,n,mk,ls,rfl,hV,ok,n1,hc,hmk,ev,few,kk⟩:=h
 have n40:=ok.n1
 have mlt:mk<2^40:=Qd hmk (QD (by decide) n40)
 obtain⟨tM,hM⟩:=T.most
 refine⟨_,(ag (bZ (aG iS (ay G_odd.ok (hr.mono (by decide)) rfl G_odd.mg G_odd.kp G_odd.bn .nil aP (ae (pv 2) ai)) ah (aN _)) (aq cO) aS)
   (ag (bZ (yK (yJ (ay G_whole.ok (hr.mono (by decide)) rfl G_whole.mg G_whole.kp G_whole.bn .nil aP (ae (pv 0) (ae (pv 1) ai))))) (aq cO) aS)
   (aq (bZ (aG IC (ay G_ones.ok (hr.mono (by decide)) rfl G_ones.mg G_ones.kp G_ones.bn .nil aP (ae (pv 2) ai)) (vS rfl T.most) (aN _)) (aq cO) aS)))),?_⟩
 refine⟨_,rfl,mk,rfl,mlt,fun H1 s1=>?_⟩
 refine⟨rfl,_,rfl,ite2 (fun z=>absurd (V.int.inj (of_decide_eq_true z)) (by omega)) (fun _=>?_)⟩
 refine⟨_,rfl,_,rfl,v,n,ls,rfl,hV.mono s1,ok,n1,fun r H2 run s2=>?_⟩
 have er:=Lp run ok.sm n1 hc
 have eb:decide ((r:Int)=1*2^((n:Nat):Int).toNat-1)=true:=decide_eq_true (by
  rw[shlN,er]
  have:=QT n
  omega)
 rw[eb]
 refine⟨_,rfl,iteF ?_⟩
 refine⟨_,rfl,mk,rfl,mlt,fun H3 s3=>?_⟩
 refine⟨_,_,rfl,rfl,_,rfl,ite2 (fun z=>absurd (of_decide_eq_true z) (by show ¬ (((bl mk).length:Nat):Int) > 14;omega)) (fun _=>?_)⟩
 exact kk _ (s1.trans (s2.trans s3))
end
end KF
namespace KF
open PySem L2
local macro_rules | `(tactic| walk_at "cc") => `(tactic| first | exact ⟨by decide, by decide⟩ | (show (0 : Int) < _; decide) | (show (0 : Int) < _; omega) | (show (0 : Int) ≤ _; omega) | exact ⟨by decide, by decide, by decide⟩ | exact ⟨by omega, by omega, by decide⟩ | exact Or.inl ⟨by decide, by decide⟩ | exact Or.inl ⟨by omega, by omega⟩)
local macro_rules | `(tactic| walk_at "rd") => `(tactic| repeat (first | refine ⟨_, rfl, ?_⟩ | refine ⟨_, _, rfl, rfl, ?_⟩ | refine ⟨rfl, ?_⟩ | (refine ⟨?cc, ?_⟩; (case cc => walk_at "cc"))))
def spRow:Sp:=fun vs H Q _=>∃(v:V)(va:Addr)(r s:Nat)(ls:List Lk)(VL:List (Option Nat))(ks:List Nat),vs = [v,.ref va,.int (r:Int)]/\LnAt H v ls/\H va=some (.lst (VL.map oN))/\VL[s]?=some none/\Pth ls VL s r ks/\ks.length<=40/\∀ q H',Same H H'->H' q=some (.lst (ks.reverse.map iV))->Q (.ref q) H'
section
variable{P:Program}{w:World}{K:Pt}{mg:Str->Option Value}{base:Heap}
theorem lR:aC ["links","via","room","back","here"] ["links","via","room"] (aj gU):=⟨rfl,rfl,rfl,by decide +kernel,rfl,by decide +kernel,by decide +kernel⟩
theorem ok_row{f f1:Addr}{fd fd1:FuncData} (F:Fun K "row_to" "row_to" gU f fd) (T:TxtR mg) (G_beyond:Cal P w K mg base 1 "beyond" ["link","room"] spBey f1 fd1):FnOk P w K mg base CX0 2 f fd ["links","via","room"] spRow:=by
 refine F.ok lR (fun vs H Q E h=>?_) (fun cdv A outer s H vs Q E hr h=>?_)
 ·obtain⟨v,va,r,s0,ls,VL,ks,rfl,_⟩:=h
  rfl
 obtain⟨v,va,r,s0,ls,VL,ks,rfl,⟨a,xs,rfl,hA,hL⟩,hva,hs0,hP,k40,kk⟩:=h
 refine⟨_,(ag (av (i:=3) lR.nd rfl (Or.inl rfl) (bY ai))
   (ag (av (i:=4) lR.nd rfl (Or.inl rfl) (pv 2))
   (ag (gY PassesOwn.never (aG NU (ax az (pv 1) (pv 4) (fun _ _=>rfl)) gG (aN _)) (ag (a7 (gf P4 Qj Qi a8 (pv 3) (ae (ax az (pv 1) (pv 4) (fun _ _=>rfl)) ai)))
   (aq (av (i:=4) lR.nd rfl (Or.inl rfl) (ay G_beyond.ok (hr.mono (by decide)) rfl G_beyond.mg G_beyond.kp G_beyond.bn .nil aP (ae (ax az (pv 0) (ax az (pv 1) (pv 4) (fun _ _=>rfl)) (fun _ _=>rfl)) (ae (pv 4) ai)))))))
   (aq (aI (FD rfl rfl T.n_list rfl T.n_reversed (pv 3))))))),?_⟩
 refine⟨(by show 0<=sizeLine;decide),fun l hl=>?_⟩
 have lv:l≠va:=fun z=>by rw[z,hva]at hl;cases hl
 refine⟨_,rfl,gL (fun σ H2=>∃(here:Nat)(pre rest:List Nat),σ = [some (.ref a),some (.ref va),some (.int (r:Int)),some (.ref l),some (.int (here:Int))]/\H2 l=some (.lst (pre.map iV))/\pre++rest=ks/\Pth ls VL s0 here rest/\Same H H2)
  (fun _ H2=>match H2 l with | some (.lst zs)=>100-zs.length | _=>0) ⟨r,[],ks,rfl,af,rfl,hP,ak hl _⟩ ?_ ?_⟩
 ·rintro σ H2 ⟨here,pre,rest,rfl,hp,hpr,hc,s2⟩
  have hpl:pre.length+rest.length<=40:=by
   have:=congrArg List.length hpr
   rw[Px]at this
   omega
  have hva2:=s2 _ _ hva
  cases hc with
  |root =>
   refine⟨_,rfl,_,rfl,va,_,_,_,rfl,rfl,SqL.of hva2,aA (LY hs0),rfl,_,rfl,iteF ?_⟩
   rw[RL]at hpr
   subst hpr
   refine⟨_,rfl,l,_,rfl,SqL.of hp,fun q hq=>?_⟩
   refine kk q _ (s2.trans (ak hq _)) ?_
   rw[af,List.map_reverse]
  | @step _ k lk rest' hv hlk hc' =>
   obtain⟨lv',hlv,lt,rfl,hlt⟩:=hL.2 k lk hlk
   refine⟨_,rfl,_,rfl,va,_,_,_,rfl,rfl,SqL.of hva2,aA (LY hv),rfl,_,rfl,iteT ?_⟩
   rw[Qc]at hpl
   refine⟨_,rfl,.inl ⟨rfl,_,SqL.of hp⟩,_,rfl,_,rfl,va,_,_,_,rfl,rfl,SqL.of hva2,aA (LY hv),l,_,_,rfl,rfl,hp,au (by rw[PB];omega),?_⟩
   have s3:=aR s2 hl (.lst (pre.map iV++[.int (k:Int)]))
   refine⟨_,rfl,_,rfl,_,rfl,va,_,_,_,rfl,rfl,SqL.of (s3 _ _ hva),aA (LY hv),a,_,_,_,rfl,rfl,SqL.of (s3 _ _ hA),aA hlv,_,rfl,.ref lt,lk,here,rfl,⟨lt,rfl,s3 _ _ hlt⟩,?_⟩
   refine⟨⟨bey lk here,pre++[k],rest',rfl,?_,?_,hc',s3⟩,?_⟩
   ·rw[af,Qw];rfl
   ·rw[Ro];exact hpr
   ·rw[hp]
    show(match(upd H2 l (.lst (pre.map iV++[.int (k:Int)]))) l with | some (.lst zs)=>100-zs.length | _=>0)<100-(pre.map iV).length
    rw[af]
    show 100-(pre.map iV++[V.int (k:Int)]).length<100-(pre.map iV).length
    rw[Px,PB,PY]
    omega
 ·rintro σ H2 Q1 Q2 hi ⟨v',e,i,j,a',b',c',d',f',g',h',i',j',k',l',q⟩
  exact⟨v',e,i,j,a',b',c',d',f',g',h',i',j',k',l',hi _ _ q⟩
end
def RM(rho:Nat->Nat)(c:Nat):Nat->Nat
 |0=>0
 |i+1=>if c.testBit i=true then RM rho c i^^^2^rho i else RM rho c i
theorem KW(rho:Nat->Nat)(u v:Nat):∀ i,RM rho (u^^^v) i=RM rho u i^^^RM rho v i
 |0=>(Ry 0).symm
 |i+1=>by
  unfold RM
  rw[KW rho u v i,QF]
  have x4:∀ a b e:Nat,(a^^^e)^^^(b^^^e)=a^^^b:=fun a b e=>by rw[RT b e,← QB,QB a e e,Ry,Rx]
  cases u.testBit i<;>cases v.testBit i<;>simp
  ·rw[QB]
  ·rw[QB,QB,RT (RM rho v i)]
  ·exact(x4 _ _ _).symm
theorem KY(rho:Nat->Nat)(k:Nat):∀ i,RM rho (2^k) i=if k<i then 2^rho k else 0
 |0=>by rw[if_neg (QA _)];rfl
 |i+1=>by
  unfold RM
  rw[KY rho k i,Qb]
  by_cases c:k=i
  ·subst c
   rw[if_pos (by simp),if_neg (Qs _),if_pos (QE _),Nat.zero_xor]
  ·rw[if_neg (by simpa using c)]
   by_cases d:k<i
   ·rw[if_pos d,if_pos (by omega)]
   ·rw[if_neg d,if_neg (by omega)]
theorem KU(rho:Nat->Nat):∀ i,RM rho 0 i=0
 |0=>rfl
 |i+1=>by unfold RM;rw[Qu,if_neg Qe];exact KU rho i
theorem KZ{l:List Nat}(nd:l.Nodup)(x:Nat):∀ i,i<=l.length->(RM (fun i=>l.getD i 0) (2^l.length-1) i).testBit x=decide (x∈l.take i)
 |0,_=>by rw[S2];show(0:Nat).testBit x=_;rw[Qu];simp
 |i+1,h=>by
  unfold RM
  rw[if_pos (by rw[Rz];exact decide_eq_true (by omega)),QF,KZ nd x i (by omega),Qb]
  have e:l[i]?=some l[i]:=Pq (by omega)
  have eg:l.getD i 0=l[i]:=by rw[Qm,e];rfl
  rw[eg]
  have nm:l[i]∉l.take i:=fun z=>by
   obtain⟨k,hk,ek⟩:=Q9 z
   rw[Qr]at hk
   rw[List.getElem_take]at ek
   have:=(List.getElem_inj nd).mp ek
   omega
  have mm:x∈l.take (i+1)↔(x∈l.take i∨x=l[i]):=by
   rw[Qf,e]
   exact PM.trans (or_congr Iff.rfl Qy)
  by_cases c:x=l[i]
  ·rw[decide_eq_false (fun z=>nm (c▸z)),decide_eq_true c.symm,decide_eq_true (mm.mpr (.inr c))]
   rfl
  ·rw[decide_eq_false (show ¬ l[i]=x from fun z=>c z.symm),RQ]
   exact decide_eq_decide.mpr ⟨fun h=>mm.mpr (.inl h),fun h=>(mm.mp h).resolve_right c⟩
theorem RM_all(mk:Nat):RM (fun i=>(bl mk).getD i 0) (2^(bl mk).length-1) (bl mk).length=mk:=Qt fun x=>by
 rw[KZ (bl_nd mk) x _ (Pz _),Qn]
 cases z:mk.testBit x with
 |true=>exact decide_eq_true (iH.mpr z)
 |false=>exact decide_eq_false fun y=>by rw[iH,z]at y;cases y
theorem JX{c f g:Nat}(hf:f∈bl c)(hg:g∈bl c)(n:f≠g):cut2 c f g<c:=by
 have sub:cut2 c f g&&&c=cut2 c f g:=Qt fun i=>by
  rw[Q3]
  cases z:(cut2 c f g).testBit i with
  |false=>rfl
  |true =>
   have:=(pY hf hg n i).mp (iH.mpr z)
   rw[iH.mp this.1]
   rfl
 have le:cut2 c f g<=c:=by rw[← sub];exact Nat.and_le_right
 have ne:cut2 c f g≠c:=fun z=>by
  have:=(pY hf hg n f).mp (by rw[z];exact hf)
  exact this.2.1 rfl
 omega
theorem Cs.map{d:Nat->Nat->Int}{rho:Nat->Nat}{l:List Nat}{c:Int}(h:Cs (fun i j=>d (rho i) (rho j)) l c):Cs d (l.map rho) c:=by
 obtain⟨PL,p,e⟩:=h
 refine⟨PL.map fun q=>(rho q.1,rho q.2),?_,?_⟩
 ·have ef:∀ PL:List (Nat×Nat),flat (PL.map fun q=>(rho q.1,rho q.2))=(flat PL).map rho:=fun PL=>by
   induction PL with
   |nil=>rfl
   |cons q r ih=>rw[P7,flat_cons,flat_cons,ih,P7,P7]
  rw[ef]
  exact p.map rho
 ·rw[← e]
  unfold cst
  rw[RU]
  rfl
theorem Cs.back{d:Nat->Nat->Int}{rho ix:Nat->Nat}{l:List Nat}{c:Int}(hi:∀ i∈l,ix (rho i)=i)(h:Cs d (l.map rho) c):Cs (fun i j=>d (rho i) (rho j)) l c:=by
 obtain⟨PL,p,e⟩:=h
 have mem:∀ x∈flat PL,rho (ix x)=x:=fun x hx=>by
  obtain⟨i,hi',rfl⟩:=Qv.mp (p.mem_iff.mp hx)
  rw[hi i hi']
 refine⟨PL.map fun q=>(ix q.1,ix q.2),?_,?_⟩
 ·have ef:∀ PL:List (Nat×Nat),flat (PL.map fun q=>(ix q.1,ix q.2))=(flat PL).map ix:=fun PL=>by
   induction PL with
   |nil=>rfl
   |cons q r ih=>rw[P7,flat_cons,flat_cons,ih,P7,P7]
  rw[ef]
  refine(p.map ix).trans ?_
  rw[RU]
  have:l.map (ix∘rho)=l:=by
   conv=>rhs;rw[← List.map_id l]
   exact R5 fun i hi'=>hi i hi'
  rw[this]
 ·rw[← e]
  unfold cst
  rw[RU]
  refine congrArg List.sum (R5 fun q hq=>?_)
  have m1:q.1∈flat PL:=by
   unfold flat
   exact List.mem_flatMap.mpr ⟨q,hq,PH ..⟩
  have m2:q.2∈flat PL:=by
   unfold flat
   exact List.mem_flatMap.mpr ⟨q,hq,PD _ (PH ..)⟩
  show d (rho (ix q.1)) (rho (ix q.2))=d q.1 q.2
  rw[mem _ m1,mem _ m2]
theorem Kv(m:Nat):(bl (2^m-1)).Perm (Q8 m):=by
 refine(QM (bl_nd _) (List.nodup_range)).mpr fun x=>?_
 rw[iH,Rz,Rt,decide_eq_true_iff]
theorem Opt.rooms{d:Nat->Nat->Int}{l:List Nat}(nd:l.Nodup){t:Int}(h:Opt (fun i j=>d (l.getD i 0) (l.getD j 0)) (bl (2^l.length-1)) t):Opt d l t:=by
 have h':=h.perm (Kv l.length)
 have em:(Q8 l.length).map (fun i=>l.getD i 0)=l:=by
  refine List.ext_getElem (by rw[PB,Rn]) fun i h1 h2=>?_
  rw[List.getElem_map,List.getElem_range,Qm,Pq h2]
  rfl
 have ix:∀ i∈Q8 l.length,l.idxOf (l.getD i 0)=i:=fun i hi=>by
  have hi':=Rt.mp hi
  rw[Qm,Pq hi']
  exact nd.idxOf_getElem i hi'
 refine⟨?_,fun c hc=>h'.2 c (Cs.back (rho:=fun i=>l.getD i 0) (ix:=fun x=>l.idxOf x) ix (by rw[em];exact hc))⟩
 have:=Cs.map (rho:=fun i=>l.getD i 0) h'.1
 rw[em]at this
 exact this
def spChosen:Sp:=fun vs H Q _=>∃(ta r:Addr)(xs vals:List V)(ks:List Nat),vs = [.ref ta,.ref r]/\H ta=some (.lst xs)/\H r=some (.lst (ks.map iV))/\vals.length=ks.length/\ks.length<=900/\(∀(i k:Nat),ks[i]?=some k->∃ y,xs[k]?=some y/\vals[i]?=some y)/\∀ q H',Same H H'->H q=none->H' q=some (.lst vals)->Q (.ref q) H'
def spTable:Sp:=fun vs H Q _=>vs = []/\∀ p t H',Same H H'->H p=none->H' p=some (.dK [(.inl ((0:Nat):Int),.ref t)])->H' t=some (.tup [.int 0,.non,.non])->Q (.ref p) H'
section
variable{P:Program}{w:World}{K:Pt}{mg:Str->Option Value}{base:Heap}
theorem yE:aC ["entries","numbers"] ["entries","numbers"] (aj cn):=⟨rfl,rfl,rfl,by decide +kernel,rfl,by decide +kernel,by decide +kernel⟩
theorem ok_chosen{f:Addr}{fd:FuncData} (F:Fun K "chosen_of" "chosen_of" cn f fd):FnOk P w K mg base CX0 1 f fd ["entries","numbers"] spChosen:=by
 refine F.ok yE (fun vs H Q E h=>?_) (fun cdv A outer s H vs Q E hr h=>?_)
 ·obtain⟨ta,r,xs,vals,ks,rfl,_⟩:=h
  rfl
 obtain⟨ta,r,xs,vals,ks,rfl,hta,hr',vl,k9,hv,kk⟩:=h
 refine⟨_,(aq (aI (dr rfl (fr:=[("entries",0)]) (by exact bq.one (by rfl) (by decide +kernel) (by rfl) (by decide +kernel) (by rfl) (by decide +kernel) (by rfl) (by rfl) (by decide +kernel) (by rfl)) (a9 (pv 1)) (fun C ex s H=>(ax (xn (K:=K) rfl) (pv 1) (pv 0) (fun _ _=>rfl)))))),?_⟩
 refine⟨_,rfl,r,rfl,⟨_,SqL.of hr'⟩,bS (K:=K) (xs:=ks.map iV) (fun i zs H2=>H2=H/\zs=vals.take i) (Ql (au (by rw[PB];omega))) ⟨rfl,rfl⟩ (fun i zs H2 _ z=>by rw[z.1];exact SqL.of hr') ?_ ?_⟩
 ·rintro i x zs H2 hx ⟨rfl,rfl⟩
  rw[PR]at hx
  obtain⟨k,hk,rfl⟩:=Qp.mp hx
  obtain⟨y,h1,h2⟩:=hv i k hk
  refine⟨_,rfl,_,rfl,ta,_,_,_,rfl,rfl,SqL.of hta,aA h1,rfl,?_⟩
  rw[Qf,h2]
  rfl
 rintro zs H2 _ ⟨rfl,rfl⟩ q hq
 rw[PB,← vl,Qn]
 exact kk q _ (ak hq _) hq af
theorem yC:aC [] [] (aj cm):=⟨rfl,rfl,rfl,by decide +kernel,rfl,by decide +kernel,by decide +kernel⟩
theorem ok_table{f:Addr}{fd:FuncData} (F:Fun K "new_table" "new_table" cm f fd):FnOk P w K mg base CX0 1 f fd [] spTable:=by
 refine F.ok yC (fun vs H Q E h=>?_) (fun cdv A outer s H vs Q E hr h=>?_)
 ·rw[h.1];rfl
 obtain⟨rfl,kk⟩:=h
 refine⟨_,(aq (aI (Iy (EI ah (bK (ae ah (ae gG (ae gG ai)))) Ij) rfl rfl (fun z=>by cases z) (by decide)))),?_⟩
 intro p hp
 refine⟨(by show 3<=sizeLine;decide),fun t ht=>?_⟩
 have z1:=ak hp (.dK [])
 have z2:=ak ht (.tup [.int 0,.non,.non])
 have pt:p≠t:=fun z=>by rw[← z,af]at ht;cases ht
 refine⟨by rw[ao pt];exact af,[(.inl ((0:Nat):Int),.ref t)],rfl,(by show 1<=15;decide),?_⟩
 refine kk p t _ (aR (z1.trans z2) hp _) hp af ?_
 rw[ao (Ne.symm pt)]
 exact af
end
end KF
namespace KF
open PySem L2
local macro_rules | `(tactic| walk_at "cc") => `(tactic| first | exact ⟨by decide, by decide⟩ | (show (0 : Int) < _; decide) | (show (0 : Int) < _; omega) | (show (0 : Int) ≤ _; omega) | exact ⟨by decide, by decide, by decide⟩ | exact ⟨by omega, by omega, by decide⟩ | exact Or.inl ⟨by decide, by decide⟩ | exact Or.inl ⟨by omega, by omega⟩)
local macro_rules | `(tactic| walk_at "rd") => `(tactic| repeat (first | refine ⟨_, rfl, ?_⟩ | refine ⟨_, _, rfl, rfl, ?_⟩ | refine ⟨rfl, ?_⟩ | (refine ⟨?cc, ?_⟩; (case cc => walk_at "cc"))))
def FdAt(n:Nat)(ls:List Lk)(H:Hp)(v:V)(s:Nat):Prop:=∃ t ta va TL VL,v=.ref t/\H t=some (.tup [.ref ta,.ref va])/\H ta=some (.lst (TL.map oV))/\H va=some (.lst (VL.map oN))/\FI n ls s MM TL VL [] (fun _ _=>False)
theorem tb_same{q:Str}{lp:Pos}{TT:Addr}{H H':Hp}(h:Tb q lp TT H)(s:Same H H'):Tb q lp TT H':=by
 rcases h with y | ⟨c',y1,y2⟩
 ·exact .inl (s _ _ y)
 ·exact .inr ⟨c',s _ _ y1,s _ _ y2⟩
theorem tb_ne{q:Str}{lp:Pos}{TT:Addr}{H:Hp}(h:Tb q lp TT H){b:Addr}{o:HO}(e:H b=some o)(n:∀ ps,o≠.tbl ps):b≠TT:=fun z=>by
 rw[z]at e
 rcases h with y | ⟨_,y,_⟩<;>rw[y]at e<;>cases e<;>exact n _ rfl
def SmT(H H':Hp):Prop:=∀ b o,(∀ ps,o≠.tbl ps)->H b=some o->H' b=some o
theorem SmT.trans{H H1 H2:Hp}(a:SmT H H1)(b:SmT H1 H2):SmT H H2:=fun c o n e=>b c o n (a c o n e)
theorem SmT.of{H H':Hp}(s:Same H H'):SmT H H':=fun c o _ e=>s c o e
theorem TbS.smT{q:Str}{lp:Pos}{TT:Addr}{H H':Hp}(s:TbS TT H H')(h:Tb q lp TT H):SmT H H':=fun b o n e=>s b o (tb_ne h e n) e
theorem SmT.lst{H H':Hp}(s:SmT H H'){b:Addr}{xs:List V}(e:H b=some (.lst xs)):H' b=some (.lst xs):=s _ _ (fun ps z=>by cases z) e
theorem SmT.tup{H H':Hp}(s:SmT H H'){b:Addr}{xs:List V}(e:H b=some (.tup xs)):H' b=some (.tup xs):=s _ _ (fun ps z=>by cases z) e
theorem FdAt.mono{n:Nat}{ls:List Lk}{H H':Hp}{v:V}{s:Nat}(h:FdAt n ls H v s)(sm:SmT H H'):FdAt n ls H' v s:=by
 obtain⟨t,ta,va,TL,VL,e,h1,h2,h3,h4⟩:=h
 exact⟨t,ta,va,TL,VL,e,sm.tup h1,sm.lst h2,sm.lst h3,h4⟩
theorem LnAt.smT{H H':Hp}{v:V}{r:List Lk}(h:LnAt H v r)(s:SmT H H'):LnAt H' v r:=by
 obtain⟨a,ys,e,z,l⟩:=h
 exact⟨a,ys,e,s.lst z,l.imp fun _ _ ⟨t,e,q⟩=>⟨t,e,s.tup q⟩⟩
def LT(H H':Hp):Prop:=(∀ b xs,H b=some (.lst xs)->H' b=some (.lst xs))/\∀ b xs,H b=some (.tup xs)->H' b=some (.tup xs)
theorem LT.same{H H':Hp}(s:Same H H'):LT H H':=⟨fun _ _ e=>s _ _ e,fun _ _ e=>s _ _ e⟩
theorem LT.tbS{H H':Hp}{tb:Addr}{kvs:List (Key×V)}(s:TbS tb H H')(h:H tb=some (.dK kvs)):LT H H':=⟨fun b xs e=>s _ _ (fun z=>by rw[z,h]at e;cases e) e,fun b xs e=>s _ _ (fun z=>by rw[z,h]at e;cases e) e⟩
theorem FdAt.lt{n:Nat}{ls:List Lk}{H H':Hp}{v:V}{s:Nat}(h:FdAt n ls H v s)(sm:LT H H'):FdAt n ls H' v s:=by
 obtain⟨t,ta,va,TL,VL,e,h1,h2,h3,h4⟩:=h
 exact⟨t,ta,va,TL,VL,e,sm.2 _ _ h1,sm.1 _ _ h2,sm.1 _ _ h3,h4⟩
theorem oj.uniq{H:Hp}{v:V}{t t':Int}(h:oj H v t)(h':oj H v t'):t=t':=by
 obtain⟨a,y,z,e,q⟩:=h
 obtain⟨a',y',z',e',q'⟩:=h'
 rw[e]at e'
 cases e'
 rw[q]at q'
 cases q'
 rfl
theorem L6{ks:List Nat}{N:Nat}(h:∀ k∈ks,k<N):g8 ks<2^N:=RG _ fun i hi=>by
 rw[i3]
 exact decide_eq_false fun z=>by have:=h i z;omega
theorem IZ(ks:List Nat):g8 ks.reverse=g8 ks:=Qt fun i=>by
 rw[i3,i3]
 exact decide_eq_decide.mpr List.mem_reverse
def PrI(v:V)(n mk m N:Nat)(ls:List Lk)(r fa bv tb:Addr)(kvs:List (Key×V))(t:Int)(H8:Hp)(σ:St)(H:Hp):Prop:=∃(c u:Nat)(v10 v11:Option V)(w:V)(tc:Int),σ = [some (.int (n:Int)),some v,some (.int (mk:Int)),some (.ref r),some (.ref fa),some (.ref bv),some (.ref tb),some (.int (c:Int)),some (.int t),some (.int (u:Int)),v10,v11]/\Same H8 H/\valV kvs (.inl (c:Int))=some w/\oj H8 w tc/\u<2^N/\oddE ls u N=mk^^^RM (fun i=>(bl mk).getD i 0) c m/\cstU ls u N<=t-tc
def spPaired(TT:Addr):Sp:=fun vs H Q _=>∃(v:V)(n mk:Nat)(ls:List Lk),vs = [.int (n:Int),v,.int (mk:Int)]/\LnAt H v ls/\Lok n ls/\1<=n/\Conn n ls/\mk<2^n/\(bl mk).length%2=0/\(bl mk).length<=14/\Tb lqF lpF TT H /\
 ∀(t:Addr)(cost:Int)(u:Nat) H',SmT H H'->Tb lqF lpF TT H'->H' t=some (.tup [.int cost,.int (u:Int)])->u<2^ls.length->oddE ls u ls.length=mk->Opt (farD ls) (bl mk) cost->cstU ls u ls.length<=cost->Q (.ref t) H'
def RwA(ls:List Lk)(mk:Nat)(H:Hp)(v:V)(s:Nat):Prop:=∃ p,v=V.ref p/\H p=some (.lst ((bl mk).map fun x=>V.int (farD ls s x)))
noncomputable def dR (ls:List Lk) (mk:Nat) (i j:Nat):Int:=farD ls ((bl mk).getD i 0) ((bl mk).getD j 0)
section
variable{P:Program}{w:World}{K:Pt}{mg:Str->Option Value}{base:Heap}
theorem bD:aC ["many","links","marks","rooms","found","between","table","left","cost","used","first","mate"] ["many","links","marks"] (aj gW):=⟨rfl,rfl,rfl,by decide +kernel,rfl,by decide +kernel,by decide +kernel⟩
theorem ok_paired{TT f f1 f2 f3 f4 f5 f6 f7 f8:Addr}{fd fd1 fd2 fd3 fd4 fd5 fd6 fd7 fd8:FuncData} (F:Fun K "paired" "paired" gW f fd) (T:Txt mg) (G_refuse_marks:Cal P w K mg base 4 "refuse_marks" ["many","links","marks"] spRef f1 fd1) (G_bits:Cal P w K mg base 1 "bits" ["mask"] spBits f2 fd2) (G_fares:Cal P w K mg base 2 "fares" ["many","links","start"] (spFares TT) f3 fd3)
  (G_chosen_of:Cal P w K mg base 1 "chosen_of" ["entries","numbers"] spChosen f4 fd4) (G_new_table:Cal P w K mg base 1 "new_table" [] spTable f5 fd5) (GL:∀(D:Nat->Nat->Int)(m:Nat),(∀ a b,D a b=D b a)->Cal P w K mg base 10 "laid_in_pairs" ["between","chosen","table"] (spLaid D m 8) f6 fd6)
  (G_mask_of:Cal P w K mg base 1 "mask_of" ["places"] (spMask K) f7 fd7) (G_row_to:Cal P w K mg base 2 "row_to" ["links","via","room"] spRow f8 fd8):FnOk P w K mg base CX0 11 f fd ["many","links","marks"] (spPaired TT):=by
 refine F.ok bD (fun vs H Q E h=>?_) (fun cdv A outer s H vs Q E hr h=>?_)
 ·obtain⟨v,n,mk,ls,rfl,_⟩:=h
  rfl
 obtain⟨v,n,mk,ls,rfl,hV,ok,n1,hc,hmk,ev,few,tb0,kk⟩:=h
 have hu:=JB hr
 have n40:=ok.n1
 have l60:=ok.l9
 have G_laid_in_pairs:=GL (dR ls mk) (bl mk).length (fun a b=>M5 _ _ _)
 have mlt:mk<1099511627776:=by
  have h1:2^n<=2^40:=QD (by decide) n40
  have e40:(2:Nat)^40=1099511627776:=by decide
  omega
 have rlt:∀ x∈bl mk,x<n:=fun x hx=>bl_lt hmk hx
 refine⟨_,(ag (a7 (ay G_refuse_marks.ok (hr.mono (by decide)) rfl G_refuse_marks.mg G_refuse_marks.kp G_refuse_marks.bn .nil aP (ae (pv 0) (ae (pv 1) (ae (pv 2) ai)))))
   (ag (av (i:=3) bD.nd rfl (Or.inr rfl) (ay G_bits.ok (hr.mono (by decide)) rfl G_bits.mg G_bits.kp G_bits.bn .nil aP (ae (pv 2) ai)))
   (ag (qu (i:=4) rfl bD.nd rfl rfl (fr:=[("many",0),("links",1)]) (xs:=["room"]) (mO.of (by rfl) (by decide +kernel) (by rfl) (by decide +kernel) (by intro p hp;simp only[Pw,QH,or_false]at hp;rcases hp with rfl | rfl<;>exact⟨rfl,rfl⟩) (by decide +kernel) (by intro p hp;simp only[Pw,QH,or_false]at hp;rcases hp with rfl | rfl<;>rfl)) (a9 (pv 3)) (fun C ex s H=>(aO (i:=0) (show(["room","many","links"]:List Str).Nodup from by decide +kernel) rfl (Or.inl rfl))) (fun C ex s H=>vE) (fun C ex s H=>(ay G_fares.ok (hr.mono (by decide)) rfl G_fares.mg G_fares.kp G_fares.bn .nil aP (ae (pv 1) (ae (pv 2) (ae (pv 0) ai))))))
   (ag (qu (i:=5) rfl bD.nd rfl rfl (fr:=[("rooms",3)]) (xs:=["told","via"]) (mO.of (by rfl) (by decide +kernel) (by rfl) (by decide +kernel) (by intro p hp;simp only[Pw,QH,or_false]at hp;rcases hp with rfl<;>exact⟨rfl,rfl⟩) (by decide +kernel) (by intro p hp;simp only[Pw,QH,or_false]at hp;rcases hp with rfl<;>rfl)) (a9 (pv 4)) (fun C ex s H=>(Cc (n:=2) (K:=K) rfl rfl (bw (aO (i:=0) (show(["told","via","rooms"]:List Str).Nodup from by decide +kernel) rfl (Or.inl rfl)) (bw (aO (i:=1) (show(["told","via","rooms"]:List Str).Nodup from by decide +kernel) rfl (Or.inl rfl)) iP)))) (fun C ex s H=>vE) (fun C ex s H=>(ay G_chosen_of.ok (hr.mono (by decide)) rfl G_chosen_of.mg G_chosen_of.kp G_chosen_of.bn .nil aP (ae (pv 0) (ae (pv 2) ai)))))
   (ag (av (i:=6) bD.nd rfl (Or.inl rfl) (Ly G_new_table.ok (hr.mono (by decide)) rfl G_new_table.mg G_new_table.kp G_new_table.bn .nil aP))
   (ag (av (i:=7) bD.nd rfl (Or.inl rfl) (aw iR (aw cW ah (aE ar (by rfl) T.n_len aY (ae (pv 3) ai))) ah))
   (ag (av (i:=8) bD.nd rfl (Or.inl rfl) (ax aH (ay G_laid_in_pairs.ok (hr.mono (by decide)) rfl G_laid_in_pairs.mg G_laid_in_pairs.kp G_laid_in_pairs.bn .nil aP (ae (pv 5) (ae (pv 7) (ae (pv 6) ai)))) ah (fun _ _=>rfl)))
   (ag (av (i:=9) bD.nd rfl (Or.inl rfl) ah)
   (ag (gY PassesOwn.never (aG oZ (pv 7) ah (aN _)) (ag (av (i:=10) bD.nd rfl (Or.inl rfl) (ax aH (qy hu (pv 6) (pv 7) (fun _ _=>rfl)) ah (fun _ _=>rfl)))
   (ag (av (i:=11) bD.nd rfl (Or.inl rfl) (ax aH (qy hu (pv 6) (pv 7) (fun _ _=>rfl)) ah (fun _ _=>rfl)))
   (ag (av (i:=9) bD.nd rfl (Or.inl rfl) (aw lY (pv 9) (ay G_mask_of.ok (hr.mono (by decide)) rfl G_mask_of.mg G_mask_of.kp G_mask_of.bn .nil aP (ae (ay G_row_to.ok (hr.mono (by decide)) rfl G_row_to.mg G_row_to.kp G_row_to.bn .nil aP (ae (pv 1) (ae (ax aH (ax az (pv 4) (pv 10) (fun _ _=>rfl)) ah (fun _ _=>rfl)) (ae (ax az (pv 3) (pv 11) (fun _ _=>rfl)) ai)))) ai))))
   (aq (av (i:=7) bD.nd rfl (Or.inl rfl) (aw lY (aw lY (pv 7) (aw cW ah (pv 10))) (aw cW ah (pv 11)))))))))
   (aq (aI (bK (ae (pv 8) (ae (pv 9) ai)))))))))))))),?_⟩
 refine⟨_,rfl,_,rfl,_,rfl,v,n,mk,ls,rfl,hV,ok,n1,hc,hmk,ev,few,fun H1 s1=>?_⟩
 refine⟨_,rfl,(mk:Int),rfl,by omega,by omega,fun r H2 s2 hr0 hr2=>?_⟩
 rw[PQ]at hr2
 have s12:=s1.trans s2
 have tb2:=tb_same tb0 s12
 have hr2':H2 r=some (.lst ((bl mk).map iV)):=hr2
 have lenm:((bl mk).map iV).length=(bl mk).length:=PB ..
 refine⟨_,rfl,r,rfl,⟨_,SqL.of hr2'⟩,uF (K:=K) (xs:=(bl mk).map iV) (fun i zs H3=>SmT H2 H3/\Tb lqF lpF TT H3/\LsAt (FdAt n ls) H3 zs ((bl mk).take i)) (Ql (au (by omega))) ⟨fun _ _ _ e=>e,tb2,LsAt.nil⟩ (fun i zs H3 _ z=>SqL.of (z.1.lst hr2')) ?_ ?_ ?_⟩
 ·rintro i x zs H3 hx ⟨sm3,tb3,hZ⟩
  rw[PR]at hx
  obtain⟨k,hk,rfl⟩:=Qp.mp hx
  refine⟨rfl,yesT ⟨_,rfl,_,rfl,_,rfl,v,n,k,ls,rfl,LnAt.smT (hV.mono s12) sm3,ok,rlt k (Pr hk),tb3,fun t ta va TL VL H4 sm4 tb4 _ _ ht hta hva fi=>?_⟩⟩
  have sm34:=TbS.smT sm4 tb3
  refine⟨sm3.trans sm34,tb4,?_⟩
  rw[Qf,hk]
  exact(hZ.imp fun _ _ q=>q.mono sm34).snoc ⟨t,ta,va,TL,VL,rfl,ht,hta,hva,fi⟩
 ·rintro zs H3 ⟨sm3,tb3,hZ⟩ fa hfa
  rw[lenm,Qn]at hZ
  have z4:=ak hfa (.lst zs)
  have sm24:SmT H2 (upd H3 fa (.lst zs)):=sm3.trans (.of z4)
  have tb4:=tb_same tb3 z4
  have hZ4:LsAt (FdAt n ls) (upd H3 fa (.lst zs)) zs (bl mk):=hZ.imp fun _ _ q=>q.mono (.of z4)
  have gfa:(upd H3 fa (.lst zs)) fa=some (.lst zs):=af
  generalize upd H3 fa (.lst zs)=H4 at sm24 tb4 hZ4 gfa
  have zl:=hZ4.1
  have hr4:=sm24.lst hr2'
  refine⟨_,rfl,fa,rfl,⟨_,SqL.of gfa⟩,uF (K:=K) (xs:=zs) (fun i ws H5=>Same H4 H5/\LsAt (RwA ls mk) H5 ws ((bl mk).take i)) (Ql (au (by omega))) ⟨fun _ _ e=>e,LsAt.nil⟩ (fun i ws H5 _ z=>SqL.of (z.1 _ _ gfa)) ?_ ?_ ?_⟩
  ·rintro i x ws H5 hx ⟨s5,hW⟩
   obtain⟨s0,hs0,t,ta,va,TL,VL,rfl,ht,hta,hva,fi⟩:=hZ4.get hx
   have slt:=rlt s0 (Pr hs0)
   refine⟨t,_,rfl,SqT.of (s5 _ _ ht),rfl,_,_,rfl,_,_,rfl,rfl,rfl,yesT ⟨_,rfl,_,rfl,ta,r,_,(bl mk).map fun x=>V.int (farD ls s0 x),bl mk,rfl,s5 _ _ hta,s5 _ _ hr4,PB ..,by omega,fun j k hk=>?_,fun q H6 s6 hq0 hq=>?_⟩⟩
   ·refine⟨.int (farD ls s0 k),?_,by rw[PR,hk];rfl⟩
    exact IW (fi.is hc slt (rlt k (Pr hk)))
   ·refine⟨s5.trans s6,?_⟩
    rw[Qf,hs0]
    exact(hW.imp fun _ _ ⟨p,e,z⟩=>⟨p,e,s6 _ _ z⟩).snoc ⟨q,rfl,hq⟩
  ·rintro ws H5 ⟨s5,hW⟩ bv hbv
   rw[zl,Qn]at hW
   have z6:=ak hbv (.lst ws)
   refine⟨rfl,fun tb t0 H7 s7 htb0 htb ht0=>?_⟩
   have s57:Same H4 H7:=s5.trans (z6.trans s7)
   have hW7:LsAt (RwA ls mk) H7 ws (bl mk):=hW.imp fun _ _ ⟨p,e,z⟩=>⟨p,e,s7 _ _ (z6 _ _ z)⟩
   have hbv7:H7 bv=some (.lst ws):=s7 _ _ af
   have at':∀ i,i<(bl mk).length->(bl mk)[i]?=some ((bl mk).getD i 0):=fun i hi=>by rw[Qm,Pq hi];rfl
   have bt:BtAt H7 (.ref bv) (dR ls mk) (bl mk).length:=⟨bv,ws,rfl,hbv7,fun i hi=>by
    obtain⟨y,hy,p,rfl,hp⟩:=hW7.2 i _ (at' i hi)
    exact⟨p,_,hy,hp,fun k hk=>by rw[PR,at' k hk];rfl⟩⟩
   have ti:TI H7 (dR ls mk) (bl mk).length [(.inl ((0:Nat):Int),.ref t0)]:=⟨(fun k w e=>by
    by_cases c:(Sum.inl ((0:Nat):Int):Key)=k
    ·rw[bI c]at e
     cases e
     exact⟨0,c.symm,QT _,.inl ⟨rfl,t0,_,_,rfl,ht0⟩⟩
    ·rw[bJ c]at e
     cases e),⟨_,bI rfl⟩,PF.mpr ⟨(by simp),Rk⟩⟩
   have hr7:=s57 _ _ hr4
   have tb7:=tb_same tb4 s57
   have eL:(1:Int)*2^((((bl mk).map iV).length:Nat):Int).toNat-1=((2^(bl mk).length-1:Nat):Int):=by
    rw[lenm,shlN]
    have:=QT (bl mk).length
    omega
   refine⟨_,rfl,r,_,rfl,.inl (SqL.of hr7),_,_,rfl,rfl,⟨by omega,by rw[lenm];omega,by decide⟩,_,_,rfl,rfl,?_⟩
   simp only[eL]
   have lfull:(bl (2^(bl mk).length-1)).length=(bl mk).length:=by rw[(Kv _).length_eq,Rn]
   refine⟨_,rfl,_,rfl,_,rfl,.ref bv,tb,2^(bl mk).length-1,_,rfl,bt,htb,ti,by have:=QT (bl mk).length;omega,few,by rw[lfull];omega,by rw[lfull];exact ev,fun w t kvs' H8 sT hT' ti' gr hv cv op=>?_⟩
   have lt78:=LT.tbS sT htb
   obtain⟨va,y,z,rfl,hva⟩:=id cv
   refine⟨va,_,0,_,rfl,rfl,SqT.of hva,a30,?_⟩
   have optR:Opt (farD ls) (bl mk) t:=Opt.rooms (bl_nd mk) op
   have tb8:Tb lqF lpF TT H8:=vd tb7 fun b hb=>by
    have hs:∃ o,H7 b=some o/\b≠tb:=by
     rcases hb with rfl | ⟨c',hb⟩
     ·rcases tb7 with q | ⟨_,q,_⟩
      ·exact⟨_,q,fun z=>by rw[z,htb]at q;cases q⟩
      ·exact⟨_,q,fun z=>by rw[z,htb]at q;cases q⟩
     ·exact⟨_,hb,fun z=>by rw[z,htb]at hb;cases hb⟩
    obtain⟨o,h1,h2⟩:=hs
    rw[h1]
    exact sT _ _ h2 h1
   have smT8:SmT H H8:=fun b o no e=>by
    have e4:=sm24 b o no (s12 _ _ e)
    have e7:=s57 _ _ e4
    refine sT _ _ (fun z=>?_) e7
    subst z
    have:=iN (s5.trans z6) htb0
    rw[this]at e4;cases e4
   have hZ8:LsAt (FdAt n ls) H8 zs (bl mk):=hZ4.imp fun _ _ q=>(q.lt (LT.same s57)).lt lt78
   have hfa8:=lt78.1 _ _ (s57 _ _ gfa)
   have hr8:=lt78.1 _ _ hr7
   have hV8:LnAt H8 v ls:=(LnAt.smT hV smT8)
   refine gL (PrI v n mk (bl mk).length ls.length ls r fa bv tb kvs' t H8) (fun σ _=>match σ with | [_,_,_,_,_,_,_,some (.int c),_,_,_,_]=>c.toNat | _=>0) ⟨2^(bl mk).length-1,0,_,_,_,t,rfl,fun _ _ e=>e,hv,cv,QT _,by rw[qA,RM_all,Ry],by rw[rC];omega⟩ ?_ ?_
   ·rintro σ H9 ⟨c,u,v10,v11,w,tc,rfl,s9,hw,cw,ult,ou,cu⟩
    obtain⟨c',ec',clt,en⟩:=ti'.en _ _ hw
    have ecc:c'=c:=by
     have:(c:Int)=(c':Int):=by injection ec'
     omega
    subst ecc
    refine⟨_,rfl,rfl,_,rfl,?_⟩
    by_cases c0:c'=0
    ·subst c0
     refine tU rfl ?_
     have t0':tc=0:=by
      rcases en with⟨_,q⟩ | ⟨_,f,_,_,_,_,_,_,q,_⟩
      ·exact cw.uniq q
      ·rw[D5]at q;cases q
     refine⟨_,rfl,_,rfl,(by show 2<=sizeLine;decide),fun t9 ht9=>?_⟩
     have z9:=ak ht9 (.tup [.int t,.int (u:Int)])
     refine kk t9 t u _ (smT8.trans (.of (s9.trans z9))) (tb_same tb8 (s9.trans z9)) af ult ?_ optR (by omega)
     rw[ou,KU,Rx]
    ·refine ite2 (fun _=>?_) (fun z=>absurd (by rw[decide_eq_false (fun y=>c0 (by have:=V.int.inj y;omega))];rfl) z)
     obtain⟨tt,f,g,a,vr,tr,rfl,ha,hf,hg,fg,hvr,cvr,ett,_⟩:∃(t:Int)(f g:Nat)(a:Addr)(vr:V)(tr:Int),w=.ref a/\H8 a=some (.tup [.int t,.int (f:Int),.int (g:Int)])/\f∈bl c'/\g∈bl c'/\f≠g/\valV kvs' (.inl ((cut2 c' f g:Nat):Int))=some vr/\oj H8 vr tr/\t=dR ls mk f g+tr/\Opt (dR ls mk) (bl c') t:=by
      rcases en with⟨q,_⟩ | q
      ·exact absurd q c0
      ·exact q
     have etc:tc=tt:=cw.uniq ⟨a,_,_,rfl,ha⟩
     have flt:=bl_lt clt hf
     have glt:=bl_lt clt hg
     have hT9:=s9 _ _ hT'
     have ha9:=s9 _ _ ha
     have dg:DGet H9 tb (.int (c':Int)) (some (.ref a)):=by have:=DGet.k (k:=.inl ((c':Nat):Int)) hT9;rw[hw]at this;exact this
     refine⟨_,rfl,_,rfl,tb,_,rfl,dg,a,_,1,_,rfl,rfl,SqT.of ha9,a31,?_⟩
     refine⟨_,rfl,_,rfl,tb,_,rfl,dg,a,_,2,_,rfl,rfl,SqT.of ha9,a32,?_⟩
     obtain⟨y,hy,tF,taF,vaF,TL,VL,rfl,htF,htaF,hvaF,fi⟩:=hZ8.2 f _ (at' f flt)
     have gl:=rlt _ (Pr (at' g glt))
     have fl:=rlt _ (Pr (at' f flt))
     have xg:=fi.is hc fl gl
     obtain⟨j,up⟩:=fi.up _ _ xg
     obtain⟨ks,pth,kl⟩:=up.path
     have sh:=up.short fi.vs
     have vl:=fi.vl
     obtain⟨j1,j2,j3⟩:=pth.join fi
     have j3':=j3 _ xg
     refine⟨_,rfl,_,rfl,_,rfl,_,rfl,fa,_,_,_,rfl,rfl,SqL.of (s9 _ _ hfa8),aA hy,tF,_,1,_,rfl,rfl,SqT.of (s9 _ _ htF),at1,_,rfl,_,rfl,r,_,_,_,rfl,rfl,SqL.of (s9 _ _ hr8),aA (show((bl mk).map iV)[g]?=some (V.int (((bl mk).getD g 0:Nat):Int)) by rw[PR,at' g glt];rfl),v,vaF,(bl mk).getD g 0,(bl mk).getD f 0,ls,VL,ks,rfl,hV8.mono s9,s9 _ _ hvaF,fi.vs,pth,by omega,fun q H10 s10 hq=>?_⟩
     refine⟨q,ks.reverse,rfl,SqL.of hq,fun k hk=>by have:=j1 k (List.mem_reverse.mp hk);omega,_,_,rfl,rfl,?_⟩
     have ex:Builtin.bitXor (u:Int) ((g8 ks.reverse:Nat):Int)=((u^^^g8 ks:Nat):Int):=by rw[IZ,xorN]
     simp only[ex]
     refine⟨_,rfl,_,rfl,_,_,rfl,rfl,⟨by omega,by omega,by decide⟩,_,_,rfl,rfl,_,rfl,_,_,rfl,rfl,⟨by omega,by omega,by decide⟩,_,_,rfl,rfl,?_⟩
     have ec:Builtin.bitXor (Builtin.bitXor (c':Int) (1*2^((f:Nat):Int).toNat)) (1*2^((g:Nat):Int).toNat)=((cut2 c' f g:Nat):Int):=by rw[shlN,shlN,xorN,xorN];rfl
     simp only[ec]
     have cx:=xP ls (fun l hl=>(ok.w0 l hl).1) u (g8 ks) ls.length (Pz _)
     refine⟨⟨cut2 c' f g,u^^^g8 ks,some (.int (f:Int)),some (.int (g:Int)),vr,tr,rfl,s9.trans s10,hvr,cvr,Rg ult (L6 j1),?_,?_⟩,?_⟩
     ·rw[wc,ou,j2]
      unfold cut2
      rw[KW,KW,KY,KY,if_pos flt,if_pos glt,QB,QB]
     ·have ed:dR ls mk f g=farD ls ((bl mk).getD f 0) ((bl mk).getD g 0):=rfl
      omega
     ·show((cut2 c' f g:Nat):Int).toNat<((c':Nat):Int).toNat
      have:=JX hf hg fg
      omega
   ·rintro σ H9 Q1 Q2 hi ⟨v1,e1,e2,b,e3,q⟩
    exact⟨v1,e1,e2,b,e3,hi _ _ q⟩
  ·rintro i ws H5 ⟨_,hW⟩
   rw[hW.1,Qr]
   omega
 ·rintro i zs H3 ⟨_,_,hZ⟩
  rw[hZ.1,Qr]
  omega
end
end KF
namespace L2
theorem len_0{α:Type}{l:List α}(h:l.length=0):l = []:=Tf.mp h
theorem Jf{α:Type}{l:List α}{n:Nat}(h:l.length=n+1):∃ x r,l=x::r/\r.length=n:=by
 cases l with
 |nil=>cases h
 |cons x r=>exact⟨x,r,rfl,Nat.succ.inj h⟩
theorem iL{α:Type}{l:List α}(h:l.length=1):∃ a,l = [a]:=by
 obtain⟨a,r,rfl,e⟩:=Jf h
 exact⟨a,by rw[len_0 e]⟩
theorem fF{α:Type}{l:List α}(h:l.length=2):∃ a b,l = [a,b]:=by
 obtain⟨a,r,rfl,e⟩:=Jf h
 obtain⟨b,rfl⟩:=iL e
 exact⟨a,b,rfl⟩
theorem mY{α:Type}{l:List α}(h:l.length=3):∃ a b c,l = [a,b,c]:=by
 obtain⟨a,r,rfl,e⟩:=Jf h
 obtain⟨b,c,rfl⟩:=fF e
 exact⟨a,b,c,rfl⟩
theorem Mf{α:Type}{l:List α}(h:l.length=4):∃ a b c d,l = [a,b,c,d]:=by
 obtain⟨a,r,rfl,e⟩:=Jf h
 obtain⟨b,c,d,rfl⟩:=mY e
 exact⟨a,b,c,d,rfl⟩
theorem len_5{α:Type}{l:List α}(h:l.length=5):∃ a b c d e,l = [a,b,c,d,e]:=by
 obtain⟨a,r,rfl,z⟩:=Jf h
 obtain⟨b,c,d,e,rfl⟩:=Mf z
 exact⟨a,b,c,d,e,rfl⟩
end L2
namespace K8
theorem MQ:∀{a b:List Nat},a.Nodup->(∀ x∈a,x∈b)->a.length<=b.length
 |[],_,_,_=>QJ _
 |x::a,b,nd,h=>by
  obtain⟨n1,n2⟩:=PF.mp nd
  have hx:=h x (by simp)
  have ih:=MQ (a:=a) (b:=b.erase x) n2 fun y hy=>(List.mem_erase_of_ne (fun e:y=x=>n1 (e▸hy))).mpr (h y (PD _ hy))
  rw[Tc hx]at ih
  have:0<b.length:=Rc hx
  rw[Qc]
  omega
theorem fk{a:List Nat}{N:Nat}(nd:a.Nodup)(h:∀ x∈a,x<N):a.length<=N:=by
 have:=MQ (b:=Q8 N) nd fun x hx=>Rt.mpr (h x hx)
 rwa[Rn]at this
theorem ER{l:List Nat}(nd:l.Nodup){i j x:Nat}(hi:l[i]?=some x)(hj:l[j]?=some x):i=j:=by
 have p:=List.pairwise_iff_getElem.mp nd
 obtain⟨h1,e1⟩:=Pp.mp hi
 obtain⟨h2,e2⟩:=Pp.mp hj
 rcases Nat.lt_trichotomy i j with z | z | z
 ·exact absurd (e1.trans e2.symm) (p i j h1 h2 z)
 ·exact z
 ·exact absurd (e2.trans e1.symm) (p j i h2 h1 z)
abbrev En:=List (Nat×Nat)
structure bz(m:Nat)(es:En)(ts:List (List Nat)):Prop where
 len:ts.length=m
 ends:∀ e∈es,e.1<m/\e.2<m/\e.1≠e.2
 nd:∀(p:Nat)(l:List Nat),ts[p]?=some l->l.Nodup
 mem:∀(p:Nat)(l:List Nat),ts[p]?=some l->∀ t,t∈l↔∃ e,es[t]?=some e/\(e.1=p∨e.2=p)
theorem La(m:Nat):bz m [] (PU m []) where
 len:=by simp
 ends:=fun e h=>by cases h
 nd:=fun p l h=>by
  rw[QU]at h
  split at h
  ·cases h;exact Rk
  ·cases h
 mem:=fun p l h t=>by
  rw[QU]at h
  split at h
  ·cases h;simp
  ·cases h
def ins(l:List Nat)(k x:Nat):List Nat:=l.take k++x::l.drop k
theorem Dv{l:List Nat}{k x y:Nat}:y∈ins l k x↔y=x∨y∈l:=by
 unfold ins
 rw[PM,Pw]
 have:=Rh k l
 constructor
 ·rintro(h | h | h)
  ·exact .inr (List.mem_of_mem_take h)
  ·exact .inl h
  ·exact .inr (List.mem_of_mem_drop h)
 ·rintro(h | h)
  ·exact .inr (.inl h)
  ·rw[← this]at h
   rcases PM.mp h with z | z
   ·exact .inl z
   ·exact .inr (.inr z)
theorem Jy{l:List Nat}{k x:Nat}(nd:l.Nodup)(h:x∉l):(ins l k x).Nodup:=by
 unfold ins
 have e:=Rh k l
 rw[← e]at nd
 obtain⟨a,b,c⟩:=PZ.mp nd
 refine PZ.mpr ⟨a,PF.mpr ⟨fun z=>h (List.mem_of_mem_drop z),b⟩,fun y hy z hz=>?_⟩
 rcases Pw.mp hz with q | q
 ·intro w
  exact h (by rw[← q,← w];exact List.mem_of_mem_take hy)
 ·exact c y hy z q
theorem bz.put{m:Nat}{es:En}{ts:List (List Nat)}{one two k j:Nat}{l l':List Nat}(w:bz m es ts)(h1:one<m)(h2:two<m)(hn:one≠two)(e1:ts[one]?=some l)(e2:ts[two]?=some l') :
  bz m (es++[(one,two)]) ((ts.set one (ins l k es.length)).set two (ins l' j es.length)):=by
 have old:∀{p l},ts[p]?=some l->es.length∉l:=fun{p l} e z=>by
  obtain⟨x,hx,_⟩:=(w.mem p l e es.length).mp z
  have:=(Pp.mp hx).1
  omega
 have get:∀ p q,((ts.set one (ins l k es.length)).set two (ins l' j es.length))[p]?=some q->(p=two/\q=ins l' j es.length)∨(p=one/\p≠two/\q=ins l k es.length)∨(p≠one/\p≠two/\ts[p]?=some q):=fun p q e=>by
  have L:two<(ts.set one (ins l k es.length)).length:=by rw[Qa,w.len];exact h2
  have L1:one<ts.length:=by rw[w.len];exact h1
  rw[Qh]at e
  by_cases z:two=p
  ·rw[if_pos z,if_pos L]at e
   exact .inl ⟨z.symm,(P5 e).symm⟩
  ·rw[if_neg z,Qh]at e
   by_cases y:one=p
   ·rw[if_pos y,if_pos L1]at e
    exact .inr (.inl ⟨y.symm,Ne.symm z,(P5 e).symm⟩)
   ·rw[if_neg y]at e
    exact .inr (.inr ⟨Ne.symm y,Ne.symm z,e⟩)
 have esg:∀ t x,(es++[(one,two)])[t]?=some x↔(es[t]?=some x)∨(t=es.length/\x=(one,two)):=fun t x=>by
  by_cases z:t<es.length
  ·rw[Py z]
   constructor
   ·exact .inl
   ·rintro(y | y)
    ·exact y
    ·omega
  ·rw[Pu (by omega)]
   constructor
   ·intro y
    have hl:=(Pp.mp y).1
    rw[PY]at hl
    have ht:t=es.length:=by omega
    subst ht
    rw[P1]at y
    cases y
    exact .inr ⟨rfl,rfl⟩
   ·rintro(y | ⟨y,rfl⟩)
    ·have:=(Pp.mp y).1;omega
    ·rw[y,P1];rfl
 refine⟨by rw[Qa,Qa];exact w.len,fun e he=>?_,fun p q e=>?_,fun p q e t=>?_⟩
 ·rcases PM.mp he with z | z
  ·exact w.ends e z
  ·have:e=(one,two):=by simpa using z
   subst this
   exact⟨h1,h2,hn⟩
 ·rcases get p q e with⟨_,rfl⟩ | ⟨_,_,rfl⟩ | ⟨_,_,y⟩
  ·exact Jy (w.nd two l' e2) (old e2)
  ·exact Jy (w.nd one l e1) (old e1)
  ·exact w.nd p q y
 ·rcases get p q e with⟨rfl,rfl⟩ | ⟨rfl,np,rfl⟩ | ⟨n1,n2,y⟩
  ·rw[Dv,w.mem p l' e2 t]
   constructor
   ·rintro(z | ⟨x,hx,hp⟩)
    ·exact⟨(one,p),(esg _ _).mpr (.inr ⟨z,rfl⟩),.inr rfl⟩
    ·exact⟨x,(esg _ _).mpr (.inl hx),hp⟩
   ·rintro⟨x,hx,hp⟩
    rcases(esg _ _).mp hx with z | ⟨z,_⟩
    ·exact .inr ⟨x,z,hp⟩
    ·exact .inl z
  ·rw[Dv,w.mem p l e1 t]
   constructor
   ·rintro(z | ⟨x,hx,hp⟩)
    ·exact⟨(p,two),(esg _ _).mpr (.inr ⟨z,rfl⟩),.inl rfl⟩
    ·exact⟨x,(esg _ _).mpr (.inl hx),hp⟩
   ·rintro⟨x,hx,hp⟩
    rcases(esg _ _).mp hx with z | ⟨z,_⟩
    ·exact .inr ⟨x,z,hp⟩
    ·exact .inl z
  ·rw[w.mem p q y t]
   constructor
   ·rintro⟨x,hx,hp⟩
    exact⟨x,(esg _ _).mpr (.inl hx),hp⟩
   ·rintro⟨x,hx,hp⟩
    rcases(esg _ _).mp hx with z | ⟨z,rfl⟩
    ·exact⟨x,z,hp⟩
    ·rcases hp with hp | hp
     ·exact absurd hp.symm n1
     ·exact absurd hp.symm n2
def hd(es:En)(d:Nat):Nat:=match es[d/2]? with | some e=>if d%2=0 then e.2 else e.1 | none=>0
def tl(es:En)(d:Nat):Nat:=match es[d/2]? with | some e=>if d%2=0 then e.1 else e.2 | none=>0
def leave(es:En)(t p:Nat):Nat:=match es[t]? with | some e=>if e.1=p then 2*t else 2*t+1 | none=>0
def nxt(l:List Nat)(t:Nat):Nat:=(l[(l.idxOf t+1)%l.length]?).getD 0
def fol(es:En)(ts:List (List Nat))(d:Nat):Nat:=leave es (nxt ((ts[hd es d]?).getD []) (d/2)) (hd es d)
section
variable{m:Nat}{es:En}{ts:List (List Nat)}
theorem Dw{l:List Nat}{t:Nat}(h:t∈l):l[l.idxOf t]?=some t:=by
 have hl:=Sb.mpr h
 rw[Pq hl,List.getElem_idxOf]
theorem iT{l:List Nat}{t:Nat}(h:t∈l):l[(l.idxOf t+1)%l.length]?=some (nxt l t):=by
 have hl:0<l.length:=Rc h
 have:=S9 (l.idxOf t+1) hl
 unfold nxt
 rw[Pq this]
 rfl
theorem bz.at(w:bz m es ts){d:Nat}(h:d<2*es.length):∃ e l,es[d/2]?=some e/\hd es d=(if d%2=0 then e.2 else e.1)/\tl es d=(if d%2=0 then e.1 else e.2)/\hd es d<m/\ts[hd es d]?=some l/\d/2∈l:=by
 have hl:d/2<es.length:=by omega
 have e1:es[d/2]?=some es[d/2]:=Pq hl
 have q:=w.ends _ (Pr e1)
 generalize es[d/2]=e at e1 q
 have h1:hd es d=(if d%2=0 then e.2 else e.1):=by unfold hd;rw[e1]
 have h2:tl es d=(if d%2=0 then e.1 else e.2):=by unfold tl;rw[e1]
 have h3:hd es d<m:=by rw[h1];split<;>omega
 have h4:ts[hd es d]?=some (ts[hd es d]'(by rw[w.len];exact h3)):=Pq _
 refine⟨e,_,e1,h1,h2,h3,h4,(w.mem _ _ h4 _).mpr ⟨e,e1,?_⟩⟩
 rw[h1]
 split
 ·exact .inr rfl
 ·exact .inl rfl
theorem bz.foll(w:bz m es ts){d:Nat}(h:d<2*es.length):∃ l e,ts[hd es d]?=some l/\d/2∈l/\es[nxt l (d/2)]?=some e/\(e.1=hd es d∨e.2=hd es d)/\e.1≠e.2/\fol es ts d=(if e.1=hd es d then 2*nxt l (d/2) else 2*nxt l (d/2)+1)/\fol es ts d<2*es.length/\fol es ts d/2=nxt l (d/2)/\tl es (fol es ts d)=hd es d:=by
 obtain⟨e0,l,h1,h2,h3,h4,h5,h6⟩:=w.at h
 have hn:=iT h6
 obtain⟨e,he,hp⟩:=(w.mem _ _ h5 _).mp (Pr hn)
 have hlt:=(Pp.mp he).1
 have hne:=(w.ends e (Pr he)).2.2
 have hf:fol es ts d=(if e.1=hd es d then 2*nxt l (d/2) else 2*nxt l (d/2)+1):=by
  unfold fol
  rw[h5]
  show leave es (nxt l (d/2)) (hd es d)=_
  unfold leave
  rw[he]
 refine⟨l,e,h5,h6,he,hp,hne,hf,?_,?_,?_⟩
 ·rw[hf];split<;>omega
 ·rw[hf];split<;>omega
 ·rw[hf]
  by_cases z:e.1=hd es d
  ·have a1:2*nxt l (d/2)/2=nxt l (d/2):=by omega
   have a2:2*nxt l (d/2)%2=0:=by omega
   rw[if_pos z]
   unfold tl
   rw[a1,he]
   show(if 2*nxt l (d/2)%2=0 then e.1 else e.2)=_
   rw[if_pos a2,z]
  ·have a1:(2*nxt l (d/2)+1)/2=nxt l (d/2):=by omega
   have a2:¬ (2*nxt l (d/2)+1)%2=0:=by omega
   rw[if_neg z]
   unfold tl
   rw[a1,he]
   show(if(2*nxt l (d/2)+1)%2=0 then e.1 else e.2)=_
   rw[if_neg a2]
   exact hp.elim (fun y=>absurd y z) id
theorem bz.inj(w:bz m es ts){a b:Nat}(ha:a<2*es.length)(hb:b<2*es.length)(h:fol es ts a=fol es ts b):a=b:=by
 obtain⟨l,e,p1,p2,_,_,_,_,_,p3,p4⟩:=w.foll ha
 obtain⟨l',e',q1,q2,_,_,_,_,_,q3,q4⟩:=w.foll hb
 have hh:hd es a=hd es b:=by rw[← p4,← q4,h]
 rw[hh,q1]at p1
 cases p1
 have hx:nxt l (a/2)=nxt l (b/2):=by rw[← p3,← q3,h]
 have g1:=iT p2
 have g2:=iT q2
 rw[hx]at g1
 have ii:=ER (w.nd _ _ q1) g1 g2
 have i1:=Sb.mpr p2
 have i2:=Sb.mpr q2
 have ix:l.idxOf (a/2)=l.idxOf (b/2):=by
  generalize l.idxOf (a/2)=x at *
  generalize l.idxOf (b/2)=y at *
  by_cases z1:x+1=l.length
  ·by_cases z2:y+1=l.length
   ·omega
   ·rw[z1,Sm,Q5 (by omega)]at ii;omega
  ·by_cases z2:y+1=l.length
   ·rw[z2,Sm,Q5 (by omega)]at ii;omega
   ·rw[Q5 (by omega),Q5 (by omega)]at ii;omega
 have ht:a/2=b/2:=by
  have g3:=Dw p2
  have g4:=Dw q2
  rw[ix,g4]at g3
  exact(P5 g3).symm
 obtain⟨e1,_,r1,r2,_,_,_,_⟩:=w.at ha
 obtain⟨e2,_,s1,s2,_,_,_,_⟩:=w.at hb
 rw[ht,s1]at r1
 have ee:e2=e1:=P5 r1
 rw[ee]at s1 s2
 have hne:=(w.ends e1 (Pr s1)).2.2
 rw[r2,s2]at hh
 have:a%2=b%2:=by
  by_cases z1:a%2=0<;>by_cases z2:b%2=0
  ·omega
  ·rw[if_pos z1,if_neg z2]at hh;exact absurd hh.symm hne
  ·rw[if_neg z1,if_pos z2]at hh;exact absurd hh hne
  ·omega
 omega
end
structure K0(f:Nat->Nat)(N:Nat):Prop where
 lt:∀ d,d<N->f d<N
 inj:∀ a b,a<N->b<N->f a=f b->a=b
structure Path(f:Nat->Nat)(N first:Nat)(r:List Nat):Prop where
 hd:r[0]?=some first
 lt:∀ d∈r,d<N
 nd:r.Nodup
 nx:∀ i x y,r[i]?=some x->r[i+1]?=some y->y=f x
theorem Lz{f:Nat->Nat}{N d:Nat}(h:d<N):Path f N d [d] where
 hd:=rfl
 lt:=fun x hx=>by have:x=d:=by simpa using hx
                  rw[this];exact h
 nd:=by simp
 nx:=fun i x y h1 h2=>by
  have:=(Pp.mp h2).1
  rw[PY]at this
  omega
theorem Path.snoc{f:Nat->Nat}{N d x:Nat}{r:List Nat}(p:K0 f N)(h:Path f N d (r++[x]))(hn:f x≠d):Path f N d (r++[x]++[f x]) where
 hd:=by rw[Py (by rw[Px,PY];omega)];exact h.hd
 lt:=fun y hy=>by
  rcases PM.mp hy with z | z
  ·exact h.lt y z
  ·have:y=f x:=by simpa using z
   rw[this];exact p.lt x (h.lt x (by simp))
 nd:=by
  refine PZ.mpr ⟨h.nd,by simp,fun a ha b hb e=>?_⟩
  have eb:b=f x:=by simpa using hb
  subst eb
  obtain⟨i,hi⟩:=Qz.mp ha
  rw[e]at hi
  have hil:=(Pp.mp hi).1
  rw[Px,PY]at hil
  cases i with
  |zero =>
   rw[h.hd]at hi
   exact hn (P5 hi).symm
  |succ i =>
   have gi:(r++[x])[i]?=some ((r++[x])[i]'(by rw[Px,PY];omega)):=Pq _
   have:=h.nx i _ _ gi hi
   have mi:=h.lt _ (Pr gi)
   have mx:=h.lt x (by simp)
   have e2:=p.inj _ _ mx mi this
   rw[← e2]at gi
   have gx:(r++[x])[r.length]?=some x:=by rw[Pu (Pz _),P1];rfl
   have:=ER h.nd gi gx
   omega
 nx:=fun i a b h1 h2=>by
  have h2l:=(Pp.mp h2).1
  rw[Px,Px,PY,PY]at h2l
  rw[Py (by rw[Px,PY];omega)]at h1
  by_cases z:i+1<(r++[x]).length
  ·rw[Py z]at h2
   exact h.nx i a b h1 h2
  ·rw[Px,PY]at z
   have ei:i=r.length:=by omega
   subst ei
   rw[Pu (by rw[Px,PY];omega)]at h2
   have:r.length+1-(r++[x]).length=0:=by rw[Px,PY];omega
   rw[this]at h2
   rw[Pu (Pz _),P1]at h1
   have e1:x=a:=P5 h1
   have e2:f x=b:=P5 h2
   rw[← e2,e1]
structure Ring(f:Nat->Nat)(N:Nat)(r:List Nat):Prop where
 lt:∀ d∈r,d<N
 nd:r.Nodup
 ne:0<r.length
 nx:∀ i x,r[i]?=some x->r[(i+1)%r.length]?=some (f x)
theorem Path.ring{f:Nat->Nat}{N d x:Nat}{r:List Nat}(p:K0 f N)(h:Path f N d (r++[x]))(he:f x=d):Ring f N (r++[x]) where
 lt:=h.lt
 nd:=h.nd
 ne:=by rw[Px,PY];omega
 nx:=fun i y hy=>by
  have hl:=(Pp.mp hy).1
  by_cases z:i+1=(r++[x]).length
  ·rw[z,Sm]
   have:i=r.length:=by rw[Px,PY]at z;omega
   subst this
   rw[Pu (Pz _),P1]at hy
   have:x=y:=P5 hy
   subst this
   rw[he];exact h.hd
  ·have l2:i+1<(r++[x]).length:=by omega
   rw[Q5 l2]
   have g:=Pq l2
   rw[g,h.nx i _ _ hy g]
theorem Ring.back{f:Nat->Nat}{N a:Nat}{r:List Nat}(p:K0 f N)(h:Ring f N r)(ha:a<N)(hf:f a∈r):a∈r:=by
 obtain⟨i,hi⟩:=Qz.mp hf
 have hl:=(Pp.mp hi).1
 have key:∃ j,j<r.length/\(j+1)%r.length=i:=by
  cases i with
  |zero=>exact⟨r.length-1,by have:=h.ne;omega,by have:=h.ne;rw[show r.length-1+1=r.length by omega,Sm]⟩
  |succ i=>exact⟨i,by omega,Q5 hl⟩
 obtain⟨j,hj,ej⟩:=key
 have g:=Pq hj
 have q:=h.nx j _ g
 rw[ej,hi]at q
 have mj:=h.lt _ (Pr g)
 have:=p.inj _ _ ha mj (P5 q)
 rw[this]
 exact Pr g
structure cY(f:Nat->Nat)(N i:Nat)(rs:List (List Nat)):Prop where
 ring:∀ r∈rs,Ring f N r
 hdl:∀ r∈rs,∀ h,r[0]?=some h->h<i/\∀ d∈r,h<=d
 asc:∀(a b:Nat)(r r':List Nat)(h h':Nat),a<b->rs[a]?=some r->rs[b]?=some r'->r[0]?=some h->r'[0]?=some h'->h<h'
 nd:rs.flatten.Nodup
 all:∀ d,d<i->d∈rs.flatten
theorem Fu(f:Nat->Nat)(N:Nat):cY f N 0 [] where
 ring:=fun r h=>by cases h
 hdl:=fun r h=>by cases h
 asc:=fun a b r r' h h' _ e=>by cases e
 nd:=by simp
 all:=fun d h=>by omega
theorem cY.skip{f:Nat->Nat}{N i:Nat}{rs:List (List Nat)}(w:cY f N i rs)(h:i∈rs.flatten):cY f N (i+1) rs where
 ring:=w.ring
 hdl:=fun r hr x hx=>⟨by have:=(w.hdl r hr x hx).1;omega,(w.hdl r hr x hx).2⟩
 asc:=w.asc
 nd:=w.nd
 all:=fun d hd=>by
  by_cases z:d=i
  ·rw[z];exact h
  ·exact w.all d (by omega)
theorem cY.put{f:Nat->Nat}{N i:Nat}{rs:List (List Nat)}{r:List Nat}(p:K0 f N)(w:cY f N i rs)(h:i∉rs.flatten)(hi:i<N)(hr:Ring f N r)(pa:Path f N i r):cY f N (i+1) (rs++[r]):=by
 have apart:∀(k x:Nat),r[k]?=some x->x∉rs.flatten:=fun k=>by
  induction k with
  |zero =>
   intro x hx
   rw[pa.hd]at hx
   cases hx
   exact h
  |succ k ih =>
   intro x hx z
   have hl:=(Pp.mp hx).1
   have g:=Pq (show k<r.length by omega)
   have e:=pa.nx k _ _ g hx
   obtain⟨q,hq,zq⟩:=Qo.mp z
   rw[e]at zq
   exact ih _ g (Qo.mpr ⟨q,hq,(w.ring q hq).back p (hr.lt _ (Pr g)) zq⟩)
 have least:∀ d∈r,i<=d:=fun d hd=>by
  obtain⟨k,hk⟩:=Qz.mp hd
  by_cases z:i<=d
  ·exact z
  ·exact absurd (w.all d (by omega)) (apart k d hk)
 refine⟨fun q hq=>?_,fun q hq x hx=>?_,fun a b q q' x x' hab ha hb hx hx'=>?_,?_,fun d hd=>?_⟩
 ·rcases PM.mp hq with z | z
  ·exact w.ring q z
  ·have:q=r:=by simpa using z
   rw[this];exact hr
 ·rcases PM.mp hq with z | z
  ·have:=w.hdl q z x hx
   exact⟨by omega,this.2⟩
  ·have e:q=r:=by simpa using z
   subst e
   rw[pa.hd]at hx
   cases hx
   exact⟨by omega,least⟩
 ·have bl:=(Pp.mp hb).1
  rw[Px,PY]at bl
  rw[Py (by omega)]at ha
  by_cases z:b<rs.length
  ·rw[Py z]at hb
   exact w.asc a b q q' x x' hab ha hb hx hx'
  ·have eb:b=rs.length:=by omega
   subst eb
   rw[Pu (Pz _),P1]at hb
   have e:r=q':=P5 hb
   subst e
   rw[pa.hd]at hx'
   cases hx'
   exact(w.hdl q (Pr ha) x hx).1
 ·rw[QO]
  have e : [r].flatten=r:=by simp
  rw[e]
  refine PZ.mpr ⟨w.nd,hr.nd,fun a ha b hb e=>?_⟩
  obtain⟨k,hk⟩:=Qz.mp hb
  exact apart k b hk (e▸ha)
 ·rw[QO,PM]
  by_cases z:d=i
  ·right
   rw[z]
   simp
   exact Pr pa.hd
  ·exact .inl (w.all d (by omega))
theorem q9{rs:List (List Nat)}(nd:rs.flatten.Nodup){a b:Nat}{r r':List Nat}{d:Nat}(ha:rs[a]?=some r)(hb:rs[b]?=some r')(h1:d∈r)(h2:d∈r'):a=b:=by
 induction rs generalizing a b with
 |nil=>cases ha
 |cons q rs ih =>
  rw[P9]at nd
  obtain⟨_,n2,n3⟩:=PZ.mp nd
  cases a with
  |zero =>
   cases b with
   |zero=>rfl
   |succ b =>
    have e:q=r:=P5 ha
    subst e
    exact absurd rfl (n3 d h1 d (Qo.mpr ⟨r',Pr hb,h2⟩))
  |succ a =>
   cases b with
   |zero =>
    have e:q=r':=P5 hb
    subst e
    exact absurd rfl (n3 d h2 d (Qo.mpr ⟨r,Pr ha,h1⟩))
   |succ b=>exact congrArg Nat.succ (ih n2 ha hb)
end K8
namespace K8
def chain(f:Nat->Nat):Nat->List Nat->Nat->Prop
 |x,[],z=>f x=z
 |x,y::l,z=>f x=y/\chain f y l z
theorem cy{f:Nat->Nat}:∀{x:Nat}{l:List Nat}{y:Nat}{k:List Nat}{z:Nat},chain f x (l++y::k) z↔chain f x l y/\chain f y k z
 |x,[],y,k,z=>Iff.rfl
 |x,a::l,y,k,z=>by
  show(f x=a/\chain f a (l++y::k) z)↔(f x=a/\chain f a l y)/\chain f y k z
  rw[cy,and_assoc]
theorem f9{f g:Nat->Nat}:∀{x y:Nat}{l:List Nat}{z:Nat},chain f x l z->g y=f x->(∀ t∈l,g t=f t)->chain g y l z
 |x,y,[],z,h,e,_=>e.trans h
 |x,y,a::l,z,h,e,k=>⟨e.trans h.1,f9 h.2 (k a (PH ..)) fun t ht=>k t (PD _ ht)⟩
theorem mD{f g F:Nat->Nat}:∀{x:Nat}{l:List Nat}{z:Nat},chain f x l z->(∀ t∈x::l,g (F t)=F (f t))->chain g (F x) (l.map F) (F z)
 |x,[],z,h,k=>by
  show g (F x)=F z
  rw[k x (PH ..),show f x=z from h]
 |x,a::l,z,h,k=>⟨by rw[k x (PH ..),h.1],mD h.2 fun t ht=>k t (PD _ ht)⟩
theorem rE{f:Nat->Nat}{S:Nat->Prop}:∀{x:Nat}{l:List Nat}{z:Nat},chain f x l z->(∀ t∈x::l,S t->S (f t))->S x->S z/\∀ t∈l,S t
 |x,[],z,h,k,s=>⟨by have:=k x (PH ..) s;rwa[show f x=z from h]at this,fun t ht=>nomatch ht⟩
 |x,a::l,z,h,k,s=>by
  have s1:S a:=by have:=k x (PH ..) s;rwa[h.1]at this
  obtain⟨h1,h2⟩:=rE h.2 (fun t ht=>k t (PD _ ht)) s1
  refine⟨h1,fun t ht=>?_⟩
  rcases Pw.mp ht with y | y
  ·rw[y];exact s1
  ·exact h2 t y
structure CR(f:Nat->Nat)(N:Nat)(r:List Nat):Prop where
 ch:∃ x l,r=x::l/\chain f x l x
 lt:∀ d∈r,d<N
 nd:r.Nodup
theorem CR.closed{f:Nat->Nat}{N:Nat}{r:List Nat}(h:CR f N r):∀ d∈r,f d∈r:=by
 obtain⟨x,l,rfl,c⟩:=h.ch
 intro d hd
 rcases Pw.mp hd with y | y
 ·subst y
  cases l with
  |nil=>rw[show f d=d from c];exact PH ..
  |cons a l=>rw[c.1];simp
 ·obtain⟨A,B,rfl⟩:=R9 y
  have c2:=(cy.mp c).2
  cases B with
  |nil=>rw[show f d=x from c2];exact PH ..
  |cons a B=>rw[c2.1];simp
theorem CR.sub{f:Nat->Nat}{N:Nat}{r:List Nat}{S:Nat->Prop}(h:CR f N r)(k:∀ t∈r,S t->S (f t)){d:Nat}(hd:d∈r)(s:S d):∀ t∈r,S t:=by
 obtain⟨x,l,rfl,c⟩:=h.ch
 have fromx:S x->∀ t∈x::l,S t:=fun sx t ht=>by
  rcases Pw.mp ht with y | y
  ·rw[y];exact sx
  ·exact(rE c k sx).2 t y
 rcases Pw.mp hd with y | y
 ·exact fromx (y▸s)
 ·obtain⟨A,B,rfl⟩:=R9 y
  have c2:=(cy.mp c).2
  exact fromx (rE c2 (fun t ht=>k t (by simp only[Pw,PM]at ht ⊢;rcases ht with z | z<;>simp[z])) s).1
theorem CR.same{f:Nat->Nat}{N:Nat}{r r':List Nat}(h:CR f N r)(h':CR f N r'){d:Nat}(h1:d∈r)(h2:d∈r'):∀ t∈r,t∈r':=h.sub (S:=fun t=>t∈r') (fun t _=>h'.closed t) h1 h2
theorem CR.ne{f:Nat->Nat}{N:Nat}{r:List Nat}(h:CR f N r):∃ d,d∈r:=by
 obtain⟨x,l,rfl,_⟩:=h.ch
 exact⟨x,PH ..⟩
structure Part(f:Nat->Nat)(N:Nat)(rs:List (List Nat)):Prop where
 cr:∀ r∈rs,CR f N r
 nd:rs.flatten.Nodup
 all:∀ d,d<N->d∈rs.flatten
theorem Part.pick{f:Nat->Nat}{N:Nat}{rs:List (List Nat)}(p:Part f N rs){r:List Nat}(h:CR f N r):∃ rest,Part f N (r::rest)/\rest.length+1=rs.length:=by
 obtain⟨d,hd⟩:=h.ne
 obtain⟨r0,m1,m2⟩:=Qo.mp (p.all d (h.lt d hd))
 have c0:=p.cr r0 m1
 have s1:=h.same c0 hd m2
 have s2:=c0.same h m2 hd
 obtain⟨A,B,rfl⟩:=R9 m1
 have nd:=p.nd
 rw[QO,P9]at nd
 obtain⟨n1,n2,n3⟩:=PZ.mp nd
 obtain⟨n4,n5,n6⟩:=PZ.mp n2
 refine⟨A++B,⟨fun q hq=>?_,?_,fun y hy=>?_⟩,by simp;omega⟩
 ·rcases Pw.mp hq with z | z
  ·rw[z];exact h
  ·refine p.cr q ?_
   rcases PM.mp z with z | z
   ·simp[z]
   ·simp[z]
 ·rw[P9,QO]
  refine PZ.mpr ⟨h.nd,PZ.mpr ⟨n1,n5,fun a ha b hb=>n3 a ha b (by simp[hb])⟩,fun a ha b hb=>?_⟩
  rcases PM.mp hb with z | z
  ·exact fun e=>n3 b z a (QC _ (s1 a ha)) e.symm
  ·exact n6 a (s1 a ha) b z
 ·have:=p.all y hy
  rw[QO,P9]at this
  rw[P9,QO]
  simp only[PM]at this ⊢
  rcases this with z | z | z
  ·exact .inr (.inl z)
  ·exact .inl (s2 y z)
  ·exact .inr (.inr z)
theorem Part.same:∀{rs qs:List (List Nat)}{f:Nat->Nat}{N:Nat},Part f N rs->Part f N qs->rs.length=qs.length:=by
 have le:∀(k:Nat){rs qs:List (List Nat)}{f:Nat->Nat}{N:Nat},Part f N rs->Part f N qs->rs.length<=qs.length:=by
  intro _ rs qs f N p q
  have g:∀ r∈rs,∃ i,i<qs.length/\∃ r',qs[i]?=some r'/\∀ t∈r',t∈r:=fun r hr=>by
   have c:=p.cr r hr
   obtain⟨d,hd⟩:=c.ne
   obtain⟨r',m1,m2⟩:=Qo.mp (q.all d (c.lt d hd))
   obtain⟨i,hi⟩:=Qz.mp m1
   exact⟨i,(Pp.mp hi).1,r',hi,(q.cr r' m1).same c m2 hd⟩
  have:∀(l:List (List Nat)),(∀ r∈l,r∈rs)->l.flatten.Nodup->∃ is:List Nat,is.length=l.length/\is.Nodup/\∀ i∈is,i<qs.length/\∃ r∈l,∃ r',qs[i]?=some r'/\∀ t∈r',t∈r:=fun l=>by
   induction l with
   |nil=>intro _ _;exact⟨[],rfl,Rk,fun i hi=>nomatch hi⟩
   |cons r l ih =>
    intro h nd
    rw[P9]at nd
    obtain⟨n1,n2,n3⟩:=PZ.mp nd
    obtain⟨is,e1,e2,e3⟩:=ih (fun r hr=>h r (PD _ hr)) n2
    obtain⟨i,h1,r',h2,h3⟩:=g r (h r (PH ..))
    refine⟨i::is,by simp[e1],PF.mpr ⟨fun z=>?_,e2⟩,fun j hj=>?_⟩
    ·obtain⟨_,r2,m2,r3,m3,m4⟩:=e3 i z
     rw[h2]at m3
     cases m3
     obtain⟨d,hd⟩:=(q.cr r' (Pr h2)).ne
     exact n3 d (h3 d hd) d (Qo.mpr ⟨r2,m2,m4 d hd⟩) rfl
    ·rcases Pw.mp hj with z | z
     ·subst z;exact⟨h1,r,PH ..,r',h2,h3⟩
     ·obtain⟨k1,r2,k2,k3⟩:=e3 j z
      exact⟨k1,r2,PD _ k2,k3⟩
  obtain⟨is,e1,e2,e3⟩:=this rs (fun _ h=>h) p.nd
  rw[← e1]
  exact fk e2 fun i hi=>(e3 i hi).1
 intro rs qs f N p q
 exact Nat.le_antisymm (le 0 p q) (le 0 q p)
theorem Ring.cr{f:Nat->Nat}{N:Nat}{r:List Nat}(h:Ring f N r):CR f N r:=by
 refine⟨?_,h.lt,h.nd⟩
 have ne:=h.ne
 match r,h,ne with
 |x::l,h,_ =>
  refine⟨x,l,rfl,?_⟩
  have key:∀(k i:Nat)(y:Nat),i+k+1=(x::l).length->(x::l)[i]?=some y->chain f y ((x::l).drop (i+1)) x:=fun k=>by
   induction k with
   |zero =>
    intro i y hi hy
    have e:=h.nx i y hy
    rw[show(i+1)%(x::l).length=0 by rw[← hi];simp]at e
    rw[List.drop_of_length_le (by omega)]
    exact(P5 e).symm
   |succ k ih =>
    intro i y hi hy
    have e:=h.nx i y hy
    rw[Q5 (by omega)]at e
    obtain⟨hl,e2⟩:=Pp.mp e
    rw[List.drop_eq_getElem_cons hl,e2]
    exact⟨rfl,ih (i+1) (f y) (by omega) e⟩
  exact key l.length 0 x (by simp) rfl
theorem cY.part{f:Nat->Nat}{N:Nat}{rs:List (List Nat)}(w:cY f N N rs):Part f N rs:=⟨fun r hr=>(w.ring r hr).cr,w.nd,w.all⟩
end K8
namespace K8
theorem zW{A B:List Nat}{t:Nat}(h:t∉A):(A++t::B).idxOf t=A.length:=by
 rw[List.idxOf_append,if_neg h,Sw,Nat.zero_add]
theorem bg{A B:List Nat}{t:Nat}(h:t∉A):nxt (A++t::B) t=((B++(A++t::B)).head?).getD 0:=by
 unfold nxt
 rw[zW h]
 cases B with
 |nil =>
  have e:(A.length+1)%(A++[t]).length=0:=by rw[Px,PY,Sm]
  rw[e,List.nil_append,List.head?_eq_getElem?]
 |cons b B =>
  have e:(A.length+1)%(A++t::b::B).length=A.length+1:=Q5 (by simp)
  rw[e,Pu (by omega)]
  rw[show A.length+1-A.length=1 by omega]
  rfl
theorem Jx{A B:List Nat}{u n:Nat}(h:u∉A):ins (A++u::B) ((A++u::B).idxOf u+1) n=A++u::n::B:=by
 rw[zW h]
 unfold ins
 have e1:(A++u::B).take (A.length+1)=A++[u]:=by
  rw[List.take_append,QK (by omega),show A.length+1-A.length=1 by omega]
  rfl
 have e2:(A++u::B).drop (A.length+1)=B:=by simp
 rw[e1,e2]
 simp
theorem gO{l:List Nat}{u:Nat}(h:u∈l):∃ A B,l=A++u::B/\u∉A:=by
 induction l with
 |nil=>exact nomatch h
 |cons a l ih =>
  by_cases z:a=u
  ·subst z;exact⟨[],l,rfl,QH⟩
  ·rcases Pw.mp h with y | y
   ·exact absurd y.symm z
   ·obtain⟨A,B,rfl,k⟩:=ih y
    exact⟨a::A,B,rfl,fun w=>by rcases Pw.mp w with w | w;exact z w.symm;exact k w⟩
theorem Oy{l:List Nat}{u n:Nat}(hu:u∈l)(hn:n∉l) :
  nxt (ins l (l.idxOf u+1) n) u=n/\nxt (ins l (l.idxOf u+1) n) n=nxt l u/\∀ t∈l,t≠u->nxt (ins l (l.idxOf u+1) n) t=nxt l t:=by
 obtain⟨A,B,rfl,k⟩:=gO hu
 rw[Jx k]
 have hnA:n∉A:=fun z=>hn (by simp[z])
 have hnu:n≠u:=fun z=>hn (by simp[z])
 refine⟨?_,?_,fun t ht htu=>?_⟩
 ·rw[bg k];rfl
 ·have e:A++u::n::B=(A++[u])++n::B:=by simp
  rw[e,bg (fun z=>by rcases PM.mp z with z | z;exact hnA z;exact hnu (by simpa using z)),bg k]
  cases B<;>cases A<;>rfl
 ·rcases PM.mp ht with z | z
  ·obtain⟨A1,A2,rfl,k2⟩:=gO z
   have e1:(A1++t::A2)++u::n::B=A1++t::(A2++u::n::B):=by simp
   have e2:(A1++t::A2)++u::B=A1++t::(A2++u::B):=by simp
   rw[e1,e2,bg k2,bg k2]
   cases A2<;>rfl
  ·have z':t∈B:=by
    rcases Pw.mp z with z | z
    ·exact absurd z htu
    ·exact z
   by_cases tA:t∈A
   ·obtain⟨A1,A2,rfl,k2⟩:=gO tA
    have e1:(A1++t::A2)++u::n::B=A1++t::(A2++u::n::B):=by simp
    have e2:(A1++t::A2)++u::B=A1++t::(A2++u::B):=by simp
    rw[e1,e2,bg k2,bg k2]
    cases A2<;>rfl
   ·obtain⟨B1,B2,rfl,k2⟩:=gO z'
    have tn:t≠n:=fun y=>hn (by rw[← y];simp)
    have e1:A++u::n::(B1++t::B2)=(A++u::n::B1)++t::B2:=by simp
    have e2:A++u::(B1++t::B2)=(A++u::B1)++t::B2:=by simp
    rw[e1,e2,bg (by simp[tA,htu,tn,k2]),bg (by simp[tA,htu,k2])]
    cases B2<;>cases A<;>rfl
theorem qK{es:En}{e:Nat×Nat}{t p:Nat}(h:t<es.length):leave (es++[e]) t p=leave es t p:=by
 unfold leave
 rw[Py h]
theorem qL{es:En}{e:Nat×Nat}{p:Nat}:leave (es++[e]) es.length p=if e.1=p then 2*es.length else 2*es.length+1:=by
 unfold leave
 rw[Pu (Pz _),P1]
 rfl
theorem uD{es:En}{e:Nat×Nat}{d:Nat}(h:d<2*es.length):hd (es++[e]) d=hd es d:=by
 unfold hd
 rw[Py (by omega)]
theorem hd_new{es:En}{e:Nat×Nat}:hd (es++[e]) (2*es.length)=e.2/\hd (es++[e]) (2*es.length+1)=e.1:=by
 have e1:2*es.length/2=es.length:=by omega
 have e2:(2*es.length+1)/2=es.length:=by omega
 constructor
 ·unfold hd
  rw[e1,Pu (Pz _),P1]
  show(if 2*es.length%2=0 then e.2 else e.1)=_
  rw[if_pos (by omega)]
 ·unfold hd
  rw[e2,Pu (Pz _),P1]
  show(if(2*es.length+1)%2=0 then e.2 else e.1)=_
  rw[if_neg (by omega)]
theorem hd_inj{m:Nat}{es:En}{ts:List (List Nat)}(w:bz m es ts){a b:Nat}(ha:a<2*es.length)(hb:b<2*es.length)(h:hd es a=hd es b)(h2:a/2=b/2):a=b:=by
 obtain⟨e1,_,r1,r2,_⟩:=w.at ha
 obtain⟨e2,_,s1,s2,_⟩:=w.at hb
 rw[h2,s1]at r1
 cases r1
 have hne:=(w.ends e1 (Pr s1)).2.2
 rw[r2,s2]at h
 by_cases z1:a%2=0<;>by_cases z2:b%2=0
 ·omega
 ·rw[if_pos z1,if_neg z2]at h;exact absurd h.symm hne
 ·rw[if_neg z1,if_pos z2]at h;exact absurd h hne
 ·omega
def bF(n:Nat)(e:Nat×Nat)(p:Nat):Nat:=if e.1=p then 2*n else 2*n+1
theorem fx{es:En}{ts:List (List Nat)}{d:Nat}{l:List Nat}(h:ts[hd es d]?=some l):fol es ts d=leave es (nxt l (d/2)) (hd es d):=by
 unfold fol
 rw[h]
 rfl
end K8
namespace K8
theorem bz.flip{m:Nat}{es:En}{ts:List (List Nat)}{a b:Nat}(w:bz m (es++[(a,b)]) ts):bz m (es++[(b,a)]) ts:=by
 have key:∀(x y:Nat)(t p:Nat),(∃ e,(es++[(x,y)])[t]?=some e/\(e.1=p∨e.2=p))->∃ e,(es++[(y,x)])[t]?=some e/\(e.1=p∨e.2=p):=fun x y t p=>by
  rintro⟨e,h1,h2⟩
  by_cases z:t<es.length
  ·rw[Py z]at h1
   exact⟨e,by rw[Py z];exact h1,h2⟩
  ·have hl:=(Pp.mp h1).1
   rw[Px,PY]at hl
   have z':t=es.length:=by omega
   subst z'
   rw[Pu (Pz _),P1]at h1
   cases h1
   exact⟨(y,x),by rw[Pu (Pz _),P1];rfl,h2.symm⟩
 refine⟨w.len,fun e he=>?_,w.nd,fun p l h t=>⟨fun z=>key a b t p ((w.mem p l h t).mp z),fun z=>(w.mem p l h t).mpr (key b a t p z)⟩⟩
 rcases PM.mp he with z | z
 ·exact w.ends e (QC _ z)
 ·have:e=(b,a):=by simpa using z
  subst this
  obtain⟨h1,h2,h3⟩:=w.ends (a,b) (by simp)
  exact⟨h2,h1,fun y=>h3 y.symm⟩
theorem bz.room{m:Nat}{es:En}{ts:List (List Nat)}(w:bz m es ts):bz (m+1) es (ts++[[]]):=by
 refine⟨by rw[Px,w.len];rfl,fun e he=>?_,fun p l h=>?_,fun p l h t=>?_⟩
 ·obtain⟨h1,h2,h3⟩:=w.ends e he
  exact⟨by omega,by omega,h3⟩
 all_goals by_cases z:p<ts.length
 ·rw[Py z]at h
  exact w.nd p l h
 ·have hl:=(Pp.mp h).1
  rw[Px,PY]at hl
  have z':p=ts.length:=by omega
  subst z'
  rw[Pu (Pz _),P1]at h
  cases h
  exact Rk
 ·rw[Py z]at h
  exact w.mem p l h t
 ·have hl:=(Pp.mp h).1
  rw[Px,PY]at hl
  have z':p=ts.length:=by omega
  subst z'
  rw[Pu (Pz _),P1]at h
  cases h
  refine⟨(fun y=>nomatch y),?_⟩
  rintro⟨e,h1,h2⟩
  obtain⟨k1,k2,_⟩:=w.ends e (Pr h1)
  have:=w.len
  omega
theorem OS{m:Nat}{es:En}{ts:List (List Nat)}(w:bz m es ts){p:Nat}{l:List Nat}(h:ts[p]?=some l):es.length∉l:=fun z=>by
 obtain⟨x,hx,_⟩:=(w.mem p l h es.length).mp z
 have:=(Pp.mp hx).1
 omega
theorem nC{m:Nat}{es:En}{ts ts':List (List Nat)}{e:Nat×Nat}{p u:Nat}{l:List Nat}(w:bz m es ts)(hl:ts[p]?=some l)(hu:u<2*es.length)(hp:hd es u=p)(hl':ts'[p]?=some (ins l (l.idxOf (u/2)+1) es.length)) :
  fol (es++[e]) ts' u=bF es.length e p/\(∀ b,b/2=es.length->hd (es++[e]) b=p->fol (es++[e]) ts' b=fol es ts u)/\∀ d,d<2*es.length->d≠u->hd es d=p->fol (es++[e]) ts' d=fol es ts d:=by
 obtain⟨_,l0,_,_,_,_,g5,g6⟩:=w.at hu
 rw[hp,hl]at g5
 cases g5
 have nn:=OS w hl
 obtain⟨n1,n2,n3⟩:=Oy g6 nn
 have lt:∀ t∈l,nxt l t<es.length:=fun t ht=>by
  obtain⟨x,hx,_⟩:=(w.mem p l hl (nxt l t)).mp (Pr (iT ht))
  exact(Pp.mp hx).1
 refine⟨?_,fun b hb hpb=>?_,fun d hd' hne hpd=>?_⟩
 ·rw[fx (l:=ins l (l.idxOf (u/2)+1) es.length) (by rw[uD hu,hp];exact hl'),n1,uD hu,hp,qL]
  rfl
 ·rw[fx (l:=ins l (l.idxOf (u/2)+1) es.length) (by rw[hpb];exact hl'),hb,n2,hpb,qK (lt _ g6),fx (l:=l) (by rw[hp];exact hl),hp]
 ·obtain⟨_,l0,_,_,_,_,k5,k6⟩:=w.at hd'
  rw[hpd,hl]at k5
  cases k5
  have tne:d/2≠u/2:=fun z=>hne (hd_inj w hd' hu (hpd.trans hp.symm) z)
  rw[fx (l:=ins l (l.idxOf (u/2)+1) es.length) (by rw[uD hd',hpd];exact hl'),n3 _ k6 tne,uD hd',hpd,qK (lt _ k6),fx (l:=l) (by rw[hpd];exact hl),hpd]
theorem pR{m:Nat}{es:En}{ts ts':List (List Nat)}{e:Nat×Nat}(w:bz m es ts){d:Nat}(hd':d<2*es.length)(h:ts'[hd es d]?=ts[hd es d]?):fol (es++[e]) ts' d=fol es ts d:=by
 obtain⟨_,l,_,_,_,_,k5,k6⟩:=w.at hd'
 have lt:nxt l (d/2)<es.length:=by
  obtain⟨x,hx,_⟩:=(w.mem _ l k5 (nxt l (d/2))).mp (Pr (iT k6))
  exact(Pp.mp hx).1
 rw[fx (l:=l) (by rw[uD hd',h];exact k5),uD hd',qK lt,fx k5]
theorem aV(n:Nat)(e:Nat×Nat)(p:Nat):bF n e p/2=n:=by
 unfold bF
 split<;>omega
theorem pX{es:En}{one two:Nat}{e:Nat×Nat}(hne:one≠two)(he:e=(one,two)∨e=(two,one)):hd (es++[e]) (bF es.length e one)=two/\hd (es++[e]) (bF es.length e two)=one/\bF es.length e one≠bF es.length e two/\∀ d,d<2*(es.length+1)->d<2*es.length∨d=bF es.length e one∨d=bF es.length e two:=by
 obtain⟨h1,h2⟩:=hd_new (es:=es) (e:=e)
 unfold bF
 rcases he with he | he
 ·have c1:e.1=one:=by rw[he]
  have c2:¬ e.1=two:=by rw[he];exact hne
  have c3:e.2=two:=by rw[he]
  rw[if_pos c1,if_neg c2,h1,h2]
  exact⟨c3,c1,by omega,fun d hd=>by omega⟩
 ·have c1:e.1=two:=by rw[he]
  have c2:¬ e.1=one:=by rw[he];exact fun z=>hne z.symm
  have c3:e.2=one:=by rw[he]
  rw[if_pos c1,if_neg c2,h1,h2]
  exact⟨c1,c3,by omega,fun d hd=>by omega⟩
def par(S:Nat->Bool):List Nat->Bool
 |[]=>false
 |d::l=>S (d/2) ^^ par S l
theorem aK(S:Nat->Bool)(d:Nat)(l:List Nat):par S (d::l)=(S (d/2) ^^ par S l):=rfl
theorem vZ(S:Nat->Bool):∀ a b:List Nat,par S (a++b)=(par S a ^^ par S b)
 |[],b=>by show par S b=(false ^^ par S b);rw[Ru]
 |x::a,b=>by rw[Rf,aK,aK,vZ S a b,S4]
theorem vY(S:Nat->Bool){a b:List Nat}(p:a.Perm b):par S a=par S b:=by
 induction p with
 |nil=>rfl
 |cons x _ ih=>rw[aK,aK,ih]
 |swap x y l=>rw[aK,aK,aK,aK,← S4,← S4,SH (S (y/2))]
 |trans _ _ a b=>exact a.trans b
theorem IA(S:Nat->Bool)(σ:Nat->Nat):∀ l:List Nat,par S (l.map fun d=>2*σ (d/2)+d%2)=par (fun t=>S (σ t)) l
 |[]=>rfl
 |d::l=>by
  rw[P7,aK,aK,IA S σ l,show(2*σ (d/2)+d%2)/2=σ (d/2) by omega]
def Ez(es:En)(S Pl:Nat->Bool):Prop:=∀(t:Nat)(e:Nat×Nat),es[t]?=some e->S t=(Pl e.1 ^^ Pl e.2)
theorem E4{es:En}{S Pl:Nat->Bool}(h:Ez es S Pl){d:Nat}(hd':d<2*es.length):S (d/2)=(Pl (tl es d) ^^ Pl (hd es d)):=by
 have e1:es[d/2]?=some (es[d/2]'(by omega)):=Pq _
 rw[h _ _ e1]
 unfold tl hd
 rw[e1]
 show _=(Pl (if d%2=0 then es[d/2].1 else es[d/2].2) ^^ Pl (if d%2=0 then es[d/2].2 else es[d/2].1))
 split
 ·rfl
 ·exact SH _ _
theorem xG{m:Nat}{es:En}{ts:List (List Nat)}{S Pl:Nat->Bool}(w:bz m es ts)(h:Ez es S Pl):∀{x:Nat}{l:List Nat}{z:Nat},chain (fol es ts) x l z->x<2*es.length->(∀ t∈l,t<2*es.length)->z<2*es.length->par S (l++[z])=(Pl (hd es x) ^^ Pl (hd es z))
 |x,[],z,c,hx,_,hz=>by
  obtain⟨_,_,_,_,_,_,_,_,_,_,k⟩:=w.foll hx
  have c':fol es ts x=z:=c
  rw[List.nil_append,aK,E4 h hz,← c',k]
  exact RQ _
 |x,a::l,z,c,hx,hl,hz=>by
  obtain⟨_,_,_,_,_,_,_,_,_,_,k⟩:=w.foll hx
  have ha:=hl a (PH ..)
  rw[Rf,aK,xG w h c.2 ha (fun t ht=>hl t (PD _ ht)) hz,E4 h ha,← c.1,k]
  cases Pl (hd es x)<;>cases Pl (hd es (fol es ts x))<;>cases Pl (hd es z)<;>rfl
structure Gr(m:Nat)(es:En)(ts:List (List Nat)):Prop where
 w:bz m es ts
 part:∃ rs,Part (fol es ts) (2*es.length) rs/\m+rs.length=es.length+2
 conn:∀ S:Nat->Prop,(∀ e∈es,S e.1↔S e.2)->∀ p q,p<m->q<m->S p->S q
 cut:∀ S:Nat->Bool,(∀ r,CR (fol es ts) (2*es.length) r->par S r=false)->∃ Pl:Nat->Bool,Ez es S Pl
theorem CR.mono{f g:Nat->Nat}{N M:Nat}{r:List Nat}(h:CR f N r)(hN:N<=M)(k:∀ t∈r,g t=f t):CR g M r:=by
 obtain⟨x,l,rfl,c⟩:=h.ch
 exact⟨⟨x,l,rfl,f9 c (k x (PH ..)) fun t ht=>k t (PD _ ht)⟩,fun d hd=>Qd (h.lt d hd) hN,h.nd⟩
theorem Mz{m:Nat}{es:En}{e:Nat×Nat}(c:∀ S:Nat->Prop,(∀ e∈es,S e.1↔S e.2)->∀ p q,p<m->q<m->S p->S q):∀ S:Nat->Prop,(∀ x∈es++[e],S x.1↔S x.2)->∀ p q,p<m->q<m->S p->S q :=
 fun S h=>c S fun x hx=>h x (QC _ hx)
theorem Gr.join{m:Nat}{es:En}{ts:List (List Nat)}(g:Gr m es ts){left right one two:Nat}{e:Nat×Nat}{l l' tail:List Nat}(hl:left<2*es.length)(hr:CR (fol es ts) (2*es.length) (left::tail))(hch:chain (fol es ts) left tail left)(hm:right∈left::tail)
  (h1:hd es left=one) (h2:hd es right=two) (hne:one≠two) (he:e=(one,two)∨e=(two,one)) (e1:ts[one]?=some l) (e2:ts[two]?=some l') :
  Gr m (es++[e]) ((ts.set one (ins l (l.idxOf (left/2)+1) es.length)).set two (ins l' (l'.idxOf (right/2)+1) es.length)):=by
 have w:=g.w
 have hrt:right<2*es.length:=hr.lt right hm
 have hlen:=w.len
 have o1:one<m:=by rw[← hlen];exact(Pp.mp e1).1
 have o2:two<m:=by rw[← hlen];exact(Pp.mp e2).1
 have W:bz m (es++[e]) ((ts.set one (ins l (l.idxOf (left/2)+1) es.length)).set two (ins l' (l'.idxOf (right/2)+1) es.length)):=by
  rcases he with rfl | rfl
  ·exact w.put o1 o2 hne e1 e2
  ·exact(w.put o1 o2 hne e1 e2).flip
 have r1:((ts.set one (ins l (l.idxOf (left/2)+1) es.length)).set two (ins l' (l'.idxOf (right/2)+1) es.length))[one]?=some (ins l (l.idxOf (left/2)+1) es.length):=by
  rw[Qh,if_neg (fun z=>hne z.symm),Qh,if_pos rfl,if_pos (by rw[hlen];exact o1)]
 have r2:((ts.set one (ins l (l.idxOf (left/2)+1) es.length)).set two (ins l' (l'.idxOf (right/2)+1) es.length))[two]?=some (ins l' (l'.idxOf (right/2)+1) es.length):=by
  rw[Qh,if_pos rfl,if_pos (by rw[Qa,hlen];exact o2)]
 have r3:∀ p,p≠one->p≠two->((ts.set one (ins l (l.idxOf (left/2)+1) es.length)).set two (ins l' (l'.idxOf (right/2)+1) es.length))[p]?=ts[p]?:=fun p n1 n2=>by
  rw[Qh,if_neg (fun z=>n2 z.symm),Qh,if_neg (fun z=>n1 z.symm)]
 generalize (ts.set one (ins l (l.idxOf (left/2)+1) es.length)).set two (ins l' (l'.idxOf (right/2)+1) es.length)=ts' at W r1 r2 r3
 obtain⟨a1,a2,a3⟩:=nC (e:=e) w e1 hl h1 r1
 obtain⟨b1,b2,b3⟩:=nC (e:=e) w e2 hrt h2 r2
 obtain⟨d1,d2,d3,d4⟩:=pX (es:=es) hne he
 have fa:=b2 _ (aV _ _ _) d1
 have fb:=a2 _ (aV _ _ _) d2
 have els:∀ d,d<2*es.length->d≠left->d≠right->fol (es++[e]) ts' d=fol es ts d:=fun d hd' n1 n2=>by
  by_cases z1:hd es d=one
  ·exact a3 d hd' n1 z1
  ·by_cases z2:hd es d=two
   ·exact b3 d hd' n2 z2
   ·exact pR w hd' (r3 _ z1 z2)
 generalize ha:bF es.length e one=α at *
 generalize hb:bF es.length e two=β at *
 have hα:α/2=es.length:=by rw[← ha];exact aV _ _ _
 have hβ:β/2=es.length:=by rw[← hb];exact aV _ _ _
 have hlr:right≠left:=fun z=>hne (by rw[← h1,← h2,z])
 have hm':right∈tail:=by
  rcases Pw.mp hm with z | z
  ·exact absurd z hlr
  ·exact z
 obtain⟨xs,ys,rfl⟩:=R9 hm'
 obtain⟨c1,c2⟩:=cy.mp hch
 have nd:=hr.nd
 have ltx:∀ t∈xs,t<2*es.length/\t≠left/\t≠right:=fun t ht=>by
  refine⟨hr.lt t (by simp[ht]),fun z=>?_,fun z=>?_⟩
  ·subst z;exact(PF.mp nd).1 (by simp[ht])
  ·subst z
   have:=(PZ.mp (PF.mp nd).2).2.2 t ht t (by simp)
   exact this rfl
 have lty:∀ t∈ys,t<2*es.length/\t≠left/\t≠right:=fun t ht=>by
  refine⟨hr.lt t (by simp[ht]),fun z=>?_,fun z=>?_⟩
  ·subst z;exact(PF.mp nd).1 (by simp[ht])
  ·subst z
   exact(PF.mp (PZ.mp (PF.mp nd).2).2.1).1 ht
 obtain⟨rs,p,cnt⟩:=g.part
 obtain⟨rest,pr,cnt2⟩:=p.pick hr
 have ndr:=pr.nd
 rw[P9]at ndr
 obtain⟨_,nd2,nd3⟩:=PZ.mp ndr
 have ltr:∀ t∈rest.flatten,t<2*es.length/\t≠left/\t≠right:=fun t ht=>by
  obtain⟨q,q1,q2⟩:=Qo.mp ht
  exact⟨(pr.cr q (PD _ q1)).lt t q2,fun z=>nd3 left (by simp) t ht z.symm,fun z=>nd3 right (by simp) t ht z.symm⟩
 have hlen2:(es++[e]).length=es.length+1:=by rw[Px];rfl
 have PP:Part (fol (es++[e]) ts') (2*(es++[e]).length) ((left::α::ys)::(right::β::xs)::rest):=by
  refine⟨fun q hq=>?_,?_,fun d hd'=>?_⟩
  ·rcases Pw.mp hq with z | z
   ·subst z
    refine⟨⟨left,α::ys,rfl,a1,f9 c2 fa fun t ht=>els t (lty t ht).1 (lty t ht).2.1 (lty t ht).2.2⟩,fun d hd'=>?_,?_⟩
    ·rw[hlen2]
     simp only[Pw]at hd'
     rcases hd' with y | y | y
     ·omega
     ·omega
     ·have:=(lty d y).1;omega
    ·refine PF.mpr ⟨fun y=>?_,PF.mpr ⟨fun y=>?_,?_⟩⟩
     ·rcases Pw.mp y with y | y
      ·omega
      ·exact(lty _ y).2.1 rfl
     ·have:=(lty _ y).1;omega
     ·exact(PF.mp (PZ.mp (PF.mp nd).2).2.1).2
   ·rcases Pw.mp z with z | z
    ·subst z
     refine⟨⟨right,β::xs,rfl,b1,f9 c1 fb fun t ht=>els t (ltx t ht).1 (ltx t ht).2.1 (ltx t ht).2.2⟩,fun d hd'=>?_,?_⟩
     ·rw[hlen2]
      simp only[Pw]at hd'
      rcases hd' with y | y | y
      ·omega
      ·omega
      ·have:=(ltx d y).1;omega
     ·refine PF.mpr ⟨fun y=>?_,PF.mpr ⟨fun y=>?_,?_⟩⟩
      ·rcases Pw.mp y with y | y
       ·omega
       ·exact(ltx _ y).2.2 rfl
      ·have:=(ltx _ y).1;omega
      ·exact(PZ.mp (PF.mp nd).2).1
    ·refine(pr.cr q (PD _ z)).mono (by rw[hlen2];omega) fun t ht=>?_
     obtain⟨k1,k2,k3⟩:=ltr t (Qo.mpr ⟨q,z,ht⟩)
     exact els t k1 k2 k3
  ·have dis:∀ x∈xs,∀ y∈ys,x≠y:=fun x hx y hy=>(PZ.mp (PF.mp nd).2).2.2 x hx y (by simp[hy])
   rw[P9,P9]
   refine PZ.mpr ⟨?_,PZ.mpr ⟨?_,nd2,fun a ha b hb=>?_⟩,fun a ha b hb=>?_⟩
   ·refine PF.mpr ⟨fun y=>?_,PF.mpr ⟨fun y=>?_,(PF.mp (PZ.mp (PF.mp nd).2).2.1).2⟩⟩
    ·rcases Pw.mp y with y | y
     ·omega
     ·exact(lty _ y).2.1 rfl
    ·have:=(lty _ y).1;omega
   ·refine PF.mpr ⟨fun y=>?_,PF.mpr ⟨fun y=>?_,(PZ.mp (PF.mp nd).2).1⟩⟩
    ·rcases Pw.mp y with y | y
     ·omega
     ·exact(ltx _ y).2.2 rfl
    ·have:=(ltx _ y).1;omega
   ·obtain⟨k1,k2,k3⟩:=ltr b hb
    simp only[Pw]at ha
    rcases ha with y | y | y
    ·exact fun z=>k3 (z▸y)
    ·omega
    ·exact nd3 a (by simp[y]) b hb
   ·simp only[Pw,PM]at ha hb
    rcases hb with(y | y | y) | y
    ·rcases ha with z | z | z
     ·exact fun u=>hlr (by rw[← y,← u,z])
     ·have:=hrt;omega
     ·exact fun u=>(lty a z).2.2 (u.trans y)
    ·rcases ha with z | z | z
     ·omega
     ·omega
     ·have:=(lty a z).1;omega
    ·rcases ha with z | z | z
     ·exact fun u=>(ltx b y).2.1 (u▸z)
     ·have:=(ltx b y).1;omega
     ·exact fun u=>dis b y a z u.symm
    ·obtain⟨k1,k2,k3⟩:=ltr b y
     rcases ha with z | z | z
     ·exact fun u=>k2 (u▸z)
     ·omega
     ·exact nd3 a (by simp[z]) b y
  ·rw[hlen2]at hd'
   simp only[P9,PM,Pw]
   rcases d4 d hd' with y | y | y
   ·have:=pr.all d y
    simp only[P9,PM,Pw]at this
    rcases this with(z | z | z | z) | z
    ·exact .inl (.inl z)
    ·exact .inr (.inl (.inr (.inr z)))
    ·exact .inr (.inl (.inl z))
    ·exact .inl (.inr (.inr z))
    ·exact .inr (.inr z)
   ·exact .inl (.inr (.inl y))
   ·exact .inr (.inl (.inr (.inl y)))
 refine⟨W,⟨_,PP,by rw[hlen2];simp only[Qc]at cnt2 ⊢;omega⟩,Mz g.conn,fun S ev=>?_⟩
 have e1:=ev _ (PP.cr _ (PH ..))
 have e2:=ev _ (PP.cr _ (PD _ (PH ..)))
 rw[aK,aK,hα]at e1
 rw[aK,aK,hβ]at e2
 have lr:left∈left::(xs++right::ys):=PH ..
 have rr:right∈left::(xs++right::ys):=by simp
 have old:∀ r,CR (fol es ts) (2*es.length) r->par S r=false:=fun r hr'=>by
  by_cases hin:left∈r
  ·have pm:r.Perm (left::(xs++right::ys)):=(QM hr'.nd hr.nd).mpr fun t=>⟨hr'.same hr hin lr t,hr.same hr' lr hin t⟩
   rw[vY S pm,aK,vZ,aK]
   revert e1 e2
   generalize S (left/2)=a
   generalize S (right/2)=b
   generalize S es.length=c
   generalize par S xs=d
   generalize par S ys=f
   cases a<;>cases b<;>cases c<;>cases d<;>cases f<;>decide
  ·refine ev r (hr'.mono (by rw[hlen2];omega) fun t ht=>els t (hr'.lt t ht) (fun z=>hin (z▸ht)) fun z=>hin (hr.same hr' rr (z▸ht) left lr))
 obtain⟨Pl,hP⟩:=g.cut S old
 refine⟨Pl,fun t x hx=>?_⟩
 by_cases ht:t<es.length
 ·rw[Py ht]at hx
  exact hP t x hx
 ·have ht2:t=es.length:=by
   have:=(Pp.mp hx).1
   rw[hlen2]at this
   omega
  subst ht2
  rw[Pu (Pz _),P1]at hx
  have hx':e=x:=P5 hx
  subst hx'
  have tw:=xG w hP c1 hl (fun t ht=>(ltx t ht).1) hrt
  rw[h1,h2,vZ,aK]at tw
  have goal:S es.length=(Pl one ^^ Pl two):=by
   rw[← tw]
   revert e2
   show _->S es.length=(par S xs ^^ (S (right/2) ^^ false))
   generalize S (right/2)=b
   generalize S es.length=c
   generalize par S xs=d
   cases b<;>cases c<;>cases d<;>decide
  rcases he with z | z
  ·rw[z];exact goal
  ·rw[z];exact goal.trans (SH _ _)
end K8
namespace K8
theorem Gr.leaf{m:Nat}{es:En}{ts:List (List Nat)}(g:Gr m es ts){left one:Nat}{e:Nat×Nat}{l tail:List Nat}(hl:left<2*es.length)(hr:CR (fol es ts) (2*es.length) (left::tail))(hch:chain (fol es ts) left tail left)
  (h1:hd es left=one) (he:e=(one,m)∨e=(m,one)) (e1:ts[one]?=some l) :
  Gr (m+1) (es++[e]) (ts.set one (ins l (l.idxOf (left/2)+1) es.length)++[[es.length]]):=by
 have w:=g.w
 have hlen:=w.len
 have o1:one<m:=by rw[← hlen];exact(Pp.mp e1).1
 have hne:one≠m:=by omega
 have W:bz (m+1) (es++[e]) (ts.set one (ins l (l.idxOf (left/2)+1) es.length)++[[es.length]]):=by
  have q:=w.room.put (one:=one) (two:=m) (k:=l.idxOf (left/2)+1) (j:=0) (l:=l) (l':=[]) (by omega) (by omega) hne (by rw[Py (by omega)];exact e1) (by rw[Pu (by omega),hlen,P1];rfl)
  have q2:((ts++[[]]).set one (ins l (l.idxOf (left/2)+1) es.length)).set m (ins [] 0 es.length)=ts.set one (ins l (l.idxOf (left/2)+1) es.length)++[[es.length]]:=by
   rw[Sv _ _ (by omega),List.set_append_right _ _ (by rw[Qa];omega),Qa,hlen,P1]
   rfl
  rw[q2]at q
  rcases he with rfl | rfl
  ·exact q
  ·exact q.flip
 have r1:(ts.set one (ins l (l.idxOf (left/2)+1) es.length)++[[es.length]])[one]?=some (ins l (l.idxOf (left/2)+1) es.length):=by
  rw[Py (by rw[Qa];omega),Qh,if_pos rfl,if_pos (by omega)]
 have r2:(ts.set one (ins l (l.idxOf (left/2)+1) es.length)++[[es.length]])[m]?=some [es.length]:=by
  rw[Pu (by rw[Qa];omega),Qa,hlen,P1]
  rfl
 have r3:∀ p,p≠one->p<m->(ts.set one (ins l (l.idxOf (left/2)+1) es.length)++[[es.length]])[p]?=ts[p]?:=fun p n1 n2=>by
  rw[Py (by rw[Qa];omega),Qh,if_neg (fun z=>n1 z.symm)]
 generalize ts.set one (ins l (l.idxOf (left/2)+1) es.length)++[[es.length]]=ts' at W r1 r2 r3
 obtain⟨a1,a2,a3⟩:=nC (e:=e) w e1 hl h1 r1
 obtain⟨d1,d2,d3,d4⟩:=pX (es:=es) hne he
 have fb:=a2 _ (aV _ _ _) d2
 have fa:fol (es++[e]) ts' (bF es.length e one)=bF es.length e m:=by
  rw[fx (l:=[es.length]) (by rw[d1];exact r2),aV,d1]
  have:nxt [es.length] es.length=es.length:=by
   unfold nxt
   rw[Sw]
   simp
  rw[this,qL]
  rfl
 have els:∀ d,d<2*es.length->d≠left->fol (es++[e]) ts' d=fol es ts d:=fun d hd' n1=>by
  by_cases z1:hd es d=one
  ·exact a3 d hd' n1 z1
  ·obtain⟨_,_,_,_,_,k4,_⟩:=w.at hd'
   exact pR w hd' (r3 _ z1 k4)
 generalize ha:bF es.length e one=α at *
 generalize hb:bF es.length e m=β at *
 have hα:α/2=es.length:=by rw[← ha];exact aV _ _ _
 have hβ:β/2=es.length:=by rw[← hb];exact aV _ _ _
 have nd:=hr.nd
 have ltt:∀ t∈tail,t<2*es.length/\t≠left:=fun t ht=>⟨hr.lt t (by simp[ht]),fun z=>(PF.mp nd).1 (z▸ht)⟩
 obtain⟨rs,p,cnt⟩:=g.part
 obtain⟨rest,pr,cnt2⟩:=p.pick hr
 have ndr:=pr.nd
 rw[P9]at ndr
 obtain⟨_,nd2,nd3⟩:=PZ.mp ndr
 have ltr:∀ t∈rest.flatten,t<2*es.length/\t≠left:=fun t ht=>by
  obtain⟨q,q1,q2⟩:=Qo.mp ht
  exact⟨(pr.cr q (PD _ q1)).lt t q2,fun z=>nd3 left (by simp) t ht z.symm⟩
 have hlen2:(es++[e]).length=es.length+1:=by rw[Px];rfl
 have nd4:(left::α::β::tail).Nodup:=by
  refine PF.mpr ⟨fun y=>?_,PF.mpr ⟨fun y=>?_,PF.mpr ⟨fun y=>?_,(PF.mp nd).2⟩⟩⟩
  ·simp only[Pw]at y
   rcases y with y | y | y
   ·omega
   ·omega
   ·exact(ltt _ y).2 rfl
  ·simp only[Pw]at y
   rcases y with y | y
   ·exact d3 y
   ·have:=(ltt _ y).1;omega
  ·have:=(ltt _ y).1;omega
 have PP:Part (fol (es++[e]) ts') (2*(es++[e]).length) ((left::α::β::tail)::rest):=by
  refine⟨fun q hq=>?_,?_,fun d hd'=>?_⟩
  ·rcases Pw.mp hq with z | z
   ·subst z
    refine⟨⟨left,α::β::tail,rfl,a1,fa,f9 hch fb fun t ht=>els t (ltt t ht).1 (ltt t ht).2⟩,fun d hd'=>?_,nd4⟩
    rw[hlen2]
    simp only[Pw]at hd'
    rcases hd' with y | y | y | y
    ·omega
    ·omega
    ·omega
    ·have:=(ltt d y).1;omega
   ·refine(pr.cr q (PD _ z)).mono (by rw[hlen2];omega) fun t ht=>?_
    obtain⟨k1,k2⟩:=ltr t (Qo.mpr ⟨q,z,ht⟩)
    exact els t k1 k2
  ·rw[P9]
   refine PZ.mpr ⟨nd4,nd2,fun a ha b hb=>?_⟩
   obtain⟨k1,k2⟩:=ltr b hb
   simp only[Pw]at ha
   rcases ha with y | y | y | y
   ·exact fun u=>k2 (u▸y)
   ·omega
   ·omega
   ·exact nd3 a (by simp[y]) b hb
  ·rw[hlen2]at hd'
   simp only[P9,PM,Pw]
   rcases d4 d hd' with y | y | y
   ·have:=pr.all d y
    simp only[P9,PM,Pw]at this
    rcases this with(z | z) | z
    ·exact .inl (.inl z)
    ·exact .inl (.inr (.inr (.inr z)))
    ·exact .inr z
   ·exact .inl (.inr (.inl y))
   ·exact .inl (.inr (.inr (.inl y)))
 refine⟨W,⟨_,PP,by rw[hlen2];simp only[Qc]at cnt2 ⊢;omega⟩,fun S hS x y hx hy sx=>?_,fun S ev=>?_⟩
 ·-- in one piece
  have hSe:S one↔S m:=by
   have:=hS e (by simp)
   rcases he with rfl | rfl
   ·exact this
   ·exact this.symm
  have old:=g.conn S fun x hx=>hS x (QC _ hx)
  have toOne:S one:=by
   by_cases z:x<m
   ·exact old x one z o1 sx
   ·have:x=m:=by omega
    subst this
    exact hSe.mpr sx
  by_cases z:y<m
  ·exact old one y o1 z toOne
  ·have:y=m:=by omega
   subst this
   exact hSe.mp toOne
 ·have e1:=ev _ (PP.cr _ (PH ..))
  rw[aK,aK,aK,hα,hβ]at e1
  have old:∀ r,CR (fol es ts) (2*es.length) r->par S r=false:=fun r hr'=>by
   by_cases hin:left∈r
   ·have pm:r.Perm (left::tail):=(QM hr'.nd hr.nd).mpr fun t=>⟨hr'.same hr hin (PH ..) t,hr.same hr' (PH ..) hin t⟩
    rw[vY S pm,aK]
    revert e1
    generalize S (left/2)=a
    generalize S es.length=c
    generalize par S tail=d
    cases a<;>cases c<;>cases d<;>decide
   ·exact ev r (hr'.mono (by rw[hlen2];omega) fun t ht=>els t (hr'.lt t ht) fun z=>hin (z▸ht))
  obtain⟨Pl,hP⟩:=g.cut S old
  refine⟨fun p=>if p=m then(Pl one ^^ S es.length) else Pl p,fun t x hx=>?_⟩
  by_cases ht:t<es.length
  ·rw[Py ht]at hx
   obtain⟨b1,b2,_⟩:=w.ends x (Pr hx)
   show S t=((if x.1=m then _ else Pl x.1) ^^ (if x.2=m then _ else Pl x.2))
   rw[if_neg (by omega),if_neg (by omega)]
   exact hP t x hx
  ·have ht2:t=es.length:=by
    have:=(Pp.mp hx).1
    rw[hlen2]at this
    omega
   subst ht2
   rw[Pu (Pz _),P1]at hx
   have hx':e=x:=P5 hx
   subst hx'
   rcases he with z | z
   ·rw[z]
    show S es.length=((if one=m then _ else Pl one) ^^ (if m=m then(Pl one ^^ S es.length) else _))
    rw[if_neg hne,if_pos rfl]
    cases Pl one<;>cases S es.length<;>rfl
   ·rw[z]
    show S es.length=((if m=m then(Pl one ^^ S es.length) else _) ^^ (if one=m then _ else Pl one))
    rw[if_neg hne,if_pos rfl]
    cases Pl one<;>cases S es.length<;>rfl
theorem gr_two:Gr 2 [(0,1)] [[0],[0]]:=by
 have W:bz 2 [(0,1)] [[0],[0]]:=by
  refine⟨rfl,fun e he=>?_,fun p l h=>?_,fun p l h t=>?_⟩
  ·have:e=(0,1):=by simpa using he
   subst this
   exact⟨by decide,by decide,by decide⟩
  ·match p,h with
   |0,h=>cases h;decide
   |1,h=>cases h;decide
   |p+2,h=>cases h
  ·have key:(∃ e,([(0,1)]:En)[t]?=some e/\(e.1=p∨e.2=p))↔t=0/\(p=0∨p=1):=by
    constructor
    ·rintro⟨e,h1,h2⟩
     match t,h1 with
     |0,h1=>cases h1;exact⟨rfl,h2.imp Eq.symm Eq.symm⟩
     |t+1,h1=>cases h1
    ·rintro⟨rfl,h2⟩
     exact⟨(0,1),rfl,h2.imp Eq.symm Eq.symm⟩
   rw[key]
   match p,h with
   |0,h=>cases h;simp
   |1,h=>cases h;simp
   |p+2,h=>cases h
 refine⟨W,⟨[[0,1]],⟨fun r hr=>?_,by decide,fun d hd=>?_⟩,rfl⟩,fun S hS p q hp hq sp=>?_,fun S ev=>?_⟩
 ·have:r = [0,1]:=by simpa using hr
  subst this
  exact⟨⟨0,[1],rfl,by decide,(by show fol [(0,1)] [[0],[0]] 1=0;decide)⟩,fun d hd=>by simp at hd ⊢;omega,by decide⟩
 ·have hd2:d<2:=hd
  simp
  omega
 ·have:=hS (0,1) (by simp)
  have h01:S 0↔S 1:=this
  have hp':p=0∨p=1:=by omega
  have hq':q=0∨q=1:=by omega
  rcases hp' with rfl | rfl<;>rcases hq' with rfl | rfl
  ·exact sp
  ·exact h01.mp sp
  ·exact h01.mpr sp
  ·exact sp
 ·refine⟨fun p=>if p=1 then S 0 else false,fun t x hx=>?_⟩
  match t,hx with
  |0,hx =>
   cases hx
   show S 0=((if(0:Nat)=1 then S 0 else false) ^^ (if(1:Nat)=1 then S 0 else false))
   rw[if_neg (by decide),if_pos rfl,Ru]
  |t+1,hx=>cases hx
end K8
namespace K8
structure Bij(F:Nat->Nat)(n:Nat):Prop where
 lt:∀ k,k<n->F k<n
 inj:∀ a b,a<n->b<n->F a=F b->a=b
 sur:∀ y,y<n->∃ k,k<n/\F k=y
def ofL(o:List Nat)(k:Nat):Nat:=(o[k]?).getD 0
theorem E9{o:List Nat}{n:Nat}(hl:o.length=n)(nd:o.Nodup)(h:∀ x∈o,x<n):Bij (ofL o) n:=by
 have get:∀ k,k<n->o[k]?=some (ofL o k):=fun k hk=>by
  unfold ofL
  rw[Pq (by omega)]
  rfl
 refine⟨fun k hk=>h _ (Pr (get k hk)),fun a b ha hb e=>ER nd (get a ha) (by rw[get b hb,e]),fun y hy=>?_⟩
 have hm:y∈o:=by
  by_cases z:y∈o
  ·exact z
  ·have:=fk (a:=y::o) (N:=n) (PF.mpr ⟨z,nd⟩) fun x hx=>by
    rcases Pw.mp hx with u | u
    ·omega
    ·exact h x u
   rw[Qc]at this
   omega
 obtain⟨k,hk⟩:=Qz.mp hm
 have hkl:=(Pp.mp hk).1
 refine⟨k,by omega,?_⟩
 have:=get k (by omega)
 rw[hk]at this
 exact(P5 this).symm
theorem qH{F:Nat->Nat}:∀{l:List Nat},l.Nodup->(∀ x∈l,∀ y∈l,F x=F y->x=y)->(l.map F).Nodup
 |[],_,_=>Rk
 |a::l,nd,h=>by
  obtain⟨n1,n2⟩:=PF.mp nd
  refine PF.mpr ⟨fun z=>?_,qH n2 fun x hx y hy=>h x (PD _ hx) y (PD _ hy)⟩
  obtain⟨x,hx,e⟩:=Qv.mp z
  have:=h x (PD _ hx) a (PH ..) e
  exact n1 (this▸hx)
theorem Ox{F:Nat->Nat}{l:List Nat}{t:Nat}(ht:t∈l)(h:∀ x∈l,F x=F t->x=t):nxt (l.map F) (F t)=F (nxt l t):=by
 obtain⟨A,B,rfl,k⟩:=gO ht
 have k2:F t∉A.map F:=fun z=>by
  obtain⟨x,hx,e⟩:=Qv.mp z
  exact k (h x (by simp[hx]) e▸hx)
 rw[Qw,P7,bg k2,bg k]
 cases B<;>cases A<;>rfl
theorem Ow{X Y:List Nat}{t:Nat}(nd:(X++Y).Nodup)(ht:t∈X++Y):nxt (Y++X) t=nxt (X++Y) t:=by
 obtain⟨n1,n2,n3⟩:=PZ.mp nd
 rcases PM.mp ht with z | z
 ·have tY:t∉Y:=fun y=>n3 t z t y rfl
  obtain⟨A,B,rfl,k⟩:=gO z
  have e1:Y++(A++t::B)=(Y++A)++t::B:=by simp
  have e2:(A++t::B)++Y=A++t::(B++Y):=by simp
  rw[e1,e2,bg (by simp[tY,k]),bg k]
  cases B<;>cases Y<;>cases A<;>rfl
 ·have tX:t∉X:=fun y=>n3 t y t z rfl
  obtain⟨A,B,rfl,k⟩:=gO z
  have e1:(A++t::B)++X=A++t::(B++X):=by simp
  have e2:X++(A++t::B)=(X++A)++t::B:=by simp
  rw[e1,e2,bg k,bg (by simp[tX,k])]
  cases B<;>cases X<;>cases A<;>rfl
structure Ren(m:Nat)(es es2:En)(ts ts2:List (List Nat))(π σ:Nat->Nat):Prop where
 pi:Bij π m
 si:Bij σ es.length
 l1:es2.length=es.length
 l2:ts2.length=m
 es:∀(k:Nat)(e:Nat×Nat),es[k]?=some e->es2[σ k]?=some (π e.1,π e.2)
 ts:∀(p:Nat)(l:List Nat),ts[p]?=some l->∃ X Y,l=X++Y/\ts2[π p]?=some ((Y++X).map σ)
section
variable{m:Nat}{es es2:En}{ts ts2:List (List Nat)}{π σ:Nat->Nat}
theorem Ren.es'(R:Ren m es es2 ts ts2 π σ){j:Nat}{x:Nat×Nat}(h:es2[j]?=some x):∃ k e,σ k=j/\es[k]?=some e/\x=(π e.1,π e.2):=by
 have hj:=(Pp.mp h).1
 rw[R.l1]at hj
 obtain⟨k,hk,rfl⟩:=R.si.sur j hj
 have e1:es[k]?=some es[k]:=Pq hk
 have:=R.es k _ e1
 rw[h]at this
 exact⟨k,_,rfl,e1,P5 this⟩
theorem Ren.ts'(R:Ren m es es2 ts ts2 π σ)(w:bz m es ts){j:Nat}{L:List Nat}(h:ts2[j]?=some L):∃ p l X Y,p<m/\π p=j/\ts[p]?=some l/\l=X++Y/\L=(Y++X).map σ:=by
 have hj:=(Pp.mp h).1
 rw[R.l2]at hj
 obtain⟨p,hp,rfl⟩:=R.pi.sur j hj
 have e1:ts[p]?=some (ts[p]'(by rw[w.len];exact hp)):=Pq _
 obtain⟨X,Y,h1,h2⟩:=R.ts p _ e1
 rw[h]at h2
 exact⟨p,_,X,Y,hp,rfl,e1,h1,P5 h2⟩
theorem ot(w:bz m es ts){p:Nat}{l:List Nat}(h:ts[p]?=some l){t:Nat}(ht:t∈l):t<es.length:=by
 obtain⟨x,hx,_⟩:=(w.mem p l h t).mp ht
 exact(Pp.mp hx).1
theorem Ren.turn(R:Ren m es es2 ts ts2 π σ)(w:bz m es ts):bz m es2 ts2:=by
 refine⟨R.l2,fun x hx=>?_,fun j L h=>?_,fun j L h t=>?_⟩
 ·obtain⟨j,hj⟩:=Qz.mp hx
  obtain⟨k,e,_,h1,rfl⟩:=R.es' hj
  obtain⟨a1,a2,a3⟩:=w.ends e (Pr h1)
  exact⟨R.pi.lt _ a1,R.pi.lt _ a2,fun z=>a3 (R.pi.inj _ _ a1 a2 z)⟩
 ·obtain⟨p,l,X,Y,hp,rfl,h1,rfl,rfl⟩:=R.ts' w h
  have nd:=w.nd p _ h1
  obtain⟨n1,n2,n3⟩:=PZ.mp nd
  refine qH (PZ.mpr ⟨n2,n1,fun a ha b hb z=>n3 b hb a ha z.symm⟩) fun x hx y hy=>R.si.inj x y (ot w h1 ?_) (ot w h1 ?_)
  ·simp only[PM]at hx ⊢;exact hx.symm
  ·simp only[PM]at hy ⊢;exact hy.symm
 ·obtain⟨p,l,X,Y,hp,rfl,h1,rfl,rfl⟩:=R.ts' w h
  constructor
  ·intro z
   obtain⟨k,hk,rfl⟩:=Qv.mp z
   obtain⟨e,h2,h3⟩:=(w.mem p _ h1 k).mp (by simp only[PM]at hk ⊢;exact hk.symm)
   exact⟨_,R.es k e h2,h3.imp (congrArg π) (congrArg π)⟩
  ·rintro⟨x,h2,h3⟩
   obtain⟨k,e,rfl,h4,rfl⟩:=R.es' h2
   obtain⟨a1,a2,a3⟩:=w.ends e (Pr h4)
   have hk:=(w.mem p _ h1 k).mpr ⟨e,h4,h3.imp (R.pi.inj _ _ a1 hp) (R.pi.inj _ _ a2 hp)⟩
   exact Qv.mpr ⟨k,by simp only[PM]at hk ⊢;exact hk.symm,rfl⟩
def Phi(σ:Nat->Nat)(d:Nat):Nat:=2*σ (d/2)+d%2
theorem qa(d:Nat):Phi σ d/2=σ (d/2):=by unfold Phi;omega
theorem Ren.hd(R:Ren m es es2 ts ts2 π σ){d:Nat}(hd':d<2*es.length):hd es2 (Phi σ d)=π (hd es d):=by
 have e1:es[d/2]?=some (es[d/2]'(by omega)):=Pq _
 have e2:=R.es _ _ e1
 unfold K8.hd
 rw[qa,e1,e2]
 have hm:Phi σ d%2=d%2:=by unfold Phi;omega
 show(if Phi σ d%2=0 then π es[d/2].2 else π es[d/2].1)=π (if d%2=0 then es[d/2].2 else es[d/2].1)
 rw[hm]
 split<;>rfl
theorem Ren.fol(R:Ren m es es2 ts ts2 π σ)(w:bz m es ts){d:Nat}(hd':d<2*es.length):fol es2 ts2 (Phi σ d)=Phi σ (fol es ts d):=by
 obtain⟨_,l,_,_,_,k4,k5,k6⟩:=w.at hd'
 obtain⟨X,Y,rfl,h2⟩:=R.ts _ _ k5
 have nd:=w.nd _ _ k5
 rw[fx (l:=(Y++X).map σ) (by rw[R.hd hd'];exact h2),fx k5,qa,R.hd hd']
 have k7:d/2∈Y++X:=by simp only[PM]at k6 ⊢;exact k6.symm
 rw[Ox k7 fun x hx=>R.si.inj x _ (ot w k5 (by simp only[PM]at hx ⊢;exact hx.symm)) (ot w k5 k6),Ow nd k6]
 have hn:=Pr (iT k6)
 have hlt:=ot w k5 hn
 generalize nxt (X++Y) (d/2)=t at hlt
 have e1:es[t]?=some es[t]:=Pq hlt
 have a1:=(w.ends _ (Pr e1)).1
 unfold leave
 rw[R.es _ _ e1,e1]
 show(if π es[t].1=π (K8.hd es d) then 2*σ t else 2*σ t+1)=Phi σ (if es[t].1=K8.hd es d then 2*t else 2*t+1)
 by_cases z:es[t].1=K8.hd es d
 ·rw[if_pos z,if_pos (congrArg π z)]
  unfold Phi
  rw[show 2*t/2=t by omega]
  omega
 ·rw[if_neg z,if_neg (fun y=>z (R.pi.inj _ _ a1 k4 y))]
  unfold Phi
  rw[show(2*t+1)/2=t by omega]
  omega
theorem sM(b:Bij σ es.length){x y:Nat}(hx:x<2*es.length)(hy:y<2*es.length)(e:Phi σ x=Phi σ y):x=y:=by
 have e1:σ (x/2)=σ (y/2):=by
  have h1:=qa (σ:=σ) x
  have h2:=qa (σ:=σ) y
  rw[e]at h1
  exact h1.symm.trans h2
 have:=b.inj _ _ (by omega) (by omega) e1
 unfold Phi at e
 omega
theorem Ren.gr(R:Ren m es es2 ts ts2 π σ)(g:Gr m es ts):Gr m es2 ts2:=by
 obtain⟨rs,p,cnt⟩:=g.part
 have flt:∀ d∈rs.flatten,d<2*es.length:=fun d hd=>by
  obtain⟨r,h1,h2⟩:=Qo.mp hd
  exact(p.cr r h1).lt d h2
 have hfl:(rs.map (SE (Phi σ))).flatten=rs.flatten.map (Phi σ):=List.map_flatten.symm
 refine⟨R.turn g.w,⟨rs.map (SE (Phi σ)),⟨fun q hq=>?_,?_,fun d hd=>?_⟩,by rw[PB,R.l1];exact cnt⟩,fun S hS x y hx hy sx=>?_,fun S ev=>?_⟩
 ·obtain⟨r,hr,rfl⟩:=Qv.mp hq
  have c:=p.cr r hr
  obtain⟨x,l,rfl,ch⟩:=c.ch
  refine⟨⟨Phi σ x,l.map (Phi σ),rfl,mD ch fun t ht=>R.fol g.w (c.lt t ht)⟩,fun d hd=>?_,qH c.nd fun a ha b hb=>sM R.si (c.lt a ha) (c.lt b hb)⟩
  obtain⟨t,ht,rfl⟩:=Qv.mp hd
  have h1:=c.lt t ht
  have h2:=R.si.lt (t/2) (by omega)
  rw[R.l1]
  unfold Phi
  omega
 ·rw[hfl]
  exact qH p.nd fun a ha b hb=>sM R.si (flt a ha) (flt b hb)
 ·rw[R.l1]at hd
  obtain⟨k,hk,e⟩:=R.si.sur (d/2) (by omega)
  rw[hfl]
  refine Qv.mpr ⟨2*k+d%2,p.all _ (by omega),?_⟩
  unfold Phi
  rw[show(2*k+d%2)/2=k by omega,e]
  omega
 ·obtain⟨x',hx',rfl⟩:=R.pi.sur x hx
  obtain⟨y',hy',rfl⟩:=R.pi.sur y hy
  refine g.conn (fun p=>S (π p)) (fun e he=>?_) x' y' hx' hy' sx
  obtain⟨k,hk⟩:=Qz.mp he
  exact hS (π e.1,π e.2) (Pr (R.es k e hk))
 ·obtain⟨Pl,hP⟩:=g.cut (fun t=>S (σ t)) fun r hr=>by
   rw[← IA S σ r]
   refine ev _ ?_
   obtain⟨x,l,rfl,ch⟩:=hr.ch
   refine⟨⟨Phi σ x,l.map (Phi σ),rfl,mD ch fun t ht=>R.fol g.w (hr.lt t ht)⟩,fun d hd=>?_,qH hr.nd fun a ha b hb=>sM R.si (hr.lt a ha) (hr.lt b hb)⟩
   obtain⟨t,ht,rfl⟩:=Qv.mp hd
   have h1:=hr.lt t ht
   have h2:=R.si.lt (t/2) (by omega)
   rw[R.l1]
   omega
  have inv:∀ p,p<m->((Q8 m).find? fun q=>decide (π q=π p))=some p:=fun p hp=>by
   cases z:(Q8 m).find? fun q=>decide (π q=π p) with
   |none=>exact absurd (decide_eq_true rfl) (List.find?_eq_none.mp z p (Rt.mpr hp))
   |some q =>
    have h0:=List.find?_some z
    have h1:π q=π p:=of_decide_eq_true h0
    rw[R.pi.inj q p (Rt.mp (List.mem_of_find?_eq_some z)) hp h1]
  refine⟨fun y=>Pl (((Q8 m).find? fun q=>decide (π q=y)).getD 0),fun j x hx=>?_⟩
  obtain⟨k,e,rfl,h1,rfl⟩:=R.es' hx
  obtain⟨b1,b2,_⟩:=g.w.ends e (Pr h1)
  show S (σ k)=(Pl (((Q8 m).find? fun q=>decide (π q=π e.1)).getD 0) ^^ Pl (((Q8 m).find? fun q=>decide (π q=π e.2)).getD 0))
  rw[inv _ b1,inv _ b2]
  exact hP k e h1
end
end K8
namespace K8
open PySem L2
local macro_rules | `(tactic| walk_at "cc") => `(tactic| first | exact ⟨by decide, by decide⟩ | (show (0 : Int) < _; decide) | (show (0 : Int) < _; omega) | (show (0 : Int) ≤ _; omega) | exact ⟨by decide, by decide, by decide⟩ | exact ⟨by omega, by omega, by decide⟩ | exact Or.inl ⟨by decide, by decide⟩ | exact Or.inl ⟨by omega, by omega⟩)
local macro_rules | `(tactic| walk_at "rd") => `(tactic| repeat (first | refine ⟨_, rfl, ?_⟩ | refine ⟨_, _, rfl, rfl, ?_⟩ | refine ⟨rfl, ?_⟩ | (refine ⟨?cc, ?_⟩; (case cc => walk_at "cc"))))
def top(i:Nat):Stmt:=PySem.Challenge.pw_spinfloor_k37_ties_that_are_set.main.body.getD i (.Pass ⟨0,0,0,0⟩)
abbrev cN:Stmt:=top 13
abbrev cM:Stmt:=top 15
abbrev jI:Stmt:=top 30
abbrev jJ:Stmt:=top 31
abbrev cD:Stmt:=top 32
abbrev eN:Stmt:=top 34
abbrev eM:Stmt:=top 37
abbrev cH:Stmt:=qZ (top 39) 0
abbrev eX:Stmt:=qZ (top 39) 1
abbrev cG:Stmt:=qZ (top 39) 4
abbrev dq:Stmt:=qZ (top 41) 0
abbrev uw:Stmt:=top 43
abbrev gB:Stmt:=top 44
abbrev eU:Stmt:=top 45
abbrev cA:Stmt:=top 46
abbrev c6:Stmt:=top 47
abbrev eJ:Stmt:=top 48
abbrev bW:Stmt:=top 50
abbrev bG:Stmt:=top 51
abbrev bx:Stmt:=top 52
abbrev cF:Stmt:=qZ (top 53) 0
abbrev uv:Stmt:=top 55
abbrev cC:Stmt:=top 56
abbrev bX:Stmt:=top 57
abbrev bH:Stmt:=top 59
abbrev dm:Stmt:=top 60
abbrev gA:Stmt:=top 61
abbrev eK:Stmt:=top 62
abbrev eR:Stmt:=top 64
abbrev eQ:Stmt:=top 65
abbrev gD:Stmt:=top 66
abbrev eP:Stmt:=top 67
abbrev dj:Stmt:=top 68
abbrev c9:Stmt:=top 69
abbrev bo:Stmt:=top 70
abbrev de:Stmt:=top 71
abbrev gC:Stmt:=top 72
abbrev c8:Stmt:=top 73
abbrev dk:Stmt:=top 74
abbrev cE:Stmt:=top 75
abbrev gE:Stmt:=top 76
abbrev eO:Stmt:=top 77
abbrev vC:Stmt:=top 78
def tf(a b s:Int):List (Str×V):=putF "strength" (.int s) (putF "two" (.int b) (putF "one" (.int a) []))
theorem uj(a b s:Int):(tf a b s).lookup ("one" : Str)=some (.int a):=by
 unfold tf
 rw[aF,if_neg (by decide +kernel),aF,if_neg (by decide +kernel),aF,if_pos rfl]
theorem EC(a b s:Int):(tf a b s).lookup ("two" : Str)=some (.int b):=by
 unfold tf
 rw[aF,if_neg (by decide +kernel),aF,if_pos rfl]
theorem Hv(a b s:Int):(tf a b s).lookup ("strength" : Str)=some (.int s):=by
 unfold tf
 rw[aF,if_pos rfl]
theorem Bc(a b s:Int){m:Str} (h1:¬ m = "strength") (h2:¬ m = "two") (h3:¬ m = "one"):(tf a b s).lookup m=none:=by
 unfold tf
 rw[aF,if_neg h1,aF,if_neg h2,aF,if_neg h3]
 all_goals rfl
theorem f1_len(a:Int):(putF "one" (.int a) []).length<1000:=by show 1<1000;decide
theorem f2_len(a b:Int):(putF "two" (.int b) (putF "one" (.int a) [])).length<1000:=by
 have e:(putF "two" (.int b) (putF "one" (.int a) []):List (Str×V))=([("one",.int a),("two",.int b)]:List (Str×V)):=by
  show(if("one" : Str) = "two" then[(("one" : Str),V.int b)] else(("one" : Str),V.int a)::putF "two" (V.int b) [])=_
  rw[if_neg (by decide +kernel)]
  all_goals rfl
 rw[e]
 show 2<1000
 decide
structure CT(K:Pt)(C:Addr):Prop where
 cl:Cls K C
 n1:gd K C "one"
 n2:gd K C "two"
 n3:gd K C "strength"
def uo(K:Pt):Sp:=fun vs H Q _=>∃(p C dx:Addr)(a b s:Int),vs = [.ref p,.int a,.int b,.int s]/\H p=some (.ins C dx [])/\CT K C/\a≠b/\0<=a/\0<=b/\0<=s /\
 ∀ H',H' p=some (.ins C dx (tf a b s))->(∀ q o,H q=some o->q≠p->H' q=some o)->Q .non H'
theorem ak{H:Hp}{p:Addr}(h:H p=none)(o:HO):Same H (upd H p o):=fun b u q=>by rw[ao (aM q h)];exact q
theorem aR{H H2:Hp}{l:Addr}(h:Same H H2)(hl:H l=none)(o:HO):Same H (upd H2 l o):=fun b u q=>by rw[ao (aM q hl)];exact h b u q
def iV(p:Nat):V:=.int (p:Int)
theorem iV_at{hs:List Nat}{k x:Nat}(h:hs[k]?=some x):atI (hs.map iV) (k:Int)=some (iV x):=aA (by rw[PR,h];rfl)
def cZ(H:Hp)(ys:List V)(es:En):Prop:=ys.length=es.length/\∀(i:Nat)(e:Nat×Nat),es[i]?=some e->∃ p,ys[i]?=some (.ref p)/\H p=some (.tup [iV e.1,iV e.2])
theorem cZ.mono{H H':Hp}{ys:List V}{es:En}(h:cZ H ys es)(s:Same H H'):cZ H' ys es:=⟨h.1,fun i e q=>by
 obtain⟨p,a,b⟩:=h.2 i e q
 exact⟨p,a,s _ _ b⟩⟩
def d7(K:Pt)(H:Hp)(xs:List V)(es:En):Prop:=xs.length=es.length/\∀(i:Nat)(e:Nat×Nat),es[i]?=some e->∃ p C dx s,xs[i]?=some (.ref p)/\H p=some (.ins C dx (tf (e.1:Int) (e.2:Int) s))/\CT K C
theorem d7.mono{K:Pt}{H H':Hp}{xs:List V}{es:En}(t:d7 K H xs es)(h:Same H H'):d7 K H' xs es:=⟨t.1,fun i e q=>by
 obtain⟨p,C,dx,s,a,b,d⟩:=t.2 i e q
 exact⟨p,C,dx,s,a,h _ _ b,d⟩⟩
def bT(H:Hp)(xs:List V)(ts:List (List Nat)):Prop:=xs.length=ts.length/\∀(i:Nat)(l:List Nat),ts[i]?=some l->∃ p,xs[i]?=some (.ref p)/\H p=some (.lst (l.map iV))
theorem bT.mono{H H':Hp}{xs:List V}{ts:List (List Nat)}(h:bT H xs ts)(s:Same H H'):bT H' xs ts:=⟨h.1,fun i e q=>by
 obtain⟨p,a,b⟩:=h.2 i e q
 exact⟨p,a,s _ _ b⟩⟩
theorem bT.snoc{H:Hp}{xs:List V}{ts:List (List Nat)}{q:Addr}{l:List Nat}(h:bT H xs ts)(e:H q=some (.lst (l.map iV))):bT H (xs++[.ref q]) (ts++[l]):=by
 refine⟨by rw[Px,Px,h.1];rfl,fun j k ej=>?_⟩
 by_cases hj:j<ts.length
 ·rw[Py hj]at ej
  obtain⟨p,a1,a2⟩:=h.2 j k ej
  exact⟨p,by rw[Py (by rw[h.1];exact hj)];exact a1,a2⟩
 ·rw[Pu (by omega)]at ej
  have hj2:j=ts.length:=by
   have:=(Pp.mp ej).1
   rw[PY]at this
   omega
  subst hj2
  rw[P1]at ej
  cases ej
  exact⟨q,by rw[← h.1,Pu (Pz _),P1];rfl,e⟩
def bb(S:Addr->Prop)(H:Hp)(xs:List V)(ts:List (List Nat)):Prop:=xs.length=ts.length/\∀(i:Nat)(l:List Nat),ts[i]?=some l->∃ p,xs[i]?=some (.ref p)/\¬ S p/\H p=some (.lst (l.map iV))
theorem bb.mono{S:Addr->Prop}{H H':Hp}{xs:List V}{ts:List (List Nat)}(h:bb S H xs ts)(s:∀ b u,¬ S b->H b=some u->H' b=some u):bb S H' xs ts:=⟨h.1,fun i e q=>by
 obtain⟨p,a,n,b⟩:=h.2 i e q
 exact⟨p,a,n,s _ _ n b⟩⟩
theorem bb.off{S:Addr->Prop}{H:Hp}{xs:List V}{ts:List (List Nat)}(h:bb S H xs ts):bT H xs ts:=⟨h.1,fun i e q=>by
 obtain⟨p,a,n,b⟩:=h.2 i e q
 exact⟨p,a,b⟩⟩
theorem bb.snoc{S:Addr->Prop}{H:Hp}{xs:List V}{ts:List (List Nat)}{q:Addr}{l:List Nat}(h:bb S H xs ts)(n:¬ S q)(e:H q=some (.lst (l.map iV))):bb S H (xs++[.ref q]) (ts++[l]):=by
 refine⟨by rw[Px,Px,h.1];rfl,fun j k ej=>?_⟩
 by_cases hj:j<ts.length
 ·rw[Py hj]at ej
  obtain⟨p,a1,a2⟩:=h.2 j k ej
  exact⟨p,by rw[Py (by rw[h.1];exact hj)];exact a1,a2⟩
 ·rw[Pu (by omega)]at ej
  have hj2:j=ts.length:=by
   have:=(Pp.mp ej).1
   rw[PY]at this
   omega
  subst hj2
  rw[P1]at ej
  cases ej
  exact⟨q,by rw[← h.1,Pu (Pz _),P1];rfl,n,e⟩
theorem xt{f:Nat->Nat}{N i:Nat}{rs:List (List Nat)}(w:cY f N i rs):rs.flatten.length<=N:=fk w.nd fun x hx=>by
 obtain⟨r,h1,h2⟩:=Qo.mp hx
 exact(w.ring r h1).lt x h2
theorem Lq{f:Nat->Nat}{N i:Nat}{rs:List (List Nat)}(w:cY f N i rs):rs.length<=N:=by
 have h:∀(l:List (List Nat)),(∀ r∈l,0<r.length)->l.length<=l.flatten.length:=fun l=>by
  induction l with
  |nil=>intro _;exact Pz _
  |cons a l ih =>
   intro h
   rw[P9,Px,Qc]
   have h1:=h a (PH ..)
   have h2:=ih fun r hr=>h r (PD _ hr)
   omega
 exact QG (h rs fun r hr=>(w.ring r hr).ne) (xt w)
structure TT(K:Pt)(H:Hp)(a b:Addr)(m:Nat)(es:En)(ts:List (List Nat)):Prop where
 xs:∃ xs,SqL K H a xs/\d7 K H xs es
 ys:∃ ys,SqL K H b ys/\bT H ys ts
 w:bz m es ts
 few:es.length<=62
theorem TT.mono{K:Pt}{H H':Hp}{a b:Addr}{m:Nat}{es:En}{ts:List (List Nat)}(t:TT K H a b m es ts)(s:Same H H'):TT K H' a b m es ts:=by
 obtain⟨⟨xs,h1,h2⟩,⟨ys,h3,h4⟩,w,f⟩:=t
 exact⟨⟨xs,s.seq h1,h2.mono s⟩,⟨ys,s.seq h3,h4.mono s⟩,w,f⟩
theorem mR{m:Nat}{es:En}{ts:List (List Nat)}(w:bz m es ts)(f:es.length<=62){p:Nat}{l:List Nat}(h:ts[p]?=some l):(∀ t∈l,t<62)/\l.length<=62:=by
 have a:∀ t∈l,t<es.length:=fun t ht=>by
  obtain⟨e,he,_⟩:=(w.mem p l h t).mp ht
  exact(Pp.mp he).1
 exact⟨fun t ht=>by have:=a t ht;omega,QG (fk (w.nd p l h) a) f⟩
theorem perm{m:Nat}{es:En}{ts:List (List Nat)}(w:bz m es ts):K0 (fol es ts) (2*es.length):=⟨fun d h=>by
 obtain⟨_,_,_,_,_,_,_,_,z,_⟩:=w.foll h
 exact z,fun a b ha hb h=>w.inj ha hb h⟩
def HK(K:Pt):Sp:=fun vs H Q _=>∃(a:Addr)(xs:List V)(es:En)(d:Nat),vs = [.ref a,.int (d:Int)]/\SqL K H a xs/\d7 K H xs es/\d<2*es.length/\Q (iV (hd es d)) H
def HJ(K:Pt):Sp:=fun vs H Q _=>∃(a:Addr)(xs:List V)(es:En)(t p:Nat)(e:Nat×Nat),vs = [.ref a,.int (t:Int),.int (p:Int)]/\SqL K H a xs/\d7 K H xs es/\es[t]?=some e/\Q (iV (if e.1=p then 2*t else 2*t+1)) H
def NA(K:Pt):Sp:=fun vs H Q _=>∃(a b:Addr)(m:Nat)(es:En)(ts:List (List Nat))(d:Nat),vs = [.ref a,.ref b,.int (d:Int)]/\TT K H a b m es ts/\d<2*es.length/\Q (iV (fol es ts d)) H
def HL(K:Pt):Sp:=fun vs H Q _=>∃(a b:Addr)(m:Nat)(es:En)(ts:List (List Nat))(d:Nat),vs = [.ref a,.ref b,.int (d:Int)]/\TT K H a b m es ts/\d<2*es.length /\
 ∀ q r H',Same H H'->H q=none->H' q=some (.lst (r.map iV))->Path (fol es ts) (2*es.length) d r->Ring (fol es ts) (2*es.length) r->Q (.ref q) H'
def vi(K:Pt):Sp:=fun vs H Q _=>∃(a b:Addr)(m:Nat)(es:En)(ts:List (List Nat)),vs = [.ref a,.ref b]/\TT K H a b m es ts /\
 ∀ q ys rs H',Same H H'->H' q=some (.lst ys)->bT H' ys rs->cY (fol es ts) (2*es.length) (2*es.length) rs->Q (.ref q) H'
def iG(H:Hp)(ys:List V)(n:Nat)(rs:List (List Nat)):Prop:=ys.length=n/\∀ i,i<n->∃ p a b r r',ys[i]?=some (.ref p)/\H p=some (.tup [iV a,iV b])/\rs[a]?=some r/\2*i∈r/\rs[b]?=some r'/\2*i+1∈r'
def Bf(K:Pt):Sp:=fun vs H Q _=>∃(a b:Addr)(xs ys:List V)(es:En)(f:Nat->Nat)(rs:List (List Nat)),vs = [.ref a,.ref b]/\SqL K H a xs/\d7 K H xs es/\es.length<=62/\SqL K H b ys/\bT H ys rs/\cY f (2*es.length) (2*es.length) rs /\
 ∀ q zs H',Same H H'->H' q=some (.lst zs)->iG H' zs es.length rs->Q (.ref q) H'
def Av(ns:List Int)(k:Nat):Int:=ns.getD k 0
def EE(K:Pt):Sp:=fun vs H Q _=>∃(a:Addr)(k:Nat)(ns:List Int),vs = [.ref a,.int (k:Int)]/\SqL K H a (ns.map V.int)/\Q (.int (Av ns k)) H
def Nz:Sp:=fun vs H Q _=>∃ i:Int,vs = [.int i]/\Q (.bl true) H
structure Txt(mg:Str->Option Value):Prop where
 n_len:mg "len" = none
 n_int:mg "int" = none
 n_bool:mg "bool" = none
 n_list:mg "list" = none
 n_tuple:mg "tuple" = none
 n_range:mg "range" = none
 n_enumerate:mg "enumerate" = none
 n_isinstance:mg "isinstance" = none
 n_min:mg "min" = none
 n_sum:mg "sum" = none
 n_sorted:mg "sorted" = none
section
variable{P:Program}{w:World}{K:Pt}{mg:Str->Option Value}{base:Heap}
theorem HZ:aC ["ties","dart","tie"] ["ties","dart"] (aj uw):=⟨rfl,rfl,rfl,by decide +kernel,rfl,by decide +kernel,by decide +kernel⟩
theorem Od{f:Addr}{fd:FuncData} (F:Fun K "head" "head" uw f fd):FnOk P w K mg base CX0 1 f fd ["ties","dart"] (HK K):=by
 refine F.ok HZ (fun vs H Q E h=>?_) (fun cdv A outer s H vs Q E hr h=>?_)
 ·obtain⟨a,xs,es,d,rfl,_⟩:=h
  rfl
 obtain⟨a,xs,es,d,rfl,hS,hT,hdl,k⟩:=h
 have hl:d/2<es.length:=by omega
 have e1:es[d/2]?=some es[d/2]:=Pq hl
 obtain⟨p,C,dx,s',x1,x2,x3⟩:=hT.2 _ _ e1
 have hh:hd es d=if d%2=0 then es[d/2].2 else es[d/2].1:=by unfold hd;rw[e1]
 have ed:(d:Int)/2=((d/2:Nat):Int):=by omega
 refine⟨_,(ag (av (i:=2) HZ.nd rfl (Or.inl rfl) (ax az (pv 0) (aw cP (pv 1) ah) (fun _ _=>rfl)))
   (aq (aI (lX (aG iS (aw bE (pv 1) ah) ah (aN _)) (b9 (pv 2) rfl) (b9 (pv 2) rfl))))),?_⟩
 refine⟨_,rfl,_,rfl,_,_,rfl,rfl,⟨by decide,by decide⟩,a,xs,_,_,rfl,rfl,hS,(by rw[ed];exact aA x1),?_⟩
 refine⟨_,rfl,_,_,rfl,rfl,(by show(0:Int)<2;decide),rfl,_,rfl,?_⟩
 refine ite2 (fun q=>?_) (fun q=>?_)
 ·have q':(d:Int)%2=0:=V.int.inj (of_decide_eq_true q)
  refine⟨_,rfl,p,C,dx,_,_,rfl,x2,x3.cl,x3.n2,EC _ _ _,?_⟩
  rw[hh,if_pos (by omega)]at k
  exact k
 ·have q':¬ (d:Int)%2=0:=fun z=>q (decide_eq_true (congrArg V.int z))
  refine⟨_,rfl,p,C,dx,_,_,rfl,x2,x3.cl,x3.n1,uj _ _ _,?_⟩
  rw[hh,if_neg (by omega)]at k
  exact k
theorem Ft:aC ["ties","number","place"] ["ties","number","place"] (aj gB):=⟨rfl,rfl,rfl,by decide +kernel,rfl,by decide +kernel,by decide +kernel⟩
theorem FG{f:Addr}{fd:FuncData} (F:Fun K "leaving" "leaving" gB f fd):FnOk P w K mg base CX0 1 f fd ["ties","number","place"] (HJ K):=by
 refine F.ok Ft (fun vs H Q E h=>?_) (fun cdv A outer s H vs Q E hr h=>?_)
 ·obtain⟨a,xs,es,t,p,e,rfl,_⟩:=h
  rfl
 obtain⟨a,xs,es,t,pl,e,rfl,hS,hT,he,k⟩:=h
 obtain⟨p,C,dx,s',x1,x2,x3⟩:=hT.2 _ _ he
 have m2:CMul 2 (t:Int):=.inl ⟨by decide,by decide⟩
 refine⟨_,(aq (aI (lX (aG iS (b9 (ax az (pv 0) (pv 1) (fun _ _=>rfl)) rfl) (pv 2) (aN _)) (aw fJ ah (pv 1)) (aw bA (aw fJ ah (pv 1)) ah)))),?_⟩
 refine⟨_,rfl,_,rfl,a,xs,_,_,rfl,rfl,hS,aA x1,p,C,dx,_,_,rfl,x2,x3.cl,x3.n1,uj _ _ _,_,rfl,rfl,_,rfl,?_⟩
 refine ite2 (fun q=>?_) (fun q=>?_)
 ·have q':(e.1:Int)=(pl:Int):=V.int.inj (of_decide_eq_true q)
  refine⟨_,rfl,_,_,rfl,rfl,m2,?_⟩
  rw[if_pos (by omega)]at k
  exact k
 ·have q':¬ (e.1:Int)=(pl:Int):=fun z=>q (decide_eq_true (congrArg V.int z))
  refine⟨_,rfl,_,_,rfl,rfl,m2,_,_,rfl,rfl,?_⟩
  rw[if_neg (by omega)]at k
  exact k
theorem gR:aC ["ties","turns","dart","place","about","behind"] ["ties","turns","dart"] (aj eU):=⟨rfl,rfl,rfl,by decide +kernel,rfl,by decide +kernel,by decide +kernel⟩
theorem Ci{f fh fl:Addr}{fd fdh fdl:FuncData} (F:Fun K "follower" "follower" eU f fd) (T:Txt mg) (G_head:Cal P w K mg base 1 "head" ["ties","dart"] (HK K) fh fdh) (G_leaving:Cal P w K mg base 1 "leaving" ["ties","number","place"] (HJ K) fl fdl):FnOk P w K mg base CX0 2 f fd ["ties","turns","dart"] (NA K):=by
 refine F.ok gR (fun vs H Q E h=>?_) (fun cdv A outer s H vs Q E hr h=>?_)
 ·obtain⟨a,b,m,es,ts,d,rfl,_⟩:=h
  rfl
 obtain⟨a,b,m,es,ts,d,rfl,tt,hdl,k⟩:=h
 obtain⟨⟨xs,h1,h2⟩,⟨ys,h3,h4⟩,w',few⟩:=tt
 obtain⟨l,e,p1,p2,p3,p4,p5,p6,p7,p8,p9⟩:=w'.foll hdl
 obtain⟨small,len⟩:=mR w' few p1
 obtain⟨q,y1,y2⟩:=h4.2 _ _ p1
 have ed:(d:Int)/2=((d/2:Nat):Int):=by omega
 refine⟨_,(ag (av (i:=3) gR.nd rfl (Or.inl rfl) (ay G_head.ok (hr.mono (by decide)) rfl G_head.mg G_head.kp G_head.bn .nil aP (ae (pv 0) (ae (pv 2) ai))))
   (ag (av (i:=4) gR.nd rfl (Or.inl rfl) (ax az (pv 1) (pv 3) (fun _ _=>rfl)))
   (ag (av (i:=5) gR.nd rfl (Or.inl rfl) (aw bE (aw bA (gf P4 Te Td ES (pv 4) (ae (aw cP (pv 2) ah) ai)) ah) (aE ar (by rfl) T.n_len aY (ae (pv 4) ai))))
   (aq (aI (ay G_leaving.ok (hr.mono (by decide)) rfl G_leaving.mg G_leaving.kp G_leaving.bn .nil aP (ae (pv 0) (ae (ax az (pv 4) (pv 5) (fun _ _=>rfl)) (ae (pv 3) ai))))))))),?_⟩
 refine⟨_,rfl,_,rfl,a,xs,es,d,rfl,h1,h2,hdl,?_⟩
 refine⟨_,rfl,_,rfl,b,ys,_,_,rfl,rfl,h3,aA y1,?_⟩
 have hlen:(l.map iV).length=l.length:=PB _
 have hl0:0<l.length:=Rc p2
 have hmod:(((l.idxOf (d/2):Nat):Int)+1)%((l.map iV).length:Int)=(((l.idxOf (d/2)+1)%l.length:Nat):Int):=by rw[hlen];rfl
 refine⟨_,rfl,.inl ⟨rfl,_,SqL.of y2⟩,_,rfl,_,_,rfl,rfl,⟨by decide,by decide⟩,q,l,d/2,rfl,congrArg (fun z=>[V.int z]) ed,SqL.of y2,fun p hp=>by have:=small p hp;omega,by omega,p2,_,_,rfl,rfl,_,rfl,q,_,rfl,.inl (SqL.of y2),_,_,rfl,rfl,(by show(0:Int)<((l.map iV).length:Int);rw[hlen];omega),?_⟩
 refine⟨_,rfl,_,rfl,_,rfl,q,_,_,_,rfl,rfl,SqL.of y2,(by rw[hmod];exact iV_at (iT p2)),_,rfl,a,xs,es,nxt l (d/2),hd es d,e,rfl,h1,h2,p3,?_⟩
 rw[p6]at k
 exact k
theorem d9:aC ["ties","turns","first","row","dart"] ["ties","turns","first"] (aj cA):=⟨rfl,rfl,rfl,by decide +kernel,rfl,by decide +kernel,by decide +kernel⟩
theorem Oe{f ff:Addr}{fd fdf:FuncData} (F:Fun K "round_from" "round_from" cA f fd) (G_follower:Cal P w K mg base 2 "follower" ["ties","turns","dart"] (NA K) ff fdf):FnOk P w K mg base CX0 3 f fd ["ties","turns","first"] (HL K):=by
 refine F.ok d9 (fun vs H Q E h=>?_) (fun cdv A outer s H vs Q E hr h=>?_)
 ·obtain⟨a,b,m,es,ts,d,rfl,_⟩:=h
  rfl
 obtain⟨a,b,m,es,ts,d,rfl,tt,hdl,k⟩:=h
 have pm:=perm tt.w
 refine⟨_,(ag (av (i:=3) d9.nd rfl (Or.inl rfl) (bY (ae (pv 2) ai)))
   (ag (av (i:=4) d9.nd rfl (Or.inl rfl) (ay G_follower.ok (hr.mono (by decide)) rfl G_follower.mg G_follower.kp G_follower.bn .nil aP (ae (pv 0) (ae (pv 1) (ae (pv 2) ai)))))
   (ag (gY PassesOwn.never (aG oZ (pv 4) (pv 2) (aN _)) (ag (a7 (gf P4 Qj Qi a8 (pv 3) (ae (pv 4) ai)))
   (aq (av (i:=4) d9.nd rfl (Or.inl rfl) (ay G_follower.ok (hr.mono (by decide)) rfl G_follower.mg G_follower.kp G_follower.bn .nil aP (ae (pv 0) (ae (pv 1) (ae (pv 4) ai))))))))
   (aq (aI (pv 3)))))),?_⟩
 refine⟨_,rfl,(by show 1<=sizeLine;decide),fun q hq=>?_⟩
 have s1:=ak hq (.lst [.int (d:Int)])
 refine⟨_,rfl,_,rfl,_,rfl,a,b,m,es,ts,d,rfl,tt.mono s1,hdl,?_⟩
 refine gL (fun σ H2=>∃(r:List Nat)(x:Nat),σ = [some (.ref a),some (.ref b),some (.int (d:Int)),some (.ref q),some (iV (fol es ts x))]/\Same H H2/\H2 q=some (.lst ((r++[x]).map iV))/\Path (fol es ts) (2*es.length) d (r++[x]))
  (fun σ H2=>match H2 q with | some (.lst xs)=>200-xs.length | _=>0) ⟨[],d,rfl,s1,af,Lz hdl⟩ ?_ ?_
 ·rintro σ H2 ⟨r,x,rfl,s2,hq2,pa⟩
  refine⟨_,rfl,_,rfl,rfl,_,rfl,?_⟩
  have few:=tt.few
  have hlen:=fk pa.nd pa.lt
  refine ite2 (fun c=>?_) (fun c=>?_)
  ·have c':fol es ts x≠d:=fun z=>by
    rw[decide_eq_true (show iV (fol es ts x)=V.int (d:Int) by rw[z];rfl)]at c
    cases c
   have pa2:=pa.snoc pm c'
   have hlen2:=fk pa2.nd pa2.lt
   have lt2:fol es ts x<2*es.length:=pa2.lt _ (by simp)
   refine⟨_,rfl,.inl ⟨rfl,_,SqL.of hq2⟩,_,rfl,q,_,_,rfl,rfl,hq2,au (by rw[PB];omega),?_⟩
   have s3:=aR s2 hq (.lst ((r++[x]).map iV++[iV (fol es ts x)]))
   refine⟨_,rfl,_,rfl,_,rfl,a,b,m,es,ts,fol es ts x,rfl,tt.mono s3,lt2,?_⟩
   refine⟨⟨r++[x],fol es ts x,rfl,s3,?_,pa2⟩,?_⟩
   ·rw[af,show((r++[x]++[fol es ts x]).map iV)=(r++[x]).map iV++[iV (fol es ts x)] from by rw[Qw];rfl]
   ·show(match(upd H2 q (.lst ((r++[x]).map iV++[iV (fol es ts x)]))) q with | some (.lst xs)=>200-xs.length | _=>0)<(match H2 q with | some (.lst xs)=>200-xs.length | _=>0)
    rw[af,hq2]
    show 200-((r++[x]).map iV++[iV (fol es ts x)]).length<200-((r++[x]).map iV).length
    rw[Px,PB,PY]
    omega
  ·have c':fol es ts x=d:=by
    by_cases z:fol es ts x=d
    ·exact z
    ·exact absurd (by rw[decide_eq_false (fun y=>z (by have:=V.int.inj y;omega))];rfl) c
   refine⟨_,rfl,?_⟩
   exact k q _ H2 s2 hq hq2 pa (pa.ring pm c')
 ·rintro σ H2 Q1 Q2 hi ⟨v',e,b',e2,z1,c',e3,q'⟩
  exact⟨v',e,b',e2,z1,c',e3,hi _ _ q'⟩
theorem cz:aC ["ties","turns","rounds","seen","dart","row","gone"] ["ties","turns"] (aj c6):=⟨rfl,rfl,rfl,by decide +kernel,rfl,by decide +kernel,by decide +kernel⟩
theorem IG{f ff:Addr}{fd fdf:FuncData} (F:Fun K "rounds_of" "rounds_of" c6 f fd) (T:Txt mg) (G_round_from:Cal P w K mg base 3 "round_from" ["ties","turns","first"] (HL K) ff fdf):FnOk P w K mg base CX0 4 f fd ["ties","turns"] (vi K):=by
 refine F.ok cz (fun vs H Q E h=>?_) (fun cdv A outer s H vs Q E hr h=>?_)
 ·obtain⟨a,b,m,es,ts,rfl,_⟩:=h
  rfl
 obtain⟨a,b,m,es,ts,rfl,tt,k⟩:=h
 have hu:=JB hr
 have pm:=perm tt.w
 have few:=tt.few
 obtain⟨xs,h1,h2⟩:=tt.xs
 refine⟨_,(ag (av (i:=2) cz.nd rfl (Or.inl rfl) (bY ai))
   (ag (av (i:=3) cz.nd rfl (Or.inl rfl) vU)
   (ag (bM PassesOwn.never rfl (aW rfl T.n_range (ae (aw fJ ah (aE ar (by rfl) T.n_len aY (ae (pv 0) ai))) ai)) (aO (i:=4) cz.nd rfl (Or.inl rfl)) (aq (bZ (MT (yW hu (pv 4) (pv 3))) (ag (av (i:=5) cz.nd rfl (Or.inl rfl) (ay G_round_from.ok (hr.mono (by decide)) rfl G_round_from.mg G_round_from.kp G_round_from.bn .nil aP (ae (pv 0) (ae (pv 1) (ae (pv 4) ai)))))
   (ag (a7 (gf P4 Qj Qi a8 (pv 2) (ae (pv 5) ai)))
   (aq (bM PassesOwn.never rfl (a9 (pv 5)) (aO (i:=6) cz.nd rfl (Or.inl rfl)) (aq (vF hu (pv 3) (pv 6) Cg rfl)))))) aS)))
   (aq (aI (pv 2)))))),?_⟩
 refine⟨(by show 0<=sizeLine;decide),fun qr hqr=>fun qs hqs=>?_⟩
 have s1:=(ak hqr (.lst [])).trans (ak hqs (.dK []))
 have hqs0:H qs=none:=by
  cases z:H qs with
  |none=>rfl
  |some o=>rw[ak hqr (.lst []) qs o z]at hqs;cases hqs
 have hne:qr≠qs:=fun z=>by rw[← z,af]at hqs;cases hqs
 have hxl:xs.length=es.length:=h2.1
 have hN:(2*(xs.length:Int)).toNat=2*es.length:=by omega
 refine⟨_,rfl,a,xs,rfl,.inl (s1.seq h1),_,_,rfl,rfl,.inl ⟨by decide,by decide⟩,_,rfl,by omega,by omega,cR (n:=(2*(xs.length:Int)).toNat) (fun i σ H2=>∃ v4 v5 v6 ys rs kvs,σ = [some (.ref a),some (.ref b),some (.ref qr),some (.ref qs),v4,v5,v6]/\Same H H2/\H2 qr=some (.lst ys)/\bb (fun p=>p=qr∨p=qs) H2 ys rs/\H2 qs=some (.dK kvs)/\kvs.length<=rs.flatten.length/\(∀ d:Nat,(valV kvs (Sum.inl (d:Int))).isSome=true↔d∈rs.flatten)/\cY (fol es ts) (2*es.length) i rs)
  ⟨_,_,_,[],[],[],rfl,s1,by rw[ao hne,af],⟨rfl,fun i l e=>by simp at e⟩,af,Pz _,fun d=>by simp[valV],Fu _ _⟩ ?_ ?_⟩
 ·rintro i σ H2 hi ⟨v4,v5,v6,ys,rs,kvs,rfl,s2,e1,rx,e2,kl,km,ro⟩
  rw[hN]at hi
  have e0:(0:Int)+(i:Int)=(i:Int):=QR _
  rw[e0]
  have fl:=xt ro
  have rl:=Lq ro
  refine⟨_,rfl,_,rfl,_,_,rfl,DGet.k (k:=Sum.inl (i:Int)) e2,_,rfl,?_⟩
  refine ite2 (fun c=>?_) (fun c=>?_)
  ·have hni:i∉rs.flatten:=fun z=>by
    rw[(km i).mpr z]at c
    cases c
   refine⟨_,rfl,_,rfl,_,rfl,a,b,m,es,ts,i,rfl,tt.mono s2,hi,fun q r H3 s3 hq hq3 pa ri=>?_⟩
   have s23:=s2.trans s3
   have nq:¬ (q=qr∨q=qs):=by
    rintro(z | z)
    ·rw[z,e1]at hq;cases hq
    ·rw[z,e2]at hq;cases hq
   refine⟨_,rfl,.inl ⟨rfl,_,SqL.of (s3 _ _ e1)⟩,_,rfl,qr,_,_,rfl,rfl,s3 _ _ e1,au (by rw[rx.1];omega),?_⟩
   have s4:=aR s23 hqr (.lst (ys++[.ref q]))
   have hrq:∀{H5:Hp},bb (fun p=>p=qr∨p=qs) H5 (ys++[.ref q]) (rs++[r])->H5 q=some (.lst (r.map iV)):=fun h=>by
    obtain⟨p,z1,_,z2⟩:=h.2 rs.length r (by rw[Pu (Pz _),P1];rfl)
    rw[← rx.1,Pu (Pz _),P1]at z1
    cases z1
    exact z2
   have rx4:bb (fun p=>p=qr∨p=qs) (upd H3 qr (.lst (ys++[.ref q]))) (ys++[.ref q]) (rs++[r]):=by
    refine(rx.mono fun p o n z=>?_).snoc nq ?_
    ·rw[ao (fun z=>n (.inl z))];exact s3 _ _ z
    ·rw[ao (fun z=>nq (.inl z))];exact hq3
   have rl:r.length<=2*es.length:=fk ri.nd ri.lt
   refine⟨_,rfl,q,rfl,⟨_,SqL.of (hrq rx4)⟩,cS (xs:=r.map iV) (fun j σ H5=>∃ v6 kvs',σ = [some (.ref a),some (.ref b),some (.ref qr),some (.ref qs),some (.int (i:Int)),some (.ref q),v6]/\Same H H5/\H5 qr=some (.lst (ys++[.ref q]))/\bb (fun p=>p=qr∨p=qs) H5 (ys++[.ref q]) (rs++[r])/\H5 qs=some (.dK kvs')/\kvs'.length<=rs.flatten.length+j/\∀ d:Nat,(valV kvs' (Sum.inl (d:Int))).isSome=true↔d∈rs.flatten∨d∈r.take j)
    ⟨_,kvs,rfl,s4,af,rx4,by rw[ao hne.symm];exact s3 _ _ e2,kl,fun d=>by rw[km d];simp⟩ (fun j σ H5 _ p=>?_) ?_ ?_⟩
   ·obtain⟨_,_,_,_,_,z,_⟩:=p
    exact SqL.of (hrq z)
   ·rintro j x σ H5 hx ⟨v6,kvs',rfl,s5,f1,rx5,f2,kl5,km5⟩
    rw[PR]at hx
    obtain⟨g,hg,rfl⟩:=Qp.mp hx
    have hjl:j<r.length:=(Pp.mp hg).1
    refine⟨_,rfl,_,rfl,qs,_,rfl,DPut.k (k:=Sum.inl (g:Int)) f2 (au (by omega)),?_⟩
    refine⟨_,_,rfl,aR s5 hqs0 _,by rw[ao hne];exact f1,rx5.mono fun p o n z=>by rw[ao (fun z=>n (.inr z))];exact z,af,by have:=fj kvs' (Sum.inl (g:Int)) (V.bl true);omega,fun d=>?_⟩
    rw[gM]
    have tk:r.take (j+1)=r.take j++[g]:=by rw[Qf,hg];rfl
    rw[tk]
    by_cases z:d=g
    ·subst z
     simp
    ·rw[if_neg (fun y=>z (by have:=Sum.inl.inj y;omega)),km5 d]
     simp[z]
   ·rintro σ H5 ⟨v6,kvs',rfl,s5,f1,rx5,f2,kl5,km5⟩
    rw[PB]at kl5 km5
    refine⟨_,_,_,_,rs++[r],kvs',rfl,s5,f1,rx5,f2,by rw[QO,Px];simpa using kl5,fun d=>?_,ro.put pm hni hi ri pa⟩
    rw[km5 d,Qn,QO,PM]
    simp
  ·have hii:i∈rs.flatten:=(km i).mp (by
    cases z:(valV kvs (Sum.inl (i:Int))).isSome with
    |true=>rfl
    |false=>exact absurd (by rw[z];rfl) c)
   exact⟨_,_,_,ys,rs,kvs,rfl,s2,e1,rx,e2,kl,km,ro.skip hii⟩
 ·rintro σ H2 ⟨v4,v5,v6,ys,rs,kvs,rfl,s2,e1,rx,e2,kl,km,ro⟩
  rw[hN]at ro
  exact⟨_,rfl,k qr ys rs H2 s2 e1 rx.off ro⟩
theorem eY:aC ["ties","rounds","number_at","number","row","dart"] ["ties","rounds"] (aj eJ):=⟨rfl,rfl,rfl,by decide +kernel,rfl,by decide +kernel,by decide +kernel⟩
theorem LG{f:Addr}{fd:FuncData} (F:Fun K "sides_of" "sides_of" eJ f fd) (T:Txt mg):FnOk P w K mg base CX0 1 f fd ["ties","rounds"] (Bf K):=by
 refine F.ok eY (fun vs H Q E h=>?_) (fun cdv A outer s H vs Q E hr h=>?_)
 ·obtain⟨a,b,xs,ys,es,g,rs,rfl,_⟩:=h
  rfl
 obtain⟨a,b,xs,ys,es,g,rs,rfl,hS,hT,few,hB,hR,ro,k⟩:=h
 have hu:=JB hr
 have fl:=xt ro
 refine⟨_,(ag (av (i:=2) eY.nd rfl (Or.inr rfl) vU)
   (ag (bM PassesOwn.never rfl (vN rfl T.n_enumerate (ae (pv 1) ai)) (uy rfl (bw (aO (i:=3) eY.nd rfl (Or.inl rfl)) (bw (aO (i:=4) eY.nd rfl (Or.inl rfl)) iP))) (aq (bM PassesOwn.never rfl (a9 (pv 4)) (aO (i:=5) eY.nd rfl (Or.inl rfl)) (aq (vF hu (pv 2) (pv 5) (pv 3) rfl)))))
   (aq (aI (dr rfl (fr:=[("number_at",2)]) (by exact bq.one (by rfl) (by decide +kernel) (by rfl) (by decide +kernel) (by rfl) (by decide +kernel) (by rfl) (by rfl) (by decide +kernel) (by rfl)) (aW rfl T.n_range (ae (aE ar (by rfl) T.n_len aY (ae (pv 0) ai)) ai)) (fun C ex s H=>(bK (ae (qy hu (pv 1) (aw fJ ah (pv 0)) (fun _ _=>rfl)) (ae (qy hu (pv 1) (aw bA (aw fJ ah (pv 0)) ah) (fun _ _=>rfl)) ai))))))))),?_⟩
 intro q hq
 have s1:=ak hq (.dK [])
 have kF:∀ i,(rs.take i).flatten.length<=rs.flatten.length:=fun i=>by
  have:=congrArg (fun z=>z.flatten.length) (Rh i rs)
  simp only[QO,Px]at this
  omega
 refine⟨_,rfl,b,rfl,⟨_,s1.seq hB⟩,xr (K:=K) (xs:=ys) (fun i σ H2=>∃ v3 v4 v5 kvs,σ = [some (.ref a),some (.ref b),some (.ref q),v3,v4,v5]/\Same H H2/\H2 q=some (.dK kvs)/\kvs.length<=(rs.take i).flatten.length/\∀(d c:Nat)(r:List Nat),c<i->rs[c]?=some r->d∈r->valV kvs (Sum.inl (d:Int))=some (iV c))
  ⟨_,_,_,[],rfl,s1,af,QJ _,fun d c r z=>absurd z (QA _)⟩ (fun i σ H2 _ ⟨_,_,_,_,_,s2,_⟩=>s2.seq hB) ?_ ?_⟩
 ·rintro i x σ H2 T2 hx ⟨v3,v4,v5,kvs,rfl,s2,e1,kl,km⟩ hT2
  have hil:i<rs.length:=by
   have:=(Pp.mp hx).1
   rw[hR.1]at this
   exact this
  have hr':rs[i]?=some rs[i]:=Pq hil
  obtain⟨p,x1,x2⟩:=hR.2 i _ hr'
  rw[hx]at x1
  cases x1
  generalize rs[i]=r at hr' x2
  have s3:Same H (upd H2 T2 (.tup [.int (i:Int),.ref p])):=s2.trans (ak hT2 _)
  have f1:(rs.take (i+1)).flatten=(rs.take i).flatten++r:=by rw[Qf,hr'];simp
  have f2:=kF (i+1)
  rw[f1,Px]at f2
  refine⟨T2,_,rfl,SqT.of af,rfl,_,_,rfl,_,_,rfl,rfl,?_⟩
  refine⟨_,rfl,p,rfl,⟨_,SqL.of (s3 _ _ x2)⟩,cS (xs:=r.map iV) (fun j σ H5=>∃ v5 kvs',σ = [some (.ref a),some (.ref b),some (.ref q),some (.int (i:Int)),some (.ref p),v5]/\Same H H5/\H5 q=some (.dK kvs')/\kvs'.length<=(rs.take i).flatten.length+j/\(∀(d c:Nat)(r:List Nat),c<i->rs[c]?=some r->d∈r->valV kvs' (Sum.inl (d:Int))=some (iV c))/\∀ d∈r.take j,valV kvs' (Sum.inl (d:Int))=some (iV i))
   ⟨_,kvs,rfl,s3,ak hT2 _ _ _ e1,kl,km,fun d hd=>by simp at hd⟩ (fun j σ H5 _ ⟨_,_,_,z,_⟩=>SqL.of (z _ _ x2)) ?_ ?_⟩
  ·rintro j x σ H5 hx2 ⟨v5,kvs',rfl,s5,g1,kl5,km5,kn5⟩
   rw[PR]at hx2
   obtain⟨g,hg,rfl⟩:=Qp.mp hx2
   have hjl:j<r.length:=(Pp.mp hg).1
   refine⟨_,rfl,_,rfl,_,rfl,q,_,rfl,DPut.k (k:=Sum.inl (g:Int)) g1 (au (by omega)),?_⟩
   refine⟨_,_,rfl,aR s5 hq _,af,by have:=fj kvs' (Sum.inl (g:Int)) (V.int (i:Int));omega,fun d c r' hc hrc hd=>?_,fun d hd=>?_⟩
   ·rw[gM,if_neg (fun z=>?_)]
    ·exact km5 d c r' hc hrc hd
    ·have z':d=g:=by have:=Sum.inl.inj z;omega
     subst z'
     have:=q9 ro.nd hrc hr' hd (Pr hg)
     omega
   ·rw[gM]
    by_cases z:d=g
    ·subst z
     rw[if_pos rfl]
     rfl
    ·rw[if_neg (fun y=>z (by have:=Sum.inl.inj y;omega))]
     refine kn5 d ?_
     rw[Qf,hg]at hd
     simpa[z] using hd
  ·rintro σ H5 ⟨v5,kvs',rfl,s5,g1,kl5,km5,kn5⟩
   rw[PB]at kl5 kn5
   rw[Qn]at kn5
   refine⟨_,_,_,kvs',rfl,s5,g1,by rw[f1,Px];exact kl5,fun d c r' hc hrc hd=>?_⟩
   by_cases z:c=i
   ·subst z
    rw[hr']at hrc
    cases hrc
    exact kn5 d hd
   ·exact km5 d c r' (by omega) hrc hd
 ·rintro σ H2 ⟨v3,v4,v5,kvs,rfl,s2,e1,kl,km⟩
  rw[hR.1]at km
  have get:∀ d,d<2*es.length->∃ c r,rs[c]?=some r/\d∈r/\valV kvs (Sum.inl (d:Int))=some (iV c):=fun d hd=>by
   obtain⟨r,z1,z2⟩:=Qo.mp (ro.all d hd)
   obtain⟨c,z3⟩:=Qz.mp z1
   exact⟨c,r,z3,z2,km d c r (Pp.mp z3).1 z3 z2⟩
  have hxl:xs.length=es.length:=hT.1
  refine⟨_,rfl,a,xs,rfl,.inl (s2.seq hS),_,rfl,by omega,by omega,dt (fun i zs H3=>Same H2 H3/\iG H3 zs i rs) (by rw[PQ,hxl];exact Ql (au (by omega))) ⟨fun _ _ e=>e,rfl,fun i hi=>absurd hi (QA _)⟩ ?_ ?_⟩
  ·rintro i zs H3 hi ⟨s3,sd⟩
   have e0:(0:Int)+(i:Int)=(i:Int):=QR _
   rw[e0]
   rw[PQ,hxl]at hi
   obtain⟨c1,r1,z1,z2,z3⟩:=get (2*i) (by omega)
   obtain⟨c2,r2,y1,y2,y3⟩:=get (2*i+1) (by omega)
   have m2:CMul 2 (i:Int):=.inl ⟨by decide,by decide⟩
   have d1:DGet H3 q (V.int (2*(i:Int))) (some (iV c1)):=by
    rw[← z3,show((2*i:Nat):Int)=2*(i:Int) by omega]
    exact DGet.k (k:=Sum.inl (2*(i:Int))) (s3 _ _ e1)
   have d2:DGet H3 q (V.int (2*(i:Int)+1)) (some (iV c2)):=by
    rw[← y3,show((2*i+1:Nat):Int)=2*(i:Int)+1 by omega]
    exact DGet.k (k:=Sum.inl (2*(i:Int)+1)) (s3 _ _ e1)
   refine⟨_,rfl,_,rfl,_,_,rfl,rfl,m2,q,_,rfl,d1,_,rfl,_,rfl,_,_,rfl,rfl,m2,_,_,rfl,rfl,q,_,rfl,d2,(by show 2<=sizeLine;decide),fun t ht=>?_⟩
   have s4:=ak ht (.tup [iV c1,iV c2])
   refine⟨s3.trans s4,by rw[Px,sd.1];rfl,fun j hj=>?_⟩
   by_cases z:j=i
   ·subst z
    exact⟨t,c1,c2,r1,r2,by rw[← sd.1,Pu (Pz _),P1];rfl,af,z1,z2,y1,y2⟩
   ·obtain⟨p,a',b',r,r',w1,w2,w3⟩:=sd.2 j (by omega)
    exact⟨p,a',b',r,r',by rw[Py (by rw[sd.1];omega)];exact w1,s4 _ _ w2,w3⟩
  ·rintro zs H3 hzl ⟨s3,sd⟩ D hD
   rw[PQ,hxl]at sd
   exact k D zs _ ((s2.trans s3).trans (ak hD _)) af ⟨sd.1,fun i hi=>by
    obtain⟨p,a',b',r,r',w1,w2,w3⟩:=sd.2 i hi
    exact⟨p,a',b',r,r',w1,ak hD _ _ _ w2,w3⟩⟩
theorem vB:aC ["self","one","two","strength"] ["self","one","two","strength"] (aj cH):=⟨rfl,rfl,rfl,by decide +kernel,rfl,by decide +kernel,by decide +kernel⟩
theorem Oc{f:Addr}{fd:FuncData} (F:Fun K "__init__" "Tie.__init__" cH f fd):FnOk P w K mg base CX0 1 f fd ["self","one","two","strength"] (uo K):=by
 refine F.ok vB (fun vs H Q E h=>?_) (fun cdv A outer s H vs Q E hr h=>?_)
 ·obtain⟨p,C,dx,a,b,s,rfl,_⟩:=h
  rfl
 obtain⟨p,C,dx,a,b,st,rfl,hp,T,hne,ha,hb,hs,k⟩:=h
 refine⟨_,(ag (bZ (aG iS (pv 1) (pv 2) (aN _)) (aq cO) aS)
   (ag (bZ (PW.pt (yI (aG yZ (pv 1) ah (aN _)) (ux (aG yZ (pv 2) ah (aN _))))) (aq cO) aS)
   (ag (bZ (aG yZ (pv 3) ah (aN _)) (aq cO) aS)
   (ag (oo (pv 0) (pv 1) rfl)
   (ag (oo (pv 0) (pv 2) rfl)
   (aq (oo (pv 0) (pv 3) rfl))))))),?_⟩
 walk_at "rd"
 refine ite2 (fun c=>absurd (V.int.inj (of_decide_eq_true c)) hne) (fun _=>?_)
 walk_at "rd"
 refine ite2 (fun c=>absurd (of_decide_eq_true c) (by omega)) (fun _=>?_)
 walk_at "rd"
 refine ite2 (fun c=>absurd (of_decide_eq_true c) (by omega)) (fun _=>?_)
 walk_at "rd"
 refine ite2 (fun c=>absurd (of_decide_eq_true c) (by omega)) (fun _=>?_)
 refine⟨_,rfl,_,rfl,p,C,dx,[],rfl,hp,T.cl,T.n1,(by show 0<1000;decide),?_⟩
 refine⟨_,rfl,_,rfl,p,C,dx,_,rfl,af,T.cl,T.n2,f1_len a,?_⟩
 refine⟨_,rfl,_,rfl,p,C,dx,_,rfl,af,T.cl,T.n3,f2_len a b,?_⟩
 exact k _ af fun q o e hq=>by rw[ao hq,ao hq,ao hq];exact e
theorem BI:aC ["script","k"] ["script","k"] (aj eR):=⟨rfl,rfl,rfl,by decide +kernel,rfl,by decide +kernel,by decide +kernel⟩
theorem Of{f:Addr}{fd:FuncData} (F:Fun K "_law_cell" "_law_cell" eR f fd) (T:Txt mg):FnOk P w K mg base CX0 1 f fd ["script","k"] (EE K):=by
 refine F.ok BI (fun vs H Q E h=>?_) (fun cdv A outer s H vs Q E hr h=>?_)
 ·obtain⟨a,k,ns,rfl,_⟩:=h
  rfl
 obtain⟨a,k,ns,rfl,hS,q⟩:=h
 refine⟨_,(ag (bZ (aG yZ (pv 1) (aE ar (by rfl) T.n_len aY (ae (pv 0) ai)) (aN _)) (aq (aI (ax az (pv 0) (pv 1) (fun _ _=>rfl)))) aS)
   (aq (aI ah))),?_⟩
 refine⟨_,rfl,_,rfl,a,_,rfl,.inl hS,_,_,rfl,rfl,_,rfl,?_⟩
 refine ite2 (fun c=>?_) (fun c=>?_)
 ·have c':(k:Int)<((ns.map V.int).length:Int):=of_decide_eq_true c
  rw[PB]at c'
  have hk:k<ns.length:=by omega
  have hat:atI (ns.map V.int) (k:Int)=some (.int (Av ns k)):=aA (by rw[PR,Pq hk];unfold Av;rw[Qm,Pq hk];rfl)
  exact⟨_,rfl,_,rfl,a,_,_,_,rfl,rfl,hS,hat,q⟩
 ·have c':¬ (k:Int)<((ns.map V.int).length:Int):=fun z=>c (decide_eq_true z)
  rw[PB]at c'
  have e:Av ns k=0:=by unfold Av;rw[Qm,So (by omega)];rfl
  rw[e]at q
  exact q
theorem at0{u v:V}:atI [u,v] 0=some u:=rfl
theorem at1{u v:V}:atI [u,v] 1=some v:=rfl
theorem OA{H:Hp}{a:Addr}{ps:List Nat}(h:SqL K H a (ps.map iV)):RdD K H (.ref a) (.list ((ps.map fun(p:Nat)=>((p:Nat):Int)).map PyData.int)):=by
 refine RdD.lst h (by simp) fun i x d e1 e2=>?_
 rw[PR]at e1
 rw[PR,PR]at e2
 cases z:ps[i]? with
 |none=>rw[z]at e1;cases e1
 |some n =>
  rw[z]at e1 e2
  cases e1
  cases e2
  exact .int _
theorem Jw(l:List Int):(PyData.list (l.map PyData.int)).canLay0=true/\(PyData.list (l.map PyData.int)).depth<=10:=by
 have h1:∀ d∈l.map PyData.int,d.canLay0=true/\d.depth<=1:=fun d hd=>by
  obtain⟨x,_,rfl⟩:=Qv.mp hd
  exact⟨by simp[PyData.canLay0],by simp[PyData.depth]⟩
 have h2:=jq fun d hd=>(h1 d hd).1
 have h3:=kZ fun d hd=>(h1 d hd).2
 exact⟨by simp only[PyData.canLay0];exact h2,by simp only[PyData.depth];omega⟩
theorem cZ.put{H:Hp}{ys:List V}{es:En}{q:Addr}{zs:List V}{o:HO}(t:cZ H ys es)(h:H q=some (.lst zs)):cZ (upd H q o) ys es:=⟨t.1,fun i e z=>by
 obtain⟨p,a,b⟩:=t.2 i e z
 refine⟨p,a,?_⟩
 rw[ao (fun z=>by rw[z,h]at b;cases b)]
 exact b⟩
theorem cZ.snoc{H:Hp}{xs:List V}{es:En}{e:Nat×Nat}{p:Addr}(t:cZ H xs es)(h:H p=some (.tup [iV e.1,iV e.2])):cZ H (xs++[.ref p]) (es++[e]):=by
 refine⟨by rw[Px,Px,t.1];rfl,fun j k ej=>?_⟩
 by_cases hj:j<es.length
 ·rw[Py hj]at ej
  obtain⟨p,a1,a2⟩:=t.2 j k ej
  exact⟨p,by rw[Py (by rw[t.1];exact hj)];exact a1,a2⟩
 ·rw[Pu (by omega)]at ej
  have hj2:j=es.length:=by
   have:=(Pp.mp ej).1
   rw[PY]at this
   omega
  subst hj2
  rw[P1]at ej
  cases ej
  exact⟨p,by rw[← t.1,Pu (Pz _),P1];rfl,h⟩
theorem OP{l:List Nat}{k n:Nat}:(ins l k n).length=l.length+1:=by
 unfold ins
 rw[Px,Qc,Qr,QX]
 omega
theorem MZ(X:Int)(n:Nat):0<=X%((n:Int)+1)/\X%((n:Int)+1)<=(n:Int):=⟨Ra _ (by omega),by have:=QW X (show(0:Int)<(n:Int)+1 by omega);omega⟩
def Dist(xs:List V):Prop:=∀(i j:Nat)(p:Addr),xs[i]?=some (.ref p)->xs[j]?=some (.ref p)->i=j
theorem bb.set{S:Addr->Prop}{H:Hp}{xs:List V}{ts:List (List Nat)}{i:Nat}{p:Addr}{l':List Nat}(h:bb S H xs ts)(D:Dist xs)(e:xs[i]?=some (.ref p)):bb S (upd H p (.lst (l'.map iV))) xs (ts.set i l'):=by
 refine⟨by rw[Qa];exact h.1,fun j l z=>?_⟩
 have hi:i<ts.length:=by rw[← h.1];exact(Pp.mp e).1
 rw[Qh]at z
 by_cases hj:i=j
 ·subst hj
  rw[if_pos rfl,if_pos hi]at z
  cases z
  obtain⟨p',a1,a2,a3⟩:=h.2 i _ (Pq hi)
  rw[e]at a1
  cases a1
  exact⟨p,e,a2,af⟩
 ·rw[if_neg hj]at z
  obtain⟨p',a1,a2,a3⟩:=h.2 j l z
  exact⟨p',a1,a2,by rw[ao (fun y=>by rw[y]at a1;exact hj (D i j p e a1))];exact a3⟩
theorem insV{l:List Nat}{k n:Nat}:(l.map iV).take k++V.int (n:Int)::(l.map iV).drop k=(ins l k n).map iV:=by
 unfold ins
 rw[Qw,P7,RW,RX]
 rfl
theorem Ie{H:Hp}{a:Addr}{xs:List V}{ts:List (List Nat)}(h:SqL K H a xs)(hR:bT H xs ts):RdD K H (.ref a) (.list (ts.map fun l=>PyData.list ((l.map fun(p:Nat)=>((p:Nat):Int)).map PyData.int))):=by
 refine RdD.lst h (by rw[PB];exact hR.1) fun i x d e1 e2=>?_
 rw[PR]at e2
 obtain⟨l,hl,rfl⟩:=Qp.mp e2
 obtain⟨p,a1,a2⟩:=hR.2 i l hl
 rw[e1]at a1
 cases a1
 exact OA (SqL.of a2)
theorem BN(ts:List (List Nat)):SeqAt.shaped (.list (ts.map fun l=>PyData.list ((l.map fun(p:Nat)=>((p:Nat):Int)).map PyData.int)))=true:=BD fun d hd=>by
 obtain⟨l,_,rfl⟩:=Qv.mp hd
 exact Jw _
end
end K8
namespace K8
open PySem L2
local macro_rules | `(tactic| walk_at "cc") => `(tactic| first | exact ⟨by decide, by decide⟩ | (show (0 : Int) < _; decide) | (show (0 : Int) < _; omega) | (show (0 : Int) ≤ _; omega) | exact ⟨by decide, by decide, by decide⟩ | exact ⟨by omega, by omega, by decide⟩ | exact Or.inl ⟨by decide, by decide⟩ | exact Or.inl ⟨by omega, by omega⟩)
local macro_rules | `(tactic| walk_at "rd") => `(tactic| repeat (first | refine ⟨_, rfl, ?_⟩ | refine ⟨_, _, rfl, rfl, ?_⟩ | refine ⟨rfl, ?_⟩ | (refine ⟨?cc, ?_⟩; (case cc => walk_at "cc"))))
def Bo(K:Pt):Sp:=fun vs H Q _=>∃(a:Addr)(ys:List V)(es:En)(d:Nat),vs = [.ref a,.int (d:Int)]/\SqL K H a ys/\cZ H ys es/\d<2*es.length/\Q (iV (hd es d)) H
section
variable{P:Program}{w:World}{K:Pt}{mg:Str->Option Value}{base:Heap}
theorem BH:aC ["ends","dart"] ["ends","dart"] (aj eQ):=⟨rfl,rfl,rfl,by decide +kernel,rfl,by decide +kernel,by decide +kernel⟩
theorem LO{f:Addr}{fd:FuncData} (F:Fun K "_law_head" "_law_head" eQ f fd):FnOk P w K mg base CX0 1 f fd ["ends","dart"] (Bo K):=by
 refine F.ok BH (fun vs H Q E h=>?_) (fun cdv A outer s H vs Q E hr h=>?_)
 ·obtain⟨a,ys,es,d,rfl,_⟩:=h
  rfl
 obtain⟨a,ys,es,d,rfl,hS,hE,hdl,k⟩:=h
 have hl:d/2<es.length:=by omega
 have e1:es[d/2]?=some es[d/2]:=Pq hl
 obtain⟨p,x1,x2⟩:=hE.2 _ _ e1
 have hh:hd es d=if d%2=0 then es[d/2].2 else es[d/2].1:=by unfold hd;rw[e1]
 have ed:(d:Int)/2=((d/2:Nat):Int):=by omega
 have hat:atI [iV es[d/2].1,iV es[d/2].2] (1-(d:Int)%2)=some (iV (hd es d)):=by
  by_cases z:d%2=0
  ·rw[hh,if_pos z,show(1-(d:Int)%2)=1 by omega];rfl
  ·rw[hh,if_neg z,show(1-(d:Int)%2)=0 by omega];rfl
 refine⟨_,(aq (aI (ax aH (ax az (pv 0) (aw cP (pv 1) ah) (fun _ _=>rfl)) (aw iR ah (aw bE (pv 1) ah)) (fun _ _=>rfl)))),?_⟩
 exact⟨_,rfl,_,rfl,_,_,rfl,rfl,⟨by decide,by decide⟩,a,ys,_,_,rfl,rfl,hS,(by rw[ed];exact aA x1),_,rfl,_,_,rfl,rfl,(by show(0:Int)<2;decide),_,_,rfl,rfl,p,_,_,_,rfl,rfl,SqT.of x2,hat,k⟩
end
end K8
namespace K8
open PySem L2
local macro_rules | `(tactic| walk_at "cc") => `(tactic| first | exact ⟨by decide, by decide⟩ | (show (0 : Int) < _; decide) | (show (0 : Int) < _; omega) | (show (0 : Int) ≤ _; omega) | exact ⟨by decide, by decide, by decide⟩ | exact ⟨by omega, by omega, by decide⟩ | exact Or.inl ⟨by decide, by decide⟩ | exact Or.inl ⟨by omega, by omega⟩)
local macro_rules | `(tactic| walk_at "rd") => `(tactic| repeat (first | refine ⟨_, rfl, ?_⟩ | refine ⟨_, _, rfl, rfl, ?_⟩ | refine ⟨rfl, ?_⟩ | (refine ⟨?cc, ?_⟩; (case cc => walk_at "cc"))))
theorem Gr.joinP{m:Nat}{es:En}{ts:List (List Nat)}(g:Gr m es ts){left right one two:Nat}{e:Nat×Nat}{l l' xs ys:List Nat}{rest:List (List Nat)}(hl:left<2*es.length)(hr:CR (fol es ts) (2*es.length) (left::(xs++right::ys)))(hch:chain (fol es ts) left (xs++right::ys) left)(hm:right∈left::(xs++right::ys))
  (h1:hd es left=one) (h2:hd es right=two) (hne:one≠two) (he:e=(one,two)∨e=(two,one)) (e1:ts[one]?=some l) (e2:ts[two]?=some l')
  (pr:Part (fol es ts) (2*es.length) ((left::(xs++right::ys))::rest)) :
  Part (fol (es++[e]) ((ts.set one (ins l (l.idxOf (left/2)+1) es.length)).set two (ins l' (l'.idxOf (right/2)+1) es.length))) (2*(es++[e]).length) ((left::bF es.length e one::ys)::(right::bF es.length e two::xs)::rest):=by
 have w:=g.w
 have hrt:right<2*es.length:=hr.lt right hm
 have hlen:=w.len
 have o1:one<m:=by rw[← hlen];exact(Pp.mp e1).1
 have o2:two<m:=by rw[← hlen];exact(Pp.mp e2).1
 have W:bz m (es++[e]) ((ts.set one (ins l (l.idxOf (left/2)+1) es.length)).set two (ins l' (l'.idxOf (right/2)+1) es.length)):=by
  rcases he with rfl | rfl
  ·exact w.put o1 o2 hne e1 e2
  ·exact(w.put o1 o2 hne e1 e2).flip
 have r1:((ts.set one (ins l (l.idxOf (left/2)+1) es.length)).set two (ins l' (l'.idxOf (right/2)+1) es.length))[one]?=some (ins l (l.idxOf (left/2)+1) es.length):=by
  rw[Qh,if_neg (fun z=>hne z.symm),Qh,if_pos rfl,if_pos (by rw[hlen];exact o1)]
 have r2:((ts.set one (ins l (l.idxOf (left/2)+1) es.length)).set two (ins l' (l'.idxOf (right/2)+1) es.length))[two]?=some (ins l' (l'.idxOf (right/2)+1) es.length):=by
  rw[Qh,if_pos rfl,if_pos (by rw[Qa,hlen];exact o2)]
 have r3:∀ p,p≠one->p≠two->((ts.set one (ins l (l.idxOf (left/2)+1) es.length)).set two (ins l' (l'.idxOf (right/2)+1) es.length))[p]?=ts[p]?:=fun p n1 n2=>by
  rw[Qh,if_neg (fun z=>n2 z.symm),Qh,if_neg (fun z=>n1 z.symm)]
 generalize (ts.set one (ins l (l.idxOf (left/2)+1) es.length)).set two (ins l' (l'.idxOf (right/2)+1) es.length)=ts' at W r1 r2 r3
 obtain⟨a1,a2,a3⟩:=nC (e:=e) w e1 hl h1 r1
 obtain⟨b1,b2,b3⟩:=nC (e:=e) w e2 hrt h2 r2
 obtain⟨d1,d2,d3,d4⟩:=pX (es:=es) hne he
 have fa:=b2 _ (aV _ _ _) d1
 have fb:=a2 _ (aV _ _ _) d2
 have els:∀ d,d<2*es.length->d≠left->d≠right->fol (es++[e]) ts' d=fol es ts d:=fun d hd' n1 n2=>by
  by_cases z1:hd es d=one
  ·exact a3 d hd' n1 z1
  ·by_cases z2:hd es d=two
   ·exact b3 d hd' n2 z2
   ·exact pR w hd' (r3 _ z1 z2)
 generalize ha:bF es.length e one=α at *
 generalize hb:bF es.length e two=β at *
 have hα:α/2=es.length:=by rw[← ha];exact aV _ _ _
 have hβ:β/2=es.length:=by rw[← hb];exact aV _ _ _
 have hlr:right≠left:=fun z=>hne (by rw[← h1,← h2,z])
 have hm':right∈xs++right::ys:=by
  rcases Pw.mp hm with z | z
  ·exact absurd z hlr
  ·exact z
 obtain⟨c1,c2⟩:=cy.mp hch
 have nd:=hr.nd
 have ltx:∀ t∈xs,t<2*es.length/\t≠left/\t≠right:=fun t ht=>by
  refine⟨hr.lt t (by simp[ht]),fun z=>?_,fun z=>?_⟩
  ·subst z;exact(PF.mp nd).1 (by simp[ht])
  ·subst z
   have:=(PZ.mp (PF.mp nd).2).2.2 t ht t (by simp)
   exact this rfl
 have lty:∀ t∈ys,t<2*es.length/\t≠left/\t≠right:=fun t ht=>by
  refine⟨hr.lt t (by simp[ht]),fun z=>?_,fun z=>?_⟩
  ·subst z;exact(PF.mp nd).1 (by simp[ht])
  ·subst z
   exact(PF.mp (PZ.mp (PF.mp nd).2).2.1).1 ht
 have ndr:=pr.nd
 rw[P9]at ndr
 obtain⟨_,nd2,nd3⟩:=PZ.mp ndr
 have ltr:∀ t∈rest.flatten,t<2*es.length/\t≠left/\t≠right:=fun t ht=>by
  obtain⟨q,q1,q2⟩:=Qo.mp ht
  exact⟨(pr.cr q (PD _ q1)).lt t q2,fun z=>nd3 left (by simp) t ht z.symm,fun z=>nd3 right (by simp) t ht z.symm⟩
 have hlen2:(es++[e]).length=es.length+1:=by rw[Px];rfl
 have PP:Part (fol (es++[e]) ts') (2*(es++[e]).length) ((left::α::ys)::(right::β::xs)::rest):=by
  refine⟨fun q hq=>?_,?_,fun d hd'=>?_⟩
  ·rcases Pw.mp hq with z | z
   ·subst z
    refine⟨⟨left,α::ys,rfl,a1,f9 c2 fa fun t ht=>els t (lty t ht).1 (lty t ht).2.1 (lty t ht).2.2⟩,fun d hd'=>?_,?_⟩
    ·rw[hlen2]
     simp only[Pw]at hd'
     rcases hd' with y | y | y
     ·omega
     ·omega
     ·have:=(lty d y).1;omega
    ·refine PF.mpr ⟨fun y=>?_,PF.mpr ⟨fun y=>?_,?_⟩⟩
     ·rcases Pw.mp y with y | y
      ·omega
      ·exact(lty _ y).2.1 rfl
     ·have:=(lty _ y).1;omega
     ·exact(PF.mp (PZ.mp (PF.mp nd).2).2.1).2
   ·rcases Pw.mp z with z | z
    ·subst z
     refine⟨⟨right,β::xs,rfl,b1,f9 c1 fb fun t ht=>els t (ltx t ht).1 (ltx t ht).2.1 (ltx t ht).2.2⟩,fun d hd'=>?_,?_⟩
     ·rw[hlen2]
      simp only[Pw]at hd'
      rcases hd' with y | y | y
      ·omega
      ·omega
      ·have:=(ltx d y).1;omega
     ·refine PF.mpr ⟨fun y=>?_,PF.mpr ⟨fun y=>?_,?_⟩⟩
      ·rcases Pw.mp y with y | y
       ·omega
       ·exact(ltx _ y).2.2 rfl
      ·have:=(ltx _ y).1;omega
      ·exact(PZ.mp (PF.mp nd).2).1
    ·refine(pr.cr q (PD _ z)).mono (by rw[hlen2];omega) fun t ht=>?_
     obtain⟨k1,k2,k3⟩:=ltr t (Qo.mpr ⟨q,z,ht⟩)
     exact els t k1 k2 k3
  ·have dis:∀ x∈xs,∀ y∈ys,x≠y:=fun x hx y hy=>(PZ.mp (PF.mp nd).2).2.2 x hx y (by simp[hy])
   rw[P9,P9]
   refine PZ.mpr ⟨?_,PZ.mpr ⟨?_,nd2,fun a ha b hb=>?_⟩,fun a ha b hb=>?_⟩
   ·refine PF.mpr ⟨fun y=>?_,PF.mpr ⟨fun y=>?_,(PF.mp (PZ.mp (PF.mp nd).2).2.1).2⟩⟩
    ·rcases Pw.mp y with y | y
     ·omega
     ·exact(lty _ y).2.1 rfl
    ·have:=(lty _ y).1;omega
   ·refine PF.mpr ⟨fun y=>?_,PF.mpr ⟨fun y=>?_,(PZ.mp (PF.mp nd).2).1⟩⟩
    ·rcases Pw.mp y with y | y
     ·omega
     ·exact(ltx _ y).2.2 rfl
    ·have:=(ltx _ y).1;omega
   ·obtain⟨k1,k2,k3⟩:=ltr b hb
    simp only[Pw]at ha
    rcases ha with y | y | y
    ·exact fun z=>k3 (z▸y)
    ·omega
    ·exact nd3 a (by simp[y]) b hb
   ·simp only[Pw,PM]at ha hb
    rcases hb with(y | y | y) | y
    ·rcases ha with z | z | z
     ·exact fun u=>hlr (by rw[← y,← u,z])
     ·have:=hrt;omega
     ·exact fun u=>(lty a z).2.2 (u.trans y)
    ·rcases ha with z | z | z
     ·omega
     ·omega
     ·have:=(lty a z).1;omega
    ·rcases ha with z | z | z
     ·exact fun u=>(ltx b y).2.1 (u▸z)
     ·have:=(ltx b y).1;omega
     ·exact fun u=>dis b y a z u.symm
    ·obtain⟨k1,k2,k3⟩:=ltr b y
     rcases ha with z | z | z
     ·exact fun u=>k2 (u▸z)
     ·omega
     ·exact nd3 a (by simp[z]) b y
  ·rw[hlen2]at hd'
   simp only[P9,PM,Pw]
   rcases d4 d hd' with y | y | y
   ·have:=pr.all d y
    simp only[P9,PM,Pw]at this
    rcases this with(z | z | z | z) | z
    ·exact .inl (.inl z)
    ·exact .inr (.inl (.inr (.inr z)))
    ·exact .inr (.inl (.inl z))
    ·exact .inl (.inr (.inr z))
    ·exact .inr (.inr z)
   ·exact .inl (.inr (.inl y))
   ·exact .inr (.inl (.inr (.inl y)))
 exact PP
theorem Gr.leafP{m:Nat}{es:En}{ts:List (List Nat)}(g:Gr m es ts){left one:Nat}{e:Nat×Nat}{l tail:List Nat}{rest:List (List Nat)}(hl:left<2*es.length)(hr:CR (fol es ts) (2*es.length) (left::tail))(hch:chain (fol es ts) left tail left)
  (h1:hd es left=one) (he:e=(one,m)∨e=(m,one)) (e1:ts[one]?=some l)
  (pr:Part (fol es ts) (2*es.length) ((left::tail)::rest)) :
  Part (fol (es++[e]) (ts.set one (ins l (l.idxOf (left/2)+1) es.length)++[[es.length]])) (2*(es++[e]).length) ((left::bF es.length e one::bF es.length e m::tail)::rest):=by
 have w:=g.w
 have hlen:=w.len
 have o1:one<m:=by rw[← hlen];exact(Pp.mp e1).1
 have hne:one≠m:=by omega
 have W:bz (m+1) (es++[e]) (ts.set one (ins l (l.idxOf (left/2)+1) es.length)++[[es.length]]):=by
  have q:=w.room.put (one:=one) (two:=m) (k:=l.idxOf (left/2)+1) (j:=0) (l:=l) (l':=[]) (by omega) (by omega) hne (by rw[Py (by omega)];exact e1) (by rw[Pu (by omega),hlen,P1];rfl)
  have q2:((ts++[[]]).set one (ins l (l.idxOf (left/2)+1) es.length)).set m (ins [] 0 es.length)=ts.set one (ins l (l.idxOf (left/2)+1) es.length)++[[es.length]]:=by
   rw[Sv _ _ (by omega),List.set_append_right _ _ (by rw[Qa];omega),Qa,hlen,P1]
   rfl
  rw[q2]at q
  rcases he with rfl | rfl
  ·exact q
  ·exact q.flip
 have r1:(ts.set one (ins l (l.idxOf (left/2)+1) es.length)++[[es.length]])[one]?=some (ins l (l.idxOf (left/2)+1) es.length):=by
  rw[Py (by rw[Qa];omega),Qh,if_pos rfl,if_pos (by omega)]
 have r2:(ts.set one (ins l (l.idxOf (left/2)+1) es.length)++[[es.length]])[m]?=some [es.length]:=by
  rw[Pu (by rw[Qa];omega),Qa,hlen,P1]
  rfl
 have r3:∀ p,p≠one->p<m->(ts.set one (ins l (l.idxOf (left/2)+1) es.length)++[[es.length]])[p]?=ts[p]?:=fun p n1 n2=>by
  rw[Py (by rw[Qa];omega),Qh,if_neg (fun z=>n1 z.symm)]
 generalize ts.set one (ins l (l.idxOf (left/2)+1) es.length)++[[es.length]]=ts' at W r1 r2 r3
 obtain⟨a1,a2,a3⟩:=nC (e:=e) w e1 hl h1 r1
 obtain⟨d1,d2,d3,d4⟩:=pX (es:=es) hne he
 have fb:=a2 _ (aV _ _ _) d2
 have fa:fol (es++[e]) ts' (bF es.length e one)=bF es.length e m:=by
  rw[fx (l:=[es.length]) (by rw[d1];exact r2),aV,d1]
  have:nxt [es.length] es.length=es.length:=by
   unfold nxt
   rw[Sw]
   simp
  rw[this,qL]
  rfl
 have els:∀ d,d<2*es.length->d≠left->fol (es++[e]) ts' d=fol es ts d:=fun d hd' n1=>by
  by_cases z1:hd es d=one
  ·exact a3 d hd' n1 z1
  ·obtain⟨_,_,_,_,_,k4,_⟩:=w.at hd'
   exact pR w hd' (r3 _ z1 k4)
 generalize ha:bF es.length e one=α at *
 generalize hb:bF es.length e m=β at *
 have hα:α/2=es.length:=by rw[← ha];exact aV _ _ _
 have hβ:β/2=es.length:=by rw[← hb];exact aV _ _ _
 have nd:=hr.nd
 have ltt:∀ t∈tail,t<2*es.length/\t≠left:=fun t ht=>⟨hr.lt t (by simp[ht]),fun z=>(PF.mp nd).1 (z▸ht)⟩
 have ndr:=pr.nd
 rw[P9]at ndr
 obtain⟨_,nd2,nd3⟩:=PZ.mp ndr
 have ltr:∀ t∈rest.flatten,t<2*es.length/\t≠left:=fun t ht=>by
  obtain⟨q,q1,q2⟩:=Qo.mp ht
  exact⟨(pr.cr q (PD _ q1)).lt t q2,fun z=>nd3 left (by simp) t ht z.symm⟩
 have hlen2:(es++[e]).length=es.length+1:=by rw[Px];rfl
 have nd4:(left::α::β::tail).Nodup:=by
  refine PF.mpr ⟨fun y=>?_,PF.mpr ⟨fun y=>?_,PF.mpr ⟨fun y=>?_,(PF.mp nd).2⟩⟩⟩
  ·simp only[Pw]at y
   rcases y with y | y | y
   ·omega
   ·omega
   ·exact(ltt _ y).2 rfl
  ·simp only[Pw]at y
   rcases y with y | y
   ·exact d3 y
   ·have:=(ltt _ y).1;omega
  ·have:=(ltt _ y).1;omega
 have PP:Part (fol (es++[e]) ts') (2*(es++[e]).length) ((left::α::β::tail)::rest):=by
  refine⟨fun q hq=>?_,?_,fun d hd'=>?_⟩
  ·rcases Pw.mp hq with z | z
   ·subst z
    refine⟨⟨left,α::β::tail,rfl,a1,fa,f9 hch fb fun t ht=>els t (ltt t ht).1 (ltt t ht).2⟩,fun d hd'=>?_,nd4⟩
    rw[hlen2]
    simp only[Pw]at hd'
    rcases hd' with y | y | y | y
    ·omega
    ·omega
    ·omega
    ·have:=(ltt d y).1;omega
   ·refine(pr.cr q (PD _ z)).mono (by rw[hlen2];omega) fun t ht=>?_
    obtain⟨k1,k2⟩:=ltr t (Qo.mpr ⟨q,z,ht⟩)
    exact els t k1 k2
  ·rw[P9]
   refine PZ.mpr ⟨nd4,nd2,fun a ha b hb=>?_⟩
   obtain⟨k1,k2⟩:=ltr b hb
   simp only[Pw]at ha
   rcases ha with y | y | y | y
   ·exact fun u=>k2 (u▸y)
   ·omega
   ·omega
   ·exact nd3 a (by simp[y]) b hb
  ·rw[hlen2]at hd'
   simp only[P9,PM,Pw]
   rcases d4 d hd' with y | y | y
   ·have:=pr.all d y
    simp only[P9,PM,Pw]at this
    rcases this with(z | z) | z
    ·exact .inl (.inl z)
    ·exact .inl (.inr (.inr (.inr z)))
    ·exact .inr z
   ·exact .inl (.inr (.inl y))
   ·exact .inl (.inr (.inr (.inl y)))
 exact PP
theorem CR.turn{f:Nat->Nat}{N:Nat}{A B:List Nat}(h:CR f N (A++B))(nb:B≠[]):CR f N (B++A):=by
 have pm:(B++A).Perm (A++B):=QP
 refine⟨?_,fun d hd=>h.lt d (pm.mem_iff.mp hd),pm.nodup_iff.mpr h.nd⟩
 match A,B,h,nb with
 |[],B,h,_ =>
  rw[RL]
  exact h.ch
 |x::A,b::B,h,_ =>
  obtain⟨y,l,e,c⟩:=h.ch
  rw[Rf]at e
  cases e
  obtain⟨c1,c2⟩:=cy.mp c
  exact⟨b,B++x::A,rfl,cy.mpr ⟨c2,c1⟩⟩
theorem Part.perm{f:Nat->Nat}{N:Nat}{rs rs':List (List Nat)}(p:Part f N rs)(h:rs.Perm rs'):Part f N rs' :=
 ⟨fun r hr=>p.cr r (h.mem_iff.mpr hr),h.flatten.nodup_iff.mp p.nd,fun d hd=>h.flatten.mem_iff.mp (p.all d hd)⟩
theorem Part.swap{f:Nat->Nat}{N:Nat}{r r':List Nat}{rest:List (List Nat)}(p:Part f N (r::rest))(h:CR f N r')(pm:r'.Perm r):Part f N (r'::rest):=by
 have q:((r'::rest).flatten).Perm ((r::rest).flatten):=by
  rw[P9,P9]
  exact pm.append_right _
 refine⟨fun x hx=>?_,q.nodup_iff.mpr p.nd,fun d hd=>q.mem_iff.mpr (p.all d hd)⟩
 rcases Pw.mp hx with z | z
 ·rw[z];exact h
 ·exact p.cr x (PD _ z)
theorem vR:∀{rs:List (List Nat)}{i:Nat}{r:List Nat},rs[i]?=some r->rs.Perm (r::rs.eraseIdx i)
 |[],i,r,h=>by cases h
 |x::rs,0,r,h=>by cases h;exact List.Perm.refl _
 |x::rs,i+1,r,h=>by
  have ih:=vR (rs:=rs) (i:=i) (r:=r) h
  show(x::rs).Perm (r::x::rs.eraseIdx i)
  exact(ih.cons x).trans (List.Perm.swap r x _)
theorem EJ{rs:List (List Nat)}{i:Nat}(hi:i<rs.length)(r:List Nat):(r::rs.eraseIdx i).Perm (rs.set i r):=by
 have h:(rs.set i r)[i]?=some r:=by rw[Sj hi]
 have:=vR h
 rw[List.eraseIdx_set_eq]at this
 exact this.symm
theorem HA{m:Nat}{es:En}{ts rings:List (List Nat)}(g:Gr m es ts)(pt:Part (fol es ts) (2*es.length) rings){w left right one two:Nat}{A B C:List Nat}(hw:rings[w]?=some (A++left::(B++right::C))){e:Nat×Nat}{l l':List Nat}(h1:hd es left=one)(h2:hd es right=two)(hne:one≠two)(he:e=(one,two)∨e=(two,one))(e1:ts[one]?=some l)(e2:ts[two]?=some l') :
  Gr m (es++[e]) ((ts.set one (ins l (l.idxOf (left/2)+1) es.length)).set two (ins l' (l'.idxOf (right/2)+1) es.length)) /\
  Part (fol (es++[e]) ((ts.set one (ins l (l.idxOf (left/2)+1) es.length)).set two (ins l' (l'.idxOf (right/2)+1) es.length))) (2*(es++[e]).length) (rings.set w (A++left::bF es.length e one::C)++[B++[right,bF es.length e two]]):=by
 have wl:=(Pp.mp hw).1
 have p1:=pt.perm (vR hw)
 have c0:=p1.cr _ (PH ..)
 have c1:CR (fol es ts) (2*es.length) (left::(B++right::(C++A))):=by
  have:=c0.turn (List.cons_ne_nil _ _)
  rw[Rf,Ro,Rf]at this
  exact this
 have pm:(left::(B++right::(C++A))).Perm (A++left::(B++right::C)):=by
  have:(left::(B++right::C)++A).Perm (A++left::(B++right::C)):=QP
  rw[Rf,Ro,Rf]at this
  exact this
 have p2:=p1.swap c1 pm
 have hl:=c1.lt left (PH ..)
 obtain⟨x,tl,ex,ch⟩:=c1.ch
 cases ex
 have hm:right∈left::(B++right::(C++A)):=by simp
 refine⟨g.join hl c1 ch hm h1 h2 hne he e1 e2,?_⟩
 have q:=g.joinP hl c1 ch hm h1 h2 hne he e1 e2 p2
 generalize (ts.set one (ins l (l.idxOf (left/2)+1) es.length)).set two (ins l' (l'.idxOf (right/2)+1) es.length)=ts' at q ⊢
 generalize bF es.length e one=α at q ⊢
 generalize bF es.length e two=β at q ⊢
 have d1:CR (fol (es++[e]) ts') (2*(es++[e]).length) (A++left::α::C):=by
  have h:=q.cr _ (PH ..)
  by_cases na:A = []
  ·subst na
   rw[RL]at h
   exact h
  ·have h':CR (fol (es++[e]) ts') (2*(es++[e]).length) ((left::α::C)++A):=h
   exact h'.turn na
 have pm1:(A++left::α::C).Perm (left::α::(C++A)):=(QP:(A++(left::α::C)).Perm ((left::α::C)++A))
 have q1:=q.swap d1 pm1
 have q2:=q1.perm (List.Perm.swap _ _ _)
 have d2:CR (fol (es++[e]) ts') (2*(es++[e]).length) (B++[right,β]):=by
  have h:=q2.cr _ (PH ..)
  by_cases nb:B = []
  ·subst nb;exact h
  ·have h':CR (fol (es++[e]) ts') (2*(es++[e]).length) ([right,β]++B):=h
   exact h'.turn nb
 have q3:=q2.swap d2 (QP:(B++[right,β]).Perm ([right,β]++B))
 refine q3.perm ?_
 refine(List.Perm.cons _ (EJ wl _)).trans ?_
 exact(QP:([B++[right,β]]++rings.set w (A++left::α::C)).Perm _)
theorem Hz{m:Nat}{es:En}{ts rings:List (List Nat)}(g:Gr m es ts)(pt:Part (fol es ts) (2*es.length) rings){w left one:Nat}{A B:List Nat}(hw:rings[w]?=some (A++left::B)){e:Nat×Nat}{l:List Nat}(h1:hd es left=one)(he:e=(one,m)∨e=(m,one))(e1:ts[one]?=some l) :
  Gr (m+1) (es++[e]) (ts.set one (ins l (l.idxOf (left/2)+1) es.length)++[[es.length]]) /\
  Part (fol (es++[e]) (ts.set one (ins l (l.idxOf (left/2)+1) es.length)++[[es.length]])) (2*(es++[e]).length) (rings.set w (A++left::bF es.length e one::bF es.length e m::B)):=by
 have wl:=(Pp.mp hw).1
 have p1:=pt.perm (vR hw)
 have c0:=p1.cr _ (PH ..)
 have c1:CR (fol es ts) (2*es.length) (left::(B++A)):=c0.turn (List.cons_ne_nil _ _)
 have p2:=p1.swap c1 (QP:((left::B)++A).Perm (A++left::B))
 have hl:=c1.lt left (PH ..)
 obtain⟨x,tl,ex,ch⟩:=c1.ch
 cases ex
 refine⟨g.leaf hl c1 ch h1 he e1,?_⟩
 have q:=g.leafP hl c1 ch h1 he e1 p2
 generalize ts.set one (ins l (l.idxOf (left/2)+1) es.length)++[[es.length]]=ts' at q ⊢
 generalize bF es.length e one=α at q ⊢
 generalize bF es.length e m=β at q ⊢
 have d1:CR (fol (es++[e]) ts') (2*(es++[e]).length) (A++left::α::β::B):=by
  have h:=q.cr _ (PH ..)
  by_cases na:A = []
  ·subst na
   rw[RL]at h
   exact h
  ·have h':CR (fol (es++[e]) ts') (2*(es++[e]).length) ((left::α::β::B)++A):=h
   exact h'.turn na
 have q1:=q.swap d1 (QP:(A++(left::α::β::B)).Perm ((left::α::β::B)++A))
 exact q1.perm (EJ wl _)
def HG(K:Pt):Sp:=fun vs H Q _=>∃(pt q:Addr)(xs:List V)(p d n:Nat)(l:List Nat),vs = [.ref pt,.int (p:Int),.int (d:Int),.int (n:Int)]/\SqL K H pt xs/\xs[p]?=some (.ref q)/\H q=some (.lst (l.map iV))/\d/2∈l/\l.length<=70/\(∀ x∈l,x<1000)/\Q .non (upd H q (.lst ((ins l (l.idxOf (d/2)+1) n).map iV)))
section
variable{P:Program}{w:World}{K:Pt}{mg:Str->Option Value}{base:Heap}
theorem ur:aC ["turns","place","behind","fresh","row"] ["turns","place","behind","fresh"] (aj gD):=⟨rfl,rfl,rfl,by decide +kernel,rfl,by decide +kernel,by decide +kernel⟩
theorem ok_put{f:Addr}{fd:FuncData} (F:Fun K "_law_put" "_law_put" gD f fd):FnOk P w K mg base CX0 1 f fd ["turns","place","behind","fresh"] (HG K):=by
 refine F.ok ur (fun vs H Q E h=>?_) (fun cdv A outer s H vs Q E hr h=>?_)
 ·obtain⟨pt,q,xs,p,d,n,l,rfl,_⟩:=h
  rfl
 obtain⟨pt,q,xs,p,d,n,l,rfl,hS,hx,hq,hd,l60,lb,kk⟩:=h
 have ix:l.idxOf (d/2)<l.length:=List.idxOf_lt_length_of_mem hd
 have ll:(l.map iV).length=l.length:=PB ..
 have eL:(d:Int)/2=((d/2:Nat):Int):=by omega
 refine⟨_,(ag (av (i:=4) ur.nd rfl (Or.inl rfl) (ax az (pv 0) (pv 1) (fun _ _=>rfl)))
   (aq (a7 (gf P4 S7 S6 zA (pv 4) (ae (aw bA (gf P4 Te Td ES (pv 4) (ae (aw cP (pv 2) ah) ai)) ah) (ae (pv 3) ai)))))),?_⟩
 refine⟨_,rfl,_,rfl,pt,xs,_,_,rfl,rfl,hS,aA hx,?_⟩
 refine⟨_,rfl,.inl ⟨rfl,_,SqL.of hq⟩,_,rfl,.inl ⟨rfl,_,SqL.of hq⟩,_,rfl,_,_,rfl,rfl,⟨by decide,by decide⟩,q,l,d/2,rfl,congrArg (fun z=>[V.int z]) eL,SqL.of hq,fun p hp=>by have:=lb p hp;omega,by omega,hd,_,_,rfl,rfl,_,rfl,q,_,_,_,rfl,rfl,hq,by omega,by omega,au (by omega),?_⟩
 rw[insV,show(((l.idxOf (d/2):Nat):Int)+1).toNat=l.idxOf (d/2)+1 by omega]
 exact kk
end
structure GwC(S:Addr->Prop)(H:Hp)(pe pt pr:Addr)(ys xs zs:List V)(es:En)(ts rg:List (List Nat)):Prop where
 he:H pe=some (.lst ys)
 en:cZ H ys es
 ht:H pt=some (.lst xs)
 rx:bb (fun p=>p=pe∨p=pt∨p=pr∨S p) H xs ts
 di:Dist xs
 hr:H pr=some (.lst zs)
 rz:bb (fun p=>(p=pe∨p=pt∨p=pr)∨V.ref p∈xs∨S p) H zs rg
 ne:pe≠pt/\pe≠pr/\pt≠pr/\¬ S pe/\¬ S pt/\¬ S pr
 sl:∀ p,S p->H p≠none
def Keep(S:Addr->Prop)(H H':Hp):Prop:=∀ p o,S p->H p=some o->H' p=some o
theorem Keep.trans{S:Addr->Prop}{H H1 H2:Hp}(a:Keep S H H1)(b:Keep S H1 H2):Keep S H H2:=fun p o s h=>b p o s (a p o s h)
theorem Keep.of{S:Addr->Prop}{H H1:Hp}(a:Same H H1):Keep S H H1:=fun p o _ h=>a p o h
theorem Keep.upd{S:Addr->Prop}{H:Hp}{q:Addr}{o:HO}(n:¬ S q):Keep S H (upd H q o):=fun p u s h=>by rw[ao (show p≠q from fun z=>n (z▸s))];exact h
theorem Ho{S:Addr->Prop}{H:Hp}{xs:List V}{ts:List (List Nat)}(h:bb S H xs ts){p:Addr}(m:V.ref p∈xs):H p≠none:=by
 obtain⟨i,hi⟩:=Qz.mp m
 have il:=(Pp.mp hi).1
 obtain⟨p',a1,_,a3⟩:=h.2 i _ (Pq (by rw[← h.1];exact il))
 rw[hi]at a1
 cases a1
 rw[a3]
 exact fun z=>nomatch z
section
variable{S:Addr->Prop}{H H':Hp}{pe pt pr:Addr}{ys xs zs:List V}{es:En}{ts rg:List (List Nat)}
theorem GwC.same(c:GwC S H pe pt pr ys xs zs es ts rg)(s:Same H H'):GwC S H' pe pt pr ys xs zs es ts rg :=
 ⟨s _ _ c.he,c.en.mono s,s _ _ c.ht,c.rx.mono fun p o _ z=>s _ _ z,c.di,s _ _ c.hr,c.rz.mono fun p o _ z=>s _ _ z,c.ne,fun p sp z=>by
  cases y:H p with
  |none=>exact c.sl p sp y
  |some o=>rw[s _ _ y]at z;cases z⟩
theorem GwC.new(c:GwC S H pe pt pr ys xs zs es ts rg){b:Addr}(h:H b=none):b≠pe/\b≠pt/\b≠pr/\¬ S b/\V.ref b∉xs/\V.ref b∉zs :=
 ⟨fun z=>(by rw[z,c.he]at h;cases h),fun z=>(by rw[z,c.ht]at h;cases h),fun z=>(by rw[z,c.hr]at h;cases h),fun z=>c.sl b z h,fun z=>Ho c.rx z h,fun z=>Ho c.rz z h⟩
theorem GwC.put(c:GwC S H pe pt pr ys xs zs es ts rg){i:Nat}{q:Addr}(hx:xs[i]?=some (.ref q))(l':List Nat):GwC S (upd H q (.lst (l'.map iV))) pe pt pr ys xs zs es (ts.set i l') rg/\¬ S q:=by
 have il:i<ts.length:=by rw[← c.rx.1];exact(Pp.mp hx).1
 obtain⟨q',a1,a2,a3⟩:=c.rx.2 i _ (Pq il)
 rw[hx]at a1
 cases a1
 have n1:pe≠q:=fun z=>a2 (.inl z.symm)
 have n2:pt≠q:=fun z=>a2 (.inr (.inl z.symm))
 have n3:pr≠q:=fun z=>a2 (.inr (.inr (.inl z.symm)))
 have n4:¬ S q:=fun z=>a2 (.inr (.inr (.inr z)))
 refine⟨⟨by rw[ao n1];exact c.he,c.en.put a3,by rw[ao n2];exact c.ht,c.rx.set c.di hx,c.di,by rw[ao n3];exact c.hr,c.rz.mono fun p o n z=>?_,c.ne,fun p sp z=>?_⟩,n4⟩
 ·rw[ao (show p≠q from fun y=>n (.inr (.inl (y▸Pr hx))))];exact z
 ·rw[ao (show p≠q from fun y=>n4 (y▸sp))]at z;exact c.sl p sp z
theorem GwC.updR(c:GwC S H pe pt pr ys xs zs es ts rg){zs':List V}{rg':List (List Nat)}(hz:bb (fun p=>(p=pe∨p=pt∨p=pr)∨V.ref p∈xs∨S p) H zs' rg'):GwC S (upd H pr (.lst zs')) pe pt pr ys xs zs' es ts rg':=by
 obtain⟨n1,n2,n3,n4,n5,n6⟩:=c.ne
 refine⟨by rw[ao n2];exact c.he,c.en.put c.hr,by rw[ao n3];exact c.ht,c.rx.mono fun p o n z=>?_,c.di,af,hz.mono fun p o n z=>?_,c.ne,fun p sp z=>?_⟩
 ·rw[ao (fun y=>n (.inr (.inr (.inl y))))];exact z
 ·rw[ao (fun y=>n (.inl (.inr (.inr y))))];exact z
 ·rw[ao (show p≠pr from fun y=>n6 (y▸sp))]at z;exact c.sl p sp z
theorem yH{S:Addr->Prop}{H:Hp}{zs:List V}{rg:List (List Nat)}(h:bb S H zs rg){W:Nat}{b:Addr}{r:List Nat}(n:¬ S b)(e:H b=some (.lst (r.map iV))):bb S H (zs.set W (.ref b)) (rg.set W r):=by
 refine⟨by rw[Qa,Qa];exact h.1,fun j l z=>?_⟩
 rw[Qh]at z ⊢
 by_cases hj:W=j
 ·rw[if_pos hj]at z ⊢
  by_cases hl:W<rg.length
  ·rw[if_pos hl]at z
   cases z
   exact⟨b,by rw[if_pos (by rw[h.1];exact hl)],n,e⟩
  ·rw[if_neg hl]at z;cases z
 ·rw[if_neg hj]at z ⊢
  exact h.2 j l z
theorem GwC.leaf(c:GwC S H pe pt pr ys xs zs es ts rg){pn:Addr}(hp:pn≠pe/\pn≠pt/\pn≠pr/\¬ S pn/\V.ref pn∉xs/\V.ref pn∉zs){l:List Nat}(e:H pn=some (.lst (l.map iV))):GwC S (upd H pt (.lst (xs++[.ref pn]))) pe pt pr ys (xs++[.ref pn]) zs es (ts++[l]) rg:=by
 obtain⟨n1,n2,n3,n4,n5,n6⟩:=c.ne
 obtain⟨m1,m2,m3,m4,m5,m6⟩:=hp
 have R:=c.rx.snoc (q:=pn) (l:=l) (by rintro(z | z | z | z);exact m1 z;exact m2 z;exact m3 z;exact m4 z) e
 refine⟨by rw[ao n1];exact c.he,c.en.put c.ht,af,R.mono fun p o n z=>?_,fun i j p e1 e2=>?_,by rw[ao (Ne.symm n3)];exact c.hr,⟨c.rz.1,fun i l hl=>?_⟩,c.ne,fun p sp z=>?_⟩
 ·rw[ao (fun y=>n (.inr (.inl y)))];exact z
 ·have old:∀ k,(xs++[V.ref pn])[k]?=some (.ref p)->(xs[k]?=some (.ref p))∨(k=xs.length/\p=pn):=fun k ek=>by
   by_cases hk:k<xs.length
   ·rw[Py hk]at ek;exact .inl ek
   ·have:=(Pp.mp ek).1
    rw[Px,PY]at this
    have hk2:k=xs.length:=by omega
    subst hk2
    rw[Pu (Pz _),P1]at ek
    cases ek
    exact .inr ⟨rfl,rfl⟩
  rcases old i e1 with a | ⟨a,a'⟩
  ·rcases old j e2 with b | ⟨b,b'⟩
   ·exact c.di i j p a b
   ·exact absurd (b'▸Pr a) m5
  ·rcases old j e2 with b | ⟨b,b'⟩
   ·exact absurd (a'▸Pr b) m5
   ·rw[a,b]
 ·obtain⟨p,a1,a2,a3⟩:=c.rz.2 i l hl
  refine⟨p,a1,?_,?_⟩
  ·rintro(y | y | y)
   ·exact a2 (.inl y)
   ·rcases PM.mp y with y | y
    ·exact a2 (.inr (.inl y))
    ·have:p=pn:=by
      have:=Qy.mp y
      cases this;rfl
     exact m6 (this▸Pr a1)
   ·exact a2 (.inr (.inr y))
  ·rw[ao (fun y=>a2 (.inl (.inr (.inl y))))];exact a3
 ·rw[ao (show p≠pt from fun y=>n5 (y▸sp))]at z;exact c.sl p sp z
theorem GwC.fin(c:GwC S H pe pt pr ys xs zs es ts rg){i:Nat}{q:Addr}(hx:xs[i]?=some (.ref q))(l':List Nat){t:Addr}(ht:(upd H q (.lst (l'.map iV))) t=none)(e:Nat×Nat) :
  GwC S (upd (upd (upd H q (.lst (l'.map iV))) t (.tup [iV e.1,iV e.2])) pe (.lst (ys++[.ref t]))) pe pt pr (ys++[.ref t]) xs zs (es++[e]) (ts.set i l') rg/\Keep S H (upd (upd (upd H q (.lst (l'.map iV))) t (.tup [iV e.1,iV e.2])) pe (.lst (ys++[.ref t]))):=by
 obtain⟨c1,nq⟩:=c.put hx l'
 have sn:=ak ht (.tup [iV e.1,iV e.2])
 have c2:=c1.same sn
 obtain⟨n1,n2,n3,n4,n5,n6⟩:=c.ne
 refine⟨⟨af,(c2.en.snoc af).put c2.he,by rw[ao (Ne.symm n1)];exact c2.ht,c2.rx.mono fun p o n z=>?_,c2.di,by rw[ao (Ne.symm n2)];exact c2.hr,c2.rz.mono fun p o n z=>?_,c.ne,fun p sp z=>?_⟩,?_⟩
 ·rw[ao (fun y=>n (.inl y))];exact z
 ·rw[ao (fun y=>n (.inl (.inl y)))];exact z
 ·rw[ao (show p≠pe from fun y=>n4 (y▸sp))]at z;exact c2.sl p sp z
 ·exact((Keep.upd nq).trans (Keep.of sn)).trans (Keep.upd n4)
end
end K8
namespace K8
open PySem L2
local macro_rules | `(tactic| walk_at "cc") => `(tactic| first | exact ⟨by decide, by decide⟩ | (show (0 : Int) < _; decide) | (show (0 : Int) < _; omega) | (show (0 : Int) ≤ _; omega) | exact ⟨by decide, by decide, by decide⟩ | exact ⟨by omega, by omega, by decide⟩ | exact Or.inl ⟨by decide, by decide⟩ | exact Or.inl ⟨by omega, by omega⟩)
local macro_rules | `(tactic| walk_at "rd") => `(tactic| repeat (first | refine ⟨_, rfl, ?_⟩ | refine ⟨_, _, rfl, rfl, ?_⟩ | refine ⟨rfl, ?_⟩ | (refine ⟨?cc, ?_⟩; (case cc => walk_at "cc"))))
def GwA(S:Addr->Prop)(H:Hp)(pe pt pr:Addr)(m:Nat)(es:En)(ts rg:List (List Nat)):Prop:=(∃ ys xs zs,GwC S H pe pt pr ys xs zs es ts rg)/\Gr m es ts/\Part (fol es ts) (2*es.length) rg
def stepT:TS:=fun D σ H=>∃(pe pt q rg:Addr)(v0 v3 v4 v5 v6 v7 v10 v15:Option V)(a L one two n o:Nat)(xs ys:List V)(ring l:List Nat),σ = [v0,some (.ref pe),some (.ref pt),v3,v4,v5,v6,v7,some (.ref rg),some (.int (a:Int)),v10,some (.int (one:Int)),some (.int (two:Int)),some (.int (n:Int)),some (.int ((2*n+o:Nat):Int)),v15]/\o<2/\H pt=some (.lst xs)/\xs[one]?=some (.ref q)/\H q=some (.lst (l.map iV))/\L/2∈l/\l.length<=70/\(∀ x∈l,x<1000)/\H rg=some (.lst (ring.map iV))/\ring[a]?=some L/\q≠pe/\H pe=some (.lst ys)/\ys.length<=70 /\
 ∀ t,(upd H q (.lst ((ins l (l.idxOf (L/2)+1) n).map iV))) t=none->D.nx σ (upd (upd (upd H q (.lst ((ins l (l.idxOf (L/2)+1) n).map iV))) t (.tup (if o=0 then[iV one,iV two] else[iV two,iV one]))) pe (.lst (ys++[.ref t])))
def Pn(S:Addr->Prop)(H:Hp)(pe pt pr:Addr)(N P:Nat)(Q:Hp->Prop):Prop:=∀(m':Nat)(es':En)(ts' rg':List (List Nat))(H':Hp),Keep S H H'->GwA S H' pe pt pr m' es' ts' rg'->N<=es'.length->es'.length<=N+1->m'<=P->Q H'
def stepO:TS:=fun D σ H=>∃(S:Addr->Prop)(c:Int)(pe pt pr rq:Addr)(P m W a b:Nat)(v5 v7 v11 v12 v13 v14 v15:Option V)(ys xs zs:List V)(es:En)(ts rg:List (List Nat))(ring:List Nat),σ = [some (.int c),some (.ref pe),some (.ref pt),some (.ref pr),some (.int (P:Int)),v5,some (.int (W:Int)),v7,some (.ref rq),some (.int (a:Int)),some (.int (b:Int)),v11,v12,v13,v14,v15]/\GwC S H pe pt pr ys xs zs es ts rg/\Gr m es ts/\Part (fol es ts) (2*es.length) rg/\es.length<=62/\m<=P/\zs[W]?=some (.ref rq)/\rg[W]?=some ring/\H rq=some (.lst (ring.map iV))/\a<=b/\b<ring.length/\(∀ σ',Pn S H pe pt pr es.length P (D.nx σ'))/\Pn S H pe pt pr es.length P (D.rt .non)
theorem Bd{r:List Nat}{a L:Nat}(h:r[a]?=some L):r.take (a+1)=r.take a++[L]:=by
 rw[Qf,h];rfl
theorem vg{r:List Nat}{a L:Nat}(h:r[a]?=some L):r=r.take a++L::r.drop (a+1):=by
 have:=(Rh (a+1) r).symm
 rw[Bd h,Ro]at this
 exact this
theorem HB{r:List Nat}{a b L R:Nat}(h:r[a]?=some L)(h2:r[b]?=some R)(lt:a<b):r=r.take a++L::((r.drop (a+1)).take (b-a-1)++R::r.drop (b+1)):=by
 have e:(r.drop (a+1))[b-a-1]?=some R:=by rw[SF,show a+1+(b-a-1)=b by omega];exact h2
 have:=vg e
 rw[List.drop_drop,show a+1+(b-a-1+1)=b+1 by omega]at this
 rw[← this]
 exact vg h
theorem mid_at{r:List Nat}{a b R:Nat}(h2:r[b]?=some R)(lt:a<b):(r.drop (a+1)).take (b-a)=(r.drop (a+1)).take (b-a-1)++[R]:=by
 have e:(r.drop (a+1))[b-a-1]?=some R:=by rw[SF,show a+1+(b-a-1)=b by omega];exact h2
 rw[show b-a=b-a-1+1 by omega]
 exact Bd e
theorem O0{xs:List V}{c:Nat}(h:c<=xs.length):cutV xs (some (c:Int)) none=xs.drop c:=by
 unfold cutV
 rw[HT.sIx_nat,RB h]
 show(xs.drop c).take (xs.length-c)=_
 exact QK (by rw[QX];exact Pz _)
theorem OZ{xs:List V}{c:Nat}(h:c<=xs.length):cutV xs none (some (c:Int))=xs.take c:=by
 unfold cutV
 rw[HT.sIx_nat,RB h]
 show(xs.drop 0).take (c-0)=_
 rw[S3,Nat.sub_zero]
theorem OY{xs:List V}{c d:Nat}(h:c<=xs.length)(h2:d<=xs.length):cutV xs (some (c:Int)) (some (d:Int))=(xs.drop c).take (d-c):=by
 unfold cutV
 rw[HT.sIx_nat,HT.sIx_nat,RB h,RB h2]
theorem du{H G:Hp}{p:Addr}(sm:Same H G)(z:G p=none):H p=none:=by
 cases y:H p with
 |none=>rfl
 |some o=>rw[sm _ _ y]at z;cases z
theorem Mv{n o x y:Nat}(o2:o<2)(ne:x≠y):bF n (if o=0 then(x,y) else(y,x)) x=2*n+o/\bF n (if o=0 then(x,y) else(y,x)) y=2*n+1-o:=by
 by_cases z:o=0
 ·subst z
  rw[if_pos rfl]
  unfold bF
  exact⟨by rw[if_pos rfl];rfl,by rw[if_neg ne];rfl⟩
 ·have:o=1:=by omega
  subst this
  rw[if_neg (by decide)]
  unfold bF
  exact⟨by rw[if_neg (Ne.symm ne)],by rw[if_pos rfl];rfl⟩
theorem MO{o x y:Nat}:HO.tup (if o=0 then[iV x,iV y] else[iV y,iV x])=HO.tup [iV (if o=0 then(x,y) else(y,x)).1,iV (if o=0 then(x,y) else(y,x)).2]:=by
 by_cases z:o=0
 ·rw[if_pos z,if_pos z]
 ·rw[if_neg z,if_neg z]
theorem IB{o x y:Nat}:(if o=0 then(x,y) else(y,x))=(x,y)∨(if o=0 then(x,y) else(y,x))=(y,x):=by
 by_cases z:o=0
 ·exact .inl (if_pos z)
 ·exact .inr (if_neg z)
theorem zX{m:Nat}{es:En}{ts:List (List Nat)}(g:Gr m es ts):m<=es.length+2:=by
 obtain⟨rs,_,c⟩:=g.part
 omega
def HC:Sp:=fun vs H Q _=>∃(S:Addr->Prop)(c:Int)(pe pt pr:Addr)(P m:Nat)(es:En)(ts rg:List (List Nat)),vs = [.int c,.ref pe,.ref pt,.ref pr,.int (P:Int)]/\GwA S H pe pt pr m es ts rg/\0<es.length/\es.length<=62/\m<=P/\Pn S H pe pt pr es.length P (Q .non)
section
variable{P:Program}{w:World}{K:Pt}{mg:Str->Option Value}{base:Heap}
theorem aU:aC ["cell","ends","turns","rings","places","mixed","which","rest","ring","a","b","one","two","fresh","out","back"] ["cell","ends","turns","rings","places"] (aj eP):=⟨rfl,rfl,rfl,by decide +kernel,rfl,by decide +kernel,by decide +kernel⟩
theorem NX{f fh fp:Addr}{fd dh dp:FuncData} (F:Fun K "_law_step" "_law_step" eP f fd) (T:Txt mg) (G_law_head:Cal P w K mg base 1 "_law_head" ["ends","dart"] (Bo K) fh dh) (G_law_put:Cal P w K mg base 1 "_law_put" ["turns","place","behind","fresh"] (HG K) fp dp):FnOk P w K mg base CX0 2 f fd ["cell","ends","turns","rings","places"] HC:=by
 refine F.ok aU (fun vs H Q E h=>?_) (fun cdv A outer s H vs Q E hr h=>?_)
 ·obtain⟨S,c,pe,pt,pr,P,m,es,ts,rg,rfl,_⟩:=h
  rfl
 obtain⟨S,c,pe,pt,pr,P,m,es,ts,rg,rfl,⟨⟨ys,xs,zs,C⟩,g,part⟩,e0,few,mP,kk⟩:=h
 refine⟨_,(ag (av (i:=5) aU.nd rfl (Or.inl rfl) (aw bE (aw fJ (aw bE (pv 0) ah) ah) ah))
   (ag (av (i:=6) aU.nd rfl (Or.inl rfl) (aw bE (aw cP (pv 5) ah) (aE ar (by rfl) T.n_len aY (ae (pv 3) ai))))
   (ag (av (i:=7) aU.nd rfl (Or.inl rfl) (aw cP (aw cP (pv 5) ah) (aE ar (by rfl) T.n_len aY (ae (pv 3) ai))))
   (ag (av (i:=8) aU.nd rfl (Or.inl rfl) (ax az (pv 3) (pv 6) (fun _ _=>rfl)))
   (ag (av (i:=9) aU.nd rfl (Or.inl rfl) (aw bE (pv 7) (aE ar (by rfl) T.n_len aY (ae (pv 8) ai))))
   (ag (av (i:=10) aU.nd rfl (Or.inl rfl) (pv 9))
   (ag (bZ (aG iS (aw bE (pv 5) ah) ah (aN _)) (aq (av (i:=10) aU.nd rfl (Or.inl rfl) (aw bA (pv 9) (aw bE (aw cP (pv 7) (aE ar (by rfl) T.n_len aY (ae (pv 8) ai))) (aw iR (aE ar (by rfl) T.n_len aY (ae (pv 8) ai)) (pv 9)))))) aS)
   (qq (t2:=stepO) (ag (av (i:=11) aU.nd rfl (Or.inl rfl) (ay G_law_head.ok (hr.mono (by decide)) rfl G_law_head.mg G_law_head.kp G_law_head.bn .nil aP (ae (pv 1) (ae (ax az (pv 8) (pv 9) (fun _ _=>rfl)) ai))))
   (ag (av (i:=12) aU.nd rfl (Or.inl rfl) (ay G_law_head.ok (hr.mono (by decide)) rfl G_law_head.mg G_law_head.kp G_law_head.bn .nil aP (ae (pv 1) (ae (ax az (pv 8) (pv 10) (fun _ _=>rfl)) ai))))
   (ag (av (i:=13) aU.nd rfl (Or.inl rfl) (aE ar (by rfl) T.n_len aY (ae (pv 1) ai)))
   (ag (av (i:=14) aU.nd rfl (Or.inl rfl) (aw bA (aw fJ ah (pv 13)) (aw bE (aw cP (pv 0) ah) ah)))
   (ag (av (i:=15) aU.nd rfl (Or.inl rfl) (aw iR (aw bA (aw fJ ah (pv 13)) ah) (pv 14)))
   (ag (bZ (PW.pt (pw_and (aG iS (pv 11) (pv 12) (aN _)) (NM (aG NV (aE ar (by rfl) T.n_len aY (ae (pv 2) ai)) (pv 4) (aN _))))) (aq NN) aS)
   (ag (bZ (aG iS (pv 11) (pv 12) (aN _)) (ag (av (i:=12) aU.nd rfl (Or.inl rfl) (aE ar (by rfl) T.n_len aY (ae (pv 2) ai)))
   (ag (a7 (gf P4 Qj Qi a8 (pv 2) (ae (bY (ae (pv 13) ai)) ai)))
   (aq (lU (aw qz (aw qz (eu gP (pv 8) kx (fe (aw bA (pv 9) ah))) (bY (ae (pv 14) (ae (pv 15) ai)))) (eu gP (pv 8) (fe (aw bA (pv 9) ah)) kx)) (lV (pv 3) (pv 6) d8))))) (ag (a7 (ay G_law_put.ok (hr.mono (by decide)) rfl G_law_put.mg G_law_put.kp G_law_put.bn .nil aP (ae (pv 2) (ae (pv 12) (ae (ax az (pv 8) (pv 10) (fun _ _=>rfl)) (ae (pv 13) ai))))))
   (ag (lU (aw qz (aw qz (eu gP (pv 8) kx (fe (aw bA (pv 9) ah))) (bY (ae (pv 14) ai))) (eu gP (pv 8) (fe (aw bA (pv 10) ah)) kx)) (lV (pv 3) (pv 6) d8))
   (aq (a7 (gf P4 Qj Qi a8 (pv 3) (ae (aw qz (eu gP (pv 8) (fe (aw bA (pv 9) ah)) (fe (aw bA (pv 10) ah))) (bY (ae (pv 15) ai))) ai)))))))
   (qq (t2:=stepT) (ag (a7 (ay G_law_put.ok (hr.mono (by decide)) rfl G_law_put.mg G_law_put.kp G_law_put.bn .nil aP (ae (pv 2) (ae (pv 11) (ae (ax az (pv 8) (pv 9) (fun _ _=>rfl)) (ae (pv 13) ai))))))
   (aq (bZ (aG iS (aw bE (pv 14) ah) ah (aN _)) (aq (a7 (gf P4 Qj Qi a8 (pv 1) (ae (bK (ae (pv 11) (ae (pv 12) ai))) ai)))) (aq (a7 (gf P4 Qj Qi a8 (pv 1) (ae (bK (ae (pv 12) (ae (pv 11) ai))) ai))))))) (fun D0 S0 H0 h0=>?restp))))))))) (fun D0 S0 H0 h0=>?resto))))))))),?_⟩
 case restp =>
  obtain⟨pe,pt,q,rg,v0,v3,v4,v5,v6,v7,v10,v15,a,L,one,two,n,o,xs,ys,ring,l,rfl,o2,hpt,hx,hq,hL,l60,lb,hrg,hra,qpe,hpe,y60,kk⟩:=h0
  have hraV:(ring.map iV)[a]?=some (iV L):=by rw[PR,hra];rfl
  refine⟨_,rfl,_,rfl,_,rfl,_,rfl,rg,_,_,_,rfl,rfl,SqL.of hrg,aA hraV,_,rfl,pt,q,xs,one,L,n,l,rfl,SqL.of hpt,hx,hq,hL,l60,lb,?_⟩
  have hpe2:(upd H0 q (.lst ((ins l (l.idxOf (L/2)+1) n).map iV))) pe=some (.lst ys):=by rw[ao (Ne.symm qpe)];exact hpe
  refine⟨_,rfl,_,_,rfl,rfl,(by show(0:Int)<2;decide),rfl,_,rfl,ite2 (fun c=>?_) (fun c=>?_)⟩
  ·have c':((2*n+o:Nat):Int)%2=0:=V.int.inj (of_decide_eq_true c)
   have o0:o=0:=by omega +splitDisjunctions
   refine⟨_,rfl,.inl ⟨rfl,_,SqL.of hpe2⟩,_,rfl,_,rfl,(by show 2<=sizeLine;decide),fun t ht=>⟨pe,ys,_,rfl,rfl,ak ht _ _ _ hpe2,au (by omega +splitDisjunctions),?_⟩⟩
   have:=kk t ht
   rw[if_pos o0]at this
   exact this
  ·have c':¬ ((2*n+o:Nat):Int)%2=0:=fun z=>c (decide_eq_true (congrArg V.int z))
   have o0:¬ o=0:=by omega +splitDisjunctions
   refine⟨_,rfl,.inl ⟨rfl,_,SqL.of hpe2⟩,_,rfl,_,rfl,(by show 2<=sizeLine;decide),fun t ht=>⟨pe,ys,_,rfl,rfl,ak ht _ _ _ hpe2,au (by omega +splitDisjunctions),?_⟩⟩
   have:=kk t ht
   rw[if_neg o0]at this
   exact this
 case resto =>
  clear C g part kk mP few e0
  obtain⟨S,c,pe,pt,pr,rq,P,m,W,a,b,v5,v7,v11,v12,v13,v14,v15,ys,xs,zs,es,ts,rg,ring,rfl,C,g,part,few,mP,hzW,hrW,hrq,ab,bl,kN,kR⟩:=h0
  have wf:=g.w
  have mf:=zX g
  have cr:=part.cr ring (Pr hrW)
  obtain⟨L,hL⟩:∃ L,ring[a]?=some L:=⟨_,Pq (by omega +splitDisjunctions)⟩
  obtain⟨R,hR⟩:∃ R,ring[b]?=some R:=⟨_,Pq bl⟩
  have hLl:=cr.lt L (Pr hL)
  have hRl:=cr.lt R (Pr hR)
  have yl:ys.length=es.length:=C.en.1
  have xl:xs.length=m:=by rw[C.rx.1,wf.len]
  have hLV:(ring.map iV)[a]?=some (iV L):=by rw[PR,hL];rfl
  have hRV:(ring.map iV)[b]?=some (iV R):=by rw[PR,hR];rfl
  have rlen:(ring.map iV).length=ring.length:=PB _
  have rle:ring.length<=2*es.length:=fk cr.nd cr.lt
  obtain⟨_,l,_,_,_,k4,k5,k6⟩:=wf.at hLl
  obtain⟨_,l',_,_,_,k4',k5',k6'⟩:=wf.at hRl
  obtain⟨sm1,f1⟩:=mR wf few k5
  obtain⟨sm2,f2⟩:=mR wf few k5'
  obtain⟨p1,y1,y2,y3⟩:=C.rx.2 _ _ k5
  obtain⟨p2,z1,z2,z3⟩:=C.rx.2 _ _ k5'
  obtain⟨rq',a1,a2,a3⟩:=C.rz.2 _ _ hrW
  rw[hzW]at a1
  cases a1
  obtain⟨n1,n2,n3,n4,n5,n6⟩:=C.ne
  obtain⟨o,ho,o2⟩:∃ o:Nat,c/3%2=(o:Int)/\o<2:=⟨(c/3%2).toNat,by omega +splitDisjunctions,by omega +splitDisjunctions⟩
  have qpt:rq≠pt:=fun z=>a2 (.inl (.inr (.inl z)))
  have qpr:rq≠pr:=fun z=>a2 (.inl (.inr (.inr z)))
  have qxs:V.ref rq∉xs:=fun z=>a2 (.inr (.inl z))
  refine⟨_,rfl,_,rfl,_,rfl,rq,_,_,_,rfl,rfl,SqL.of hrq,aA hLV,pe,ys,es,L,rfl,SqL.of C.he,C.en,hLl,?_⟩
  refine⟨_,rfl,_,rfl,_,rfl,rq,_,_,_,rfl,rfl,SqL.of hrq,aA hRV,pe,ys,es,R,rfl,SqL.of C.he,C.en,hRl,?_⟩
  refine⟨_,rfl,pe,ys,rfl,.inl (SqL.of C.he),?_⟩
  refine⟨_,rfl,_,_,rfl,rfl,.inl ⟨by decide,by decide⟩,_,rfl,_,_,rfl,rfl,⟨by decide,by decide⟩,_,_,rfl,rfl,(by show(0:Int)<2;decide),_,_,rfl,rfl,?_⟩
  refine⟨_,rfl,_,_,rfl,rfl,.inl ⟨by decide,by decide⟩,_,_,rfl,rfl,_,rfl,_,_,rfl,rfl,?_⟩
  have hb:4*(es.length:Int)+1-(2*(es.length:Int)+(o:Int))=((2*es.length+1-o:Nat):Int):=by omega +splitDisjunctions
  have ha:2*(es.length:Int)+(o:Int)=((2*es.length+o:Nat):Int):=by omega +splitDisjunctions
  rw[ho,yl]
  dsimp only
  rw[hb,ha]
  have cutA:cutV (ring.map iV) none (some ((a:Int)+1))=((ring.take a++[L]).map iV):=by
   rw[show(a:Int)+1=((a+1:Nat):Int) by omega +splitDisjunctions,OZ (by rw[rlen];omega +splitDisjunctions),← Bd hL,RW]
  have cutB:∀ x,x<ring.length->cutV (ring.map iV) (some ((x:Int)+1)) none=((ring.drop (x+1)).map iV):=fun x hx=>by
   rw[show(x:Int)+1=((x+1:Nat):Int) by omega +splitDisjunctions,O0 (by rw[rlen];omega +splitDisjunctions),RX]
  have zl:zs.length=rg.length:=C.rz.1
  have rgl:rg.length<=es.length+2:=by
   obtain⟨rs,q1,q2⟩:=g.part
   have:=part.same q1
   omega +splitDisjunctions
  have Wl:W<rg.length:=(Pp.mp hrW).1
  refine⟨_,rfl,_,rfl,rfl,_,rfl,ite2 (fun e1=>?_) (fun e1=>?_)⟩
  ·refine⟨_,rfl,pt,xs,rfl,.inl (SqL.of C.ht),_,rfl,_,_,rfl,rfl,_,rfl,ite2 (fun e2=>?_) (fun e2=>?_)⟩
   ·exact kR m es ts rg H0 (Keep.of (fun _ _ z=>z)) ⟨⟨ys,xs,zs,C⟩,g,part⟩ (Pz _) (Rj _) mP
   have mlt:m<P:=by
    by_cases z:m<P
    ·exact z
    ·exact absurd (decide_eq_true (by rw[xl];omega +splitDisjunctions)) e2
   refine⟨_,rfl,_,rfl,rfl,_,rfl,ite2 (fun _=>?_) (fun z=>absurd e1 z)⟩
   refine⟨_,rfl,pt,xs,rfl,.inl (SqL.of C.ht),?_⟩
   refine⟨_,rfl,.inl ⟨rfl,_,SqL.of C.ht⟩,_,rfl,(by show 1<=sizeLine;decide),fun pn hpn=>⟨pt,xs,_,rfl,rfl,ak hpn _ _ _ C.ht,au (by omega +splitDisjunctions),?_⟩⟩
   have sn:=ak hpn (.lst [V.int (es.length:Int)])
   have C1:=(C.same sn).leaf (C.new hpn) (l:=[es.length]) af
   have hrq1:=sn _ _ hrq
   have hrq2:(upd (upd H0 pn (.lst [V.int (es.length:Int)])) pt (.lst (xs++[.ref pn]))) rq=some (.lst (ring.map iV)):=by rw[ao qpt];exact hrq1
   have kp1:Keep S H0 (upd (upd H0 pn (.lst [V.int (es.length:Int)])) pt (.lst (xs++[.ref pn]))):=(Keep.of sn).trans (Keep.upd n5)
   generalize hG1:upd (upd H0 pn (.lst [V.int (es.length:Int)])) pt (.lst (xs++[.ref pn]))=G1 at C1 hrq2 kp1
   refine⟨_,rfl,_,rfl,_,_,rfl,rfl,_,rfl,rq,_,rfl,SqL.of hrq2,fun b1 hb1=>?_⟩
   rw[cutA]
   have t1:=ak hb1 (.lst ((ring.take a++[L]).map iV))
   refine⟨_,rfl,_,rfl,(by show 2<=sizeLine;decide),fun b2 hb2=>?_⟩
   have t2:=ak hb2 (.lst ([2*es.length+o,2*es.length+1-o].map iV))
   refine⟨b1,b2,(ring.take a++[L]).map iV,[2*es.length+o,2*es.length+1-o].map iV,rfl,rfl,SqL.of (t2 _ _ af),SqL.of af,(by rw[PB,PB,Px,Qr];exact Ql (au (by simp;omega +splitDisjunctions))),fun b3 hb3=>?_⟩
   have t3:=ak hb3 (.lst ((ring.take a++[L]).map iV++[2*es.length+o,2*es.length+1-o].map iV))
   have t03:=(t1.trans t2).trans t3
   refine⟨_,rfl,_,rfl,_,_,rfl,rfl,_,rfl,rq,_,rfl,SqL.of (t03 _ _ hrq2),fun b4 hb4=>?_⟩
   rw[cutB a (by omega +splitDisjunctions)]
   have t4:=ak hb4 (.lst ((ring.drop (a+1)).map iV))
   refine⟨b3,b4,_,_,rfl,rfl,SqL.of (t4 _ _ af),SqL.of af,(by rw[Px,PB,PB,Px,Qr,PB,QX];exact Ql (au (by simp;omega +splitDisjunctions))),fun b5 hb5=>?_⟩
   have hlist:(ring.take a++[L]).map iV++[2*es.length+o,2*es.length+1-o].map iV++(ring.drop (a+1)).map iV=(ring.take a++L::(2*es.length+o)::(2*es.length+1-o)::ring.drop (a+1)).map iV:=by simp
   rw[hlist]
   have t5:=ak hb5 (.lst ((ring.take a++L::(2*es.length+o)::(2*es.length+1-o)::ring.drop (a+1)).map iV))
   have t04:=t03.trans t4
   have t05:=t04.trans t5
   have C5:=C1.same t05
   obtain⟨w1,w2,w3,w4,w5,w6⟩:=C1.new (du t04 hb5)
   have C6:=C5.updR (yH C5.rz (W:=W) (b:=b5) (by rintro((z | z | z) | z | z);exact w1 z;exact w2 z;exact w3 z;exact w5 z;exact w4 z) af)
   refine⟨_,rfl,_,rfl,pr,zs,_,W,rfl,rfl,C5.hr,fu (by omega +splitDisjunctions),?_⟩
   have hrq6:=(ao (o:=.lst (zs.set W (.ref b5))) qpr).trans (t05 _ _ hrq2)
   have kp6:=(kp1.trans (Keep.of t05)).trans (Keep.upd (q:=pr) (o:=.lst (zs.set W (.ref b5))) n6)
   have tsl:hd es L<ts.length:=by rw[wf.len];exact k4
   obtain⟨p1',u1,u2,u3⟩:=C6.rx.2 (hd es L) l (by rw[Py tsl];exact k5)
   refine⟨pe,pt,p1',rq,_,_,_,_,_,_,_,_,a,L,hd es L,xs.length,es.length,o,xs++[.ref pn],ys,ring,l,rfl,o2,C6.ht,u1,u3,k6,by omega +splitDisjunctions,fun x hx=>by have:=sm1 x hx;omega +splitDisjunctions,hrq6,hL,fun z=>u2 (.inl z),C6.he,by omega +splitDisjunctions,fun t ht=>?_⟩
   obtain⟨C7,kp7⟩:=C6.fin u1 (ins l (l.idxOf (L/2)+1) es.length) ht (if o=0 then(hd es L,xs.length) else(xs.length,hd es L))
   rw[MO]
   have hne:hd es L≠xs.length:=by omega +splitDisjunctions
   have hS:=Hz (e:=if o=0 then(hd es L,xs.length) else(xs.length,hd es L)) (w:=W) g part (hrW.trans (congrArg some (vg hL))) rfl (by rw[xl];exact IB) k5
   rw[← xl,(Mv o2 hne).1,(Mv o2 hne).2]at hS
   rw[Sv _ _ tsl]at C7
   exact kN _ (xs.length+1) _ _ _ _ (kp6.trans kp7) ⟨⟨_,_,_,C7⟩,hS.1,hS.2⟩ (by rw[Px];omega +splitDisjunctions) (by rw[Px];exact Pz _) (by omega +splitDisjunctions)
  ·refine iteF ?_
   refine⟨_,rfl,_,rfl,rfl,_,rfl,ite2 (fun z=>absurd z e1) (fun _=>?_)⟩
   have hne:hd es L≠hd es R:=fun z=>e1 (decide_eq_true (by rw[z]))
   have alt:a<b:=by
    rcases Nat.lt_or_ge a b with z | z
    ·exact z
    ·have:a=b:=by omega +splitDisjunctions
     subst this
     rw[hL]at hR
     cases hR
     exact absurd rfl hne
   refine⟨_,rfl,_,rfl,_,rfl,_,rfl,rq,_,_,_,rfl,rfl,SqL.of hrq,aA hRV,_,rfl,pt,p2,xs,hd es R,R,es.length,l',rfl,SqL.of C.ht,z1,z3,k6',by omega +splitDisjunctions,fun x hx=>by have:=sm2 x hx;omega +splitDisjunctions,?_⟩
   obtain⟨C1,np2⟩:=C.put z1 (ins l' (l'.idxOf (R/2)+1) es.length)
   have hrq2:(upd H0 p2 (.lst ((ins l' (l'.idxOf (R/2)+1) es.length).map iV))) rq=some (.lst (ring.map iV)):=by rw[ao (show rq≠p2 from fun z=>qxs (z▸Pr z1))];exact hrq
   have kp1:Keep S H0 (upd H0 p2 (.lst ((ins l' (l'.idxOf (R/2)+1) es.length).map iV))):=Keep.upd np2
   generalize hG1:upd H0 p2 (.lst ((ins l' (l'.idxOf (R/2)+1) es.length).map iV))=G1 at C1 hrq2 kp1
   refine⟨_,rfl,_,rfl,_,_,rfl,rfl,_,rfl,rq,_,rfl,SqL.of hrq2,fun b1 hb1=>?_⟩
   rw[cutA]
   have t1:=ak hb1 (.lst ((ring.take a++[L]).map iV))
   refine⟨_,rfl,(by show 1<=sizeLine;decide),fun b2 hb2=>?_⟩
   have t2:=ak hb2 (.lst ([2*es.length+o].map iV))
   refine⟨b1,b2,(ring.take a++[L]).map iV,[2*es.length+o].map iV,rfl,rfl,SqL.of (t2 _ _ af),SqL.of af,(by rw[PB,PB,Px,Qr];exact Ql (au (by simp;omega +splitDisjunctions))),fun b3 hb3=>?_⟩
   have t3:=ak hb3 (.lst ((ring.take a++[L]).map iV++[2*es.length+o].map iV))
   have t03:=(t1.trans t2).trans t3
   refine⟨_,rfl,_,rfl,_,_,rfl,rfl,_,rfl,rq,_,rfl,SqL.of (t03 _ _ hrq2),fun b4 hb4=>?_⟩
   rw[cutB b bl]
   have t4:=ak hb4 (.lst ((ring.drop (b+1)).map iV))
   refine⟨b3,b4,_,_,rfl,rfl,SqL.of (t4 _ _ af),SqL.of af,(by rw[Px,PB,PB,Px,Qr,PB,QX];exact Ql (au (by simp;omega +splitDisjunctions))),fun b5 hb5=>?_⟩
   have hlist:(ring.take a++[L]).map iV++[2*es.length+o].map iV++(ring.drop (b+1)).map iV=(ring.take a++L::(2*es.length+o)::ring.drop (b+1)).map iV:=by simp
   rw[hlist]
   have t5:=ak hb5 (.lst ((ring.take a++L::(2*es.length+o)::ring.drop (b+1)).map iV))
   have t04:=t03.trans t4
   have t05:=t04.trans t5
   have C5:=C1.same t05
   obtain⟨w1,w2,w3,w4,w5,w6⟩:=C1.new (du t04 hb5)
   have C6:=C5.updR (yH C5.rz (W:=W) (b:=b5) (by rintro((z | z | z) | z | z);exact w1 z;exact w2 z;exact w3 z;exact w5 z;exact w4 z) af)
   refine⟨_,rfl,_,rfl,pr,zs,_,W,rfl,rfl,C5.hr,fu (by omega +splitDisjunctions),?_⟩
   have hrq6:=(ao (o:=.lst (zs.set W (.ref b5))) qpr).trans (t05 _ _ hrq2)
   have kp6:=(kp1.trans (Keep.of t05)).trans (Keep.upd (q:=pr) (o:=.lst (zs.set W (.ref b5))) n6)
   generalize hG6:upd _ pr (HO.lst (zs.set W (.ref b5)))=G6 at C6 hrq6 kp6
   refine⟨_,rfl,.inl ⟨rfl,_,SqL.of C6.hr⟩,_,rfl,_,rfl,_,_,rfl,rfl,_,rfl,_,rfl,_,_,rfl,rfl,_,rfl,rq,_,rfl,SqL.of hrq6,fun b6 hb6=>?_⟩
   have cutM:cutV (ring.map iV) (some ((a:Int)+1)) (some ((b:Int)+1))=(((ring.drop (a+1)).take (b-a-1)++[R]).map iV):=by
    rw[show(a:Int)+1=((a+1:Nat):Int) by omega +splitDisjunctions,show(b:Int)+1=((b+1:Nat):Int) by omega +splitDisjunctions,OY (by rw[rlen];omega +splitDisjunctions) (by rw[rlen];omega +splitDisjunctions),← mid_at hR alt,RW,RX,show b+1-(a+1)=b-a by omega +splitDisjunctions]
   rw[cutM]
   have t6:=ak hb6 (.lst (((ring.drop (a+1)).take (b-a-1)++[R]).map iV))
   refine⟨_,rfl,(by show 1<=sizeLine;decide),fun b7 hb7=>?_⟩
   have t7:=ak hb7 (.lst ([2*es.length+1-o].map iV))
   refine⟨b6,b7,((ring.drop (a+1)).take (b-a-1)++[R]).map iV,[2*es.length+1-o].map iV,rfl,rfl,SqL.of (t7 _ _ af),SqL.of af,(by rw[PB,PB,Px,Qr,QX];exact Ql (au (by simp;omega +splitDisjunctions))),fun b8 hb8=>?_⟩
   have hlist2:((ring.drop (a+1)).take (b-a-1)++[R]).map iV++[2*es.length+1-o].map iV=((ring.drop (a+1)).take (b-a-1)++[R,2*es.length+1-o]).map iV:=by simp
   rw[hlist2]
   have t8:=ak hb8 (.lst (((ring.drop (a+1)).take (b-a-1)++[R,2*es.length+1-o]).map iV))
   have t67:=t6.trans t7
   have t68:=t67.trans t8
   have C8:=C6.same t68
   obtain⟨x1,x2,x3,x4,x5,x6⟩:=C6.new (du t67 hb8)
   have C9:=C8.updR (C8.rz.snoc (q:=b8) (by rintro((z | z | z) | z | z);exact x1 z;exact x2 z;exact x3 z;exact x5 z;exact x4 z) af)
   refine⟨pr,zs.set W (.ref b5),_,rfl,rfl,C8.hr,au (by rw[Qa];omega +splitDisjunctions),?_⟩
   have hrq9:=(ao (o:=.lst (zs.set W (.ref b5)++[.ref b8])) qpr).trans (t68 _ _ hrq6)
   have kp9:=(kp6.trans (Keep.of t68)).trans (Keep.upd (q:=pr) (o:=.lst (zs.set W (.ref b5)++[.ref b8])) n6)
   obtain⟨p1',u1,u2,u3⟩:=C9.rx.2 (hd es L) l (by rw[Sx (Ne.symm hne)];exact k5)
   refine⟨pe,pt,p1',rq,_,_,_,_,_,_,_,_,a,L,hd es L,hd es R,es.length,o,xs,ys,ring,l,rfl,o2,C9.ht,u1,u3,k6,by omega +splitDisjunctions,fun x hx=>by have:=sm1 x hx;omega +splitDisjunctions,hrq9,hL,fun z=>u2 (.inl z),C9.he,by omega +splitDisjunctions,fun t ht=>?_⟩
   obtain⟨C10,kp10⟩:=C9.fin u1 (ins l (l.idxOf (L/2)+1) es.length) ht (if o=0 then(hd es L,hd es R) else(hd es R,hd es L))
   rw[MO]
   have hS:=HA (e:=if o=0 then(hd es L,hd es R) else(hd es R,hd es L)) (w:=W) g part (hrW.trans (congrArg some (HB hL hR alt))) rfl rfl hne IB k5 k5'
   rw[(Mv o2 hne).1,(Mv o2 hne).2]at hS
   rw[List.set_comm _ _ (Ne.symm hne)]at C10
   exact kN _ m _ _ _ _ (kp9.trans kp10) ⟨⟨_,_,_,C10⟩,hS.1,hS.2⟩ (by rw[Px];omega +splitDisjunctions) (by rw[Px];exact Pz _) mP
 have zl:zs.length=rg.length:=C.rz.1
 have mf:=zX g
 have rg0:0<rg.length:=by
  rcases Nat.eq_zero_or_pos rg.length with z | z
  ·have:=part.all 0 (by omega +splitDisjunctions)
   rw[Tf.mp z]at this
   cases this
  ·exact z
 have rgl:rg.length<=es.length+2:=by
  obtain⟨rs,q1,q2⟩:=g.part
  have:=part.same q1
  omega +splitDisjunctions
 refine⟨_,rfl,_,_,rfl,rfl,(by show(0:Int)<1000000007;decide),_,_,rfl,rfl,.inr ⟨by decide,by decide⟩,_,_,rfl,rfl,(by show(0:Int)<2147483647;decide),?_⟩
 have o0:(0:Int)<=c%1000000007*48271%2147483647:=Ra _ (by decide)
 have o1:c%1000000007*48271%2147483647<2147483647:=QW _ (by decide)
 refine⟨_,rfl,_,_,rfl,rfl,⟨by decide,by decide⟩,_,rfl,pr,zs,rfl,.inl (SqL.of C.hr),_,_,rfl,rfl,(by show(0:Int)<(zs.length:Int);omega +splitDisjunctions),?_⟩
 refine⟨_,rfl,_,_,rfl,rfl,⟨by decide,by decide⟩,_,rfl,pr,zs,rfl,.inl (SqL.of C.hr),_,_,rfl,rfl,⟨(by show(0:Int)<(zs.length:Int);omega +splitDisjunctions),(by show(zs.length:Int)<1073741824;omega +splitDisjunctions)⟩,?_⟩
 dsimp only
 generalize c%1000000007*48271%2147483647=M at o0 o1
 obtain⟨W,hW,Wl⟩:∃ W:Nat,M/2%(zs.length:Int)=(W:Int)/\W<rg.length:=by
  have h0:=Ra (M/2) (show(zs.length:Int)≠0 by omega +splitDisjunctions)
  have h1:=QW (M/2) (show(0:Int)<(zs.length:Int) by omega +splitDisjunctions)
  exact⟨_,(QZ h0).symm,by omega +splitDisjunctions⟩
 obtain⟨R,hR⟩:∃ R:Nat,M/2/(zs.length:Int)=(R:Int):=⟨_,(QZ (Int.ediv_nonneg (by omega +splitDisjunctions) (by omega +splitDisjunctions))).symm⟩
 rw[hW,hR]
 obtain⟨ring,hring⟩:∃ r,rg[W]?=some r:=⟨_,Pq Wl⟩
 obtain⟨rq,q1,q2,q3⟩:=C.rz.2 W ring hring
 have cr:=part.cr ring (Pr hring)
 have rle:ring.length<=2*es.length:=fk cr.nd cr.lt
 have rlen:(ring.map iV).length=ring.length:=PB _
 have rpos:0<ring.length:=by
  obtain⟨d,hd⟩:=cr.ne
  exact Rc hd
 have lpos:(0:Int)<((ring.map iV).length:Int):=by omega +splitDisjunctions
 refine⟨_,rfl,_,rfl,pr,zs,_,_,rfl,rfl,SqL.of C.hr,aA q1,?_⟩
 refine⟨_,rfl,_,rfl,rq,_,rfl,.inl (SqL.of q3),_,_,rfl,rfl,lpos,?_⟩
 dsimp only
 obtain⟨a,ha,al⟩:∃ a:Nat,(R:Int)%((ring.map iV).length:Int)=(a:Int)/\a<ring.length:=by
  have h0:=Ra (R:Int) (show((ring.map iV).length:Int)≠0 by omega +splitDisjunctions)
  have h1:=QW (R:Int) lpos
  exact⟨_,(QZ h0).symm,by omega +splitDisjunctions⟩
 rw[ha]
 refine⟨_,rfl,?_⟩
 refine⟨_,rfl,_,_,rfl,rfl,(by show(0:Int)<2;decide),rfl,_,rfl,ite2 (fun c1=>?_) (fun c1=>?_)⟩
 ·have bpos:(0:Int)<((ring.map iV).length:Int)-(a:Int):=by omega +splitDisjunctions
  refine⟨_,rfl,_,rfl,_,rfl,rq,_,rfl,.inl (SqL.of q3),_,_,rfl,rfl,⟨lpos,(by show((ring.map iV).length:Int)<1073741824;omega +splitDisjunctions)⟩,_,rfl,rq,_,rfl,.inl (SqL.of q3),_,rfl,_,_,rfl,rfl,_,_,rfl,rfl,bpos,_,_,rfl,rfl,?_⟩
  dsimp only
  obtain⟨d,hd,dl⟩:∃ d:Nat,(R:Int)/((ring.map iV).length:Int)%(((ring.map iV).length:Int)-(a:Int))=(d:Int)/\a+d<ring.length:=by
   have h0:=Ra ((R:Int)/((ring.map iV).length:Int)) (show((ring.map iV).length:Int)-(a:Int)≠0 by omega +splitDisjunctions)
   have h1:=QW ((R:Int)/((ring.map iV).length:Int)) bpos
   exact⟨_,(QZ h0).symm,by omega +splitDisjunctions⟩
  rw[hd,show(a:Int)+(d:Int)=((a+d:Nat):Int) by omega +splitDisjunctions]
  exact⟨S,c,pe,pt,pr,rq,P,m,W,a,a+d,_,_,_,_,_,_,_,ys,xs,zs,es,ts,rg,ring,rfl,C,g,part,few,mP,q1,hring,q3,by omega +splitDisjunctions,dl,fun _=>kk,kk⟩
 ·exact⟨S,c,pe,pt,pr,rq,P,m,W,a,a,_,_,_,_,_,_,_,ys,xs,zs,es,ts,rg,ring,rfl,C,g,part,few,mP,q1,hring,q3,Pz _,al,fun _=>kk,kk⟩
end
end K8
namespace K8
open PySem L2
local macro_rules | `(tactic| walk_at "cc") => `(tactic| first | exact ⟨by decide, by decide⟩ | (show (0 : Int) < _; decide) | (show (0 : Int) < _; omega) | (show (0 : Int) ≤ _; omega) | exact ⟨by decide, by decide, by decide⟩ | exact ⟨by omega, by omega, by decide⟩ | exact Or.inl ⟨by decide, by decide⟩ | exact Or.inl ⟨by omega, by omega⟩)
local macro_rules | `(tactic| walk_at "rd") => `(tactic| repeat (first | refine ⟨_, rfl, ?_⟩ | refine ⟨_, _, rfl, rfl, ?_⟩ | refine ⟨rfl, ?_⟩ | (refine ⟨?cc, ?_⟩; (case cc => walk_at "cc"))))
def Bi:Sp:=fun vs H Q _=>∃(c:Int)(m:Nat),vs = [.int c,.int (m:Int)]/\m<=100/\∀(q:Addr)(o:List Nat)(H':Hp),Same H H'->H q=none->H' q=some (.lst (o.map iV))->o.length=m->o.Nodup->(∀ x∈o,x<m)->Q (.ref q) H'
def vk(K:Pt):Sp:=fun vs H Q _=>∃(a:Addr)(P:Nat)(cs:List Int),vs = [.ref a,.int (P:Int)]/\SqL K H a (cs.map V.int)/\cs.length<=62/\2<=P /\
 ∀(t pe pt pr:Addr)(m:Nat)(es:En)(ts rg:List (List Nat))(H':Hp),Same H H'->H' t=some (.tup [.ref pe,.ref pt,.ref pr])->GwA (fun p=>H p≠none) H' pe pt pr m es ts rg->0<es.length->es.length<=cs.length+1->m<=P->Q (.ref t) H'
theorem LA:Part (fol [(0,1)] [[0],[0]]) 2 [[0,1]]:=by
 refine⟨fun r hr=>?_,by decide,fun d hd=>?_⟩
 ·have:r = [0,1]:=by simpa using hr
  subst this
  exact⟨⟨0,[1],rfl,by decide,(by show fol [(0,1)] [[0],[0]] 1=0;decide)⟩,fun d hd=>by simp at hd ⊢;omega,by decide⟩
 ·simp
  omega
theorem Keep.same{H H1 H2:Hp}(s:Same H H1)(k:Keep (fun p=>H p≠none) H1 H2):Same H H2:=fun p o h=>k p o (fun z=>by rw[z]at h;cases h) (s p o h)
section
variable{P:Program}{w:World}{K:Pt}{mg:Str->Option Value}{base:Heap}
theorem dI:aC ["cell","many","order","mixed","k"] ["cell","many"] (aj c9):=⟨rfl,rfl,rfl,by decide +kernel,rfl,by decide +kernel,by decide +kernel⟩
theorem LJ{f:Addr}{fd:FuncData} (F:Fun K "_law_order" "_law_order" c9 f fd) (T:Txt mg):FnOk P w K mg base CX0 1 f fd ["cell","many"] Bi:=by
 refine F.ok dI (fun vs H Q E h=>?_) (fun cdv A outer s H vs Q E hr h=>?_)
 ·obtain⟨c,m,rfl,_⟩:=h
  rfl
 obtain⟨c,m,rfl,hm,k⟩:=h
 refine⟨_,(ag (av (i:=2) dI.nd rfl (Or.inl rfl) (bY ai))
   (ag (av (i:=3) dI.nd rfl (Or.inl rfl) (aw bE (pv 0) ah))
   (ag (bM PassesOwn.never rfl (aW rfl T.n_range (ae (pv 1) ai)) (aO (i:=4) dI.nd rfl (Or.inl rfl)) (ag (av (i:=3) dI.nd rfl (Or.inl rfl) (aw bE (aw bA (aw fJ (pv 3) ah) (aw fJ ah (pv 4))) ah))
   (aq (a7 (gf P4 S7 S6 zA (pv 2) (ae (aw bE (pv 3) (aw bA (pv 4) ah)) (ae (pv 4) ai)))))))
   (aq (aI (pv 2)))))),?_⟩
 refine⟨(by show 0<=sizeLine;decide),fun q hq=>?_⟩
 refine⟨_,rfl,_,_,rfl,rfl,(by show(0:Int)<1000000007;decide),?_⟩
 refine⟨_,rfl,_,rfl,by omega,by omega,cR (n:=(m:Int).toNat) (fun i σ H2=>∃(M:Int),∃ v4 o,σ = [some (.int c),some (.int (m:Int)),some (.ref q),some (.int M),v4]/\Same H H2/\H2 q=some (.lst (o.map iV))/\o.length=i/\o.Nodup/\∀ x∈o,x<i) ⟨_,_,[],rfl,ak hq _,af,rfl,Rk,fun x hx=>nomatch hx⟩ ?_ ?_⟩
 ·rintro i σ H2 hi ⟨M,v4,o,rfl,s2,hq2,ol,nd,lt⟩
  rw[PQ]at hi
  have e0:(0:Int)+(i:Int)=(i:Int):=QR _
  rw[e0]
  have hlen:(o.map iV).length=i:=by rw[PB];exact ol
  refine⟨_,rfl,_,_,rfl,rfl,.inr ⟨by decide,by decide⟩,_,rfl,_,_,rfl,rfl,.inl ⟨by decide,by decide⟩,_,_,rfl,rfl,_,_,rfl,rfl,(by show(0:Int)<2147483647;decide),?_⟩
  refine⟨_,rfl,.inl ⟨rfl,_,SqL.of hq2⟩,_,rfl,_,rfl,_,_,rfl,rfl,_,_,rfl,rfl,(by show(0:Int)<(i:Int)+1;omega),_,rfl,q,_,_,_,rfl,rfl,hq2,(MZ _ _).1,(by rw[hlen];exact(MZ _ _).2),au (by omega),?_⟩
  rw[insV]
  refine⟨_,_,_,rfl,aR s2 hq _,af,by rw[OP,ol],Jy nd fun z=>by have:=lt i z;omega,fun x hx=>?_⟩
  rcases Dv.mp hx with z | z
  ·omega
  ·have:=lt x z;omega
 ·rintro σ H2 ⟨M,v4,o,rfl,s2,hq2,ol,nd,lt⟩
  rw[PQ]at ol lt
  exact⟨_,rfl,k q o H2 s2 hq hq2 ol nd lt⟩
theorem dJ:aC ["cells","places","ends","turns","rings","cell"] ["cells","places"] (aj dj):=⟨rfl,rfl,rfl,by decide +kernel,rfl,by decide +kernel,by decide +kernel⟩
theorem LR{f fs:Addr}{fd ds:FuncData} (F:Fun K "_law_grown" "_law_grown" dj f fd) (G_law_step:Cal P w K mg base 2 "_law_step" ["cell","ends","turns","rings","places"] HC fs ds):FnOk P w K mg base CX0 3 f fd ["cells","places"] (vk K):=by
 refine F.ok dJ (fun vs H Q E h=>?_) (fun cdv A outer s H vs Q E hr h=>?_)
 ·obtain⟨a,P,cs,rfl,_⟩:=h
  rfl
 obtain⟨a,P,cs,rfl,hS,h62,P2,kk⟩:=h
 have hcl:(cs.map V.int).length=cs.length:=PB _
 refine⟨_,(ag (av (i:=2) dJ.nd rfl (Or.inl rfl) (bY (ae (bK (ae ah (ae ah ai))) ai)))
   (ag (av (i:=3) dJ.nd rfl (Or.inl rfl) (bY (ae (bY (ae ah ai)) (ae (bY (ae ah ai)) ai))))
   (ag (av (i:=4) dJ.nd rfl (Or.inl rfl) (bY (ae (bY (ae ah (ae ah ai))) ai)))
   (ag (bM PassesOwn.never rfl (a9 (pv 0)) (aO (i:=5) dJ.nd rfl (Or.inl rfl)) (aq (a7 (ay G_law_step.ok (hr.mono (by decide)) rfl G_law_step.mg G_law_step.kp G_law_step.bn .nil aP (ae (pv 5) (ae (pv 2) (ae (pv 3) (ae (pv 4) (ae (pv 1) ai)))))))))
   (aq (aI (bK (ae (pv 2) (ae (pv 3) (ae (pv 4) ai)))))))))),?_⟩
 refine⟨(by show 2<=sizeLine;decide),fun t0 ht0=>⟨(by show 1<=sizeLine;decide),fun pe hpe=>?_⟩⟩
 refine⟨(by show 1<=sizeLine;decide),fun p0 hp0=>⟨(by show 1<=sizeLine;decide),fun p1 hp1=>⟨(by show 2<=sizeLine;decide),fun pt hpt=>?_⟩⟩⟩
 refine⟨(by show 2<=sizeLine;decide),fun r0 hr0=>⟨(by show 1<=sizeLine;decide),fun pr hpr=>?_⟩⟩
 have s1:=ak ht0 (.tup [.int 0,.int 1])
 have s2:=ak hpe (.lst [.ref t0])
 have s3:=ak hp0 (.lst [.int 0])
 have s4:=ak hp1 (.lst [.int 0])
 have s5:=ak hpt (.lst [.ref p0,.ref p1])
 have s6:=ak hr0 (.lst [.int 0,.int 1])
 have s7:=ak hpr (.lst [.ref r0])
 have s12:=s1.trans s2
 have s13:=s12.trans s3
 have s14:=s13.trans s4
 have s15:=s14.trans s5
 have s16:=s15.trans s6
 have s17:=s16.trans s7
 have s37:=((s3.trans s4).trans s5).trans (s6.trans s7)
 have s47:=(s4.trans s5).trans (s6.trans s7)
 have s57:=s5.trans (s6.trans s7)
 have s67:=s6.trans s7
 have l_t0:=(s2.trans s37) _ _ (af (a:=t0) (o:=.tup [.int 0,.int 1]))
 have l_pe:=s37 _ _ (af (a:=pe) (o:=.lst [.ref t0]))
 have l_p0:=s47 _ _ (af (a:=p0) (o:=.lst [.int 0]))
 have l_p1:=s57 _ _ (af (a:=p1) (o:=.lst [.int 0]))
 have l_pt:=s67 _ _ (af (a:=pt) (o:=.lst [.ref p0,.ref p1]))
 have l_r0:=s7 _ _ (af (a:=r0) (o:=.lst [.int 0,.int 1]))
 have n_pe:=du s1 hpe
 have n_p0:=du s12 hp0
 have n_p1:=du s13 hp1
 have n_pt:=du s14 hpt
 have n_r0:=du s15 hr0
 have n_pr:=du s16 hpr
 have d1:∀{x:Addr}{G G':Hp}{o:HO},G x=some o->Same G G'->∀{y},G' y=none->y≠x:=fun h s y z e=>by
  rw[e,s _ _ h]at z;cases z
 have e1:p0≠pe:=d1 af (fun _ _ z=>z) hp0
 have e2:p1≠pe:=d1 af s3 hp1
 have e3:pt≠pe:=d1 af (s3.trans s4) hpt
 have e4:r0≠pe:=d1 af ((s3.trans s4).trans s5) hr0
 have e5:pr≠pe:=d1 af (((s3.trans s4).trans s5).trans s6) hpr
 have e6:p1≠p0:=d1 af (fun _ _ z=>z) hp1
 have e7:pt≠p0:=d1 af s4 hpt
 have e8:r0≠p0:=d1 af (s4.trans s5) hr0
 have e9:pr≠p0:=d1 af ((s4.trans s5).trans s6) hpr
 have e10:pt≠p1:=d1 af (fun _ _ z=>z) hpt
 have e11:r0≠p1:=d1 af s5 hr0
 have e12:pr≠p1:=d1 af (s5.trans s6) hpr
 have e13:r0≠pt:=d1 af (fun _ _ z=>z) hr0
 have e14:pr≠pt:=d1 af s6 hpr
 have e15:pr≠r0:=d1 af (fun _ _ z=>z) hpr
 have C0:GwC (fun p=>H p≠none) (upd (upd (upd (upd (upd (upd (upd H t0 (.tup [.int 0,.int 1])) pe (.lst [.ref t0])) p0 (.lst [.int 0])) p1 (.lst [.int 0])) pt (.lst [.ref p0,.ref p1])) r0 (.lst [.int 0,.int 1])) pr (.lst [.ref r0])) pe pt pr [.ref t0] [.ref p0,.ref p1] [.ref r0] [(0,1)] [[0],[0]] [[0,1]]:=by
  refine⟨l_pe,⟨rfl,fun i e z=>?_⟩,l_pt,⟨rfl,fun i l z=>?_⟩,fun i j p z1 z2=>?_,af,⟨rfl,fun i l z=>?_⟩,⟨Ne.symm e3,Ne.symm e5,Ne.symm e14,fun z=>z n_pe,fun z=>z n_pt,fun z=>z n_pr⟩,fun p sp z=>sp (du s17 z)⟩
  ·match i,z with
   |0,z=>cases z;exact⟨t0,rfl,l_t0⟩
   |i+1,z=>cases z
  ·match i,z with
   |0,z=>cases z;exact⟨p0,rfl,by rintro(y | y | y | y);exact e1 y;exact e7 y.symm;exact e9 y.symm;exact y n_p0,l_p0⟩
   |1,z=>cases z;exact⟨p1,rfl,by rintro(y | y | y | y);exact e2 y;exact e10 y.symm;exact e12 y.symm;exact y n_p1,l_p1⟩
   |i+2,z=>cases z
  ·match i,z1,j,z2 with
   |0,z1,0,z2=>rfl
   |1,z1,1,z2=>rfl
   |0,z1,1,z2=>cases z1;cases z2;exact absurd rfl e6
   |1,z1,0,z2=>cases z1;cases z2;exact absurd rfl e6
   |i+2,z1,_,_=>cases z1
   |0,_,j+2,z2=>cases z2
   |1,_,j+2,z2=>cases z2
  ·match i,z with
   |0,z =>
    cases z
    refine⟨r0,rfl,?_,l_r0⟩
    rintro((y | y | y) | y | y)
    ·exact e4 y
    ·exact e13 y
    ·exact e15 y.symm
    ·have:r0=p0∨r0=p1:=by simpa using y
     rcases this with y | y
     ·exact e8 y
     ·exact e11 y
    ·exact y n_r0
   |i+1,z=>cases z
 refine⟨_,rfl,a,rfl,⟨_,s17.seq hS⟩,cS (xs:=cs.map V.int) (fun i σ H5=>∃ v5 m es ts rg,σ = [some (.ref a),some (.int (P:Int)),some (.ref pe),some (.ref pt),some (.ref pr),v5]/\Same H H5/\GwA (fun p=>H p≠none) H5 pe pt pr m es ts rg/\0<es.length/\es.length<=i+1/\m<=P)
  ⟨_,2,[(0,1)],[[0],[0]],[[0,1]],rfl,s17,⟨⟨_,_,_,C0⟩,gr_two,LA⟩,Nat.one_pos,Pz _,P2⟩ (fun i σ H5 _ ⟨_,_,_,_,_,_,z,_⟩=>z.seq hS) ?_ ?_⟩
 ·rintro i x σ H5 hx ⟨v5,m,es,ts,rg,rfl,s5,gw,e0,ei,mP⟩
  rw[PR]at hx
  obtain⟨c,hc,rfl⟩:=Qp.mp hx
  have hil:i<cs.length:=(Pp.mp hc).1
  refine⟨_,rfl,_,rfl,_,rfl,_,rfl,_,rfl,_,c,pe,pt,pr,P,m,es,ts,rg,rfl,gw,e0,by omega +splitDisjunctions,mP,fun m' es' ts' rg' H' kp gw' l1 l2 mP'=>?_⟩
  exact⟨_,m',es',ts',rg',rfl,kp.same s5,gw',by omega +splitDisjunctions,by omega +splitDisjunctions,mP'⟩
 ·rintro σ H5 ⟨v5,m,es,ts,rg,rfl,s5,gw,e0,ei,mP⟩
  rw[hcl]at ei
  refine⟨_,rfl,_,rfl,_,rfl,(by show 3<=sizeLine;decide),fun t ht=>?_⟩
  have sn:=ak ht (.tup [.ref pe,.ref pt,.ref pr])
  obtain⟨⟨ys,xs,zs,C⟩,g,part⟩:=gw
  exact kk t pe pt pr m es ts rg _ (s5.trans sn) af ⟨⟨ys,xs,zs,C.same sn⟩,g,part⟩ e0 ei mP
end
end K8
namespace K8
open PySem L2
local macro_rules | `(tactic| walk_at "cc") => `(tactic| first | exact ⟨by decide, by decide⟩ | (show (0 : Int) < _; decide) | (show (0 : Int) < _; omega) | (show (0 : Int) ≤ _; omega) | exact ⟨by decide, by decide, by decide⟩ | exact ⟨by omega, by omega, by decide⟩ | exact Or.inl ⟨by decide, by decide⟩ | exact Or.inl ⟨by omega, by omega⟩)
local macro_rules | `(tactic| walk_at "rd") => `(tactic| repeat (first | refine ⟨_, rfl, ?_⟩ | refine ⟨_, _, rfl, rfl, ?_⟩ | refine ⟨rfl, ?_⟩ | (refine ⟨?cc, ?_⟩; (case cc => walk_at "cc"))))
def cutp(c:Int)(p n:Nat):Nat:=(c%1009*((p:Int)+1)%(n:Int)).toNat
def rowN(c:Int)(o2:List Nat)(p:Nat)(l:List Nat):List Nat:=(l.drop (cutp c p l.length)++l.take (cutp c p l.length)).map (ofL o2)
def en2(o1 o2:List Nat)(es:En):En:=(Q8 es.length).map fun j=>(ofL o1 ((es[o2.idxOf j]?).getD (0,0)).1,ofL o1 ((es[o2.idxOf j]?).getD (0,0)).2)
def ts2(c:Int)(o1 o2:List Nat)(ts:List (List Nat)):List (List Nat):=(Q8 ts.length).map fun j=>rowN c o2 (o1.idxOf j) ((ts[o1.idxOf j]?).getD [])
theorem JA{o:List Nat}(nd:o.Nodup){k:Nat}(h:k<o.length):o.idxOf (ofL o k)=k:=by
 have e:o[k]?=some (ofL o k):=by unfold ofL;rw[Pq h];rfl
 exact ER nd (Dw (Pr e)) e
theorem ren_of{m:Nat}{es:En}{ts:List (List Nat)}{c:Int}{o1 o2:List Nat}(w:bz m es ts)(l1:o1.length=m)(n1:o1.Nodup)(b1:∀ x∈o1,x<m)(l2:o2.length=es.length)(n2:o2.Nodup)(b2:∀ x∈o2,x<es.length) :
  Ren m es (en2 o1 o2 es) ts (ts2 c o1 o2 ts) (ofL o1) (ofL o2):=by
 have B1:=E9 l1 n1 b1
 have B2:=E9 l2 n2 b2
 refine⟨B1,B2,by simp[en2],by simp[ts2,w.len],fun k e h=>?_,fun p l h=>?_⟩
 ·have hk:=(Pp.mp h).1
  unfold en2
  rw[PR,R7 (B2.lt k hk)]
  show some (ofL o1 ((es[o2.idxOf (ofL o2 k)]?).getD (0,0)).1,ofL o1 ((es[o2.idxOf (ofL o2 k)]?).getD (0,0)).2)=_
  rw[JA n2 (by omega),h]
  rfl
 ·have hp:p<m:=by rw[← w.len];exact(Pp.mp h).1
  refine⟨l.take (cutp c p l.length),l.drop (cutp c p l.length),(Rh _ _).symm,?_⟩
  unfold ts2
  rw[PR,R7 (by rw[w.len];exact B1.lt p hp)]
  show some (rowN c o2 (o1.idxOf (ofL o1 p)) ((ts[o1.idxOf (ofL o1 p)]?).getD []))=_
  rw[JA n1 (by omega),h]
  rfl
theorem Gr.rows{m:Nat}{es:En}{ts:List (List Nat)}(g:Gr m es ts)(h2:2<=m){p:Nat}{l:List Nat}(h:ts[p]?=some l):0<l.length:=by
 have hp:p<m:=by rw[← g.w.len];exact(Pp.mp h).1
 cases l with
 |cons a l=>exact Nat.succ_pos _
 |nil =>
  exfalso
  have no:∀ e∈es,e.1≠p/\e.2≠p:=fun e he=>by
   obtain⟨t,ht⟩:=Qz.mp he
   refine⟨fun z=>?_,fun z=>?_⟩
   ·exact nomatch (g.w.mem p [] h t).mpr ⟨e,ht,.inl z⟩
   ·exact nomatch (g.w.mem p [] h t).mpr ⟨e,ht,.inr z⟩
  have:=g.conn (fun x=>x=p) (fun e he=>⟨fun z=>absurd z (no e he).1,fun z=>absurd z (no e he).2⟩) p (if p=0 then 1 else 0) hp (by split<;>omega) rfl
  have this':(if p=0 then 1 else 0)=p:=this
  split at this'<;>omega
theorem cut_hi{xs:List V}{c:Nat}(h:c<=xs.length):cutV xs (some (c:Int)) none=xs.drop c:=by
 unfold cutV
 rw[HT.sIx_nat,RB h]
 show(xs.drop c).take (xs.length-c)=_
 exact QK (by rw[QX];exact Pz _)
theorem cut_lo{xs:List V}{c:Nat}(h:c<=xs.length):cutV xs none (some (c:Int))=xs.take c:=by
 unfold cutV
 rw[HT.sIx_nat,RB h]
 show(xs.drop 0).take (c-0)=_
 rw[S3,Nat.sub_zero]
structure WebP(H:Hp)(pe pt:Addr)(m:Nat)(es:En)(ts:List (List Nat)):Prop where
 en:∃ ys,H pe=some (.lst ys)/\cZ H ys es
 tu:∃ xs,H pt=some (.lst xs)/\bT H xs ts
 g:Gr m es ts
theorem WebP.mono{H H':Hp}{pe pt:Addr}{m:Nat}{es:En}{ts:List (List Nat)}(h:WebP H pe pt m es ts)(s:Same H H'):WebP H' pe pt m es ts:=by
 obtain⟨⟨ys,a,b⟩,⟨xs,c,d⟩,g⟩:=h
 exact⟨⟨ys,s _ _ a,b.mono s⟩,⟨xs,s _ _ c,d.mono s⟩,g⟩
theorem at30{u v x:V}:atI [u,v,x] 0=some u:=rfl
theorem at31{u v x:V}:atI [u,v,x] 1=some v:=rfl
theorem at32{u v x:V}:atI [u,v,x] 2=some x:=rfl
structure TxtM(mg:Str->Option Value):Prop extends Txt mg where
 n_max:mg "max" = none
def Nc(H:Hp)(pr:Addr)(rg:List (List Nat)):Prop:=∃ zs,H pr=some (.lst zs)/\bT H zs rg
theorem Lr{m:Nat}{es es2:En}{ts ts2 rs:List (List Nat)}{π σ:Nat->Nat}(R:Ren m es es2 ts ts2 π σ)(g:Gr m es ts)(p:Part (fol es ts) (2*es.length) rs):Part (fol es2 ts2) (2*es2.length) (rs.map (SE (Phi σ))):=by
 have flt:∀ d∈rs.flatten,d<2*es.length:=fun d hd=>by
  obtain⟨r,h1,h2⟩:=Qo.mp hd
  exact(p.cr r h1).lt d h2
 have hfl:(rs.map (SE (Phi σ))).flatten=rs.flatten.map (Phi σ):=List.map_flatten.symm
 refine⟨fun q hq=>?_,?_,fun d hd=>?_⟩
 ·obtain⟨r,hr,rfl⟩:=Qv.mp hq
  have c:=p.cr r hr
  obtain⟨x,l,rfl,ch⟩:=c.ch
  refine⟨⟨Phi σ x,l.map (Phi σ),rfl,mD ch fun t ht=>R.fol g.w (c.lt t ht)⟩,fun d hd=>?_,qH c.nd fun a ha b hb=>sM R.si (c.lt a ha) (c.lt b hb)⟩
  obtain⟨t,ht,rfl⟩:=Qv.mp hd
  have h1:=c.lt t ht
  have h2:=R.si.lt (t/2) (by omega)
  rw[R.l1]
  unfold Phi
  omega
 ·rw[hfl]
  exact qH p.nd fun a ha b hb=>sM R.si (flt a ha) (flt b hb)
 ·rw[R.l1]at hd
  obtain⟨k,hk,e⟩:=R.si.sur (d/2) (by omega)
  rw[hfl]
  refine Qv.mpr ⟨2*k+d%2,p.all _ (by omega),?_⟩
  unfold Phi
  rw[show(2*k+d%2)/2=k by omega,e]
  omega
def HF:Sp:=fun vs H Q _=>∃(t pe pt pr:Addr)(c:Int)(m:Nat)(es:En)(ts rg:List (List Nat)),vs = [.ref t,.int c]/\H t=some (.tup [.ref pe,.ref pt,.ref pr])/\WebP H pe pt m es ts/\Nc H pr rg/\Part (fol es ts) (2*es.length) rg/\2<=m/\es.length<=63 /\
 ∀(t' pe' pt' pr':Addr)(es':En)(ts' rg':List (List Nat))(H':Hp),Same H H'->H' t'=some (.tup [.ref pe',.ref pt',.ref pr'])->WebP H' pe' pt' m es' ts'->Nc H' pr' rg'->Part (fol es' ts') (2*es'.length) rg'->es'.length=es.length->Q (.ref t') H'
section
variable{P:Program}{w:World}{K:Pt}{mg:Str->Option Value}{base:Heap}
theorem aL:aC ["grown","cell","places","ties","ends","k","turns","p","row","cut","rings","ring"] ["grown","cell"] (aj bo):=⟨rfl,rfl,rfl,by decide +kernel,rfl,by decide +kernel,by decide +kernel⟩
theorem ok_ren{f fo:Addr}{fd fdo:FuncData} (F:Fun K "_law_renumbered" "_law_renumbered" bo f fd) (T:TxtM mg) (G_law_order:Cal P w K mg base 1 "_law_order" ["cell","many"] Bi fo fdo):FnOk P w K mg base CX0 2 f fd ["grown","cell"] HF:=by
 refine F.ok aL (fun vs H Q E h=>?_) (fun cdv A outer s H vs Q E hr h=>?_)
 ·obtain⟨t,pe,pt,pr,c,m,es,ts,rg,rfl,_⟩:=h
  rfl
 obtain⟨t,pe,pt,pr,c,m,es,ts,rg,rfl,ht,⟨⟨ys,hpe,en⟩,⟨xs,hpt,tu⟩,g⟩,⟨us,hpr,ru⟩,part,h2,h31,kk⟩:=h
 have w':=g.w
 have mf:=zX g
 have hyl:ys.length=es.length:=en.1
 have hxl:xs.length=m:=by rw[tu.1,w'.len]
 refine⟨_,(ag (av (i:=2) aL.nd rfl (Or.inl rfl) (ay G_law_order.ok (hr.mono (by decide)) rfl G_law_order.mg G_law_order.kp G_law_order.bn .nil aP (ae (pv 1) (ae (aE ar (by rfl) T.n_len aY (ae (ax aH (pv 0) ah (fun _ _=>rfl)) ai)) ai))))
   (ag (av (i:=3) aL.nd rfl (Or.inr rfl) (ay G_law_order.ok (hr.mono (by decide)) rfl G_law_order.mg G_law_order.kp G_law_order.bn .nil aP (ae (aw cP (pv 1) ah) (ae (aE ar (by rfl) T.n_len aY (ae (ax aH (pv 0) ah (fun _ _=>rfl)) ai)) ai))))
   (ag (av (i:=4) aL.nd rfl (Or.inl rfl) (iQ gc (by rfl) T.n_list lD (ae (ax aH (pv 0) ah (fun _ _=>rfl)) ai)))
   (ag (bM PassesOwn.never rfl (aW rfl T.n_range (ae (aE ar (by rfl) T.n_len aY (ae (pv 4) ai)) ai)) (aO (i:=5) aL.nd rfl (Or.inl rfl)) (aq (lU (bK (ae (ax az (pv 2) (ax aH (ax az (ax aH (pv 0) ah (fun _ _=>rfl)) (pv 5) (fun _ _=>rfl)) ah (fun _ _=>rfl)) (fun _ _=>rfl)) (ae (ax az (pv 2) (ax aH (ax az (ax aH (pv 0) ah (fun _ _=>rfl)) (pv 5) (fun _ _=>rfl)) ah (fun _ _=>rfl)) (fun _ _=>rfl)) ai))) (lV (pv 4) (ax az (pv 3) (pv 5) (fun _ _=>rfl)) d8))))
   (ag (av (i:=6) aL.nd rfl (Or.inl rfl) (iQ gc (by rfl) T.n_list lD (ae (ax aH (pv 0) ah (fun _ _=>rfl)) ai)))
   (ag (bM PassesOwn.never rfl (aW rfl T.n_range (ae (aE ar (by rfl) T.n_len aY (ae (pv 6) ai)) ai)) (aO (i:=7) aL.nd rfl (Or.inl rfl)) (ag (gF (i:=8) rfl aL.nd rfl rfl (fr:=[("ties",3)]) (by exact bq.one (by rfl) (by decide +kernel) (by rfl) (by decide +kernel) (by rfl) (by decide +kernel) (by rfl) (by rfl) (by decide +kernel) (by rfl)) (a9 (ax az (ax aH (pv 0) ah (fun _ _=>rfl)) (pv 7) (fun _ _=>rfl))) (fun C ex s H=>(ax (xn (K:=K) rfl) (pv 1) (pv 0) (fun _ _=>rfl))))
   (ag (av (i:=9) aL.nd rfl (Or.inl rfl) (aw bE (aw fJ (aw bE (pv 1) ah) (aw bA (pv 7) ah)) (aE (rR rfl) (by rfl) T.n_max Ks (ae ah (ae (aE ar (by rfl) T.n_len aY (ae (pv 8) ai)) ai)))))
   (aq (lU (aw op_cat (eu gP (pv 8) (fe (pv 9)) kx) (eu gP (pv 8) kx (fe (pv 9)))) (lV (pv 6) (ax az (pv 2) (pv 7) (fun _ _=>rfl)) d8))))))
   (ag (av (i:=10) aL.nd rfl (Or.inl rfl) (bY ai))
   (ag (bM PassesOwn.never rfl (a9 (ax aH (pv 0) ah (fun _ _=>rfl))) (aO (i:=11) aL.nd rfl (Or.inl rfl)) (aq (a7 (gf P4 Qj Qi a8 (pv 10) (ae (dr rfl (fr:=[("ties",3)]) (by exact bq.one (by rfl) (by decide +kernel) (by rfl) (by decide +kernel) (by rfl) (by decide +kernel) (by rfl) (by rfl) (by decide +kernel) (by rfl)) (a9 (pv 11)) (fun C ex s H=>(aw bA (aw fJ ah (ax (xn (K:=K) rfl) (pv 1) (aw cP (pv 0) ah) (fun _ _=>rfl))) (aw bE (pv 0) ah)))) ai)))))
   (aq (aI (bK (ae (pv 4) (ae (pv 6) (ae (pv 10) ai)))))))))))))),?_⟩
 refine⟨_,rfl,_,rfl,t,_,1,_,rfl,rfl,SqT.of ht,at31,pt,xs,rfl,.inl (SqL.of hpt),c,m,(by rw[hxl];rfl),by omega +splitDisjunctions,fun q1 o1 H1 s1 _ h1 l1 n1 b1=>?_⟩
 refine⟨_,rfl,_,_,rfl,rfl,⟨by decide,by decide⟩,_,rfl,t,_,0,_,rfl,rfl,SqT.of (s1 _ _ ht),at30,pe,ys,rfl,.inl (SqL.of (s1 _ _ hpe)),_,es.length,(by rw[hyl];rfl),by omega +splitDisjunctions,fun q2 o2 H2 s2 _ h2' l2 n2 b2=>?_⟩
 have s12:=s1.trans s2
 have R:=ren_of (c:=c) w' l1 n1 b1 l2 n2 b2
 have h1':=s2 _ _ h1
 refine⟨_,rfl,t,_,0,_,rfl,rfl,SqT.of (s12 _ _ ht),at30,pe,ys,rfl,.inl (SqL.of (s12 _ _ hpe)),fun qe hqe=>?_⟩
 have s3:=ak hqe (.lst ys)
 have s13:=s12.trans s3
 have h23:=s3 _ _ h2'
 have h13:=s3 _ _ h1'
 have get1:∀ k,k<m->(o1.map iV)[k]?=some (iV (ofL o1 k)):=fun k hk=>by
  rw[PR];unfold ofL;rw[Pq (by omega +splitDisjunctions)];rfl
 have get2:∀ k,k<es.length->(o2.map iV)[k]?=some (iV (ofL o2 k)):=fun k hk=>by
  rw[PR];unfold ofL;rw[Pq (by omega +splitDisjunctions)];rfl
 have hqe0:H qe=none:=by
  cases y:H qe with
  |none=>rfl
  |some o=>rw[s12 _ _ y]at hqe;cases hqe
 refine⟨_,rfl,qe,ys,rfl,.inl (SqL.of af),_,rfl,by omega +splitDisjunctions,by omega +splitDisjunctions,cR (n:=(ys.length:Int).toNat) (fun i σ H5=>∃ v5 v6 v7 v8 v9 v10 v11 zs,σ = [some (.ref t),some (.int c),some (.ref q1),some (.ref q2),some (.ref qe),v5,v6,v7,v8,v9,v10,v11]/\Same H2 H5/\H5 qe=some (.lst zs)/\zs.length=es.length/\∀(k:Nat)(e:Nat×Nat),k<i->es[k]?=some e->∃ p,zs[ofL o2 k]?=some (.ref p)/\H5 p=some (.tup [iV (ofL o1 e.1),iV (ofL o1 e.2)]))
  ⟨_,_,_,_,_,_,_,ys,rfl,s3,af,hyl,fun k e z=>absurd z (QA _)⟩ ?_ ?_⟩
 ·rintro i σ H5 hi ⟨v5,v6,v7,v8,v9,v10,v11,zs,rfl,s5,hz,zl,inv⟩
  rw[PQ,hyl]at hi
  have e0:(0:Int)+(i:Int)=(i:Int):=QR _
  rw[e0]
  have s15:=s12.trans s5
  obtain⟨e,he⟩:∃ e,es[i]?=some e:=⟨_,Pq hi⟩
  obtain⟨p,x1,x2⟩:=(en.mono s15).2 i e he
  obtain⟨a1,a2,_⟩:=w'.ends e (Pr he)
  have b2':=R.si.lt i hi
  refine⟨_,rfl,_,rfl,t,_,0,_,rfl,rfl,SqT.of (s15 _ _ ht),at30,_,rfl,pe,ys,_,_,rfl,rfl,SqL.of (s15 _ _ hpe),aA x1,p,_,0,_,rfl,rfl,SqT.of x2,at0,q1,_,_,_,rfl,rfl,SqL.of (s5 _ _ h1'),aA (get1 _ a1),_,rfl,_,rfl,t,_,0,_,rfl,rfl,SqT.of (s15 _ _ ht),at30,_,rfl,pe,ys,_,_,rfl,rfl,SqL.of (s15 _ _ hpe),aA x1,p,_,1,_,rfl,rfl,SqT.of x2,at1,q1,_,_,_,rfl,rfl,SqL.of (s5 _ _ h1'),aA (get1 _ a2),(by show 2<=sizeLine;decide),fun tt htt=>?_⟩
  have sn:=ak htt (.tup [iV (ofL o1 e.1),iV (ofL o1 e.2)])
  refine⟨_,rfl,_,rfl,_,rfl,q2,_,_,_,rfl,rfl,SqL.of (sn _ _ (s5 _ _ h2')),aA (get2 _ hi),qe,zs,_,ofL o2 i,rfl,rfl,sn _ _ hz,fu (by omega +splitDisjunctions),?_⟩
  refine⟨_,_,_,_,_,_,_,_,rfl,aR (s5.trans sn) hqe _,af,by rw[Qa];exact zl,fun k e' hk hek=>?_⟩
  by_cases z:k=i
  ·subst z
   rw[he]at hek
   cases hek
   exact⟨tt,by rw[Qh,if_pos rfl,if_pos (by omega +splitDisjunctions)],by rw[ao (fun z=>by rw[z,hz]at htt;cases htt)];exact af⟩
  ·obtain⟨p',u1,u2⟩:=inv k e' (by omega +splitDisjunctions) hek
   have hkl:k<es.length:=(Pp.mp hek).1
   refine⟨p',by rw[Qh,if_neg (fun y=>z (R.si.inj _ _ hkl hi y.symm))];exact u1,?_⟩
   rw[ao (fun z=>by rw[z,hz]at u2;cases u2)]
   exact sn _ _ u2
 rintro σ H5 ⟨v5,v6,v7,v8,v9,v10,v11,zs,rfl,s5,hz,zl,inv⟩
 rw[PQ,hyl]at inv
 have s15:=s12.trans s5
 have enN:cZ H5 zs (en2 o1 o2 es):=⟨by rw[zl,R.l1],fun j x h=>by
  obtain⟨k,e,rfl,h4,rfl⟩:=R.es' h
  exact inv k e (Pp.mp h4).1 h4⟩
 refine⟨_,rfl,t,_,1,_,rfl,rfl,SqT.of (s15 _ _ ht),at31,pt,xs,rfl,.inl (SqL.of (s15 _ _ hpt)),fun qt hqt=>?_⟩
 have s6:=ak hqt (.lst xs)
 have s16:=s15.trans s6
 refine⟨_,rfl,qt,xs,rfl,.inl (SqL.of af),_,rfl,by omega +splitDisjunctions,by omega +splitDisjunctions,cR (n:=(xs.length:Int).toNat) (fun i σ H7=>∃ v5 v7 v8 v9 v10 v11 ws,σ = [some (.ref t),some (.int c),some (.ref q1),some (.ref q2),some (.ref qe),v5,some (.ref qt),v7,v8,v9,v10,v11]/\Same H5 H7/\H7 qt=some (.lst ws)/\ws.length=m/\∀(p:Nat)(l:List Nat),p<i->ts[p]?=some l->∃ q,ws[ofL o1 p]?=some (.ref q)/\H7 q=some (.lst ((rowN c o2 p l).map iV))/\q≠qt)
  ⟨_,_,_,_,_,_,xs,rfl,s6,af,hxl,fun k e z=>absurd z (QA _)⟩ ?_ ?_⟩
 ·rintro i σ H7 hi ⟨w5,w7,w8,w9,w10,w11,ws,rfl,s7,hw,wl,inv2⟩
  rw[PQ,hxl]at hi
  have e0:(0:Int)+(i:Int)=(i:Int):=QR _
  rw[e0]
  have s17:=s15.trans s7
  have s27:=s5.trans s7
  obtain⟨l,hl⟩:∃ l,ts[i]?=some l:=⟨_,Pq (by rw[w'.len];exact hi)⟩
  obtain⟨p,x1,x2⟩:=(tu.mono s17).2 i l hl
  have lpos:=g.rows h2 hl
  have llt:∀ k∈l,k<es.length:=fun k hk=>ot w' hl hk
  have lle:l.length<=es.length:=fk (w'.nd _ _ hl) llt
  have llen:(l.map iV).length=l.length:=PB _
  refine⟨_,rfl,t,_,1,_,rfl,rfl,SqT.of (s17 _ _ ht),at31,_,rfl,pt,xs,_,_,rfl,rfl,SqL.of (s17 _ _ hpt),aA x1,p,rfl,⟨_,SqL.of x2⟩,bS (K:=K) (xs:=l.map iV) (fun j zs H8=>H8=H7/\zs=((l.map (ofL o2)).map iV).take j) (by rw[llen];exact Ql (au (by omega +splitDisjunctions))) ⟨rfl,rfl⟩ (fun j zs H8 _ z=>z.1▸SqL.of x2) ?_ ?_⟩
  ·rintro j x zs H8 hx ⟨rfl,rfl⟩
   rw[PR]at hx
   obtain⟨k,hk,rfl⟩:=Qp.mp hx
   refine⟨_,rfl,_,rfl,q2,_,_,_,rfl,rfl,SqL.of (s27 _ _ h2'),aA (get2 _ (llt k (Pr hk))),rfl,?_⟩
   rw[Qf,PR,PR,hk]
   rfl
  rintro zs H8 hzl ⟨rfl,rfl⟩ D hD
  rw[llen,QK (by rw[PB,PB];exact Pz _)]
  have sD:=ak hD (.lst ((l.map (ofL o2)).map iV))
  have dlen:((l.map (ofL o2)).map iV).length=l.length:=by rw[PB,PB]
  have dpos:(0:Int)<(((l.map (ofL o2)).map iV).length:Int):=by omega +splitDisjunctions
  have mx1:(if(((l.map (ofL o2)).map iV).length:Int) > 1 then(((l.map (ofL o2)).map iV).length:Int) else 1)=(((l.map (ofL o2)).map iV).length:Int):=by split<;>omega +splitDisjunctions
  have c0:=Ra c (show(1009:Int)≠0 by decide)
  have c1:=QW c (show(0:Int)<1009 by decide)
  refine⟨_,rfl,_,_,rfl,rfl,(by show(0:Int)<1009;decide),_,rfl,_,_,rfl,rfl,_,_,rfl,rfl,.inl ⟨by show -(2^64:Int)<c%1009;omega +splitDisjunctions,by show c%1009<(2^64:Int);omega +splitDisjunctions⟩,_,rfl,D,_,rfl,.inl (SqL.of af),_,_,rfl,_,_,rfl,rfl,(by rw[mx1];exact dpos),?_⟩
  rw[mx1]
  have u0:=Ra (c%1009*((i:Int)+1)) (show(((l.map (ofL o2)).map iV).length:Int)≠0 by omega +splitDisjunctions)
  have u1:=QW (c%1009*((i:Int)+1)) dpos
  have hcut:c%1009*((i:Int)+1)%(((l.map (ofL o2)).map iV).length:Int)=((cutp c i l.length:Nat):Int):=by
   unfold cutp
   rw[dlen]at u0 ⊢
   exact(QZ u0).symm
  have cle:cutp c i l.length<=((l.map (ofL o2)).map iV).length:=by omega +splitDisjunctions
  refine⟨_,rfl,_,rfl,_,rfl,D,_,rfl,SqL.of af,fun b1' hb1=>?_⟩
  rw[hcut,cut_hi cle]
  have sB:=ak hb1 (.lst (((l.map (ofL o2)).map iV).drop (cutp c i l.length)))
  refine⟨_,rfl,_,rfl,_,rfl,D,_,rfl,SqL.of (sB _ _ af),fun b2' hb2=>?_⟩
  rw[hcut,cut_lo cle]
  have sC:=ak hb2 (.lst (((l.map (ofL o2)).map iV).take (cutp c i l.length)))
  refine⟨b1',b2',_,_,rfl,rfl,sC _ _ af,af,by rw[QX,Qr];exact Ql (au (by omega +splitDisjunctions)),fun b3 hb3=>?_⟩
  have hrow:((l.map (ofL o2)).map iV).drop (cutp c i l.length)++((l.map (ofL o2)).map iV).take (cutp c i l.length)=(rowN c o2 i l).map iV:=by
   unfold rowN
   rw[Qw,Qw,RX,RX,RW,RW]
  rw[hrow]
  have sE:=ak hb3 (.lst ((rowN c o2 i l).map iV))
  have sAll:=((sD.trans sB).trans sC).trans sE
  refine⟨_,rfl,_,rfl,_,rfl,q1,_,_,_,rfl,rfl,SqL.of (sAll _ _ (s27 _ _ h1')),aA (get1 _ hi),qt,ws,_,ofL o1 i,rfl,rfl,sAll _ _ hw,fu (by rw[wl];exact R.pi.lt i hi),?_⟩
  have b3t:b3≠qt:=fun z=>by rw[z,((sD.trans sB).trans sC) _ _ hw]at hb3;cases hb3
  refine⟨_,_,_,_,_,_,_,rfl,aR (s7.trans sAll) hqt _,af,by rw[Qa];exact wl,fun p' l' hp' hl'=>?_⟩
  by_cases z:p'=i
  ·subst z
   rw[hl]at hl'
   cases hl'
   exact⟨b3,by rw[Qh,if_pos rfl,if_pos (by rw[wl];exact R.pi.lt p' hi)],by rw[ao b3t];exact af,b3t⟩
  ·obtain⟨q,u1,u2,u3⟩:=inv2 p' l' (by omega +splitDisjunctions) hl'
   have hpl:p'<m:=by rw[← w'.len];exact(Pp.mp hl').1
   exact⟨q,by rw[Qh,if_neg (fun y=>z (R.pi.inj _ _ hpl hi y.symm))];exact u1,by rw[ao u3];exact sAll _ _ u2,u3⟩
 rintro σ H7 ⟨w5,w7,w8,w9,w10,w11,ws,rfl,s7,hw,wl,inv2⟩
 rw[PQ,hxl]at inv2
 have tuN:bT H7 ws (ts2 c o1 o2 ts):=⟨by rw[wl,R.l2],fun j L h=>by
  have hj:j<m:=by rw[← R.l2];exact(Pp.mp h).1
  obtain⟨p,hp,rfl⟩:=R.pi.sur j hj
  obtain⟨l,hl⟩:∃ l,ts[p]?=some l:=⟨_,Pq (by rw[w'.len];exact hp)⟩
  obtain⟨q,z1,z2,_⟩:=inv2 p l hp hl
  refine⟨q,z1,?_⟩
  unfold ts2 at h
  rw[PR,R7 (by rw[w'.len];exact R.pi.lt p hp)]at h
  have h':some (rowN c o2 (o1.idxOf (ofL o1 p)) ((ts[o1.idxOf (ofL o1 p)]?).getD []))=some L:=h
  rw[JA n1 (by omega +splitDisjunctions),hl]at h'
  cases h'
  exact z2⟩
 have s17:=s15.trans s7
 refine⟨(by show 0<=sizeLine;decide),fun qr hqr=>?_⟩
 have s8:=ak hqr (.lst [])
 have ru8:=ru.mono (s17.trans s8)
 have ul:us.length=rg.length:=ru.1
 have rgl:rg.length<=es.length+2:=by
  obtain⟨rs,x1,x2⟩:=g.part
  have:=part.same x1
  omega +splitDisjunctions
 have ringp:∀(r:List Nat),r∈rg->r.length<=2*es.length/\∀ d∈r,d<2*es.length:=fun r hr=>⟨fk (part.cr r hr).nd (part.cr r hr).lt,(part.cr r hr).lt⟩
 have h2s:=s5.trans s7
 refine⟨_,rfl,t,_,2,_,rfl,rfl,SqT.of ((s17.trans s8) _ _ ht),at32,pr,rfl,⟨us,SqL.of ((s17.trans s8) _ _ hpr)⟩,cS (xs:=us) (fun i σ H9=>∃ v5 v7 v8 v9 v11 ws2,σ = [some (.ref t),some (.int c),some (.ref q1),some (.ref q2),some (.ref qe),v5,some (.ref qt),v7,v8,v9,some (.ref qr),v11]/\Same H7 H9/\H9 qr=some (.lst ws2)/\bb (fun p=>p=qr) H9 ws2 ((rg.map (SE (Phi (ofL o2)))).take i))
  ⟨_,_,_,_,_,[],rfl,s8,af,⟨rfl,fun i l z=>by simp at z⟩⟩ (fun i σ H9 _ ⟨_,_,_,_,_,_,_,z,_⟩=>SqL.of ((s17.trans z) _ _ hpr)) ?_ ?_⟩
 ·rintro i x σ H9 hx ⟨w5',w7',w8',w9',w11',ws2,rfl,s9,hq9,rx9⟩
  have hi:i<rg.length:=by rw[← ul];exact(Pp.mp hx).1
  obtain⟨r,hr⟩:∃ r,rg[i]?=some r:=⟨_,Pq hi⟩
  obtain⟨p,x1,x2⟩:=(ru.mono (s17.trans s9)).2 i r hr
  rw[hx]at x1
  cases x1
  obtain⟨rl,rlt⟩:=ringp r (Pr hr)
  have rlen:(r.map iV).length=r.length:=PB _
  have wsl:ws2.length=i:=by rw[rx9.1,Qr,PB];omega +splitDisjunctions
  refine⟨_,rfl,.inl ⟨rfl,_,SqL.of hq9⟩,_,rfl,p,rfl,⟨_,SqL.of x2⟩,bS (K:=K) (xs:=r.map iV) (fun j zs H8=>H8=H9/\zs=((r.map (Phi (ofL o2))).map iV).take j) (by rw[rlen];exact Ql (au (by omega +splitDisjunctions))) ⟨rfl,rfl⟩ (fun j zs H8 _ z=>z.1▸SqL.of x2) ?_ ?_⟩
  ·rintro j x zs H8 hx ⟨rfl,rfl⟩
   rw[PR]at hx
   obtain⟨d,hd,rfl⟩:=Qp.mp hx
   have dl:=rlt d (Pr hd)
   have e2:(d:Int)/2=((d/2:Nat):Int):=by omega +splitDisjunctions
   refine⟨_,rfl,_,rfl,_,_,rfl,rfl,⟨by decide,by decide⟩,q2,_,_,_,rfl,rfl,SqL.of ((h2s.trans s9) _ _ h2'),(by rw[e2];exact aA (get2 _ (by omega +splitDisjunctions))),_,_,rfl,rfl,.inl ⟨by decide,by decide⟩,_,rfl,_,_,rfl,rfl,(by show(0:Int)<2;decide),_,_,rfl,rfl,rfl,?_⟩
   rw[Qf,PR,PR,hd]
   have:V.int (2*((ofL o2 (d/2):Nat):Int)+(d:Int)%2)=iV (Phi (ofL o2) d):=by
    unfold Phi iV
    congr 1
   simpa[iV] using this
  rintro zs H8 hzl ⟨rfl,rfl⟩ D hD
  rw[rlen,QK (by rw[PB,PB];exact Pz _)]
  have sD:=ak hD (.lst ((r.map (Phi (ofL o2))).map iV))
  have Dq:D≠qr:=fun z=>by rw[z,hq9]at hD;cases hD
  refine⟨qr,ws2,_,rfl,rfl,sD _ _ hq9,au (by omega +splitDisjunctions),?_⟩
  have hqr7:H7 qr=none:=hqr
  refine⟨_,_,_,_,_,_,rfl,aR (s9.trans sD) hqr7 _,af,?_⟩
  have tk:(rg.map (SE (Phi (ofL o2)))).take (i+1)=(rg.map (SE (Phi (ofL o2)))).take i++[r.map (Phi (ofL o2))]:=by
   rw[Qf,PR,hr]
   rfl
  rw[tk]
  refine bb.mono (bb.snoc (bb.mono rx9 fun b u _ z=>sD _ _ z) Dq af) fun b u n z=>?_
  rw[ao n]
  exact z
 rintro σ H9 ⟨w5',w7',w8',w9',w11',ws2,rfl,s9,hq9,rx9⟩
 rw[ul,QK (by rw[PB];exact Pz _)]at rx9
 have s19:=s17.trans s9
 refine⟨_,rfl,_,rfl,_,rfl,(by show 3<=sizeLine;decide),fun t' ht'=>?_⟩
 have sT:=ak ht' (.tup [.ref qe,.ref qt,.ref qr])
 have s79:=s9.trans sT
 exact kk t' qe qt qr (en2 o1 o2 es) (ts2 c o1 o2 ts) _ _ (s19.trans sT) af ⟨⟨zs,s79 _ _ (s7 _ _ hz),(enN.mono s7).mono s79⟩,⟨ws,s79 _ _ hw,tuN.mono s79⟩,R.gr g⟩ ⟨ws2,sT _ _ hq9,rx9.off.mono sT⟩ (Lr R g part) R.l1
end
end K8
namespace K8
open PySem L2
local macro_rules | `(tactic| walk_at "cc") => `(tactic| first | exact ⟨by decide, by decide⟩ | (show (0 : Int) < _; decide) | (show (0 : Int) < _; omega) | (show (0 : Int) ≤ _; omega) | exact ⟨by decide, by decide, by decide⟩ | exact ⟨by omega, by omega, by decide⟩ | exact Or.inl ⟨by decide, by decide⟩ | exact Or.inl ⟨by omega, by omega⟩)
local macro_rules | `(tactic| walk_at "rd") => `(tactic| repeat (first | refine ⟨_, rfl, ?_⟩ | refine ⟨_, _, rfl, rfl, ?_⟩ | refine ⟨rfl, ?_⟩ | (refine ⟨?cc, ?_⟩; (case cc => walk_at "cc"))))
theorem E8:bootBuiltins "min" = some (.builtin "min"):=by decide +kernel
theorem ra{S:Addr->Prop}{H:Hp}{xs:List V}{ts:List (List Nat)}{q:Addr}(h:bb S H xs ts)(D:Dist xs)(hq:H q=none):Dist (xs++[.ref q]):=by
 have old:∀(j:Nat)(p:Addr),j<xs.length->(xs++[V.ref q])[j]?=some (.ref p)->xs[j]?=some (.ref p)/\p≠q:=fun j p hj e=>by
  rw[Py hj]at e
  obtain⟨p',a1,_,a3⟩:=h.2 j _ (Pq (by rw[← h.1];exact hj))
  rw[e]at a1
  cases a1
  exact⟨e,aM a3 hq⟩
 have new:∀(j:Nat)(p:Addr),¬ j<xs.length->(xs++[V.ref q])[j]?=some (.ref p)->j=xs.length/\p=q:=fun j p hj e=>by
  have:=(Pp.mp e).1
  rw[Px,PY]at this
  have hj2:j=xs.length:=by omega
  subst hj2
  rw[Pu (Pz _),P1]at e
  cases e
  exact⟨rfl,rfl⟩
 intro j k p e1 e2
 by_cases hj:j<xs.length
 ·obtain⟨u1,u2⟩:=old j p hj e1
  by_cases hk:k<xs.length
  ·exact D j k p u1 (old k p hk e2).1
  ·exact absurd (new k p hk e2).2 u2
 ·obtain⟨u1,u2⟩:=new j p hj e1
  by_cases hk:k<xs.length
  ·exact absurd u2 (old k p hk e2).2
  ·rw[u1,(new k p hk e2).1]
abbrev Kn:=List (Int×Int)
def jD(H:Hp)(ws:List V)(ks:Kn):Prop:=ws.length=ks.length/\∀(i:Nat)(k:Int×Int),ks[i]?=some k->(k.1=0∨k.1=1)/\0<=k.2/\∃ p,ws[i]?=some (.ref p)/\H p=some (.tup [.int k.1,.int k.2])
theorem jD.mono{H H':Hp}{ws:List V}{ks:Kn}(h:jD H ws ks)(s:Same H H'):jD H' ws ks:=⟨h.1,fun i k z=>by
 obtain⟨a,b,p,c,d⟩:=h.2 i k z
 exact⟨a,b,p,c,s _ _ d⟩⟩
theorem jD.snoc{H:Hp}{ws:List V}{ks:Kn}{k:Int×Int}{p:Addr}(t:jD H ws ks)(h:H p=some (.tup [.int k.1,.int k.2]))(h1:k.1=0∨k.1=1)(h2:0<=k.2):jD H (ws++[.ref p]) (ks++[k]):=by
 refine⟨by rw[Px,Px,t.1];rfl,fun j x ej=>?_⟩
 by_cases hj:j<ks.length
 ·rw[Py hj]at ej
  obtain⟨u,v,p,a1,a2⟩:=t.2 j x ej
  exact⟨u,v,p,by rw[Py (by rw[t.1];exact hj)];exact a1,a2⟩
 ·rw[Pu (by omega)]at ej
  have hj2:j=ks.length:=by
   have:=(Pp.mp ej).1
   rw[PY]at this
   omega
  subst hj2
  rw[P1]at ej
  cases ej
  exact⟨h1,h2,p,by rw[← t.1,Pu (Pz _),P1];rfl,h⟩
theorem Gr.two{m:Nat}{es:En}{ts:List (List Nat)}(g:Gr m es ts)(h:0<es.length):2<=m:=by
 obtain⟨a,b,c⟩:=g.w.ends _ (Pr (Pq h))
 omega
def Bp(K:Pt):Sp:=fun vs H Q _=>∃(a lm:Addr)(n:Nat)(ns Ls:List Int),vs = [.ref a,.int (n:Int),.ref lm]/\SqL K H a (ns.map V.int)/\ns.length<=63/\SqL K H lm (Ls.map V.int)/\0<Ls.length/\Ls.length<1000/\(∀ x∈Ls,1<=x/\x<=10^(30:Int).toNat+1)/\0<n/\n<=100 /\
 ∀(q:Addr)(ws:List V)(ks:Kn)(H':Hp),Same H H'->H' q=some (.lst ws)->jD H' ws ks->ks.length=n->(∀ k∈ks,k.2<=10^(30:Int).toNat)->Q (.ref q) H'
section
variable{P:Program}{w:World}{K:Pt}{mg:Str->Option Value}{base:Heap}
theorem fH:aC ["script","many","limits","limit","totals","k"] ["script","many","limits"] (aj de):=⟨rfl,rfl,rfl,by decide +kernel,rfl,by decide +kernel,by decide +kernel⟩
theorem LQ{f fc:Addr}{fd dc:FuncData} (F:Fun K "_law_kinds" "_law_kinds" de f fd) (T:Txt mg) (G_law_cell:Cal P w K mg base 1 "_law_cell" ["script","k"] (EE K) fc dc):FnOk P w K mg base CX0 2 f fd ["script","many","limits"] (Bp K):=by
 refine F.ok fH (fun vs H Q E h=>?_) (fun cdv A outer s H vs Q E hr h=>?_)
 ·obtain⟨a,lm,n,ns,Ls,rfl,_⟩:=h
  rfl
 obtain⟨a,lm,n,ns,Ls,rfl,hS,h63,hL,L0,L1,Lb,n0,n100,kk⟩:=h
 have hlen:(ns.map V.int).length=ns.length:=PB _
 have llen:(Ls.map V.int).length=Ls.length:=PB _
 have lpos:(0:Int)<((Ls.map V.int).length:Int):=by omega +splitDisjunctions
 refine⟨_,(ag (av (i:=3) fH.nd rfl (Or.inl rfl) (ax az (pv 2) (aw bE (ay G_law_cell.ok (hr.mono (by decide)) rfl G_law_cell.mg G_law_cell.kp G_law_cell.bn .nil aP (ae (pv 0) (ae ah ai))) (aE ar (by rfl) T.n_len aY (ae (pv 2) ai))) (fun _ _=>rfl)))
   (ag (gF (i:=4) rfl fH.nd rfl rfl (fr:=[]) (by exact bq.plain (by rfl) (by decide +kernel) (by rfl) (by decide +kernel) (by rfl) (by decide +kernel)) (aW rfl T.n_range (ae (pv 1) ai)) (fun C ex s H=>ah))
   (ag (bM PassesOwn.never rfl (aW rfl T.n_range (ae (aE ar (by rfl) T.n_len aY (ae (pv 0) ai)) ai)) (aO (i:=5) fH.nd rfl (Or.inl rfl)) (aq (lU (aw bE (aw bA (aw fJ (ax az (pv 4) (aw bE (pv 5) (pv 1)) (fun _ _=>rfl)) ah) (ax az (pv 0) (pv 5) (fun _ _=>rfl))) (aw fJ ah (pv 3))) (lV (pv 4) (aw bE (pv 5) (pv 1)) d8))))
   (aq (aI (dr rfl (fr:=[]) (by exact bq.plain (by rfl) (by decide +kernel) (by rfl) (by decide +kernel) (by rfl) (by decide +kernel)) (a9 (pv 4)) (fun C ex s H=>(bK (ae (aw bE (pv 0) ah) (ae (aw cP (pv 0) ah) ai)))))))))),?_⟩
 obtain⟨i,hi,il⟩:∃ i:Nat,Av ns 1%((Ls.map V.int).length:Int)=(i:Int)/\i<Ls.length:=by
  have h0:=Ra (Av ns 1) (show((Ls.map V.int).length:Int)≠0 by omega +splitDisjunctions)
  have h1:=QW (Av ns 1) lpos
  exact⟨_,(QZ h0).symm,by omega +splitDisjunctions⟩
 obtain⟨L,hLi⟩:∃ L,Ls[i]?=some L:=⟨_,Pq il⟩
 obtain⟨b1,b2⟩:=Lb L (Pr hLi)
 have lpos2:(0:Int)<2*L:=by omega +splitDisjunctions
 refine⟨_,rfl,_,rfl,a,1,ns,rfl,hS,_,rfl,lm,_,rfl,.inl hL,_,_,rfl,rfl,lpos,lm,_,_,_,rfl,rfl,hL,(by rw[hi];exact aA (v:=.int L) (by rw[PR,hLi];rfl)),?_⟩
 refine⟨_,rfl,_,rfl,by omega +splitDisjunctions,by omega +splitDisjunctions,dt (n:=(n:Int).toNat) (fun j ys H2=>H2=H/\ys=(PU j (0:Int)).map V.int) (by rw[PQ];exact Ql (au (by omega +splitDisjunctions))) ⟨rfl,rfl⟩ (fun j ys H2 _ ⟨z1,z2⟩=>?_) ?_⟩
 ·subst z1 z2
  refine⟨rfl,?_⟩
  rw[RF,Qw]
  rfl
 rintro ys H2 _ ⟨rfl,rfl⟩ q hq
 rw[PQ]
 have s1:=ak hq (.lst ((PU n (0:Int)).map V.int))
 refine⟨_,rfl,a,_,rfl,.inl (s1.seq hS),_,rfl,by omega +splitDisjunctions,by omega +splitDisjunctions,cR (n:=((ns.map V.int).length:Int).toNat) (fun j σ H3=>∃(v5:Option V)(xs:List Int),σ = [some (.ref a),some (.int (n:Int)),some (.ref lm),some (.int L),some (.ref q),v5]/\Same H2 H3/\H3 q=some (.lst (xs.map V.int))/\xs.length=n/\∀ x∈xs,0<=x/\x<2*L)
  ⟨_,PU n 0,rfl,s1,af,Q4,fun x hx=>by rw[List.eq_of_mem_replicate hx];omega +splitDisjunctions⟩ ?_ ?_⟩
 ·rintro j σ H3 hj ⟨v5,xs,rfl,s3,hq3,xl,xb⟩
  rw[PQ,hlen]at hj
  have e0:(0:Int)+(j:Int)=(j:Int):=QR _
  rw[e0]
  have npos:(0:Int)<(n:Int):=by omega +splitDisjunctions
  have jm:(j:Int)%(n:Int)=((j%n:Nat):Int):=by omega +splitDisjunctions
  have jl:j%n<n:=S9 _ n0
  obtain⟨x,hx⟩:∃ x,xs[j%n]?=some x:=⟨_,Pq (by omega +splitDisjunctions)⟩
  have hxV:(xs.map V.int)[j%n]?=some (.int x):=by rw[PR,hx];rfl
  have hsV:(ns.map V.int)[j]?=some (.int ns[j]):=by rw[PR,Pq hj];rfl
  refine⟨_,rfl,_,rfl,_,rfl,_,_,rfl,rfl,npos,q,_,_,_,rfl,rfl,SqL.of hq3,(by rw[jm];exact aA hxV),_,_,rfl,rfl,.inr ⟨by decide,by decide⟩,_,rfl,_,rfl,a,_,_,_,rfl,rfl,s3.seq hS,aA hsV,_,_,rfl,rfl,_,rfl,_,_,rfl,rfl,.inl ⟨by decide,by decide⟩,_,_,rfl,rfl,lpos2,?_⟩
  have xlen:(xs.map V.int).length=xs.length:=PB _
  refine⟨_,rfl,_,rfl,_,rfl,_,_,rfl,rfl,npos,q,xs.map V.int,_,j%n,rfl,rfl,hq3,(by rw[jm];exact fu (by omega +splitDisjunctions)),?_⟩
  refine⟨_,xs.set (j%n) ((x*5+ns[j])%(2*L)),rfl,aR s3 hq _,?_,by rw[Qa];exact xl,fun y hy=>?_⟩
  ·rw[af,SK]
  ·rcases RH hy with z | z
   ·exact xb y z
   ·rw[z]
    exact⟨Ra _ (by omega +splitDisjunctions),QW _ lpos2⟩
 rintro σ H3 ⟨v5,xs,rfl,s3,hq3,xl,xb⟩
 have xlen:(xs.map V.int).length=xs.length:=PB _
 refine⟨_,rfl,q,rfl,⟨_,SqL.of hq3⟩,bS (K:=K) (xs:=xs.map V.int) (fun j zs H4=>Same H3 H4/\∃ ks:Kn,jD H4 zs ks/\ks.length=j/\∀ k∈ks,k.2<=10^(30:Int).toNat) (by rw[xlen];exact Ql (au (by omega +splitDisjunctions))) ⟨fun _ _ z=>z,[],⟨rfl,fun i k z=>by simp at z⟩,rfl,fun k z=>nomatch z⟩ (fun j zs H4 _ z=>SqL.of (z.1 _ _ hq3)) ?_ ?_⟩
 ·rintro j v zs H4 hv ⟨s4,ks,tk,kl,kb⟩
  rw[PR]at hv
  obtain⟨x,hx,rfl⟩:=Qp.mp hv
  obtain⟨x0,x1⟩:=xb x (Pr hx)
  refine⟨_,rfl,_,_,rfl,rfl,(by show(0:Int)<2;decide),_,rfl,_,_,rfl,rfl,⟨by decide,by decide⟩,(by show 2<=sizeLine;decide),fun t ht=>?_⟩
  have sn:=ak ht (.tup [.int (x%2),.int (x/2)])
  refine⟨s4.trans sn,ks++[(x%2,x/2)],(tk.mono sn).snoc af (by show x%2=0∨x%2=1;omega +splitDisjunctions) (by show 0<=x/2;omega +splitDisjunctions),by rw[Px,kl];rfl,fun k hk=>?_⟩
  rcases PM.mp hk with z | z
  ·exact kb k z
  ·rw[Qy.mp z]
   show x/2<=_
   generalize (10:Int)^(30:Int).toNat=Z at b2 ⊢
   omega +splitDisjunctions
 rintro zs H4 _ ⟨s4,ks,tk,kl,kb⟩ D hD
 have sD:=ak hD (.lst zs)
 exact kk D zs ks _ ((s3.trans s4).trans sD) af (tk.mono sD) (by rw[kl,xlen,xl]) kb
end
end K8
namespace K8
open PySem L2
local macro_rules | `(tactic| walk_at "cc") => `(tactic| first | exact ⟨by decide, by decide⟩ | (show (0 : Int) < _; decide) | (show (0 : Int) < _; omega) | (show (0 : Int) ≤ _; omega) | exact ⟨by decide, by decide, by decide⟩ | exact ⟨by omega, by omega, by decide⟩ | exact Or.inl ⟨by decide, by decide⟩ | exact Or.inl ⟨by omega, by omega⟩)
local macro_rules | `(tactic| walk_at "rd") => `(tactic| repeat (first | refine ⟨_, rfl, ?_⟩ | refine ⟨_, _, rfl, rfl, ?_⟩ | refine ⟨rfl, ?_⟩ | (refine ⟨?cc, ?_⟩; (case cc => walk_at "cc"))))
theorem andN(a b:Nat):Builtin.bitAnd (a:Int) (b:Int)=((a&&&b:Nat):Int):=by
 rw[PyProof.Rows.bitAnd_pp (RN _) (RN _),PQ,PQ]
theorem orN(a b:Nat):Builtin.bitOr (a:Int) (b:Int)=((a|||b:Nat):Int):=by
 rw[PyProof.Rows.bitOr_and,andN]
 have q:=PyProof.Rows.nat_or_add_and a b
 omega
theorem shlN(p:Nat):(1:Int)*2^((p:Nat):Int).toNat=((2^p:Nat):Int):=by
 rw[SU,PQ,Sq]
 rfl
theorem vc{M p q:Nat}:(M&&&(2^p|||2^q)=0↔M.testBit p=false/\M.testBit q=false)/\(M|||(2^p|||2^q)=M->M.testBit p=true/\M.testBit q=true):=by
 have b1:∀ i,(2^p|||2^q).testBit i=(decide (p=i)||decide (q=i)):=fun i=>by rw[Q0,Qb,Qb]
 refine⟨⟨fun h=>?_,fun⟨h1,h2⟩=>?_⟩,fun h=>?_⟩
 ·have h1:=congrArg (fun z=>RI z p) h
  have h2:=congrArg (fun z=>RI z q) h
  simp only[Q3,b1,Qu]at h1 h2
  constructor
  ·simpa using h1
  ·simpa using h2
 ·refine Qt fun i=>?_
  rw[Q3,b1,Qu]
  by_cases z1:p=i
  ·subst z1;rw[h1];rfl
  ·by_cases z2:q=i
   ·subst z2;rw[h2];rfl
   ·simp[z1,z2]
 ·have h1:=congrArg (fun z=>RI z p) h
  have h2:=congrArg (fun z=>RI z q) h
  simp only[Q0 (x:=M),b1]at h1 h2
  constructor
  ·simpa using h1.symm
  ·simpa using h2.symm
theorem q8{M m:Nat}(h:M<2^m)(k:∀ p,p<m->M.testBit p=true):M=2^m-1:=by
 refine Qt fun i=>?_
 rw[Rz]
 by_cases z:i<m
 ·rw[k i z,decide_eq_true z]
 ·rw[decide_eq_false z]
  exact Rv (Qd h (QD (by decide) (by omega)))
def spReach(K:Pt):Sp:=fun vs H Q _=>∃(a:Addr)(ys:List V)(m:Nat)(es:En)(ts:List (List Nat)),vs = [.int 0,.ref a]/\SqL K H a ys/\cZ H ys es/\Gr m es ts/\2<=m/\m<=40/\Q (.int ((2^m-1:Nat):Int)) H
section
variable{P:Program}{w:World}{K:Pt}{mg:Str->Option Value}{base:Heap}
theorem aQ:aC ["start","pairs","mask","ahead","one","two","ends"] ["start","pairs"] (aj cM):=⟨rfl,rfl,rfl,by decide +kernel,rfl,by decide +kernel,by decide +kernel⟩
theorem ok_reached{f:Addr}{fd:FuncData} (F:Fun K "reached" "reached" cM f fd):FnOk P w K mg base CX0 1 f fd ["start","pairs"] (spReach K):=by
 refine F.ok aQ (fun vs H Q E h=>?_) (fun cdv A outer s H vs Q E hr h=>?_)
 ·obtain⟨a,ys,m,es,ts,rfl,_⟩:=h
  rfl
 obtain⟨a,ys,m,es,ts,rfl,hS,hE,g,m2,m40,kk⟩:=h
 refine⟨_,(ag (av (i:=2) aQ.nd rfl (Or.inl rfl) (aw cW ah (pv 0)))
   (ag (av (i:=3) aQ.nd rfl (Or.inl rfl) ah)
   (ag (gY PassesOwn.never (aG oZ (pv 2) (pv 3) (aN _)) (ag (av (i:=3) aQ.nd rfl (Or.inl rfl) (pv 2))
   (aq (bM PassesOwn.never rfl (a9 (pv 1)) (uy rfl (bw (aO (i:=4) aQ.nd rfl (Or.inl rfl)) (bw (aO (i:=5) aQ.nd rfl (Or.inl rfl)) iP))) (ag (av (i:=6) aQ.nd rfl (Or.inl rfl) (aw FE (aw cW ah (pv 4)) (aw cW ah (pv 5))))
   (aq (bZ (aG oZ (aw y7 (pv 2) (pv 6)) ah (aN _)) (aq (av (i:=2) aQ.nd rfl (Or.inl rfl) (aw FE (pv 2) (pv 6)))) aS)))))))
   (aq (aI (pv 2)))))),?_⟩
 refine⟨_,rfl,_,_,rfl,rfl,⟨by decide,by decide,by decide⟩,?_⟩
 have p2:∀ p,p<m->2^p<2^m:=fun p hp=>QI (by decide) hp
 refine gL (fun σ H2=>∃(M Ah:Nat),∃ v4 v5 v6,H2=H/\σ = [some (.int 0),some (.ref a),some (.int (M:Int)),some (.int (Ah:Int)),v4,v5,v6]/\M.testBit 0=true/\M<2^m/\(M=Ah->∀ e∈es,M.testBit e.1=M.testBit e.2))
  (fun σ _=>match σ with | [_,_,some (.int M),some (.int Ah),_,_,_]=>2*((2^m:Nat)-M).toNat+(if M=Ah then 0 else 1) | _=>0) ⟨1,0,_,_,_,rfl,rfl,by decide,SD (by omega),fun z=>absurd z (by decide)⟩ ?_ ?_
 ·rintro σ H2 ⟨M,Ah,v4,v5,v6,rfl,rfl,b0,hM,cl⟩
  refine⟨_,rfl,_,rfl,rfl,_,rfl,?_⟩
  refine ite2 (fun c=>?_) (fun c=>?_)
  ·have c':M≠Ah:=fun z=>by
    rw[decide_eq_true (show V.int (M:Int)=V.int (Ah:Int) by rw[z])]at c
    cases c
   refine⟨_,rfl,?_⟩
   refine⟨_,rfl,a,rfl,⟨_,hS⟩,cS (K:=K) (xs:=ys) (fun i σ H3=>∃(M':Nat),∃ v4 v5 v6,H3=H2/\σ = [some (.int 0),some (.ref a),some (.int (M':Int)),some (.int (M:Int)),v4,v5,v6]/\M'.testBit 0=true/\M'<2^m/\M<=M'/\(M'=M->∀(j:Nat)(e:Nat×Nat),j<i->es[j]?=some e->M.testBit e.1=M.testBit e.2)) ⟨M,_,_,_,rfl,rfl,b0,hM,Pz _,fun _ j e z=>absurd z (QA _)⟩ (fun i σ H3 _ ⟨_,_,_,_,z,_⟩=>z▸hS) ?_ ?_⟩
   ·rintro i x σ H3 hx ⟨M',v4,v5,v6,rfl,rfl,b0',hM',hle,cl'⟩
    have hi:i<es.length:=by rw[← hE.1];exact(Pp.mp hx).1
    obtain⟨e,he⟩:∃ e,es[i]?=some e:=⟨_,Pq hi⟩
    obtain⟨p,x1,x2⟩:=hE.2 i e he
    rw[hx]at x1
    cases x1
    obtain⟨e1,e2,_⟩:=g.w.ends e (Pr he)
    obtain⟨t1,t2⟩:=vc (M:=M') (p:=e.1) (q:=e.2)
    refine⟨p,_,rfl,SqT.of x2,rfl,_,_,rfl,_,_,rfl,rfl,?_⟩
    refine⟨_,rfl,_,_,rfl,rfl,⟨by omega,by omega,by decide⟩,_,rfl,_,_,rfl,rfl,⟨by omega,by omega,by decide⟩,_,_,rfl,rfl,?_⟩
    have eo:Builtin.bitOr (1*2^((e.1:Nat):Int).toNat) (1*2^((e.2:Nat):Int).toNat)=((2^e.1|||2^e.2:Nat):Int):=by rw[shlN,shlN,orN]
    refine⟨_,rfl,_,rfl,_,_,rfl,rfl,rfl,_,rfl,?_⟩
    have step:∀ M'':Nat,M'<=M''->(M''=M'->M'.testBit e.1=M'.testBit e.2)->M''=M->∀(j:Nat)(x:Nat×Nat),j<i+1->es[j]?=some x->M.testBit x.1=M.testBit x.2:=fun M'' h1 h2 h3 j x hj hx'=>by
     have e3:M'=M:=by omega
     by_cases z:j=i
     ·subst z
      rw[he]at hx'
      cases hx'
      have:=h2 (by omega)
      rwa[e3]at this
     ·exact cl' e3 j x (by omega) hx'
    refine ite2 (fun c=>?_) (fun c=>?_)
    ·refine⟨_,rfl,_,rfl,_,_,rfl,rfl,?_⟩
     refine⟨M'|||(2^e.1|||2^e.2),some (iV e.1),some (iV e.2),some (V.int (Builtin.bitOr (1*2^((e.1:Nat):Int).toNat) (1*2^((e.2:Nat):Int).toNat))),rfl,?_,?_,Sa hM' (Sa (p2 _ e1) (p2 _ e2)),QG hle S1,step _ S1 fun z=>?_⟩
     ·show[some (V.int 0),some (V.ref a),some (V.int (Builtin.bitOr (M':Int) (Builtin.bitOr (1*2^((e.1:Nat):Int).toNat) (1*2^((e.2:Nat):Int).toNat)))),some (V.int (M:Int)),some (iV e.1),some (iV e.2),some (V.int (Builtin.bitOr (1*2^((e.1:Nat):Int).toNat) (1*2^((e.2:Nat):Int).toNat)))]=_
      rw[eo,orN]
     ·rw[Q0,b0'];rfl
     ·obtain⟨u1,u2⟩:=t2 z
      rw[u1,u2]
    ·refine⟨M',_,_,_,rfl,rfl,b0',hM',hle,step M' (Pz _) fun _=>?_⟩
     have c3:M'&&&(2^e.1|||2^e.2)=0:=by
      by_cases z:M'&&&(2^e.1|||2^e.2)=0
      ·exact z
      ·refine absurd ?_ c
       rw[decide_eq_false (fun y=>z ?_)]
       ·rfl
       ·have y':=V.int.inj y
        rw[eo,andN]at y'
        omega
     obtain⟨u1,u2⟩:=t1.mp c3
     rw[u1,u2]
   ·rintro σ H3 ⟨M',v4,v5,v6,rfl,rfl,b0',hM',hle,cl'⟩
    rw[hE.1]at cl'
    refine⟨⟨M',M,_,_,_,rfl,rfl,b0',hM',fun z e he=>?_⟩,?_⟩
    ·obtain⟨j,hj⟩:=Qz.mp he
     have:=cl' z j e (Pp.mp hj).1 hj
     rw[z]
     exact this
    ·show 2*(((2^m:Nat):Int)-(M':Int)).toNat+(if(M':Int)=(M:Int) then 0 else 1)<2*(((2^m:Nat):Int)-(M:Int)).toNat+(if(M:Int)=(Ah:Int) then 0 else 1)
     rw[if_neg (show ¬ (M:Int)=(Ah:Int) from fun z=>c' (by omega))]
     have hMi:(M':Int)<((2^m:Nat):Int):=by exact_mod_cast hM'
     have hMj:(M:Int)<=(M':Int):=by omega
     generalize ((2^m:Nat):Int)=Z at hMi ⊢
     split<;>omega
  ·have c':M=Ah:=by
    by_cases z:M=Ah
    ·exact z
    ·exact absurd (by rw[decide_eq_false (fun y=>z (by have:=V.int.inj y;omega))];rfl) c
   have full:=q8 hM fun p hp=>by
    have:=g.conn (fun x=>M.testBit x=true) (fun e he=>by rw[cl c' e he]) 0 p (by omega) hp b0
    exact this
   refine⟨_,rfl,?_⟩
   rw[full]
   exact kk
 ·rintro σ H2 Q1 Q2 hi ⟨v',e,b',e2,z1,c',e3,q'⟩
  exact⟨v',e,b',e2,z1,c',e3,hi _ _ q'⟩
end
end K8
namespace K8
open PySem L2
local macro_rules | `(tactic| walk_at "cc") => `(tactic| first | exact ⟨by decide, by decide⟩ | (show (0 : Int) < _; decide) | (show (0 : Int) < _; omega) | (show (0 : Int) ≤ _; omega) | exact ⟨by decide, by decide, by decide⟩ | exact ⟨by omega, by omega, by decide⟩ | exact Or.inl ⟨by decide, by decide⟩ | exact Or.inl ⟨by omega, by omega⟩)
local macro_rules | `(tactic| walk_at "rd") => `(tactic| repeat (first | refine ⟨_, rfl, ?_⟩ | refine ⟨_, _, rfl, rfl, ?_⟩ | refine ⟨rfl, ?_⟩ | (refine ⟨?cc, ?_⟩; (case cc => walk_at "cc"))))
theorem uq:∀{a b:List Int},a.Perm b->a.Pairwise (·<=·)->b.Pairwise (·<=·)->a=b
 |[],b,h,_,_=>(List.nil_perm.mp h).symm▸rfl
 |x::a,[],h,_,_=>absurd h.length_eq (by simp)
 |x::a,y::b,h,pa,pb=>by
  obtain⟨a1,a2⟩:=List.pairwise_cons.mp pa
  obtain⟨b1,b2⟩:=List.pairwise_cons.mp pb
  have h1:x<=y:=by
   rcases Pw.mp (h.mem_iff.mpr (PH ..):y∈x::a)with z | z
   ·rw[z];exact QV _
   ·exact a1 y z
  have h2:y<=x:=by
   rcases Pw.mp (h.mem_iff.mp (PH ..):x∈y::b)with z | z
   ·rw[z];exact QV _
   ·exact b1 x z
  have e:x=y:=Int.le_antisymm h1 h2
  subst e
  rw[uq (List.Perm.cons_inv h) a2 b2]
def cI(l:List Nat):List Int:=l.map fun(p:Nat)=>((p:Nat):Int)
theorem cI_V(l:List Nat):(cI l).map V.int=l.map iV:=by unfold cI;rw[RU];rfl
theorem NC{l r:List Nat}{out:List Int}(hp:out.Perm (cI l))(hs:out.Pairwise (·<=·))(nl:l.Nodup)(pr:r.Pairwise (· < ·))(hm:∀ t,t∈l↔t∈r):out=cI r:=by
 have nr:r.Nodup:=pr.imp fun h=>Qk h
 have q:(cI l).Perm (cI r):=((QM nl nr).mpr hm).map _
 refine uq (hp.trans q) hs ?_
 unfold cI
 exact List.Pairwise.map _ (fun a b h=>by omega) pr
theorem Jz{l:List Nat}{n:Nat}:ins l l.length n=l++[n]:=by
 unfold ins
 rw[Qn,List.drop_length]
def Bh(K:Pt):Sp:=fun vs H Q _=>∃(a:Addr)(xs:List V)(m:Nat)(es:En),vs = [.int (m:Int),.ref a]/\SqL K H a xs/\d7 K H xs es/\(∀ e∈es,e.1<m/\e.2<m)/\Q .non H
def vj(K:Pt):Sp:=fun vs H Q _=>∃(a b:Addr)(xs zs:List V)(m:Nat)(es:En)(ts:List (List Nat)),vs = [.int (m:Int),.ref a,.ref b]/\SqL K H a xs/\d7 K H xs es/\SqL K H b zs/\bT H zs ts/\bz m es ts/\es.length<=30/\m<=40/\∀ H',Same H H'->Q .non H'
def Bg(K:Pt):Sp:=fun vs H Q _=>∃(a:Addr)(xs:List V)(m:Nat)(es:En)(ts:List (List Nat)),vs = [.int (m:Int),.ref a]/\SqL K H a xs/\d7 K H xs es/\Gr m es ts/\2<=m/\m<=40/\es.length<=30/\∀ H',Same H H'->Q .non H'
section
variable{P:Program}{w:World}{K:Pt}{mg:Str->Option Value}{base:Heap}
theorem j9:aC ["many","ties","tie"] ["many","ties"] (aj bW):=⟨rfl,rfl,rfl,by decide +kernel,rfl,by decide +kernel,by decide +kernel⟩
theorem LI{f:Addr}{fd:FuncData} (F:Fun K "refuse_ends" "refuse_ends" bW f fd):FnOk P w K mg base CX0 1 f fd ["many","ties"] (Bh K):=by
 refine F.ok j9 (fun vs H Q E h=>?_) (fun cdv A outer s H vs Q E hr h=>?_)
 ·obtain⟨a,xs,m,es,rfl,_⟩:=h
  rfl
 obtain⟨a,xs,m,es,rfl,hS,hT,hm,k⟩:=h
 refine⟨_,(aq (bM PassesOwn.never rfl (a9 (pv 1)) (aO (i:=2) j9.nd rfl (Or.inl rfl)) (aq (bZ (PW.pt (yI (aG NV (b9 (pv 2) rfl) (pv 0) (aN _)) (ux (aG NV (b9 (pv 2) rfl) (pv 0) (aN _))))) (aq cO) aS)))),?_⟩
 refine⟨_,rfl,a,rfl,⟨_,hS⟩,cS (K:=K) (xs:=xs) (fun i σ H2=>∃ v2,σ = [some (.int (m:Int)),some (.ref a),v2]/\H2=H) ⟨_,rfl,rfl⟩ (fun i σ H2 _ ⟨_,_,z⟩=>z▸hS) ?_ ?_⟩
 ·rintro i x σ H2 hx ⟨v2,rfl,rfl⟩
  have hi:i<es.length:=by rw[← hT.1];exact(Pp.mp hx).1
  obtain⟨e,he⟩:∃ e,es[i]?=some e:=⟨_,Pq hi⟩
  obtain⟨p,C,dx,st,x1,x2,x3⟩:=hT.2 i e he
  rw[hx]at x1
  cases x1
  obtain⟨e1,e2⟩:=hm e (Pr he)
  refine⟨_,rfl,p,C,dx,_,_,rfl,x2,x3.cl,x3.n1,uj _ _ _,_,rfl,_,_,rfl,rfl,_,rfl,?_⟩
  refine ite2 (fun c=>absurd (of_decide_eq_true c) (by omega)) (fun _=>?_)
  refine⟨_,rfl,p,C,dx,_,_,rfl,x2,x3.cl,x3.n2,EC _ _ _,_,rfl,_,_,rfl,rfl,_,rfl,?_⟩
  refine ite2 (fun c=>absurd (of_decide_eq_true c) (by omega)) (fun _=>?_)
  exact⟨_,rfl,rfl⟩
 ·rintro σ H2 ⟨v2,rfl,rfl⟩
  exact k
theorem cL:aC ["many","ties","turns","ending","number","tie"] ["many","ties","turns"] (aj bG):=⟨rfl,rfl,rfl,by decide +kernel,rfl,by decide +kernel,by decide +kernel⟩
theorem IF{f:Addr}{fd:FuncData} (F:Fun K "refuse_turns" "refuse_turns" bG f fd) (T:Txt mg):FnOk P w K mg base CX0 1 f fd ["many","ties","turns"] (vj K):=by
 refine F.ok cL (fun vs H Q E h=>?_) (fun cdv A outer s H vs Q E hr h=>?_)
 ·obtain⟨a,b,xs,zs,m,es,ts,rfl,_⟩:=h
  rfl
 obtain⟨a,b,xs,zs,m,es,ts,rfl,hS,hT,hB,hR,w',few,m40,kk⟩:=h
 have hu64:=hr.units
 refine⟨_,(ag (gF (i:=3) rfl cL.nd rfl rfl (fr:=[]) (by exact bq.plain (by rfl) (by decide +kernel) (by rfl) (by decide +kernel) (by rfl) (by decide +kernel)) (aW rfl T.n_range (ae (pv 0) ai)) (fun C ex s H=>(bY ai)))
   (ag (bM PassesOwn.never rfl (vN rfl T.n_enumerate (ae (pv 1) ai)) (uy rfl (bw (aO (i:=4) cL.nd rfl (Or.inl rfl)) (bw (aO (i:=5) cL.nd rfl (Or.inl rfl)) iP))) (ag (a7 (gf P4 Qj Qi a8 (ax az (pv 3) (b9 (pv 5) rfl) (fun _ _=>rfl)) (ae (pv 4) ai)))
   (aq (a7 (gf P4 Qj Qi a8 (ax az (pv 3) (b9 (pv 5) rfl) (fun _ _=>rfl)) (ae (pv 4) ai))))))
   (aq (bZ (aG (op_neD hu64) (dr rfl (fr:=[]) (by exact bq.plain (by rfl) (by decide +kernel) (by rfl) (by decide +kernel) (by rfl) (by decide +kernel)) (a9 (pv 2)) (fun C ex s H=>(aE (AB (K:=K) rfl) (by rfl) T.n_sorted Kr (ae (pv 0) ai)))) (pv 3) (aN _)) (aq cO) aS)))),?_⟩
 refine⟨_,rfl,_,rfl,by omega,by omega,dt (n:=(m:Int).toNat) (fun i ys H2=>Same H H2/\bb (fun p=>H p≠none) H2 ys (PU i [])/\Dist ys) (by rw[PQ];exact Ql (au (by omega))) ⟨fun _ _ e=>e,⟨rfl,fun i l e=>by simp at e⟩,fun i j p e=>by simp at e⟩ ?_ ?_⟩
 ·rintro i ys H2 hi ⟨s2,rx,D⟩
  refine⟨(by show 0<=sizeLine;decide),fun l hl=>?_⟩
  have s3:=ak hl (.lst [])
  refine⟨s2.trans s3,?_,ra rx D hl⟩
  rw[RF]
  refine(rx.mono fun b u _ z=>s3 _ _ z).snoc (fun z=>z ?_) af
  cases y:H l with
  |none=>rfl
  |some o=>rw[s2 _ _ y]at hl;cases hl
 rintro ys H2 hyl ⟨s2,rx,D⟩ pn hpn
 rw[PQ]at rx
 have s3:=ak hpn (.lst ys)
 have hpn0:H pn=none:=by
  cases y:H pn with
  |none=>rfl
  |some o=>rw[s2 _ _ y]at hpn;cases hpn
 have rx3:bb (fun p=>p=pn∨H p≠none) (upd H2 pn (.lst ys)) ys (PU m []):=⟨rx.1,fun i l z=>by
  obtain⟨p,a1,a2,a3⟩:=rx.2 i l z
  have n2:p≠pn:=aM a3 hpn
  exact⟨p,a1,by rintro(y | y);exact n2 y;exact a2 y,s3 _ _ a3⟩⟩
 refine⟨_,rfl,a,rfl,⟨_,(s2.trans s3).seq hS⟩,xr (K:=K) (xs:=xs) (fun i σ H5=>∃ v4 v5 rows,σ = [some (.int (m:Int)),some (.ref a),some (.ref b),some (.ref pn),v4,v5]/\Same H H5/\H5 pn=some (.lst ys)/\bb (fun p=>p=pn∨H p≠none) H5 ys rows/\bz m (es.take i) rows/\∀ r∈rows,r.Pairwise (· < ·))
  ⟨_,_,_,rfl,s2.trans s3,af,rx3,La m,fun r hr=>by rw[(R8.mp hr).2];exact Se⟩ (fun i σ H5 _ ⟨_,_,_,_,z,_⟩=>z.seq hS) ?_ ?_⟩
 ·rintro i x σ H5 T2 hx ⟨v4,v5,rows,rfl,s5,hpn5,rx5,w5,pw⟩ hT2
  have hi:i<es.length:=by rw[← hT.1];exact(Pp.mp hx).1
  obtain⟨e,he⟩:∃ e,es[i]?=some e:=⟨_,Pq hi⟩
  obtain⟨p,C,dx,st,x1,x2,x3⟩:=hT.2 i e he
  rw[hx]at x1
  cases x1
  have sT:=ak hT2 (.tup [.int (i:Int),.ref p])
  have s6:=s5.trans sT
  have x6:=s6 _ _ x2
  obtain⟨e1,e2,e3⟩:=w'.ends e (Pr he)
  have til:(es.take i).length=i:=by rw[Qr];omega
  have rlen:=w5.len
  obtain⟨l,hl⟩:∃ l,rows[e.1]?=some l:=⟨_,Pq (by omega)⟩
  obtain⟨l',hl'⟩:∃ l,rows[e.2]?=some l:=⟨_,Pq (by omega)⟩
  have rx6:bb (fun p=>p=pn∨H p≠none) (upd H5 T2 (.tup [.int (i:Int),.ref p])) ys rows:=rx5.mono fun b u _ z=>sT _ _ z
  obtain⟨p1,y1,y2,y3⟩:=rx6.2 _ _ hl
  obtain⟨p2,z1,z2,z3⟩:=rx6.2 _ _ hl'
  have no_S:∀{p:Addr},¬ (p=pn∨H p≠none)->H p=none/\p≠pn:=fun{p} n=>by
   refine⟨?_,fun z=>n (.inl z)⟩
   cases y:H p with
   |none=>rfl
   |some o=>exact absurd (.inr (by rw[y];exact fun z=>nomatch z)) n
  obtain⟨hp1,np1⟩:=no_S y2
  obtain⟨hp2,np2⟩:=no_S z2
  have n12:p2≠p1:=fun y=>by rw[y]at z1;exact e3 (D _ _ p1 y1 z1)
  have ll:∀{q:Nat}{r:List Nat},rows[q]?=some r->∀ t∈r,t<i:=fun{q r} h t ht=>by
   have:=ot w5 h ht
   omega
  have lle:∀{q:Nat}{r:List Nat},rows[q]?=some r->r.length<=30:=fun{q r} h=>by
   have:=fk (w5.nd _ _ h) (ll h)
   omega
  have f1:=lle hl
  have f2:=lle hl'
  have hpn6:=sT _ _ hpn5
  refine⟨T2,_,rfl,SqT.of af,rfl,_,_,rfl,_,_,rfl,rfl,?_⟩
  refine⟨_,rfl,_,rfl,p,C,dx,_,_,rfl,x6,x3.cl,x3.n1,uj _ _ _,pn,ys,_,_,rfl,rfl,SqL.of hpn6,aA y1,.inl ⟨rfl,_,SqL.of y3⟩,_,rfl,p1,_,_,rfl,rfl,y3,au (by rw[PB];omega),?_⟩
  have e1':(l.map iV)++[V.int (i:Int)]=(l++[i]).map iV:=by rw[Qw];rfl
  rw[e1']
  have x7:(upd (upd H5 T2 (.tup [.int (i:Int),.ref p])) p1 (.lst ((l++[i]).map iV))) p=some (.ins C dx (tf (e.1:Int) (e.2:Int) st)):=by rw[ao (fun z=>by rw[z]at x2;rw[x2]at hp1;cases hp1)];exact x6
  have hpn7:(upd (upd H5 T2 (.tup [.int (i:Int),.ref p])) p1 (.lst ((l++[i]).map iV))) pn=some (.lst ys):=by rw[ao np1.symm];exact hpn6
  have z7:(upd (upd H5 T2 (.tup [.int (i:Int),.ref p])) p1 (.lst ((l++[i]).map iV))) p2=some (.lst (l'.map iV)):=by rw[ao n12];exact z3
  refine⟨_,rfl,_,rfl,p,C,dx,_,_,rfl,x7,x3.cl,x3.n2,EC _ _ _,pn,ys,_,_,rfl,rfl,SqL.of hpn7,aA z1,.inl ⟨rfl,_,SqL.of z7⟩,_,rfl,p2,_,_,rfl,rfl,z7,au (by rw[PB];omega),?_⟩
  have e2':(l'.map iV)++[V.int (i:Int)]=(l'++[i]).map iV:=by rw[Qw];rfl
  rw[e2']
  refine⟨_,_,(rows.set e.1 (l++[i])).set e.2 (l'++[i]),rfl,aR (aR s6 hp1 _) hp2 _,by rw[ao np2.symm];exact hpn7,(rx6.set D y1).set D z1,?_,fun r hr=>?_⟩
  ·have q:=w5.put (k:=l.length) (j:=l'.length) e1 e2 e3 hl hl'
   rw[Jz,Jz,til]at q
   rw[Qf,he]
   exact q
  ·have app:∀{q:Nat}{r:List Nat},rows[q]?=some r->(r++[i]).Pairwise (· < ·):=fun{q r} h=>List.pairwise_append.mpr ⟨pw r (Pr h),List.pairwise_singleton _ _,fun x hx y hy=>by
    have:=ll h x hx
    have:y=i:=by simpa using hy
    omega⟩
   rcases RH hr with z | z
   ·rcases RH z with z | z
    ·exact pw r z
    ·rw[z];exact app hl
   ·rw[z];exact app hl'
 rintro σ H5 ⟨v4,v5,rows,rfl,s5,hpn5,rx5,w5,pw⟩
 rw[hT.1,Qn]at w5
 have hzl:zs.length=m:=by rw[hR.1,w'.len]
 refine⟨_,rfl,b,rfl,⟨_,s5.seq hB⟩,bS (K:=K) (xs:=zs) (fun i vs H6=>Same H5 H6/\bT H6 vs (rows.take i)) (Ql (au (by omega))) ⟨fun _ _ e=>e,rfl,fun i l e=>by simp at e⟩ (fun i vs H6 _ z=>(s5.trans z.1).seq hB) ?_ ?_⟩
 ·rintro i x vs H6 hx ⟨s6,rz⟩
  have hi:i<ts.length:=by rw[← hR.1];exact(Pp.mp hx).1
  obtain⟨l,hl⟩:∃ l,ts[i]?=some l:=⟨_,Pq hi⟩
  obtain⟨r,hr'⟩:∃ r,rows[i]?=some r:=⟨_,Pq (by rw[w5.len,← w'.len];exact hi)⟩
  obtain⟨p,a1,a2⟩:=(hR.mono (s5.trans s6)).2 i l hl
  rw[hx]at a1
  cases a1
  have hll:l.length<=30:=QG (fk (w'.nd _ _ hl) fun t ht=>ot w' hl ht) few
  refine⟨_,rfl,p,cI l,rfl,(by rw[cI_V];exact SqL.of a2),(by unfold cI;rw[PB];omega),fun q out hq hp hs=>?_⟩
  have eo:=NC hp hs (w'.nd _ _ hl) (pw r (Pr hr')) fun t=>(w'.mem i l hl t).trans (w5.mem i r hr' t).symm
  subst eo
  have s7:=ak hq (.lst ((cI r).map V.int))
  refine⟨s6.trans s7,?_⟩
  rw[show rows.take (i+1)=rows.take i++[r] by rw[Qf,hr'];rfl]
  exact(rz.mono s7).snoc (by rw[af,cI_V])
 rintro vs H6 _ ⟨s6,rz⟩ D' hD'
 rw[hzl,← w5.len,Qn]at rz
 have s7:=ak hD' (.lst vs)
 have s67:=s6.trans s7
 refine⟨_,rfl,_,Ie (SqL.of af) (rz.mono s7),Ie (SqL.of (s67 _ _ hpn5)) (rx5.off.mono s67),BN rows,_,rfl,iteF ?_⟩
 exact kk _ (s5.trans s67)
theorem oW:aC ["many","ties"] ["many","ties"] (aj bx):=⟨rfl,rfl,rfl,by decide +kernel,rfl,by decide +kernel,by decide +kernel⟩
theorem LH{f fr:Addr}{fd fdr:FuncData} (F:Fun K "refuse_parted" "refuse_parted" bx f fd) (G_reached:Cal P w K mg base 1 "reached" ["start","pairs"] (spReach K) fr fdr):FnOk P w K mg base CX0 2 f fd ["many","ties"] (Bg K):=by
 refine F.ok oW (fun vs H Q E h=>?_) (fun cdv A outer s H vs Q E hr h=>?_)
 ·obtain⟨a,xs,m,es,ts,rfl,_⟩:=h
  rfl
 obtain⟨a,xs,m,es,ts,rfl,hS,hT,g,m2,m40,few,kk⟩:=h
 have hul:xs.length=es.length:=hT.1
 refine⟨_,(aq (bZ (aG oZ (ay G_reached.ok (hr.mono (by decide)) rfl G_reached.mg G_reached.kp G_reached.bn .nil aP (ae ah (ae (dr rfl (fr:=[]) (by exact bq.plain (by rfl) (by decide +kernel) (by rfl) (by decide +kernel) (by rfl) (by decide +kernel)) (a9 (pv 1)) (fun C ex s H=>(bK (ae (Ce (K:=K) rfl (pv 0) rfl) (ae (Ce (K:=K) rfl (pv 0) rfl) ai))))) ai))) (aw iR (aw cW ah (pv 0)) ah) (aN _)) (aq cO) aS)),?_⟩
 refine⟨_,rfl,a,rfl,⟨_,hS⟩,bS (K:=K) (xs:=xs) (fun i zs H11=>Same H H11/\cZ H11 zs (es.take i)) (Ql (au (by omega))) ⟨fun _ _ e=>e,rfl,fun i l e=>by simp at e⟩ (fun i zs H11 _ z=>z.1.seq hS) ?_ ?_⟩
 ·rintro i x zs H11 hx ⟨s11,ez⟩
  have hi:i<es.length:=by rw[← hT.1];exact(Pp.mp hx).1
  obtain⟨e,he⟩:∃ e,es[i]?=some e:=⟨_,Pq hi⟩
  obtain⟨p,C,dx,st,a1,a2,a3⟩:=(hT.mono s11).2 i e he
  rw[hx]at a1
  cases a1
  refine⟨_,rfl,p,C,dx,_,_,rfl,a2,a3.cl,a3.n1,uj _ _ _,_,rfl,p,C,dx,_,_,rfl,a2,a3.cl,a3.n2,EC _ _ _,(by show 2<=sizeLine;decide),fun g hg=>?_⟩
  have s12:=ak hg (.tup [iV e.1,iV e.2])
  refine⟨s11.trans s12,?_⟩
  rw[show es.take (i+1)=es.take i++[e] by rw[Qf,he];rfl]
  exact(ez.mono s12).snoc af
 rintro zs H11 _ ⟨s11,ez⟩ D hD
 rw[hT.1,Qn]at ez
 have s12:=ak hD (.lst zs)
 refine⟨D,zs,m,es,ts,rfl,SqL.of af,ez.mono s12,g,m2,m40,_,rfl,_,_,rfl,rfl,⟨by omega,by omega,by decide⟩,_,_,rfl,rfl,rfl,_,rfl,?_⟩
 refine tU ?_ (kk _ (s11.trans s12))
 show V.int _=V.int _
 rw[shlN]
 have:=QT m
 congr 1
 omega
end
end K8
namespace K8
open PySem L2
local macro_rules | `(tactic| walk_at "cc") => `(tactic| first | exact ⟨by decide, by decide⟩ | (show (0 : Int) < _; decide) | (show (0 : Int) < _; omega) | (show (0 : Int) ≤ _; omega) | exact ⟨by decide, by decide, by decide⟩ | exact ⟨by omega, by omega, by decide⟩ | exact Or.inl ⟨by decide, by decide⟩ | exact Or.inl ⟨by omega, by omega⟩)
local macro_rules | `(tactic| walk_at "rd") => `(tactic| repeat (first | refine ⟨_, rfl, ?_⟩ | refine ⟨_, _, rfl, rfl, ?_⟩ | refine ⟨rfl, ?_⟩ | (refine ⟨?cc, ?_⟩; (case cc => walk_at "cc"))))
def cls(PL PS:Addr)(push:Bool):Addr:=if push=true then PS else PL
def ui(PL PS:Addr)(H:Hp)(xs:List V)(es:En)(ks:Kn):Prop:=xs.length=es.length/\∀(i:Nat)(e:Nat×Nat)(k:Int×Int),es[i]?=some e->ks[i]?=some k->∃ p dx,xs[i]?=some (.ref p)/\H p=some (.ins (cls PL PS (decide (k.1=1))) dx (tf (e.1:Int) (e.2:Int) k.2))
theorem ui.mono{PL PS:Addr}{H H':Hp}{xs:List V}{es:En}{ks:Kn}(t:ui PL PS H xs es ks)(h:Same H H'):ui PL PS H' xs es ks:=⟨t.1,fun i e k q r=>by
 obtain⟨p,dx,a,b⟩:=t.2 i e k q r
 exact⟨p,dx,a,h _ _ b⟩⟩
structure CW(K:Pt)(C:Addr):Prop where
 cl:Cls K C
 n1:gd K C "many"
 n2:gd K C "ties"
 n3:gd K C "turns"
 n4:gd K C "rounds"
 n5:gd K C "sides"
theorem jK(k:Str)(v:V):∀ fs:List (Str×V),(putF k v fs).length<=fs.length+1
 |[]=>Pz _
 | (a,b)::r=>by
  show(if a=k then(a,v)::r else(a,b)::putF k v r).length<=_
  have:=jK k v r
  split<;>simp only[Qc]<;>omega
theorem none_of{H H':Hp}{b:Addr}(s:Same H H')(z:H' b=none):H b=none:=by
 cases y:H b with
 |none=>rfl
 |some o=>rw[s _ _ y]at z;cases z
structure WebG(S:Addr->Prop)(H:Hp)(fs:List (Str×V))(m:Nat)(es:En)(ts rs:List (List Nat)):Prop where
 many:fs.lookup ("many" : Str)=some (.int (m:Int))
 turns:∃ q z,fs.lookup ("turns" : Str)=some (.ref q)/\¬ S q/\H q=some (.lst z)/\bb S H z ts
 rounds:∃ q z,fs.lookup ("rounds" : Str)=some (.ref q)/\H q=some (.lst z)/\bT H z rs
 sides:∃ q z,fs.lookup ("sides" : Str)=some (.ref q)/\H q=some (.lst z)/\iG H z es.length rs
 part:cY (fol es ts) (2*es.length) (2*es.length) rs
theorem iG.mono{H H':Hp}{z:List V}{n:Nat}{rs:List (List Nat)}(h:iG H z n rs)(s:Same H H'):iG H' z n rs:=⟨h.1,fun i hi=>by
 obtain⟨t,a,b,r,r',y1,y2,y3⟩:=h.2 i hi
 exact⟨t,a,b,r,r',y1,s _ _ y2,y3⟩⟩
theorem WebG.mono{S S':Addr->Prop}{H H':Hp}{fs:List (Str×V)}{m:Nat}{es:En}{ts rs:List (List Nat)}(h:WebG S H fs m es ts rs)(s:Same H H')(i:∀ a,S' a->S a):WebG S' H' fs m es ts rs:=by
 obtain⟨a,⟨q,z,b1,b0,b2,b3⟩,⟨q',z',c1,c2,c3⟩,⟨q2,z2,d1,d2,d3⟩,e⟩:=h
 refine⟨a,⟨q,z,b1,fun y=>b0 (i _ y),s _ _ b2,b3.1,fun j l y=>?_⟩,⟨q',z',c1,s _ _ c2,c3.mono s⟩,⟨q2,z2,d1,s _ _ d2,d3.mono s⟩,e⟩
 obtain⟨r,y1,y2,y3⟩:=b3.2 j l y
 exact⟨r,y1,fun x=>y2 (i _ x),s _ _ y3⟩
def vh(K:Pt):Sp:=fun vs H Q _=>∃(p C dx qt qh:Addr)(m:Nat)(xs zs:List V)(es:En)(ts:List (List Nat)),vs = [.ref p,.int (m:Int),.ref qt,.ref qh]/\H p=some (.ins C dx [])/\CW K C/\H qt=some (.lst xs)/\d7 K H xs es/\H qh=some (.lst zs)/\bT H zs ts/\Gr m es ts/\0<es.length/\es.length<=30 /\
 ∀(fs:List (Str×V))(q1:Addr)(rs:List (List Nat))(H':Hp),H' p=some (.ins C dx fs)->WebG (fun a=>H a≠none) H' fs m es ts rs->H q1=none->fs.lookup ("ties" : Str)=some (.ref q1)->H' q1=some (.lst xs)->(∀ q o,H q=some o->q≠p->H' q=some o)->Q .non H'
theorem d7.keep{K:Pt}{H G:Hp}{xs:List V}{es:En}{p C dx:Addr}(t:d7 K H xs es)(hp:H p=some (.ins C dx []))(k:∀ q u,q≠p->H q=some u->G q=some u):d7 K G xs es:=⟨t.1,fun i e z=>by
 obtain⟨q,C',dx',s,a,b,d⟩:=t.2 i e z
 refine⟨q,C',dx',s,a,k _ _ (fun z=>?_) b,d⟩
 rw[z,hp]at b
 have e1:([]:List (Str×V))=tf (e.1:Int) (e.2:Int) s:=by
  injection b with b
  injection b
 have e2:=uj (e.1:Int) (e.2:Int) s
 rw[← e1]at e2
 cases e2⟩
section
variable{P:Program}{w:World}{K:Pt}{mg:Str->Option Value}{base:Heap}
theorem lT:aC ["self","many","ties","turns","rounds"] ["self","many","ties","turns"] (aj cF):=⟨rfl,rfl,rfl,by decide +kernel,rfl,by decide +kernel,by decide +kernel⟩
theorem LF{f f1 f2 f3 f4 f5:Addr}{fd d1 d2 d3 d4 d5:FuncData} (F:Fun K "__init__" "Web.__init__" cF f fd) (T:Txt mg) (G_refuse_ends:Cal P w K mg base 1 "refuse_ends" ["many","ties"] (Bh K) f1 d1) (G_refuse_turns:Cal P w K mg base 1 "refuse_turns" ["many","ties","turns"] (vj K) f2 d2) (G_refuse_parted:Cal P w K mg base 2 "refuse_parted" ["many","ties"] (Bg K) f3 d3) (G_rounds_of:Cal P w K mg base 4 "rounds_of" ["ties","turns"] (vi K) f4 d4) (G_sides_of:Cal P w K mg base 1 "sides_of" ["ties","rounds"] (Bf K) f5 d5) :
  FnOk P w K mg base CX0 5 f fd ["self","many","ties","turns"] (vh K):=by
 refine F.ok lT (fun vs H Q E h=>?_) (fun cdv A outer s H vs Q E hr h=>?_)
 ·obtain⟨p,C,dx,qt,qh,m,xs,zs,es,ts,rfl,_⟩:=h
  rfl
 obtain⟨p,C,dx,qt,qh,m,xs,zs,es,ts,rfl,hp,cw,hqt,hT,hqh,hR,g,e0,few,kk⟩:=h
 have w':=g.w
 have m2:=g.two e0
 have mf:=zX g
 have hul:xs.length=es.length:=hT.1
 have hzl:zs.length=m:=by rw[hR.1,w'.len]
 have pl:∀{q:Addr}{ys:List V},H q=some (.lst ys)->q≠p:=fun{q ys} h z=>by rw[z,hp]at h;cases h
 refine⟨_,(ag (a7 (ay G_refuse_ends.ok (hr.mono (by decide)) rfl G_refuse_ends.mg G_refuse_ends.kp G_refuse_ends.bn .nil aP (ae (pv 1) (ae (pv 2) ai))))
   (ag (a7 (ay G_refuse_turns.ok (hr.mono (by decide)) rfl G_refuse_turns.mg G_refuse_turns.kp G_refuse_turns.bn .nil aP (ae (pv 1) (ae (pv 2) (ae (pv 3) ai)))))
   (ag (a7 (ay G_refuse_parted.ok (hr.mono (by decide)) rfl G_refuse_parted.mg G_refuse_parted.kp G_refuse_parted.bn .nil aP (ae (pv 1) (ae (pv 2) ai))))
   (ag (av (i:=4) lT.nd rfl (Or.inl rfl) (ay G_rounds_of.ok (hr.mono (by decide)) rfl G_rounds_of.mg G_rounds_of.kp G_rounds_of.bn .nil aP (ae (pv 2) (ae (pv 3) ai))))
   (ag (bZ (aG oZ (aw bA (aw iR (pv 1) (aE ar (by rfl) T.n_len aY (ae (pv 2) ai))) (aE ar (by rfl) T.n_len aY (ae (pv 4) ai))) ah (aN _)) (aq cO) aS)
   (ag (oo (pv 0) (pv 1) rfl)
   (ag (oo (pv 0) (iQ gc (by rfl) T.n_list lD (ae (pv 2) ai)) rfl)
   (ag (oo (pv 0) (dr rfl (fr:=[]) (by exact bq.plain (by rfl) (by decide +kernel) (by rfl) (by decide +kernel) (by rfl) (by decide +kernel)) (a9 (pv 3)) (fun C ex s H=>(iQ (uO (K:=K) rfl) (by rfl) T.n_list lD (ae (pv 0) ai)))) rfl)
   (ag (oo (pv 0) (pv 4) rfl)
   (aq (oo (pv 0) (ay G_sides_of.ok (hr.mono (by decide)) rfl G_sides_of.mg G_sides_of.kp G_sides_of.bn .nil aP (ae (pv 2) (ae (pv 4) ai))) rfl))))))))))),?_⟩
 refine⟨_,rfl,_,rfl,qt,xs,m,es,rfl,SqL.of hqt,hT,fun e he=>⟨(w'.ends e he).1,(w'.ends e he).2.1⟩,?_⟩
 refine⟨_,rfl,_,rfl,_,rfl,qt,qh,xs,zs,m,es,ts,rfl,SqL.of hqt,hT,SqL.of hqh,hR,w',few,by omega,fun H1 s1=>?_⟩
 refine⟨_,rfl,_,rfl,qt,xs,m,es,ts,rfl,SqL.of (s1 _ _ hqt),hT.mono s1,g,m2,by omega,few,fun H2 s2=>?_⟩
 have s12:=s1.trans s2
 refine⟨_,rfl,_,rfl,qt,qh,m,es,ts,rfl,⟨⟨xs,SqL.of (s12 _ _ hqt),hT.mono s12⟩,⟨zs,SqL.of (s12 _ _ hqh),hR.mono s12⟩,w',by omega⟩,fun qr vs rs H3 s3 hqr hrs ro=>?_⟩
 have s13:=s12.trans s3
 have cnt:m+rs.length=es.length+2:=by
  obtain⟨rs',p',c⟩:=g.part
  rw[← p'.same ro.part]
  exact c
 have hvl:vs.length=rs.length:=hrs.1
 refine⟨_,rfl,_,rfl,qt,xs,rfl,.inl (SqL.of (s13 _ _ hqt)),_,_,rfl,rfl,_,rfl,qr,vs,rfl,.inl (SqL.of hqr),_,_,rfl,rfl,rfl,_,rfl,?_⟩
 refine tU (congrArg V.int (by omega)) ?_
 have hp3:=s13 _ _ hp
 refine⟨_,rfl,_,rfl,p,C,dx,[],rfl,hp3,cw.cl,cw.n1,(by show 0<1000;decide),?_⟩
 have keep:∀{G:Hp}{o:HO}{q:Addr}{u:HO},q≠p->G q=some u->(upd G p o) q=some u:=fun n z=>by rw[ao n];exact z
 refine⟨_,rfl,qt,xs,rfl,.inl (SqL.of (keep (pl hqt) (s13 _ _ hqt))),fun q1 hq1=>?_⟩
 have n1p:q1≠p:=fun z=>by rw[z,af]at hq1;cases hq1
 have t4:=ak hq1 (.lst xs)
 refine⟨_,rfl,p,C,dx,_,rfl,t4 _ _ af,cw.cl,cw.n2,?_,?_⟩
 ·have:=jK "many" (.int (m:Int)) ([]:List (Str×V));simp only[Sn]at this;omega
 have t1:∀ q u,q≠p->H3 q=some u->(upd (upd (upd H3 p (.ins C dx (putF "many" (.int (m:Int)) []))) q1 (.lst xs)) p (.ins C dx (putF "ties" (.ref q1) (putF "many" (.int (m:Int)) [])))) q=some u:=fun q u n z=>keep n (t4 _ _ (keep n z))
 have q1a:(upd (upd (upd H3 p (.ins C dx (putF "many" (.int (m:Int)) []))) q1 (.lst xs)) p (.ins C dx (putF "ties" (.ref q1) (putF "many" (.int (m:Int)) [])))) q1=some (.lst xs):=keep n1p af
 have pa:(upd (upd (upd H3 p (.ins C dx (putF "many" (.int (m:Int)) []))) q1 (.lst xs)) p (.ins C dx (putF "ties" (.ref q1) (putF "many" (.int (m:Int)) [])))) p=some (.ins C dx (putF "ties" (.ref q1) (putF "many" (.int (m:Int)) []))):=af
 generalize upd (upd (upd H3 p (.ins C dx (putF "many" (.int (m:Int)) []))) q1 (.lst xs)) p (.ins C dx (putF "ties" (.ref q1) (putF "many" (.int (m:Int)) [])))=H4 at t1 q1a pa
 have lk:(putF "ties" (.ref q1) (putF "many" (.int (m:Int)) []):List (Str×V)).lookup ("ties" : Str)=some (.ref q1):=by rw[aF,if_pos rfl]
 have ln:(putF "ties" (.ref q1) (putF "many" (.int (m:Int)) []):List (Str×V)).length<=2:=by
  have a1:=jK "many" (.int (m:Int)) ([]:List (Str×V))
  have a2:=jK "ties" (.ref q1) (putF "many" (.int (m:Int)) ([]:List (Str×V)))
  simp only[Sn]at a1
  omega
 have lkm:(putF "ties" (.ref q1) (putF "many" (.int (m:Int)) []):List (Str×V)).lookup ("many" : Str)=some (.int (m:Int)):=by rw[aF,if_neg (by decide +kernel),aF,if_pos rfl]
 generalize (putF "ties" (.ref q1) (putF "many" (.int (m:Int)) []):List (Str×V))=fs at pa lk ln lkm
 have hqh4:=t1 _ _ (pl hqh) (s13 _ _ hqh)
 have new4:∀{b:Addr},H4 b=none->H b=none:=fun{b} z=>by
  cases y:H b with
  |none=>rfl
  |some o =>
   by_cases n:b=p
   ·rw[n,pa]at z;cases z
   ·rw[t1 _ _ n (s13 _ _ y)]at z;cases z
 have new1:H q1=none:=by
  cases y:H q1 with
  |none=>rfl
  |some o=>rw[keep n1p (s13 _ _ y)]at hq1;cases hq1
 refine⟨_,rfl,qh,rfl,⟨_,SqL.of hqh4⟩,bS (K:=K) (xs:=zs) (fun i ys H5=>Same H4 H5/\bb (fun a=>H a≠none) H5 ys (ts.take i)) (Ql (au (by omega))) ⟨fun _ _ e=>e,rfl,fun i l e=>by simp at e⟩ (fun i _ H5 _ z=>SqL.of (z.1 _ _ hqh4)) ?_ ?_⟩
 ·rintro i x ys H5 hx ⟨s5,rz⟩
  have hi:i<ts.length:=by rw[← hR.1];exact(Pp.mp hx).1
  obtain⟨l,hl⟩:∃ l,ts[i]?=some l:=⟨_,Pq hi⟩
  obtain⟨r,a1,a2⟩:=hR.2 i l hl
  rw[hx]at a1
  cases a1
  refine⟨_,rfl,r,_,rfl,.inl (SqL.of (s5 _ _ (t1 _ _ (pl a2) (s13 _ _ a2)))),fun g hg=>⟨s5.trans (ak hg _),?_⟩⟩
  rw[show ts.take (i+1)=ts.take i++[l] by rw[Qf,hl];rfl]
  exact(rz.mono fun b u _ z=>ak hg _ _ _ z).snoc (fun z=>z (new4 (none_of s5 hg))) af
 rintro ys H5 _ ⟨s5,rz⟩ D hD
 rw[hR.1,Qn]at rz
 have hDp:D≠p:=fun z=>by rw[z,s5 _ _ pa]at hD;cases hD
 have s6:=s5.trans (ak hD (.lst ys))
 refine⟨_,rfl,p,C,dx,fs,rfl,s6 _ _ pa,cw.cl,cw.n3,by omega,?_⟩
 have ln1:=jK "turns" (.ref D) fs
 have lk1:(putF "turns" (.ref D) fs).lookup ("ties" : Str)=some (.ref q1):=by rw[aF,if_neg (by decide +kernel)];exact lk
 refine⟨_,rfl,_,rfl,p,C,dx,_,rfl,af,cw.cl,cw.n4,by omega,?_⟩
 have ln2:=jK "rounds" (.ref qr) (putF "turns" (.ref D) fs)
 have lk2:(putF "rounds" (.ref qr) (putF "turns" (.ref D) fs)).lookup ("ties" : Str)=some (.ref q1):=by rw[aF,if_neg (by decide +kernel)];exact lk1
 have t7:∀ q u,q≠p->H3 q=some u->(upd (upd (upd H5 D (.lst ys)) p (.ins C dx (putF "turns" (.ref D) fs))) p (.ins C dx (putF "rounds" (.ref qr) (putF "turns" (.ref D) fs)))) q=some u:=fun q u n z=>keep n (keep n (s6 _ _ (t1 q u n z)))
 have q17:(upd (upd (upd H5 D (.lst ys)) p (.ins C dx (putF "turns" (.ref D) fs))) p (.ins C dx (putF "rounds" (.ref qr) (putF "turns" (.ref D) fs)))) q1=some (.lst xs):=keep n1p (keep n1p (s6 _ _ q1a))
 have p7:(upd (upd (upd H5 D (.lst ys)) p (.ins C dx (putF "turns" (.ref D) fs))) p (.ins C dx (putF "rounds" (.ref qr) (putF "turns" (.ref D) fs)))) p=some (.ins C dx (putF "rounds" (.ref qr) (putF "turns" (.ref D) fs))):=af
 have D7:(upd (upd (upd H5 D (.lst ys)) p (.ins C dx (putF "turns" (.ref D) fs))) p (.ins C dx (putF "rounds" (.ref qr) (putF "turns" (.ref D) fs)))) D=some (.lst ys):=keep hDp (keep hDp af)
 have u7:∀ q u,q≠p->H5 q=some u->(upd (upd (upd H5 D (.lst ys)) p (.ins C dx (putF "turns" (.ref D) fs))) p (.ins C dx (putF "rounds" (.ref qr) (putF "turns" (.ref D) fs)))) q=some u:=fun q u n z=>keep n (keep n (ak hD _ _ _ z))
 generalize upd (upd (upd H5 D (.lst ys)) p (.ins C dx (putF "turns" (.ref D) fs))) p (.ins C dx (putF "rounds" (.ref qr) (putF "turns" (.ref D) fs)))=H7 at t7 q17 p7 D7 u7
 have pl3:∀{q:Addr}{ys:List V},H3 q=some (.lst ys)->q≠p:=fun{q ys} h z=>by rw[z,hp3]at h;cases h
 have rs7:bT H7 vs rs:=⟨hrs.1,fun i l z=>by
  obtain⟨r,a1,a2⟩:=hrs.2 i l z
  exact⟨r,a1,t7 _ _ (pl3 a2) a2⟩⟩
 have T7:d7 K H7 xs es:=(hT.mono s13).keep hp3 t7
 refine⟨_,rfl,_,rfl,qt,qr,xs,vs,es,_,rs,rfl,SqL.of (t7 _ _ (pl hqt) (s13 _ _ hqt)),T7,by omega,SqL.of (t7 _ _ (pl3 hqr) hqr),rs7,ro,fun q5 z5 H8 s8 hq5 hs5=>?_⟩
 refine⟨_,rfl,p,C,dx,_,rfl,s8 _ _ p7,cw.cl,cw.n5,by omega,?_⟩
 have n5p:q5≠p:=fun z=>by rw[z,s8 _ _ p7]at hq5;cases hq5
 have hqr7:=t7 _ _ (pl3 hqr) hqr
 refine kk _ q1 rs _ af ⟨?_,⟨D,ys,?_,fun z=>z (new4 (none_of s5 hD)),keep hDp (s8 _ _ D7),rz.1,fun i l z=>?_⟩,⟨qr,vs,?_,keep (pl3 hqr) (s8 _ _ hqr7),hrs.1,fun i l z=>?_⟩,⟨q5,z5,?_,keep n5p hq5,hs5.1,fun i hi=>?_⟩,ro⟩ new1 (by rw[aF,if_neg (by decide +kernel)];exact lk2) (keep n1p (s8 _ _ q17)) fun q o z n=>keep n (s8 _ _ (t7 q o n (s13 _ _ z)))
 ·rw[aF,if_neg (by decide +kernel),aF,if_neg (by decide +kernel),aF,if_neg (by decide +kernel)]
  exact lkm
 ·rw[aF,if_neg (by decide +kernel),aF,if_neg (by decide +kernel),aF,if_pos rfl]
 ·obtain⟨r,a1,a0,a2⟩:=rz.2 i l z
  have nr:r≠p:=fun z=>by rw[z,s5 _ _ pa]at a2;cases a2
  exact⟨r,a1,a0,keep nr (s8 _ _ (u7 r _ nr a2))⟩
 ·rw[aF,if_neg (by decide +kernel),aF,if_pos rfl]
 ·obtain⟨r,a1,a2⟩:=hrs.2 i l z
  exact⟨r,a1,keep (pl3 a2) (s8 _ _ (t7 _ _ (pl3 a2) a2))⟩
 ·rw[aF,if_pos rfl]
 ·obtain⟨t,a,b,r,r',y1,y2,y3⟩:=hs5.2 i hi
  exact⟨t,a,b,r,r',y1,keep (fun z=>by rw[z,s8 _ _ p7]at y2;cases y2) y2,y3⟩
theorem ui.at{PL PS:Addr}{H:Hp}{xs:List V}{es:En}{ks:Kn}(t:ui PL PS H xs es ks)(kl:ks.length=es.length)(TL:CT K PL)(TS:CT K PS):d7 K H xs es:=⟨t.1,fun i e z=>by
 have hi:=(Pp.mp z).1
 obtain⟨k,hk⟩:∃ k,ks[i]?=some k:=⟨_,Pq (by omega)⟩
 obtain⟨p,dx,a,b⟩:=t.2 i e k z hk
 refine⟨p,_,dx,k.2,a,b,?_⟩
 unfold cls
 split
 ·exact TS
 ·exact TL⟩
def WebF(S:Addr->Prop)(PL PS WC:Addr)(H:Hp)(p:Addr)(m:Nat)(es:En)(ts rs:List (List Nat))(ks:Kn):Prop:=∃ dx fs q1 xs,H p=some (.ins WC dx fs)/\WebG S H fs m es ts rs/\¬ S q1/\fs.lookup ("ties" : Str)=some (.ref q1)/\H q1=some (.lst xs)/\ui PL PS H xs es ks
def Bn(PL PS WC:Addr):Sp:=fun vs H Q _=>∃(t pe pt pr pk:Addr)(m:Nat)(es:En)(ts:List (List Nat))(ks:Kn),vs = [.ref t,.ref pk]/\H t=some (.tup [.ref pe,.ref pt,.ref pr])/\WebP H pe pt m es ts/\(∃ ws,H pk=some (.lst ws)/\jD H ws ks)/\es.length<=30/\ks.length=es.length/\0<es.length /\
 ∀(p:Addr)(rs:List (List Nat))(H':Hp),Same H H'->WebF (fun a=>H a≠none) PL PS WC H' p m es ts rs ks->Q (.ref p) H'
theorem jH:aC ["grown","kinds","ties","k","end"] ["grown","kinds"] (aj gC):=⟨rfl,rfl,rfl,by decide +kernel,rfl,by decide +kernel,by decide +kernel⟩
theorem Ob{f fI PL PS WC fW:Addr}{fd fdI fdW:FuncData} (F:Fun K "_law_web" "_law_web" gC f fd) (T:Txt mg) (M_Pull:Mak P w K mg base 1 "Pull" ["self","one","two","strength"] (uo K) PL fI fdI) (M_Push:Mak P w K mg base 1 "Push" ["self","one","two","strength"] (uo K) PS fI fdI) (TL:CT K PL) (TS:CT K PS)
  (M_Web:Mak P w K mg base 5 "Web" ["self","many","ties","turns"] (vh K) WC fW fdW) (cw:CW K WC):FnOk P w K mg base CX0 7 f fd ["grown","kinds"] (Bn PL PS WC):=by
 refine F.ok jH (fun vs H Q E h=>?_) (fun cdv A outer s H vs Q E hr h=>?_)
 ·obtain⟨t,pe,pt,pr,pk,m,es,ts,ks,rfl,_⟩:=h
  rfl
 obtain⟨t,pe,pt,pr,pk,m,es,ts,ks,rfl,ht,⟨⟨ys,hpe,hE⟩,⟨xs,hpt,hR⟩,g⟩,⟨ws,hpk,tk⟩,few,kl,e0',kk⟩:=h
 have hwl:ws.length=es.length:=by rw[tk.1,kl]
 have hyl:ys.length=es.length:=hE.1
 have mf:=zX g
 have hxm:xs.length=m:=by rw[hR.1,g.w.len]
 refine⟨_,(ag (av (i:=2) jH.nd rfl (Or.inl rfl) (bY ai))
   (ag (bM PassesOwn.never rfl (aW rfl T.n_range (ae (aE ar (by rfl) T.n_len aY (ae (pv 1) ai)) ai)) (aO (i:=3) jH.nd rfl (Or.inl rfl)) (ag (av (i:=4) jH.nd rfl (Or.inl rfl) (ax az (ax aH (pv 0) ah (fun _ _=>rfl)) (pv 3) (fun _ _=>rfl)))
   (aq (bZ (aG iS (ax aH (ax az (pv 1) (pv 3) (fun _ _=>rfl)) ah (fun _ _=>rfl)) ah (aN _)) (aq (a7 (gf P4 Qj Qi a8 (pv 2) (ae (Cd M_Push.mkc M_Push.ok (hr.mono (by decide)) rfl M_Push.mg M_Push.bn .nil aP (ae (ax aH (pv 4) ah (fun _ _=>rfl)) (ae (ax aH (pv 4) ah (fun _ _=>rfl)) (ae (ax aH (ax az (pv 1) (pv 3) (fun _ _=>rfl)) ah (fun _ _=>rfl)) ai)))) ai)))) (aq (a7 (gf P4 Qj Qi a8 (pv 2) (ae (Cd M_Pull.mkc M_Pull.ok (hr.mono (by decide)) rfl M_Pull.mg M_Pull.bn .nil aP (ae (ax aH (pv 4) ah (fun _ _=>rfl)) (ae (ax aH (pv 4) ah (fun _ _=>rfl)) (ae (ax aH (ax az (pv 1) (pv 3) (fun _ _=>rfl)) ah (fun _ _=>rfl)) ai)))) ai))))))))
   (aq (aI (Cd M_Web.mkc M_Web.ok (hr.mono (by decide)) rfl M_Web.mg M_Web.bn .nil aP (ae (aE ar (by rfl) T.n_len aY (ae (ax aH (pv 0) ah (fun _ _=>rfl)) ai)) (ae (pv 2) (ae (dr rfl (fr:=[]) (by exact bq.plain (by rfl) (by decide +kernel) (by rfl) (by decide +kernel) (by rfl) (by decide +kernel)) (a9 (ax aH (pv 0) ah (fun _ _=>rfl))) (fun C ex s H=>(iQ (uO (K:=K) rfl) (by rfl) T.n_list lD (ae (pv 0) ai)))) ai)))))))),?_⟩
 refine⟨(by show 0<=sizeLine;decide),fun q hq=>?_⟩
 have s1:=ak hq (.lst [])
 refine⟨_,rfl,pk,ws,rfl,.inl (SqL.of (s1 _ _ hpk)),_,rfl,by omega,by omega,cR (n:=(ws.length:Int).toNat) (fun i σ H2=>∃ v2 v3 us,σ = [some (.ref t),some (.ref pk),some (.ref q),v2,v3]/\Same H H2/\H2 q=some (.lst us)/\ui PL PS H2 us (es.take i) ks) ⟨_,_,[],rfl,s1,af,rfl,fun i e k z=>by simp at z⟩ ?_ ?_⟩
 ·rintro i σ H2 hi ⟨v2,v3,us,rfl,s2,hq2,tt⟩
  rw[PQ,hwl]at hi
  have e0:(0:Int)+(i:Int)=(i:Int):=QR _
  rw[e0]
  obtain⟨e,he⟩:∃ e,es[i]?=some e:=⟨_,Pq hi⟩
  obtain⟨k,hk⟩:∃ k,ks[i]?=some k:=⟨_,Pq (by omega)⟩
  obtain⟨_,_,ne⟩:=g.w.ends e (Pr he)
  obtain⟨p,x1,x2⟩:=(hE.mono s2).2 i e he
  obtain⟨k1,k2,pk',y1,y2⟩:=(tk.mono s2).2 i k hk
  have ul:us.length=i:=by rw[tt.1,Qr];omega
  refine⟨_,rfl,t,_,0,_,rfl,rfl,SqT.of (s2 _ _ ht),at30,_,rfl,pe,ys,_,_,rfl,rfl,SqL.of (s2 _ _ hpe),aA x1,?_⟩
  refine⟨_,rfl,_,rfl,pk,ws,_,_,rfl,rfl,SqL.of (s2 _ _ hpk),aA y1,pk',_,0,_,rfl,rfl,SqT.of y2,at0,rfl,_,rfl,?_⟩
  have fin:∀(x dx:Addr)(H':Hp),Same H2 H'->H' x=some (.ins (cls PL PS (decide (k.1=1))) dx (tf (e.1:Int) (e.2:Int) k.2))->∃ v2 v3 zs,([some (.ref t),some (.ref pk),some (.ref q),some (.int (i:Int)),some (.ref p)]:St) = [some (.ref t),some (.ref pk),some (.ref q),v2,v3]/\Same H (upd H' q (.lst (us++[.ref x])))/\(upd H' q (.lst (us++[.ref x]))) q=some (.lst zs)/\ui PL PS (upd H' q (.lst (us++[.ref x]))) zs (es.take (i+1)) ks:=fun x dx H' s4 h1=>by
   refine⟨_,_,_,rfl,aR (s2.trans s4) hq _,af,by rw[Px,ul,Qr];simp;omega,fun j e' k' hj hk'=>?_⟩
   have hqn:∀{b:Addr}{C dx:Addr}{fs:List (Str×V)},H' b=some (.ins C dx fs)->b≠q:=fun z y=>by rw[y,s4 _ _ hq2]at z;cases z
   rw[List.getElem?_take]at hj
   by_cases z:j<i
   ·rw[if_pos (by omega)]at hj
    obtain⟨p',dx',a1,a2⟩:=(tt.mono s4).2 j e' k' (by rw[List.getElem?_take,if_pos z];exact hj) hk'
    exact⟨p',dx',by rw[Py (by omega)];exact a1,by rw[ao (hqn a2)];exact a2⟩
   ·by_cases z2:j=i
    ·subst z2
     rw[if_pos (by omega),he]at hj
     cases hj
     rw[hk]at hk'
     cases hk'
     exact⟨x,dx,by rw[← ul,Pu (Pz _),P1];rfl,by rw[ao (hqn h1)];exact h1⟩
    ·rw[if_neg (by omega)]at hj
     cases hj
  refine ite2 (fun c=>?_) (fun c=>?_)
  ·have c':k.1=1:=V.int.inj (of_decide_eq_true c)
   refine⟨_,rfl,.inl ⟨rfl,_,SqL.of hq2⟩,_,rfl,p,_,0,_,rfl,rfl,SqT.of x2,at0,_,rfl,p,_,1,_,rfl,rfl,SqT.of x2,at1,_,rfl,_,rfl,pk,ws,_,_,rfl,rfl,SqL.of (s2 _ _ hpk),aA y1,pk',_,1,_,rfl,rfl,SqT.of y2,at1,?_⟩
   intro x dx nx ndx nex
   refine⟨x,PS,dx,_,_,_,rfl,af,TS,by omega,by omega,by omega,k2,fun H' h1 h2=>?_⟩
   have s4:Same H2 H':=fun b o z=>h2 b o (by rw[ao (aM z nx),ao (aM z ndx)];exact z) (aM z nx)
   refine⟨rfl,q,us,_,rfl,rfl,s4 _ _ hq2,au (by omega),fin x dx H' s4 ?_⟩
   rw[decide_eq_true c']
   exact h1
  ·have c':¬ k.1=1:=fun z=>c (decide_eq_true (by rw[z]))
   refine⟨_,rfl,.inl ⟨rfl,_,SqL.of hq2⟩,_,rfl,p,_,0,_,rfl,rfl,SqT.of x2,at0,_,rfl,p,_,1,_,rfl,rfl,SqT.of x2,at1,_,rfl,_,rfl,pk,ws,_,_,rfl,rfl,SqL.of (s2 _ _ hpk),aA y1,pk',_,1,_,rfl,rfl,SqT.of y2,at1,?_⟩
   intro x dx nx ndx nex
   refine⟨x,PL,dx,_,_,_,rfl,af,TL,by omega,by omega,by omega,k2,fun H' h1 h2=>?_⟩
   have s4:Same H2 H':=fun b o z=>h2 b o (by rw[ao (aM z nx),ao (aM z ndx)];exact z) (aM z nx)
   refine⟨rfl,q,us,_,rfl,rfl,s4 _ _ hq2,au (by omega),fin x dx H' s4 ?_⟩
   rw[decide_eq_false c']
   exact h1
 rintro σ H2 ⟨v2,v3,us,rfl,s2,hq2,tt⟩
 rw[PQ,hwl,Qn]at tt
 have hpt2:=s2 _ _ hpt
 refine⟨_,rfl,t,_,1,_,rfl,rfl,SqT.of (s2 _ _ ht),at31,pt,xs,rfl,.inl (SqL.of hpt2),_,rfl,_,rfl,t,_,1,_,rfl,rfl,SqT.of (s2 _ _ ht),at31,pt,rfl,⟨_,SqL.of hpt2⟩,bS (K:=K) (xs:=xs) (fun i zs H3=>Same H2 H3/\bT H3 zs (ts.take i)) (Ql (au (by omega))) ⟨fun _ _ e=>e,rfl,fun i l e=>by simp at e⟩ (fun i zs H3 _ z=>SqL.of (z.1 _ _ hpt2)) ?_ ?_⟩
 ·rintro i x zs H3 hx ⟨s3,rz⟩
  have hi:i<ts.length:=by rw[← hR.1];exact(Pp.mp hx).1
  obtain⟨l,hl⟩:∃ l,ts[i]?=some l:=⟨_,Pq hi⟩
  obtain⟨p,a1,a2⟩:=(hR.mono (s2.trans s3)).2 i l hl
  rw[hx]at a1
  cases a1
  refine⟨_,rfl,p,_,rfl,.inl (SqL.of a2),fun g hg=>?_⟩
  have s4:=ak hg (.lst (l.map iV))
  refine⟨s3.trans s4,?_⟩
  rw[show ts.take (i+1)=ts.take i++[l] by rw[Qf,hl];rfl]
  exact(rz.mono s4).snoc af
 rintro zs H3 _ ⟨s3,rz⟩ D hD
 rw[hR.1,Qn]at rz
 have s4:=ak hD (.lst zs)
 have s24:=s3.trans s4
 intro x dx nx ndx nex
 have up:∀ b o,(upd H3 D (.lst zs)) b=some o->(upd (upd (upd H3 D (.lst zs)) dx (.own x)) x (.ins WC dx [])) b=some o:=fun b o z=>by rw[ao (aM z nx),ao (aM z ndx)];exact z
 refine⟨x,WC,dx,q,D,m,us,zs,es,ts,(by rw[hxm];rfl),af,cw,up _ _ (s24 _ _ hq2),((tt.at kl TL TS).mono s24).mono up,up _ _ af,(rz.mono s4).mono up,g,e0',by omega,fun fs q1 rs H' h1 hg hn h2 h3 h4=>⟨rfl,?_⟩⟩
 have s5:Same H2 H':=fun b o z=>h4 b o (up _ _ (s24 _ _ z)) (aM (s24 _ _ z) nx)
 have up0:∀ a,H a≠none->(upd (upd (upd H3 D (.lst zs)) dx (.own x)) x (.ins WC dx [])) a≠none:=fun a z y=>z (by
  cases u:H a with
  |none=>rfl
  |some o=>rw[up _ _ (s24 _ _ (s2 _ _ u))]at y;cases y)
 exact kk x rs H' (s2.trans s5) ⟨dx,fs,q1,us,h1,hg.mono (fun _ _ z=>z) up0,fun z=>up0 _ z hn,h2,h3,tt.mono s5⟩
end
end K8
namespace K8
open PySem L2
local macro_rules | `(tactic| walk_at "cc") => `(tactic| first | exact ⟨by decide, by decide⟩ | (show (0 : Int) < _; decide) | (show (0 : Int) < _; omega) | (show (0 : Int) ≤ _; omega) | exact ⟨by decide, by decide, by decide⟩ | exact ⟨by omega, by omega, by decide⟩ | exact Or.inl ⟨by decide, by decide⟩ | exact Or.inl ⟨by omega, by omega⟩)
local macro_rules | `(tactic| walk_at "rd") => `(tactic| repeat (first | refine ⟨_, rfl, ?_⟩ | refine ⟨_, _, rfl, rfl, ?_⟩ | refine ⟨rfl, ?_⟩ | (refine ⟨?cc, ?_⟩; (case cc => walk_at "cc"))))
theorem bt_sum:bootBuiltins "sum" = some (.builtin "sum"):=by decide +kernel
theorem NS{X:Cx}{e:Expr}{t1 t2:TE}(h1:PE X e t1)(h2:PE X e t2):PE X e (fun σ H Q=>t1 σ H Q∨t2 σ H Q):=fun pins s σ H Q I h=>h.elim (h1 pins s σ H Q I) (h2 pins s σ H Q I)
def bit(l a:Int):Int:=l/2^a.toNat%2
theorem Nq(x y:Int):Builtin.bitAnd (Builtin.bitXor x y) 1=(x%2+y%2)%2:=by
 have e:Builtin.bitAnd (Builtin.bitXor x y) 1=Builtin.bitXor x y%2:=PySem.W.kbt_mask _ 1
 rw[e,PyProof.Rows.bitXor_and]
 omega
def lP(push:Bool):Sp:=fun vs H Q _=>∃ p,vs = [.ref p]/\Q (.int (if push=true then 1 else 0)) H
def TieAt(H:Hp)(p C:Addr)(a b s:Int):Prop:=∃ dx,H p=some (.ins C dx (tf a b s))
def upL(u:Nat->Bool)(i:Nat):List Nat:=(Q8 i).filter u
theorem u9(u:Nat->Bool)(i:Nat):upL u (i+1)=if u i=true then upL u i++[i] else upL u i:=by
 unfold upL
 rw[List.range_succ,List.filter_append]
 by_cases h:u i=true
 ·rw[if_pos h];simp[h]
 ·rw[if_neg h];simp[h]
def zB(ps:List Nat):Nat:=ps.foldl (fun m p=>m|||2^p) 0
theorem uA(ps:List Nat)(p:Nat):zB (ps++[p])=zB ps|||2^p:=by unfold zB;rw[Sd];rfl
def MK(u:Nat->Bool):Nat->Nat
 |0=>0
 |i+1=>if u i=true then MK u i|||2^i else MK u i
theorem wJ(u:Nat->Bool):∀ i,zB (upL u i)=MK u i
 |0=>rfl
 |i+1=>by
  rw[u9]
  show _=if u i=true then MK u i|||2^i else MK u i
  split
  ·rw[uA,wJ u i]
  ·exact wJ u i
theorem bL(u:Nat->Bool)(k:Nat):∀ i,(MK u i).testBit k=(decide (k<i)&&u k)
 |0=>by show RI 0 k=_;simp
 |i+1=>by
  show(if u i=true then MK u i|||2^i else MK u i).testBit k=_
  have ih:=bL u k i
  by_cases h:u i=true
  ·rw[if_pos h,Q0,ih,Qb]
   by_cases z:i=k
   ·subst z;simp[h]
   ·by_cases z2:k<i
    ·simp[z2,RE z2,z]
    ·have:¬ k<i+1:=by omega
     simp[z2,z,this]
  ·rw[if_neg h,ih]
   by_cases z2:k<i
   ·simp[z2,RE z2]
   ·by_cases z:i=k
    ·subst z;simp[h]
    ·have:¬ k<i+1:=by omega
     simp[z2,this]
def stg(ks:Kn)(t:Nat):Int:=match ks[t]? with | some k=>k.2 | none=>0
theorem bitN(N a:Nat):bit (N:Int) (a:Int)=if N.testBit a=true then 1 else 0:=by
 unfold bit
 rw[PQ,SI]
 have e:((N:Int)/2^a%2)=((N/2^a%2:Nat):Int):=by
  rw[Int.natCast_emod,Int.natCast_ediv,Sq]
  rfl
 rw[e]
 by_cases z:N/2^a%2=1
 ·rw[z,decide_eq_true rfl];rfl
 ·rw[decide_eq_false z]
  have:N/2^a%2=0:=by omega
  rw[this]
  rfl
theorem xa(m n:Nat):(m^^^n)+2*(m&&&n)=m+n:=by
 have h:=PyProof.Rows.nat_or_add_and m n
 have h2:(m|||n)=(m^^^n)+(m&&&n):=by
  have e:(m^^^n)+(m&&&n)=(m^^^n)|||(m&&&n):=by
   have q:=PyProof.Rows.nat_or_add_and (m^^^n) (m&&&n)
   have z:(m^^^n)&&&(m&&&n)=0:=by
    apply Qt
    intro i
    simp only[Q3,QF,Qu]
    cases m.testBit i<;>cases n.testBit i<;>rfl
   omega
  rw[e]
  apply Qt
  intro i
  simp only[Q3,QF,Q0]
  cases m.testBit i<;>cases n.testBit i<;>rfl
 omega
theorem xorN(a b:Nat):Builtin.bitXor (a:Int) (b:Int)=((a^^^b:Nat):Int):=by
 rw[PyProof.Rows.bitXor_and,andN]
 have q:=xa a b
 omega
def spMask(K:Pt):Sp:=fun vs H Q _=>∃(a:Addr)(ps:List Nat),vs = [.ref a]/\SqL K H a (ps.map iV)/\(∀ p∈ps,p<80)/\Q (.int ((zB ps:Nat):Int)) H
def sm(l:List Nat)(g:Nat->Nat):Nat:=(l.map g).sum
theorem HN(x:Nat)(l:List Nat)(g:Nat->Nat):sm (x::l) g=g x+sm l g:=by unfold sm;rw[P7,Ri]
section
variable{P:Program}{w:World}{K:Pt}{mg:Str->Option Value}{base:Heap}
theorem BJ:aC ["self"] ["self"] (aj eX):=⟨rfl,rfl,rfl,by decide +kernel,rfl,by decide +kernel,by decide +kernel⟩
theorem LD{f:Addr}{fd:FuncData} (F:Fun K "wish" "Tie.wish" eX f fd):FnOk P w K mg base CX0 1 f fd ["self"] (lP false):=by
 refine F.ok BJ (fun vs H Q E h=>?_) (fun cdv A outer s H vs Q E hr h=>?_)
 ·obtain⟨p,rfl,_⟩:=h
  rfl
 obtain⟨p,rfl,k⟩:=h
 exact⟨_,(aq (aI ah)),k⟩
theorem yG:aC ["self"] ["self"] (aj dq):=⟨rfl,rfl,rfl,by decide +kernel,rfl,by decide +kernel,by decide +kernel⟩
theorem LC{f:Addr}{fd:FuncData} (F:Fun K "wish" "Push.wish" dq f fd):FnOk P w K mg base CX0 1 f fd ["self"] (lP true):=by
 refine F.ok yG (fun vs H Q E h=>?_) (fun cdv A outer s H vs Q E hr h=>?_)
 ·obtain⟨p,rfl,_⟩:=h
  rfl
 obtain⟨p,rfl,k⟩:=h
 exact⟨_,(aq (aI ah)),k⟩
theorem bV:aC ["places","mask","place"] ["places"] (aj cN):=⟨rfl,rfl,rfl,by decide +kernel,rfl,by decide +kernel,by decide +kernel⟩
theorem ok_mask{f:Addr}{fd:FuncData} (F:Fun K "mask_of" "mask_of" cN f fd):FnOk P w K mg base CX0 1 f fd ["places"] (spMask K):=by
 refine F.ok bV (fun vs H Q E h=>?_) (fun cdv A outer s H vs Q E hr h=>?_)
 ·obtain⟨a,ps,rfl,_⟩:=h
  rfl
 obtain⟨a,ps,rfl,hS,h80,kk⟩:=h
 refine⟨_,(ag (av (i:=1) bV.nd rfl (Or.inl rfl) ah)
   (ag (bM PassesOwn.never rfl (a9 (pv 0)) (aO (i:=2) bV.nd rfl (Or.inl rfl)) (aq (av (i:=1) bV.nd rfl (Or.inl rfl) (aw FE (pv 1) (aw cW ah (pv 2))))))
   (aq (aI (pv 1))))),?_⟩
 refine⟨_,rfl,a,rfl,⟨_,hS⟩,cS (K:=K) (xs:=ps.map iV) (fun i σ H2=>∃ v2,σ = [some (.ref a),some (.int ((zB (ps.take i):Nat):Int)),v2]/\H2=H) ⟨_,rfl,rfl⟩ (fun i σ H2 _ ⟨_,_,z⟩=>z▸hS) ?_ ?_⟩
 ·rintro i x σ H2 hx ⟨v2,rfl,rfl⟩
  rw[PR]at hx
  obtain⟨p,hp,rfl⟩:=Qp.mp hx
  have hp80:=h80 p (Pr hp)
  refine⟨_,rfl,_,rfl,_,_,rfl,rfl,⟨by omega,by omega,by decide⟩,_,_,rfl,rfl,some (iV p),?_,rfl⟩
  show[some (V.ref a),some (V.int (Builtin.bitOr ((zB (ps.take i):Nat):Int) (1*2^((p:Nat):Int).toNat))),some (iV p)]=_
  rw[shlN,orN,Qf,hp]
  show _ = [some (V.ref a),some (V.int ((zB (ps.take i++[p]):Nat):Int)),some (iV p)]
  rw[uA]
 ·rintro σ H2 ⟨v2,rfl,rfl⟩
  rw[PB,Qn]
  exact⟨_,rfl,kk⟩
theorem vz:aC ["found"] ["found"] (aj cE):=⟨rfl,rfl,rfl,by decide +kernel,rfl,by decide +kernel,by decide +kernel⟩
theorem IH{f:Addr}{fd:FuncData} (F:Fun K "_law_number" "_law_number" cE f fd) (T:Txt mg):FnOk P w K mg base CX0 1 f fd ["found"] Nz:=by
 refine F.ok vz (fun vs H Q E h=>?_) (fun cdv A outer s H vs Q E hr h=>?_)
 ·obtain⟨i,rfl,_⟩:=h
  rfl
 obtain⟨i,rfl,k⟩:=h
 refine⟨_,(aq (aI (MY (aE pZ (by rfl) T.n_isinstance eI (ae (pv 0) (ae (vV (v:=.ty "int") rfl T.n_int Kt rfl) ai))) (MX (pe_not (aE pZ (by rfl) T.n_isinstance eI (ae (pv 0) (ae (vV (v:=.ty "bool") rfl T.n_bool O9 rfl) ai)))))))),?_⟩
 refine⟨_,rfl,_,_,_,_,_,rfl,TyOf.int i,Or.inl ⟨_,rfl,rfl⟩,kit_ii K,_,rfl,iteT ?_⟩
 exact⟨_,rfl,_,_,_,_,_,rfl,TyOf.int i,Or.inl ⟨_,rfl,rfl⟩,kit_ib K,_,rfl,k⟩
end
end K8
namespace K8
open PySem L2
local macro_rules | `(tactic| walk_at "cc") => `(tactic| first | exact ⟨by decide, by decide⟩ | (show (0 : Int) < _; decide) | (show (0 : Int) < _; omega) | (show (0 : Int) ≤ _; omega) | exact ⟨by decide, by decide, by decide⟩ | exact ⟨by omega, by omega, by decide⟩ | exact Or.inl ⟨by decide, by decide⟩ | exact Or.inl ⟨by omega, by omega⟩)
local macro_rules | `(tactic| walk_at "rd") => `(tactic| repeat (first | refine ⟨_, rfl, ?_⟩ | refine ⟨_, _, rfl, rfl, ?_⟩ | refine ⟨rfl, ?_⟩ | (refine ⟨?cc, ?_⟩; (case cc => walk_at "cc"))))
def bt(M t:Nat):Nat:=M/2^t%2
theorem O8(M t:Nat):bt M t=if M.testBit t=true then 1 else 0:=by
 unfold bt
 rw[SI]
 by_cases z:M/2^t%2=1
 ·rw[z,decide_eq_true rfl,if_pos rfl]
 ·rw[decide_eq_false z,if_neg Qe];omega
theorem Kt(M t:Nat):Builtin.bitAnd ((M:Int)/2^((t:Nat):Int).toNat) 1=((bt M t:Nat):Int):=by
 have e:Builtin.bitAnd ((M:Int)/2^((t:Nat):Int).toNat) 1=((M:Int)/2^((t:Nat):Int).toNat)%2:=PySem.W.kbt_mask _ 1
 rw[e,PQ]
 unfold bt
 rw[Int.natCast_emod,Int.natCast_ediv,Sq]
 rfl
def parR(M:Nat)(r:List Nat):Nat:=sm r (fun d=>bt M (d/2))%2
theorem Lf(l:List Nat)(g:Nat->Nat):(l.map fun d=>((g d:Nat):Int)).sum=((sm l g:Nat):Int):=by
 induction l with
 |nil=>rfl
 |cons x l ih=>rw[P7,Ri,ih,HN];omega
def aX(ks:Kn)(t:Nat):Bool:=match ks[t]? with | some k=>decide (k.1=1) | none=>false
theorem Ih{ks:Kn}{t:Nat}{k:Int×Int}(h:ks[t]?=some k):aX ks t=decide (k.1=1):=by unfold aX;rw[h]
def oddU(M:Nat)(rs:List (List Nat))(k:Nat):Bool:=decide (parR M (rs.getD k [])=1)
theorem Mq{rs:List (List Nat)}{k:Nat}{r:List Nat}(h:rs[k]?=some r):rs.getD k []=r:=by rw[Qm,h];rfl
def WebR(PL PS WC:Addr)(H:Hp)(p:Addr)(es:En)(ks:Kn)(rs:List (List Nat)):Prop:=∃ dx fs q1 xs q5 z5,H p=some (.ins WC dx fs)/\fs.lookup ("ties" : Str)=some (.ref q1)/\H q1=some (.lst xs)/\ui PL PS H xs es ks/\fs.lookup ("rounds" : Str)=some (.ref q5)/\H q5=some (.lst z5)/\bT H z5 rs
theorem WebR.mono{PL PS WC:Addr}{H H':Hp}{p:Addr}{es:En}{ks:Kn}{rs:List (List Nat)}(h:WebR PL PS WC H p es ks rs)(s:Same H H'):WebR PL PS WC H' p es ks rs:=by
 obtain⟨dx,fs,q1,xs,q5,z5,a,b,c,d,e,f,g⟩:=h
 exact⟨dx,fs,q1,xs,q5,z5,s _ _ a,b,s _ _ c,d.mono s,e,s _ _ f,g.mono s⟩
def HH(PL PS WC:Addr):Sp:=fun vs H Q _=>∃(p:Addr)(es:En)(ks:Kn)(rs:List (List Nat)),vs = [.ref p]/\WebR PL PS WC H p es ks rs/\ks.length=es.length/\es.length<=30/\∀ H',Same H H'->Q (.int ((MK (aX ks) es.length:Nat):Int)) H'
def Bj(PL PS WC:Addr):Sp:=fun vs H Q _=>∃(p:Addr)(M k:Nat)(es:En)(ks:Kn)(rs:List (List Nat))(r:List Nat),vs = [.ref p,.int (M:Int),.int (k:Int)]/\WebR PL PS WC H p es ks rs/\rs[k]?=some r/\r.length<=900/\∀ H',Same H H'->Q (.int ((parR M r:Nat):Int)) H'
def HI(PL PS WC:Addr):Sp:=fun vs H Q _=>∃(p:Addr)(es:En)(ks:Kn)(rs:List (List Nat)),vs = [.ref p]/\WebR PL PS WC H p es ks rs/\ks.length=es.length/\es.length<=30/\rs.length<=70/\(∀ r∈rs,r.length<=900)/\∀ H',Same H H'->Q (.int ((MK (oddU (MK (aX ks) es.length) rs) rs.length:Nat):Int)) H'
theorem WebF.r{S:Addr->Prop}{PL PS WC p:Addr}{H:Hp}{m:Nat}{es:En}{ts rs:List (List Nat)}{ks:Kn}(h:WebF S PL PS WC H p m es ts rs ks):WebR PL PS WC H p es ks rs:=by
 obtain⟨dx,fs,q1,xs,a,g,_,b,c,d⟩:=h
 obtain⟨q5,z5,l5,h5,r5⟩:=g.rounds
 exact⟨dx,fs,q1,xs,q5,z5,a,b,c,d,l5,h5,r5⟩
section
variable{P:Program}{w:World}{K:Pt}{mg:Str->Option Value}{base:Heap}
theorem HX:aC ["web"] ["web"] (aj jI):=⟨rfl,rfl,rfl,by decide +kernel,rfl,by decide +kernel,by decide +kernel⟩
theorem N0{f fm PL PS WC f0 f1:Addr}{fd fdm d0 d1:FuncData} (F:Fun K "pushes" "pushes" jI f fd) (T:Txt mg) (cw:CW K WC) (TL:CT K PL) (TS:CT K PS) (G_mask_of:Cal P w K mg base 1 "mask_of" ["places"] (spMask K) fm fdm) (u0:Met P w K mg base 1 PL "wish" ["self"] (lP false) f0 d0) (u1:Met P w K mg base 1 PS "wish" ["self"] (lP true) f1 d1) :
  FnOk P w K mg base CX0 2 f fd ["web"] (HH PL PS WC):=by
 refine F.ok HX (fun vs H Q E h=>?_) (fun cdv A outer s H vs Q E hr h=>?_)
 ·obtain⟨p,es,ks,rs,rfl,_⟩:=h
  rfl
 obtain⟨p,es,ks,rs,rfl,⟨dx,fs,q1,xs,q5,z5,hp,hlk,hq1,tk,_⟩,kl,few,kk⟩:=h
 have CL0:=TL.cl
 have CL1:=TS.cl
 have hxl:xs.length=es.length:=tk.1
 refine⟨_,(aq (aI (ay G_mask_of.ok (hr.mono (by decide)) rfl G_mask_of.mg G_mask_of.kp G_mask_of.bn .nil aP (ae (pJ rfl (fr:=[]) (xs:=["number","tie"]) (mO.of (by rfl) (by decide +kernel) (by rfl) (by decide +kernel) (fun p hp=>nomatch hp) (by decide +kernel) (fun p hp=>nomatch hp)) (vN rfl T.n_enumerate (ae (b9 (pv 0) rfl) ai)) (fun C ex s H=>(Cc (n:=2) (K:=K) rfl rfl (bw (aO (i:=0) (show(["number","tie"]:List Str).Nodup from by decide +kernel) rfl (Or.inl rfl)) (bw (aO (i:=1) (show(["number","tie"]:List Str).Nodup from by decide +kernel) rfl (Or.inl rfl)) iP)))) (fun C ex s H=>(Ii (aG iS (NS (gZ (pv 1) CL0 u0.me u0.ok (hr.mono (by decide)) u0.bn .nil aP) (gZ (pv 1) CL1 u1.me u1.ok (hr.mono (by decide)) u1.bn .nil aP)) ah (aN _)))) (fun C ex s H=>(pv 0))) ai)))),?_⟩
 refine⟨_,rfl,p,WC,dx,fs,_,rfl,hp,cw.cl,cw.n2,hlk,q1,rfl,⟨_,SqL.of hq1⟩,GW (K:=K) (xs:=xs) (fun i ys H2=>Same H H2/\ys=(upL (aX ks) i).map iV) (Ql (au (by omega))) ⟨fun _ _ e=>e,rfl⟩ (fun i ys H2 _ z=>SqL.of (z.1 _ _ hq1)) ?_ ?_ ?_⟩
 ·rintro i x ys H2 T2 hx ⟨s2,rfl⟩ hT2
  have hi:i<es.length:=by rw[← tk.1];exact(Pp.mp hx).1
  obtain⟨e,he⟩:∃ e,es[i]?=some e:=⟨_,Pq hi⟩
  obtain⟨k,hk⟩:∃ k,ks[i]?=some k:=⟨_,Pq (by omega)⟩
  have s3:=s2.trans (ak hT2 (.tup [.int (i:Int),x]))
  obtain⟨p',dx',x1,x2⟩:=(tk.mono s3).2 i e k he hk
  rw[hx]at x1
  cases x1
  refine⟨T2,_,rfl,SqT.of af,rfl,_,_,rfl,_,_,rfl,rfl,rfl,?_⟩
  have hU:=Ih hk
  have tail:∀ b:Bool,b=aX ks i->(if b=true then tVar 0 ([some (.int (i:Int)),some (.ref p')]:St) (upd H2 T2 (.tup [.int (i:Int),.ref p'])) (fun y H4=>Same H H4/\(upL (aX ks) i).map iV++[y]=(upL (aX ks) (i+1)).map iV) else Same H (upd H2 T2 (.tup [.int (i:Int),.ref p']))/\(upL (aX ks) i).map iV=(upL (aX ks) (i+1)).map iV):=fun b hb=>by
   rw[u9,← hb]
   cases b with
   |true =>
    refine iteT ⟨_,rfl,s3,?_⟩
    rw[if_pos rfl,Qw]
    rfl
   |false =>
    refine iteF ⟨s3,?_⟩
    rw[if_neg (by decide)]
  by_cases c:k.1=1
  ·rw[decide_eq_true c]at x2 hU
   refine .inr ⟨_,rfl,p',dx',_,rfl,x2,Bc _ _ _ (by decide +kernel) (by decide +kernel) (by decide +kernel),p',rfl,rfl,_,rfl,?_⟩
   exact tail _ hU.symm
  ·rw[decide_eq_false c]at x2 hU
   refine .inl ⟨_,rfl,p',dx',_,rfl,x2,Bc _ _ _ (by decide +kernel) (by decide +kernel) (by decide +kernel),p',rfl,rfl,_,rfl,?_⟩
   exact tail _ hU.symm
 ·rintro ys H2 ⟨s2,rfl⟩ D hD
  rw[hxl]
  refine⟨D,upL (aX ks) es.length,rfl,SqL.of af,fun p hp=>?_,?_⟩
  ·have:=Rt.mp (R4.mp hp).1;omega
  ·rw[wJ]
   exact kk _ (s2.trans (ak hD _))
 ·rintro i ys H2 ⟨_,rfl⟩
  rw[PB]
  exact QG (RV _ _) (by rw[Rn];exact Pz _)
theorem HY:aC ["web","ties","number"] ["web","ties","number"] (aj jJ):=⟨rfl,rfl,rfl,by decide +kernel,rfl,by decide +kernel,by decide +kernel⟩
theorem LK{f PL PS WC:Addr}{fd:FuncData} (F:Fun K "odd_at" "odd_at" jJ f fd) (T:Txt mg) (cw:CW K WC):FnOk P w K mg base CX0 1 f fd ["web","ties","number"] (Bj PL PS WC):=by
 refine F.ok HY (fun vs H Q E h=>?_) (fun cdv A outer s H vs Q E hr h=>?_)
 ·obtain⟨p,M,k,es,ks,rs,r,rfl,_⟩:=h
  rfl
 obtain⟨p,M,k,es,ks,rs,r,rfl,⟨dx,fs,q1,xs,q5,z5,hp,_,_,_,l5,hq5,hR⟩,hk,hl,kk⟩:=h
 obtain⟨pr,x1,x2⟩:=hR.2 k r hk
 refine⟨_,(aq (aI (aw bE (aE (MA rfl) (by rfl) T.n_sum bt_sum (ae (dr rfl (fr:=[("ties",1)]) (by exact bq.one (by rfl) (by decide +kernel) (by rfl) (by decide +kernel) (by rfl) (by decide +kernel) (by rfl) (by rfl) (by decide +kernel) (by rfl)) (a9 (ax az (b9 (pv 0) rfl) (pv 2) (fun _ _=>rfl))) (fun C ex s H=>(aw y7 (aw yY (pv 1) (aw cP (pv 0) ah)) ah))) ai)) ah))),?_⟩
 refine⟨_,rfl,p,WC,dx,fs,_,rfl,hp,cw.cl,cw.n4,l5,_,rfl,q5,z5,_,_,rfl,rfl,SqL.of hq5,aA x1,pr,rfl,⟨_,SqL.of x2⟩,bS (K:=K) (xs:=r.map iV) (fun i ys H2=>Same H H2/\ys=((r.take i).map fun d=>((bt M (d/2):Nat):Int)).map V.int) (Ql (au (by rw[PB];omega))) ⟨fun _ _ e=>e,rfl⟩ (fun i ys H2 _ z=>SqL.of (z.1 _ _ x2)) ?_ ?_⟩
 ·rintro i x ys H2 hx ⟨s2,rfl⟩
  rw[PR]at hx
  obtain⟨d,hd',rfl⟩:=Qp.mp hx
  have ed:(d:Int)/2=((d/2:Nat):Int):=by omega
  refine⟨_,rfl,_,rfl,_,_,rfl,rfl,⟨by decide,by decide⟩,_,_,rfl,rfl,(show(0:Int)<=(d:Int)/2 by omega),_,_,rfl,rfl,s2,?_⟩
  rw[Qf,hd',Qw,Qw]
  show _++[V.int (Builtin.bitAnd ((M:Int)/2^((d:Int)/2).toNat) 1)]=_++[V.int ((bt M (d/2):Nat):Int)]
  rw[ed,Kt]
 rintro ys H2 _ ⟨s2,rfl⟩ D hD
 rw[PB,Qn]
 refine⟨D,_,rfl,SqL.of af,_,_,rfl,rfl,(by show(0:Int)<2;decide),?_⟩
 have e:(r.map fun d=>((bt M (d/2):Nat):Int)).sum%2=((parR M r:Nat):Int):=by
  rw[Lf r fun d=>bt M (d/2)]
  unfold parR
  omega
 show Q (V.int ((r.map fun d=>((bt M (d/2):Nat):Int)).sum%2)) _
 rw[e]
 exact kk _ (s2.trans (ak hD _))
theorem lS:aC ["web","pushing"] ["web"] (aj cD):=⟨rfl,rfl,rfl,by decide +kernel,rfl,by decide +kernel,by decide +kernel⟩
theorem Oa{f fm fp fo PL PS WC:Addr}{fd fdm fdp fdo:FuncData} (F:Fun K "odd_rounds" "odd_rounds" cD f fd) (T:Txt mg) (cw:CW K WC) (G_mask_of:Cal P w K mg base 1 "mask_of" ["places"] (spMask K) fm fdm) (G_pushes:Cal P w K mg base 2 "pushes" ["web"] (HH PL PS WC) fp fdp) (G_odd_at:Cal P w K mg base 1 "odd_at" ["web","ties","number"] (Bj PL PS WC) fo fdo) :
  FnOk P w K mg base CX0 3 f fd ["web"] (HI PL PS WC):=by
 refine F.ok lS (fun vs H Q E h=>?_) (fun cdv A outer s H vs Q E hr h=>?_)
 ·obtain⟨p,es,ks,rs,rfl,_⟩:=h
  rfl
 obtain⟨p,es,ks,rs,rfl,wb,kl,few,h70,h900,kk⟩:=h
 refine⟨_,(ag (av (i:=1) lS.nd rfl (Or.inr rfl) (ay G_pushes.ok (hr.mono (by decide)) rfl G_pushes.mg G_pushes.kp G_pushes.bn .nil aP (ae (pv 0) ai)))
   (aq (aI (ay G_mask_of.ok (hr.mono (by decide)) rfl G_mask_of.mg G_mask_of.kp G_mask_of.bn .nil aP (ae (pJ rfl (fr:=[("web",0),("pushing",1)]) (xs:=["number"]) (mO.of (by rfl) (by decide +kernel) (by rfl) (by decide +kernel) (by intro p hp;simp only[Pw,QH,or_false]at hp;rcases hp with rfl | rfl<;>exact⟨rfl,rfl⟩) (by decide +kernel) (by intro p hp;simp only[Pw,QH,or_false]at hp;rcases hp with rfl | rfl<;>rfl)) (aW rfl T.n_range (ae (aE ar (by rfl) T.n_len aY (ae (b9 (pv 0) rfl) ai)) ai)) (fun C ex s H=>(aO (i:=0) (show(["number","web","pushing"]:List Str).Nodup from by decide +kernel) rfl (Or.inl rfl))) (fun C ex s H=>(Ii (aG iS (ay G_odd_at.ok (hr.mono (by decide)) rfl G_odd_at.mg G_odd_at.kp G_odd_at.bn .nil aP (ae (pv 1) (ae (pv 2) (ae (pv 0) ai)))) ah (aN _)))) (fun C ex s H=>(pv 0))) ai))))),?_⟩
 refine⟨_,rfl,p,es,ks,rs,rfl,wb,kl,few,fun H1 s1=>?_⟩
 have wb1:=wb.mono s1
 obtain⟨dx,fs,q1,xs,q5,z5,hp,_,_,_,l5,hq5,hR⟩:=id wb1
 have hzl:z5.length=rs.length:=hR.1
 generalize hM:MK (aX ks) es.length=M
 rw[hM]at kk
 refine⟨_,rfl,p,WC,dx,fs,_,rfl,hp,cw.cl,cw.n4,l5,q5,z5,rfl,.inl (SqL.of hq5),_,rfl,by omega,by omega,rD (fun i ys H2=>Same H1 H2/\ys=(upL (oddU M rs) i).map iV) (Ql (au (by omega))) ⟨fun _ _ e=>e,rfl⟩ ?_ ?_ ?_⟩
 ·rintro i ys H2 hi ⟨s2,rfl⟩
  have e0:(0:Int)+(i:Int)=(i:Int):=QR _
  rw[e0]
  obtain⟨r,hr'⟩:∃ r,rs[i]?=some r:=⟨_,Pq (by omega)⟩
  refine⟨rfl,_,rfl,_,rfl,_,rfl,p,M,i,es,ks,rs,r,rfl,wb1.mono s2,hr',h900 r (Pr hr'),fun H3 s3=>⟨rfl,_,rfl,?_⟩⟩
  have hu:oddU M rs i=decide (parR M r=1):=by unfold oddU;rw[Mq hr']
  rw[u9,hu]
  refine ite2 (fun c=>?_) (fun c=>?_)
  ·have c':parR M r=1:=by have:=V.int.inj (of_decide_eq_true c);omega
   refine⟨_,rfl,s2.trans s3,?_⟩
   rw[if_pos (decide_eq_true c'),Qw]
   rfl
  ·have c':¬ parR M r=1:=fun z=>c (decide_eq_true (congrArg V.int (by omega)))
   refine⟨s2.trans s3,?_⟩
   rw[if_neg (by simpa using c')]
 ·rintro ys H2 ⟨s2,rfl⟩ D hD
  rw[PQ,hzl]
  refine⟨D,upL (oddU M rs) rs.length,rfl,SqL.of af,fun p hp=>?_,?_⟩
  ·have:=Rt.mp (R4.mp hp).1;omega
  ·rw[wJ]
   exact kk _ (s1.trans (s2.trans (ak hD _)))
 ·rintro i ys H2 ⟨_,rfl⟩
  rw[PB]
  exact QG (RV _ _) (by rw[Rn];exact Pz _)
end
end K8
namespace K8
open PySem L2
local macro_rules | `(tactic| walk_at "cc") => `(tactic| first | exact ⟨by decide, by decide⟩ | (show (0 : Int) < _; decide) | (show (0 : Int) < _; omega) | (show (0 : Int) ≤ _; omega) | exact ⟨by decide, by decide, by decide⟩ | exact ⟨by omega, by omega, by decide⟩ | exact Or.inl ⟨by decide, by decide⟩ | exact Or.inl ⟨by omega, by omega⟩)
local macro_rules | `(tactic| walk_at "rd") => `(tactic| repeat (first | refine ⟨_, rfl, ?_⟩ | refine ⟨_, _, rfl, rfl, ?_⟩ | refine ⟨rfl, ?_⟩ | (refine ⟨?cc, ?_⟩; (case cc => walk_at "cc"))))
structure TxtZ(mg:Str->Option Value):Prop extends Txt mg where
 n_zip:mg "zip" = none
def WebS(PL PS WC:Addr)(H:Hp)(p:Addr)(es:En)(ks:Kn)(rs:List (List Nat)):Prop:=∃ dx fs q1 xs q5 z5,H p=some (.ins WC dx fs)/\fs.lookup ("ties" : Str)=some (.ref q1)/\H q1=some (.lst xs)/\ui PL PS H xs es ks/\fs.lookup ("sides" : Str)=some (.ref q5)/\H q5=some (.lst z5)/\iG H z5 es.length rs
def Hj(H:Hp)(zs:List V)(n:Nat)(ks:Kn)(rs:List (List Nat)):Prop:=zs.length=n/\∀ i,i<n->∃ k t a b r r',ks[i]?=some k/\zs[i]?=some (.ref t)/\H t=some (.tup [iV a,iV b,.int k.2])/\rs[a]?=some r/\2*i∈r/\rs[b]?=some r'/\2*i+1∈r'
theorem Hj.mono{H H':Hp}{zs:List V}{n:Nat}{ks:Kn}{rs:List (List Nat)}(h:Hj H zs n ks rs)(s:Same H H'):Hj H' zs n ks rs:=⟨h.1,fun i hi=>by
 obtain⟨k,t,a,b,r,r',y0,y1,y2,y3⟩:=h.2 i hi
 exact⟨k,t,a,b,r,r',y0,y1,s _ _ y2,y3⟩⟩
def Bl(PL PS WC:Addr):Sp:=fun vs H Q _=>∃(p:Addr)(es:En)(ks:Kn)(rs:List (List Nat)),vs = [.ref p]/\WebS PL PS WC H p es ks rs/\ks.length=es.length/\es.length<=62/\∀ q zs H',Same H H'->H q=none->H' q=some (.lst zs)->Hj H' zs es.length ks rs->Q (.ref q) H'
section
variable{P:Program}{w:World}{K:Pt}{mg:Str->Option Value}{base:Heap}
theorem BF:aC ["web"] ["web"] (aj eN):=⟨rfl,rfl,rfl,by decide +kernel,rfl,by decide +kernel,by decide +kernel⟩
theorem LN{f PL PS WC:Addr}{fd:FuncData} (F:Fun K "links_of" "links_of" eN f fd) (T:TxtZ mg) (cw:CW K WC) (TL:CT K PL) (TS:CT K PS):FnOk P w K mg base CX0 1 f fd ["web"] (Bl PL PS WC):=by
 refine F.ok BF (fun vs H Q E h=>?_) (fun cdv A outer s H vs Q E hr h=>?_)
 ·obtain⟨p,es,ks,rs,rfl,_⟩:=h
  rfl
 obtain⟨p,es,ks,rs,rfl,⟨dx,fs,q1,xs,q5,z5,hp,l1,hq1,tk,l5,hq5,hs⟩,kl,few,kk⟩:=h
 have hxl:xs.length=es.length:=tk.1
 have hzl:z5.length=es.length:=hs.1
 have ct:∀ b,CT K (cls PL PS b):=fun b=>by
  unfold cls
  split
  ·exact TS
  ·exact TL
 refine⟨_,(aq (aI (pJ rfl (fr:=[]) (xs:=["sides","tie"]) (mO.of (by rfl) (by decide +kernel) (by rfl) (by decide +kernel) (fun p hp=>nomatch hp) (by decide +kernel) (fun p hp=>nomatch hp)) (pi_zip rfl T.n_zip (ae (b9 (pv 0) rfl) (ae (b9 (pv 0) rfl) ai))) (fun C ex s H=>(Cc (n:=2) (K:=K) rfl rfl (bw (aO (i:=0) (show(["sides","tie"]:List Str).Nodup from by decide +kernel) rfl (Or.inl rfl)) (bw (aO (i:=1) (show(["sides","tie"]:List Str).Nodup from by decide +kernel) rfl (Or.inl rfl)) iP)))) (fun C ex s H=>vE) (fun C ex s H=>(bK (ae (ax (qX (K:=K) rfl) (pv 0) ah (fun _ _=>rfl)) (ae (ax (qX (K:=K) rfl) (pv 0) ah (fun _ _=>rfl)) (ae (Ce (K:=K) rfl (pv 1) rfl) ai)))))))),?_⟩
 refine⟨_,rfl,p,WC,dx,fs,_,rfl,hp,cw.cl,cw.n5,l5,_,rfl,p,WC,dx,fs,_,rfl,hp,cw.cl,cw.n2,l1,q5,q1,rfl,⟨_,SqL.of hq5⟩,⟨_,SqL.of hq1⟩,Kd (K:=K) (xs:=z5) (zs:=xs) (fun i ys H2=>Same H H2/\Hj H2 ys i ks rs) (Ql (au (by omega))) (by omega) ⟨fun _ _ e=>e,rfl,fun i hi=>by omega⟩ (fun i ys H2 _ z=>⟨SqL.of (z.1 _ _ hq5),SqL.of (z.1 _ _ hq1)⟩) ?_ ?_ ?_⟩
 ·rintro i x z ys H2 T2 hx hz ⟨s2,hY⟩ hT2
  have hi:i<es.length:=by rw[← hzl];exact(Pp.mp hx).1
  obtain⟨e,he⟩:∃ e,es[i]?=some e:=⟨_,Pq hi⟩
  obtain⟨k,hk⟩:∃ k,ks[i]?=some k:=⟨_,Pq (by omega)⟩
  obtain⟨t,a,b,r,r',y1,y2,y3,y4,y5,y6⟩:=hs.2 i hi
  rw[hx]at y1
  cases y1
  obtain⟨p',dx',x1,x2⟩:=tk.2 i e k he hk
  rw[hz]at x1
  cases x1
  have s3:=s2.trans (ak hT2 (.tup [.ref t,.ref p']))
  refine⟨T2,_,rfl,SqT.of af,rfl,_,_,rfl,_,_,rfl,rfl,rfl,yesT ?_⟩
  refine⟨_,rfl,t,_,0,_,rfl,rfl,SqT.of (s3 _ _ y2),at0,_,rfl,t,_,1,_,rfl,rfl,SqT.of (s3 _ _ y2),at1,_,rfl,p',_,dx',_,_,rfl,s3 _ _ x2,(ct _).cl,(ct _).n3,Hv _ _ _,(by show 3<=sizeLine;decide),fun t4 ht4=>?_⟩
  have s4:=ak ht4 (.tup [iV a,iV b,.int k.2])
  have s24:=(ak hT2 (.tup [.ref t,.ref p'])).trans s4
  have hY':=hY.mono s24
  refine⟨s2.trans s24,by rw[Px,hY.1];rfl,fun j hj=>?_⟩
  by_cases c:j<i
  ·obtain⟨k',t',a',b',w1,w2,v0,v1,v2⟩:=hY'.2 j c
   exact⟨k',t',a',b',w1,w2,v0,by rw[Py (by rw[hY.1];exact c)];exact v1,v2⟩
  ·have:j=i:=by omega
   subst this
   exact⟨k,t4,a,b,r,r',hk,by rw[← hY.1,Pu (Pz _),P1];rfl,af,y3,y4,y5,y6⟩
 ·rintro ys H2 ⟨s2,hY⟩ D hD
  rw[hzl]at hY
  have hD0:H D=none:=by
   cases z:H D with
   |none=>rfl
   |some o=>rw[s2 _ _ z]at hD;cases hD
  exact kk D ys _ (s2.trans (ak hD _)) hD0 af (hY.mono (ak hD _))
 ·rintro i ys H2 ⟨_,hY⟩
  rw[hY.1]
  exact Pz _
end
end K8
namespace K8
open PySem L2
local macro_rules | `(tactic| walk_at "cc") => `(tactic| first | exact ⟨by decide, by decide⟩ | (show (0 : Int) < _; decide) | (show (0 : Int) < _; omega) | (show (0 : Int) ≤ _; omega) | exact ⟨by decide, by decide, by decide⟩ | exact ⟨by omega, by omega, by decide⟩ | exact Or.inl ⟨by decide, by decide⟩ | exact Or.inl ⟨by omega, by omega⟩)
local macro_rules | `(tactic| walk_at "rd") => `(tactic| repeat (first | refine ⟨_, rfl, ?_⟩ | refine ⟨_, _, rfl, rfl, ?_⟩ | refine ⟨rfl, ?_⟩ | (refine ⟨?cc, ?_⟩; (case cc => walk_at "cc"))))
def UN(es:En)(ks:Kn)(L t:Nat):Bool:=match es[t]? with | some e=>(L.testBit e.1 ^^ L.testBit e.2 ^^ aX ks t) | none=>false
theorem UN_at{es:En}{ks:Kn}{L t:Nat}{e:Nat×Nat}(h:es[t]?=some e):UN es ks L t=(L.testBit e.1 ^^ L.testBit e.2 ^^ aX ks t):=by unfold UN;rw[h]
theorem EH{ks:Kn}{t:Nat}{k:Int×Int}(h:ks[t]?=some k):aX ks t=decide (k.1=1):=by unfold aX;rw[h]
theorem stg_at{ks:Kn}{t:Nat}{k:Int×Int}(h:ks[t]?=some k):stg ks t=k.2:=by unfold stg;rw[h]
def wS(es:En)(ks:Kn)(L:Nat):Nat->Int
 |0=>0
 |i+1=>if UN es ks L i=true then wS es ks L i+stg ks i else wS es ks L i
def wT(es:En)(ks:Kn)(L:Nat):Int:=wS es ks L es.length
def kc(es:En)(ks:Kn)(m:Nat):List Int:=(Q8 (2^m)).map (wT es ks)
theorem GV(es:En)(ks:Kn)(m:Nat):(kc es ks m).length=2^m:=by unfold kc;rw[PB,Rn]
theorem jj{es:En}{ks:Kn}{m L:Nat}(h:L<2^m):(kc es ks m)[L]?=some (wT es ks L):=by unfold kc;rw[PR,R7 h];rfl
theorem xorI{a b:Nat}(L:Nat):Builtin.bitAnd (Builtin.bitXor ((L:Int)/2^((a:Nat):Int).toNat) ((L:Int)/2^((b:Nat):Int).toNat)) 1=if(L.testBit a ^^ L.testBit b)=true then 1 else 0:=by
 rw[Nq]
 have h1:=bitN L a
 have h2:=bitN L b
 unfold bit at h1 h2
 rw[h1,h2]
 cases L.testBit a<;>cases L.testBit b<;>rfl
theorem UN_is{es:En}{ks:Kn}{L k:Nat}{e:Nat×Nat}{kk:Int×Int}(he:es[k]?=some e)(hk:ks[k]?=some kk)(k1:kk.1=0∨kk.1=1):(!decide (V.int (if(L.testBit e.1 ^^ L.testBit e.2)=true then 1 else 0)=V.int kk.1))=UN es ks L k:=by
 rw[UN_at he,EH hk]
 rcases k1 with z | z
 ·rw[z]
  cases L.testBit e.1<;>cases L.testBit e.2<;>rfl
 ·rw[z]
  cases L.testBit e.1<;>cases L.testBit e.2<;>rfl
theorem MU{m:Nat}(h:m<=10):(0:Int)<((2^m:Nat):Int)/\((2^m:Nat):Int)<=1024/\(2:Nat)^m<=1024/\0<2^m:=by
 have p2:(2:Nat)^m<=2^10:=QD (by decide) h
 have e:(2:Nat)^10=1024:=by decide
 rw[e]at p2
 have p0:0<2^m:=QT m
 exact⟨by omega,by omega,p2,p0⟩
def Ny(K:Pt):Sp:=fun vs H Q _=>∃(pe pk:Addr)(ys ws:List V)(es:En)(ks:Kn)(L:Nat),vs = [.ref pe,.ref pk,.int (L:Int)]/\SqL K H pe ys/\cZ H ys es/\SqL K H pk ws/\jD H ws ks/\ks.length=es.length/\es.length<=900/\Q (.int (wT es ks L)) H
def Bq:Sp:=fun vs H Q _=>∃(t pe pt pr pk:Addr)(m:Nat)(es:En)(ts:List (List Nat))(ks:Kn),vs = [.ref t,.ref pk]/\H t=some (.tup [.ref pe,.ref pt,.ref pr])/\WebP H pe pt m es ts/\(∃ ws,H pk=some (.lst ws)/\jD H ws ks)/\ks.length=es.length/\es.length<=900/\m<=10/\∀(q:Addr)(H':Hp),Same H H'->H q=none->H' q=some (.lst ((kc es ks m).map V.int))->Q (.ref q) H'
section
variable{P:Program}{w:World}{K:Pt}{mg:Str->Option Value}{base:Heap}
theorem dH:aC ["ends","kinds","laying","found","k","unlike"] ["ends","kinds","laying"] (aj c8):=⟨rfl,rfl,rfl,by decide +kernel,rfl,by decide +kernel,by decide +kernel⟩
theorem LB{f:Addr}{fd:FuncData} (F:Fun K "_law_worth" "_law_worth" c8 f fd) (T:Txt mg):FnOk P w K mg base CX0 1 f fd ["ends","kinds","laying"] (Ny K):=by
 refine F.ok dH (fun vs H Q E h=>?_) (fun cdv A outer s H vs Q E hr h=>?_)
 ·obtain⟨pe,pk,ys,ws,es,ks,L,rfl,_⟩:=h
  rfl
 obtain⟨pe,pk,ys,ws,es,ks,L,rfl,hpe,hE,hpk,tk,kl,e9,kk⟩:=h
 have hyl:ys.length=es.length:=hE.1
 refine⟨_,(ag (av (i:=3) dH.nd rfl (Or.inl rfl) ah)
   (ag (bM PassesOwn.never rfl (aW rfl T.n_range (ae (aE ar (by rfl) T.n_len aY (ae (pv 0) ai)) ai)) (aO (i:=4) dH.nd rfl (Or.inl rfl)) (ag (av (i:=5) dH.nd rfl (Or.inl rfl) (aw y7 (aw lY (aw yY (pv 2) (ax aH (ax az (pv 0) (pv 4) (fun _ _=>rfl)) ah (fun _ _=>rfl))) (aw yY (pv 2) (ax aH (ax az (pv 0) (pv 4) (fun _ _=>rfl)) ah (fun _ _=>rfl)))) ah))
   (aq (bZ (aG oZ (pv 5) (ax aH (ax az (pv 1) (pv 4) (fun _ _=>rfl)) ah (fun _ _=>rfl)) (aN _)) (aq (av (i:=3) dH.nd rfl (Or.inl rfl) (aw bA (pv 3) (ax aH (ax az (pv 1) (pv 4) (fun _ _=>rfl)) ah (fun _ _=>rfl))))) aS))))
   (aq (aI (pv 3))))),?_⟩
 refine⟨_,rfl,pe,ys,rfl,.inl hpe,_,rfl,by omega,by omega,cR (n:=(ys.length:Int).toNat) (fun i σ H2=>∃(v4 v5:Option V),σ = [some (.ref pe),some (.ref pk),some (.int (L:Int)),some (.int (wS es ks L i)),v4,v5]/\H2=H) ⟨_,_,rfl,rfl⟩ ?_ ?_⟩
 ·rintro k σ H2 hk ⟨v4,v5,rfl,rfl⟩
  rw[PQ,hyl]at hk
  have e0:(0:Int)+(k:Int)=(k:Int):=QR _
  rw[e0]
  obtain⟨e,he⟩:∃ e,es[k]?=some e:=⟨_,Pq hk⟩
  obtain⟨kk',hk'⟩:∃ x,ks[k]?=some x:=⟨_,Pq (by omega)⟩
  obtain⟨p,x1,x2⟩:=hE.2 k e he
  obtain⟨k1,k2,pk',y1,y2⟩:=tk.2 k kk' hk'
  refine⟨_,rfl,_,rfl,_,rfl,pe,ys,_,_,rfl,rfl,hpe,aA x1,p,_,0,_,rfl,rfl,SqT.of x2,at0,_,_,rfl,rfl,(show(0:Int)<=(e.1:Int) by omega),_,rfl,_,rfl,_,rfl,pe,ys,_,_,rfl,rfl,hpe,aA x1,p,_,1,_,rfl,rfl,SqT.of x2,at1,_,_,rfl,rfl,(show(0:Int)<=(e.2:Int) by omega),_,_,rfl,rfl,_,_,rfl,rfl,?_⟩
  dsimp only
  rw[xorI]
  refine⟨_,rfl,_,rfl,_,rfl,pk,ws,_,_,rfl,rfl,hpk,aA y1,pk',_,0,_,rfl,rfl,SqT.of y2,at0,rfl,_,rfl,ite2 (fun c=>?_) (fun c=>?_)⟩
  ·have cu:UN es ks L k=true:=(UN_is he hk' k1).symm.trans c
   refine⟨_,rfl,_,rfl,_,rfl,pk,ws,_,_,rfl,rfl,hpk,aA y1,pk',_,1,_,rfl,rfl,SqT.of y2,at1,_,_,rfl,rfl,?_⟩
   refine⟨some (.int (k:Int)),some (.int (if(L.testBit e.1 ^^ L.testBit e.2)=true then 1 else 0)),?_,rfl⟩
   have h1:wS es ks L (k+1)=wS es ks L k+kk'.2:=by
    show(if UN es ks L k=true then _ else _)=_
    rw[if_pos cu,stg_at hk']
   rw[h1]
   rfl
  ·have cu:¬ UN es ks L k=true:=fun z=>c ((UN_is he hk' k1).trans z)
   refine⟨some (.int (k:Int)),some (.int (if(L.testBit e.1 ^^ L.testBit e.2)=true then 1 else 0)),?_,rfl⟩
   have h1:wS es ks L (k+1)=wS es ks L k:=by
    show(if UN es ks L k=true then _ else _)=_
    rw[if_neg cu]
   rw[h1]
   rfl
 ·rintro σ H2 ⟨v4,v5,rfl,rfl⟩
  rw[PQ,hyl]
  exact⟨_,rfl,kk⟩
theorem yD:aC ["grown","kinds"] ["grown","kinds"] (aj dk):=⟨rfl,rfl,rfl,by decide +kernel,rfl,by decide +kernel,by decide +kernel⟩
theorem LS{f fw:Addr}{fd dw:FuncData} (F:Fun K "_law_costs" "_law_costs" dk f fd) (T:Txt mg) (G_law_worth:Cal P w K mg base 1 "_law_worth" ["ends","kinds","laying"] (Ny K) fw dw):FnOk P w K mg base CX0 2 f fd ["grown","kinds"] Bq:=by
 refine F.ok yD (fun vs H Q E h=>?_) (fun cdv A outer s H vs Q E hr h=>?_)
 ·obtain⟨t,pe,pt,pr,pk,m,es,ts,ks,rfl,_⟩:=h
  rfl
 obtain⟨t,pe,pt,pr,pk,m,es,ts,ks,rfl,ht,⟨⟨ys,hpe,hE⟩,⟨xs,hpt,hR⟩,g⟩,⟨ws,hpk,tk⟩,kl,e9,m10,kk⟩:=h
 have hxl:xs.length=m:=by rw[hR.1,g.w.len]
 obtain⟨q1,q2,q3,q4⟩:=MU m10
 refine⟨_,(aq (aI (pJ rfl (fr:=[("kinds",1),("grown",0)]) (xs:=["laying"]) (mO.of (by rfl) (by decide +kernel) (by rfl) (by decide +kernel) (by intro p hp;simp only[Pw,QH,or_false]at hp;rcases hp with rfl | rfl<;>exact⟨rfl,rfl⟩) (by decide +kernel) (by intro p hp;simp only[Pw,QH,or_false]at hp;rcases hp with rfl | rfl<;>rfl)) (aW rfl T.n_range (ae (aw cW ah (aE ar (by rfl) T.n_len aY (ae (ax aH (pv 0) ah (fun _ _=>rfl)) ai))) ai)) (fun C ex s H=>(aO (i:=0) (show(["laying","kinds","grown"]:List Str).Nodup from by decide +kernel) rfl (Or.inl rfl))) (fun C ex s H=>vE) (fun C ex s H=>(ay G_law_worth.ok (hr.mono (by decide)) rfl G_law_worth.mg G_law_worth.kp G_law_worth.bn .nil aP (ae (ax (qX (K:=K) rfl) (pv 2) ah (fun _ _=>rfl)) (ae (pv 1) (ae (pv 0) ai)))))))),?_⟩
 have esh:(1:Int)*2^((xs.length:Int)).toNat=((2^m:Nat):Int):=by rw[hxl];exact shlN m
 refine⟨_,rfl,t,_,1,_,rfl,rfl,SqT.of ht,at31,pt,xs,rfl,.inl (SqL.of hpt),_,_,rfl,rfl,⟨by omega +splitDisjunctions,by omega +splitDisjunctions,by decide⟩,((2^m:Nat):Int),congrArg (fun z=>[V.int z]) esh,by omega +splitDisjunctions,by omega +splitDisjunctions,rD (k:=((2^m:Nat):Int).toNat) (fun i zs H2=>H2=H/\zs=((Q8 i).map (wT es ks)).map V.int) (by rw[PQ];exact QG q3 (by decide)) ⟨rfl,rfl⟩ ?_ ?_ ?_⟩
 ·rintro i zs H2 hi ⟨rfl,rfl⟩
  rw[QR]
  refine⟨rfl,yesT ?_⟩
  refine⟨_,rfl,t,_,0,_,rfl,rfl,SqT.of ht,at30,_,rfl,_,rfl,pe,pk,ys,ws,es,ks,i,rfl,SqL.of hpe,hE,SqL.of hpk,tk,kl,e9,rfl,?_⟩
  rw[List.range_succ,Qw,Qw]
  rfl
 ·rintro zs H2 ⟨rfl,rfl⟩ D hD
  rw[PQ]
  exact kk D _ (ak hD _) hD af
 ·rintro i zs H2 ⟨_,rfl⟩
  rw[PB,PB,Rn]
  exact Pz _
end
end K8
namespace K8
open PySem L2
local macro_rules | `(tactic| walk_at "cc") => `(tactic| first | exact ⟨by decide, by decide⟩ | (show (0 : Int) < _; decide) | (show (0 : Int) < _; omega) | (show (0 : Int) ≤ _; omega) | exact ⟨by decide, by decide, by decide⟩ | exact ⟨by omega, by omega, by decide⟩ | exact Or.inl ⟨by decide, by decide⟩ | exact Or.inl ⟨by omega, by omega⟩)
local macro_rules | `(tactic| walk_at "rd") => `(tactic| repeat (first | refine ⟨_, rfl, ?_⟩ | refine ⟨_, _, rfl, rfl, ?_⟩ | refine ⟨rfl, ?_⟩ | (refine ⟨?cc, ?_⟩; (case cc => walk_at "cc"))))
theorem vX(S T:Nat->Bool):∀ l:List Nat,par (fun t=>S t ^^ T t) l=(par S l ^^ par T l)
 |[]=>rfl
 |d::l=>by
  rw[aK,aK,aK,vX S T l]
  cases S (d/2)<;>cases T (d/2)<;>cases par S l<;>cases par T l<;>rfl
theorem dM{S T:Nat->Bool}:∀{l:List Nat},(∀ d∈l,S (d/2)=T (d/2))->par S l=par T l
 |[],_=>rfl
 |d::l,h=>by rw[aK,aK,h d (PH ..),dM fun x hx=>h x (PD _ hx)]
theorem EK:∀ l:List Nat,par (fun _=>false) l=false
 |[]=>rfl
 |d::l=>by rw[aK,EK l];rfl
theorem Iz(i:Nat):∀{l:List Nat},l.Nodup->par (fun t=>decide (t=i)) l=(decide (2*i∈l) ^^ decide (2*i+1∈l))
 |[],_=>rfl
 |d::l,nd=>by
  obtain⟨n1,n2⟩:=PF.mp nd
  rw[aK,Iz i n2]
  by_cases c0:d=2*i
  ·subst c0
   rw[decide_eq_true (show 2*i/2=i by omega),decide_eq_false n1,decide_eq_true (PH ..)]
   have:decide (2*i+1∈2*i::l)=decide (2*i+1∈l):=decide_eq_decide.mpr ⟨fun z=>(Pw.mp z).elim (fun y=>by omega) id,PD _⟩
   rw[this]
   cases decide (2*i+1∈l)<;>rfl
  ·have a0:decide (2*i∈d::l)=decide (2*i∈l):=decide_eq_decide.mpr ⟨fun z=>(Pw.mp z).elim (fun y=>absurd y.symm c0) id,PD _⟩
   by_cases c1:d=2*i+1
   ·subst c1
    rw[decide_eq_true (show(2*i+1)/2=i by omega),a0,decide_eq_false n1,decide_eq_true (PH ..)]
    cases decide (2*i∈l)<;>rfl
   ·have a1:decide (2*i+1∈d::l)=decide (2*i+1∈l):=decide_eq_decide.mpr ⟨fun z=>(Pw.mp z).elim (fun y=>absurd y.symm c1) id,PD _⟩
    rw[decide_eq_false (show ¬ d/2=i by omega),a0,a1]
    cases decide (2*i∈l)<;>cases decide (2*i+1∈l)<;>rfl
structure Dl(N:Nat)(rs:List (List Nat))(ls:List KF.Lk):Prop where
 nd:rs.flatten.Nodup
 all:∀ d,d<2*N->d∈rs.flatten
 lt:∀ r∈rs,∀ d∈r,d<2*N
 rn:∀ r∈rs,r.Nodup
 ln:ls.length=N
 sd:∀(i:Nat)(l:KF.Lk),ls[i]?=some l->(∃ r,rs[l.1]?=some r/\2*i∈r)/\∃ r,rs[l.2.1]?=some r/\2*i+1∈r
theorem Dl.odd{N:Nat}{rs:List (List Nat)}{ls:List KF.Lk}(D:Dl N rs ls)(u:Nat){a:Nat}{R:List Nat}(hR:rs[a]?=some R):∀ i,i<=N->(KF.oddE ls u i).testBit a=par (fun t=>u.testBit t&&decide (t<i)) R
 |0,_=>by
  show(0:Nat).testBit a=_
  rw[Qu]
  exact((dM fun d _=>by rw[decide_eq_false (QA _),RS]).trans (EK R)).symm
 |i+1,h=>by
  have ih:=D.odd u hR i (by omega)
  obtain⟨l,hl⟩:∃ l,ls[i]?=some l:=⟨_,Pq (by rw[D.ln];omega)⟩
  obtain⟨⟨r,r1,r2⟩,⟨r',s1,s2⟩⟩:=D.sd i l hl
  have nR:=D.rn R (Pr hR)
  have b0:decide (2*i∈R)=decide (l.1=a):=decide_eq_decide.mpr ⟨fun z=>q9 D.nd r1 hR r2 z,fun z=>by rw[z,hR]at r1;cases r1;exact r2⟩
  have b1:decide (2*i+1∈R)=decide (l.2.1=a):=decide_eq_decide.mpr ⟨fun z=>q9 D.nd s1 hR s2 z,fun z=>by rw[z,hR]at s1;cases s1;exact s2⟩
  unfold KF.oddE
  by_cases c:u.testBit i=true
  ·rw[if_pos c,QF,ih,KF.lkA_is hl]
   unfold KF.endX
   rw[QF,Qb,Qb,← b0,← b1,← Iz i nR,← vX]
   refine dM fun d _=>?_
   by_cases z:d/2=i
   ·rw[z,c,decide_eq_false (Qs i),decide_eq_true rfl,decide_eq_true (QE i)];rfl
   ·rw[decide_eq_false z,RQ]
    congr 1
    exact decide_eq_decide.mpr (by omega)
  ·rw[if_neg c,ih]
   refine dM fun d _=>?_
   by_cases z:d/2=i
   ·have c':u.testBit i=false:=by cases y:u.testBit i;rfl;exact absurd y c
    rw[z,c'];rfl
   ·congr 1
    exact decide_eq_decide.mpr (by omega)
theorem Dl.oddN{N:Nat}{rs:List (List Nat)}{ls:List KF.Lk}(D:Dl N rs ls)(u:Nat){a:Nat}{R:List Nat}(hR:rs[a]?=some R):(KF.oddE ls u N).testBit a=par (fun t=>u.testBit t) R:=by
 rw[D.odd u hR N (Pz _)]
 refine dM fun d hd=>?_
 have:=D.lt R (Pr hR) d hd
 rw[decide_eq_true (show d/2<N by omega),Tj]
theorem Dl.rooms{N:Nat}{rs:List (List Nat)}{ls:List KF.Lk}(D:Dl N rs ls):∀ l∈ls,l.1<rs.length/\l.2.1<rs.length:=fun l hl=>by
 obtain⟨i,hi⟩:=Q6 hl
 obtain⟨⟨_,r1,_⟩,⟨_,s1,_⟩⟩:=D.sd i l hi
 exact⟨(Pp.mp r1).1,(Pp.mp s1).1⟩
theorem y9{n:Nat}{ls:List KF.Lk}(hl:∀ l∈ls,l.1<n/\l.2.1<n)(u:Nat):∀ i,i<=ls.length->KF.oddE ls u i<2^n
 |0,_=>QT n
 |i+1,h=>by
  unfold KF.oddE
  have ih:=y9 hl u i (by omega)
  split
  ·obtain⟨l,e⟩:∃ l,ls[i]?=some l:=⟨_,Pq (by omega)⟩
   obtain⟨l1,l2⟩:=hl l (Pr e)
   rw[KF.lkA_is e]
   exact Rg ih (Rg (QI (by decide) l1) (QI (by decide) l2))
  ·exact ih
theorem D6{x y n:Nat}(hx:x<2^n)(hy:y<2^n)(h:∀ a,a<n->x.testBit a=y.testBit a):x=y:=Qt fun a=>by
 by_cases c:a<n
 ·exact h a c
 ·rw[Rv (Qd hx (QD (by decide) (by omega))),Rv (Qd hy (QD (by decide) (by omega)))]
def phi(F:Nat->Bool)(x:Nat):Nat->Bool
 |0=>false
 |n+1=>phi F x n ^^ (F n&&x.testBit n)
theorem vQ(F:Nat->Bool)(x y:Nat):∀ n,phi F (x^^^y) n=(phi F x n ^^ phi F y n)
 |0=>rfl
 |n+1=>by
  unfold phi
  rw[vQ F x y n,QF]
  cases phi F x n<;>cases phi F y n<;>cases F n<;>cases x.testBit n<;>cases y.testBit n<;>rfl
theorem vP(F:Nat->Bool):∀ n,phi F 0 n=false
 |0=>rfl
 |n+1=>by unfold phi;rw[vP F n,Qu,RS];rfl
theorem B9(F:Nat->Bool)(a:Nat):∀ n,phi F (2^a) n=(F a&&decide (a<n))
 |0=>by unfold phi;rw[decide_eq_false (QA _),RS]
 |n+1=>by
  unfold phi
  rw[B9 F a n,Qb]
  by_cases c:a=n
  ·subst c
   rw[decide_eq_false (Qs _),decide_eq_true rfl,decide_eq_true (QE _),RS,Ru]
  ·rw[decide_eq_false c,RS,RQ]
   congr 1
   exact decide_eq_decide.mpr (by omega)
theorem Iu{n:Nat}{ls:List KF.Lk}(hl:∀ l∈ls,l.1<n/\l.2.1<n)(F:Nat->Bool)(u t:Nat)(hF:∀ (i:Nat) (l:KF.Lk),i≠t->ls[i]?=some l->F l.1=F l.2.1){lt:KF.Lk}(ht:ls[t]?=some lt)(hu:u.testBit t=true):∀ i,i<=ls.length->phi F (KF.oddE ls u i) n=(decide (t<i)&&(F lt.1 ^^ F lt.2.1))
 |0,_=>by
  show phi F 0 n=_
  rw[vP,decide_eq_false (QA _),Q7]
 |i+1,h=>by
  have ih:=Iu hl F u t hF ht hu i (by omega)
  obtain⟨l,e⟩:∃ l,ls[i]?=some l:=⟨_,Pq (by omega)⟩
  obtain⟨l1,l2⟩:=hl l (Pr e)
  have pe:phi F (KF.endX l) n=(F l.1 ^^ F l.2.1):=by
   unfold KF.endX
   rw[vQ,B9,B9,decide_eq_true l1,decide_eq_true l2,Tj,Tj]
  unfold KF.oddE
  by_cases c:t=i
  ·subst c
   rw[if_pos hu,vQ,ih,KF.lkA_is e,pe]
   rw[ht]at e
   cases e
   rw[decide_eq_false (Qs _),decide_eq_true (QE _),Q7,Ru,QL]
  ·have dd:decide (t<i+1)=decide (t<i):=decide_eq_decide.mpr (by omega)
   rw[dd]
   split
   ·rw[vQ,ih,KF.lkA_is e,pe,hF i l (fun z=>c z.symm) e,SG,RQ]
   ·exact ih
theorem E3{m:Nat}{es:En}{ts:List (List Nat)}{S Pl:Nat->Bool}(w:bz m es ts)(h:Ez es S Pl){r:List Nat}(c:CR (fol es ts) (2*es.length) r):par S r=false:=by
 obtain⟨x,l,rfl,ch⟩:=c.ch
 have hx:=c.lt x (PH ..)
 have:=xG w h ch hx (fun t ht=>c.lt t (PD _ ht)) hx
 rw[vZ]at this
 rw[aK]
 have e2:par S [x]=S (x/2):=by rw[aK];exact RQ _
 rw[e2,SG]at this
 rw[SH]
 exact this
theorem Dl.last{m N:Nat}{es:En}{ts rs:List (List Nat)}{ls:List KF.Lk}(D:Dl N rs ls)(w:bz m es ts)(hN:es.length=N)(cr:∀ r∈rs,CR (fol es ts) (2*es.length) r)(F:Nat->Bool){t:Nat}{lt:KF.Lk}(ht:ls[t]?=some lt)(hF:∀ (i:Nat) (l:KF.Lk),i≠t->ls[i]?=some l->F l.1=F l.2.1):F lt.1=F lt.2.1:=by
 have tN:t<N:=by rw[← D.ln];exact(Pp.mp ht).1
 obtain⟨e,he⟩:∃ e,es[t]?=some e:=⟨_,Pq (by omega)⟩
 obtain⟨_,_,ne⟩:=w.ends e (Pr he)
 obtain⟨S,hS⟩:∃ S:Nat->Bool,Ez es S (fun p=>decide (p=e.1)):=⟨fun s=>match es[s]? with | some x=>(decide (x.1=e.1) ^^ decide (x.2=e.1)) | none=>false,fun s x hx=>by show(match es[s]? with | some x=>(decide (x.1=e.1) ^^ decide (x.2=e.1)) | none=>false)=_;rw[hx]⟩
 have hu:(MK S N).testBit t=true:=by
  rw[bL,decide_eq_true tN,hS t e he]
  show(true&&(decide (e.1=e.1) ^^ decide (e.2=e.1)))=true
  rw[decide_eq_true rfl,decide_eq_false (Ne.symm ne)]
  rfl
 have z0:KF.oddE ls (MK S N) N=0:=by
  refine D6 (n:=rs.length) (by rw[← D.ln];exact y9 D.rooms _ _ (Pz _)) (QT _) fun a ha=>?_
  have hR:=Pq ha
  rw[D.oddN _ hR,Qu,← E3 w hS (cr _ (Pr hR))]
  refine dM fun d hd=>?_
  have:=D.lt _ (Pr hR) d hd
  rw[bL,decide_eq_true (show d/2<N by omega),QL]
 have:=Iu D.rooms F (MK S N) t hF ht hu N (by rw[D.ln];exact Pz _)
 rw[z0,vP,decide_eq_true tN,QL]at this
 cases a:F lt.1<;>cases b:F lt.2.1<;>rw[a,b]at this
 ·cases this
 ·cases this
theorem vD{l:List Nat}(nd:l.Nodup){G:Nat->Bool}(h:∀ s∈l,G (nxt l s)=G s):∀{s s':Nat},s∈l->s'∈l->G s=G s':=by
 have key:∀ j,(hj:j<l.length)->G l[j]=G (l[0]'(by omega)):=fun j=>by
  induction j with
  |zero=>intro _;rfl
  |succ j ih =>
   intro hj
   have hm:l[j]'(by omega)∈l:=List.getElem_mem _
   have e:=iT hm
   rw[nd.idxOf_getElem j (by omega),Q5 hj,Pq hj]at e
   rw[P5 e,h _ hm]
   exact ih (by omega)
 intro s s' h1 h2
 obtain⟨j,hj,rfl⟩:=Q9 h1
 obtain⟨i,hi,rfl⟩:=Q9 h2
 rw[key j hj,key i hi]
theorem Dl.whole{m N:Nat}{es:En}{ts rs:List (List Nat)}{ls:List KF.Lk}(D:Dl N rs ls)(g:Gr m es ts)(hN:es.length=N)(cr:∀ r∈rs,CR (fol es ts) (2*es.length) r)(F:Nat->Bool)(hF:∀ (i:Nat) (l:KF.Lk),ls[i]?=some l->F l.1=F l.2.1){a b:Nat}(ha:a<rs.length)(hb:b<rs.length):F a=F b:=by
 have w:=g.w
 obtain⟨G,hG⟩:∃ G:Nat->Bool,∀ s l,ls[s]?=some l->G s=F l.1:=⟨fun s=>match ls[s]? with | some l=>F l.1 | none=>false,fun s l h=>by show(match ls[s]? with | some l=>F l.1 | none=>false)=_;rw[h]⟩
 have c:∀{a:Nat}{r:List Nat}{d:Nat},rs[a]?=some r->d∈r->F a=G (d/2):=fun{a r d} h1 h2=>by
  have hd:=D.lt r (Pr h1) d h2
  obtain⟨l,hl⟩:∃ l,ls[d/2]?=some l:=⟨_,Pq (by rw[D.ln];omega)⟩
  obtain⟨⟨r1,x1,x2⟩,⟨r2,y1,y2⟩⟩:=D.sd _ l hl
  rw[hG _ l hl]
  by_cases z:d%2=0
  ·rw[show 2*(d/2)=d by omega]at x2
   rw[q9 D.nd h1 x1 h2 x2]
  ·rw[show 2*(d/2)+1=d by omega]at y2
   rw[q9 D.nd h1 y1 h2 y2,hF _ l hl]
 have fl:∀ d,d<2*N->G (fol es ts d/2)=G (d/2):=fun d hd=>by
  obtain⟨r,hr,hdr⟩:=Qo.mp (D.all d hd)
  obtain⟨a,ha⟩:=Q6 hr
  rw[← c ha hdr,← c ha ((cr r hr).closed d hdr)]
 have row:∀{p:Nat}{l:List Nat},ts[p]?=some l->∀ s∈l,G (nxt l s)=G s:=fun{p l} hl s hs=>by
  obtain⟨e,he,hp⟩:=(w.mem p l hl s).mp hs
  have sl:=(Pp.mp he).1
  obtain⟨d,d1,d2,d3⟩:∃ d,d/2=s/\hd es d=p/\d<2*es.length:=by
   rcases hp with z | z
   ·refine⟨2*s+1,by omega,?_,by omega⟩
    unfold hd
    rw[show(2*s+1)/2=s by omega,he]
    show(if(2*s+1)%2=0 then e.2 else e.1)=p
    rw[if_neg (by omega)]
    exact z
   ·refine⟨2*s,by omega,?_,by omega⟩
    unfold hd
    rw[show 2*s/2=s by omega,he]
    show(if 2*s%2=0 then e.2 else e.1)=p
    rw[if_pos (by omega)]
    exact z
  obtain⟨l',_,f1,_,_,_,_,_,_,f2,_⟩:=w.foll d3
  rw[d2,hl]at f1
  cases f1
  rw[← d1,← f2]
  exact fl d (by omega)
 obtain⟨r0,hr0⟩:∃ r,rs[a]?=some r:=⟨_,Pq ha⟩
 obtain⟨r1,hr1⟩:∃ r,rs[b]?=some r:=⟨_,Pq hb⟩
 obtain⟨d0,hd0⟩:=(cr r0 (Pr hr0)).ne
 obtain⟨d1,hd1⟩:=(cr r1 (Pr hr1)).ne
 rw[c hr0 hd0,c hr1 hd1]
 have l0:=D.lt _ (Pr hr0) _ hd0
 have l1:=D.lt _ (Pr hr1) _ hd1
 obtain⟨e0,k0,_,_,_,p0,q0,m0⟩:=w.at (d:=d0) (by omega)
 obtain⟨e1,k1,_,_,_,p1,q1,m1⟩:=w.at (d:=d1) (by omega)
 have:=g.conn (fun p=>∃ l s,ts[p]?=some l/\s∈l/\G s=G (d0/2)) (fun e he=>by
  obtain⟨t,ht⟩:=Q6 he
  obtain⟨b1,b2,_⟩:=w.ends e he
  obtain⟨u,hu⟩:∃ l,ts[e.1]?=some l:=⟨_,Pq (by rw[w.len];exact b1)⟩
  obtain⟨v,hv⟩:∃ l,ts[e.2]?=some l:=⟨_,Pq (by rw[w.len];exact b2)⟩
  have tu:=(w.mem _ u hu t).mpr ⟨e,ht,.inl rfl⟩
  have tv:=(w.mem _ v hv t).mpr ⟨e,ht,.inr rfl⟩
  constructor
  ·rintro⟨l,s,x1,x2,x3⟩
   rw[hu]at x1
   cases x1
   exact⟨v,t,hv,tv,(vD (w.nd _ _ hu) (row hu) tu x2).trans x3⟩
  ·rintro⟨l,s,x1,x2,x3⟩
   rw[hv]at x1
   cases x1
   exact⟨u,t,hu,tu,(vD (w.nd _ _ hv) (row hv) tv x2).trans x3⟩) (hd es d0) (hd es d1) p0 p1 ⟨k0,_,q0,m0,rfl⟩
 obtain⟨l,s,x1,x2,x3⟩:=this
 rw[q1]at x1
 cases x1
 rw[vD (w.nd _ _ q1) (row q1) m1 x2]
 exact x3.symm
theorem er_at{ls:List KF.Lk}{t i:Nat}{l:KF.Lk}(hi:i≠t)(h:ls[i]?=some l):∃ j:Nat,(ls.eraseIdx t)[j]?=some l:=by
 by_cases c:i<t
 ·exact⟨i,by rw[RY c];exact h⟩
 ·refine⟨i-1,?_⟩
  rw[RZ (by omega),show i-1+1=i by omega]
  exact h
theorem Dl.conn{m N:Nat}{es:En}{ts rs:List (List Nat)}{ls:List KF.Lk}(D:Dl N rs ls)(g:Gr m es ts)(hN:es.length=N)(cr:∀ r∈rs,CR (fol es ts) (2*es.length) r){t:Nat}(ht:t<N):KF.Conn rs.length (ls.eraseIdx t):=fun b hb=>by
 obtain⟨F,hF⟩:∃ F:Nat->Bool,∀ b,F b=true↔∃ x,KF.Wk (ls.eraseIdx t) 0 b x:=⟨fun b=>@decide (∃ x,KF.Wk (ls.eraseIdx t) 0 b x) (Th _),fun b=>by rw[@decide_eq_true_iff _ (Th _)]⟩
 have cl:∀(i:Nat)(l:KF.Lk),i≠t->ls[i]?=some l->F l.1=F l.2.1:=fun i l hi hl=>by
  obtain⟨j,hj⟩:=er_at hi hl
  have h12:F l.1=true->F l.2.1=true:=fun z=>by
   obtain⟨x,hx⟩:=(hF _).mp z
   have:=KF.Wk.step hx hj (.inl rfl)
   have e:KF.bey l l.1=l.2.1:=by unfold KF.bey;rw[if_pos rfl]
   rw[e]at this
   exact(hF _).mpr ⟨_,this⟩
  have h21:F l.2.1=true->F l.1=true:=fun z=>by
   obtain⟨x,hx⟩:=(hF _).mp z
   have:=KF.Wk.step hx hj (.inr rfl)
   by_cases q:l.2.1=l.1
   ·rw[← q];exact z
   ·have e:KF.bey l l.2.1=l.1:=by unfold KF.bey;rw[if_neg q]
    rw[e]at this
    exact(hF _).mpr ⟨_,this⟩
  cases p:F l.1 with
  |true=>rw[h12 p]
  |false =>
   cases q:F l.2.1 with
   |true=>rw[h21 q]at p;cases p
   |false=>rfl
 obtain⟨lt,hlt⟩:∃ l,ls[t]?=some l:=⟨_,Pq (by rw[D.ln];exact ht)⟩
 have cl2:∀(i:Nat)(l:KF.Lk),ls[i]?=some l->F l.1=F l.2.1:=fun i l hl=>by
  by_cases c:i=t
  ·subst c
   exact D.last g.w hN cr F hl cl
  ·exact cl i l c hl
 have:=D.whole g hN cr F cl2 (a:=0) (b:=b) (by omega) hb
 rw[(hF 0).mpr ⟨0,.nil 0⟩]at this
 exact(hF b).mp this.symm
theorem er_lk{ls:List KF.Lk}{t i:Nat}:KF.lkA (ls.eraseIdx t) i=if i<t then KF.lkA ls i else KF.lkA ls (i+1):=by
 unfold KF.lkA
 rw[Qm]
 by_cases c:i<t
 ·rw[RY c,if_pos c,Qm]
 ·rw[RZ (by omega),if_neg c,Qm]
structure Ins(t:Nat)(u u':Nat):Prop where
 lo:∀ j,j<t->u'.testBit j=u.testBit j
 hi:∀ j,t<=j->u'.testBit j=u.testBit (j+1)
theorem Ins.odd1{ls:List KF.Lk}{t u u':Nat}(h:Ins t u u'):∀ i,i<=t->KF.oddE (ls.eraseIdx t) u' i=KF.oddE ls u i/\KF.cstU (ls.eraseIdx t) u' i=KF.cstU ls u i
 |0,_=>⟨rfl,rfl⟩
 |i+1,hi=>by
  obtain⟨a,b⟩:=h.odd1 (ls:=ls) i (by omega)
  unfold KF.oddE KF.cstU
  rw[a,b,h.lo i (by omega),er_lk,if_pos (show i<t by omega)]
  exact⟨rfl,rfl⟩
theorem Ins.odd2{ls:List KF.Lk}{t u u':Nat}(h:Ins t u u'):∀ i,KF.oddE ls u (t+i+1)=KF.oddE (ls.eraseIdx t) u' (t+i)^^^(if u.testBit t=true then KF.endX (KF.lkA ls t) else 0)/\KF.cstU ls u (t+i+1)=KF.cstU (ls.eraseIdx t) u' (t+i)+(if u.testBit t=true then(KF.lkA ls t).2.2 else 0)
 |0=>by
  obtain⟨a,b⟩:=h.odd1 (ls:=ls) t (Pz _)
  show KF.oddE ls u (t+1)=KF.oddE (ls.eraseIdx t) u' t^^^_/\KF.cstU ls u (t+1)=KF.cstU (ls.eraseIdx t) u' t+_
  rw[a,b]
  show(if u.testBit t=true then KF.oddE ls u t^^^KF.endX (KF.lkA ls t) else KF.oddE ls u t)=_/\(if u.testBit t=true then KF.cstU ls u t+(KF.lkA ls t).2.2 else KF.cstU ls u t)=_
  split
  ·exact⟨rfl,rfl⟩
  ·exact⟨(Rx _).symm,(SM _).symm⟩
 |i+1=>by
  obtain⟨a,b⟩:=h.odd2 (ls:=ls) i
  have e1:KF.oddE ls u (t+(i+1)+1)=if u.testBit (t+i+1)=true then KF.oddE ls u (t+i+1)^^^KF.endX (KF.lkA ls (t+i+1)) else KF.oddE ls u (t+i+1):=rfl
  have e2:KF.cstU ls u (t+(i+1)+1)=if u.testBit (t+i+1)=true then KF.cstU ls u (t+i+1)+(KF.lkA ls (t+i+1)).2.2 else KF.cstU ls u (t+i+1):=rfl
  have e3:KF.oddE (ls.eraseIdx t) u' (t+(i+1))=if u'.testBit (t+i)=true then KF.oddE (ls.eraseIdx t) u' (t+i)^^^KF.endX (KF.lkA (ls.eraseIdx t) (t+i)) else KF.oddE (ls.eraseIdx t) u' (t+i):=rfl
  have e4:KF.cstU (ls.eraseIdx t) u' (t+(i+1))=if u'.testBit (t+i)=true then KF.cstU (ls.eraseIdx t) u' (t+i)+(KF.lkA (ls.eraseIdx t) (t+i)).2.2 else KF.cstU (ls.eraseIdx t) u' (t+i):=rfl
  rw[e1,e2,e3,e4,a,b,h.hi (t+i) (by omega),er_lk,if_neg (show ¬ t+i<t by omega)]
  by_cases c:u.testBit (t+i+1)=true
  ·rw[if_pos c,if_pos c,if_pos c,if_pos c]
   refine⟨?_,by omega⟩
   rw[QB,QB]
   congr 1
   exact RT _ _
  ·rw[if_neg c,if_neg c,if_neg c,if_neg c]
   exact⟨rfl,rfl⟩
theorem Ins.all{ls:List KF.Lk}{t u u' N:Nat}(h:Ins t u u')(hN:ls.length=N)(ht:t<N):KF.oddE ls u N=KF.oddE (ls.eraseIdx t) u' (ls.eraseIdx t).length^^^(if u.testBit t=true then KF.endX (KF.lkA ls t) else 0)/\KF.cstU ls u N=KF.cstU (ls.eraseIdx t) u' (ls.eraseIdx t).length+(if u.testBit t=true then(KF.lkA ls t).2.2 else 0):=by
 obtain⟨i,hi⟩:∃ i,N=t+i+1:=⟨N-t-1,by omega⟩
 have el:(ls.eraseIdx t).length=t+i:=by rw[SV (by omega)];omega
 rw[el,hi]
 exact h.odd2 i
def AllEv(rs:List (List Nat))(S M:Nat):Prop:=∀(k:Nat)(r:List Nat),rs[k]?=some r->parR S r=parR M r
theorem uz(S:Nat):∀ r:List Nat,par (fun t=>S.testBit t) r=decide (parR S r=1)
 |[]=>rfl
 |d::r=>by
  have ih:=uz S r
  rw[aK,ih]
  unfold parR
  rw[HN,O8]
  cases S.testBit (d/2) with
  |true =>
   rw[if_pos rfl,Ti]
   by_cases c:sm r (fun d=>bt S (d/2))%2=1
   ·rw[decide_eq_true c,decide_eq_false (by omega)];rfl
   ·rw[decide_eq_false c,decide_eq_true (by omega)];rfl
  |false =>
   rw[if_neg Qe,Ru,Nat.zero_add]
theorem Lm{m:Nat}{es:En}{ts:List (List Nat)}{ks:Kn}{rs:List (List Nat)}{S:Nat}(g:Gr m es ts)(ro:cY (fol es ts) (2*es.length) (2*es.length) rs)(ev:AllEv rs S (MK (aX ks) es.length)):∃ Pl:Nat->Bool,Pl 0=false/\Ez es (fun t=>S.testBit t ^^ aX ks t) Pl:=by
 obtain⟨Pl,h⟩:=g.cut (fun t=>S.testBit t ^^ aX ks t) fun r hr=>by
  obtain⟨d,hd⟩:=hr.ne
  obtain⟨q,q1,q2⟩:=Qo.mp (ro.all d (hr.lt d hd))
  have cq:=(ro.ring q q1).cr
  have pm:r.Perm q:=(QM hr.nd cq.nd).mpr fun t=>⟨hr.same cq hd q2 t,cq.same hr q2 hd t⟩
  rw[vY _ pm,vX]
  have e1:par (aX ks) q=par (fun t=>(MK (aX ks) es.length).testBit t) q:=dM fun x hx=>by
   have:=cq.lt x hx
   rw[bL,decide_eq_true (by omega),QL]
  obtain⟨k,hk⟩:=Q6 q1
  rw[e1,uz,uz,ev k q hk]
  exact SG _
 refine⟨fun p=>Pl p ^^ Pl 0,SG _,fun t e he=>?_⟩
 rw[h t e he]
 show _=((Pl e.1 ^^ Pl 0) ^^ (Pl e.2 ^^ Pl 0))
 cases Pl e.1<;>cases Pl e.2<;>cases Pl 0<;>rfl
def UB(es:En)(ks:Kn)(L t:Nat):Bool:=match es[t]? with | some e=>(L.testBit e.1 ^^ L.testBit e.2 ^^ aX ks t) | none=>false
theorem KS{es:En}{ks:Kn}{L t:Nat}{e:Nat×Nat}(h:es[t]?=some e):UB es ks L t=(L.testBit e.1 ^^ L.testBit e.2 ^^ aX ks t):=by unfold UB;rw[h]
def oc(st:Nat->Int)(t:Nat)(S:Nat->Bool):Nat->Int
 |0=>0
 |i+1=>if i≠t/\S i=true then oc st t S i+st i else oc st t S i
theorem wF{st:Nat->Int}{t:Nat}{S S':Nat->Bool}:∀{N:Nat},(∀ i,i<N->S i=S' i)->oc st t S N=oc st t S' N
 |0,_=>rfl
 |i+1,h=>by unfold oc;rw[wF fun j hj=>h j (by omega),h i (by omega)]
theorem Kb(ls:List KF.Lk)(t u:Nat):∀ i,KF.cstU ls u i=oc (fun k=>(KF.lkA ls k).2.2) t (fun k=>u.testBit k) i+(if t<i/\u.testBit t=true then(KF.lkA ls t).2.2 else 0)
 |0=>by
  show(0:Int)=0+_
  rw[if_neg fun z=>QA _ z.1]
  rfl
 |i+1=>by
  unfold KF.cstU oc
  rw[Kb ls t u i]
  by_cases c:i=t
  ·subst c
   rw[if_neg (fun z:i≠i/\_=>z.1 rfl),if_neg (fun z:i<i/\_=>Qs _ z.1)]
   by_cases b:u.testBit i=true
   ·rw[if_pos b,if_pos ⟨QE _,b⟩];omega
   ·rw[if_neg b,if_neg (fun z=>b z.2)]
  ·have e:(t<i+1/\u.testBit t=true)↔(t<i/\u.testBit t=true):=⟨fun z=>⟨by omega,z.2⟩,fun z=>⟨by omega,z.2⟩⟩
   by_cases b:u.testBit i=true
   ·have p1:i≠t/\u.testBit i=true:=⟨c,b⟩
    rw[if_pos b,if_pos p1]
    by_cases q:t<i/\u.testBit t=true
    ·rw[if_pos q,if_pos (e.mpr q)];omega
    ·rw[if_neg q,if_neg (fun z=>q (e.mp z))];omega
   ·rw[if_neg b,if_neg (fun z:i≠t/\u.testBit i=true=>b z.2)]
    by_cases q:t<i/\u.testBit t=true
    ·rw[if_pos q,if_pos (e.mpr q)]
    ·rw[if_neg q,if_neg (fun z=>q (e.mp z))]
def skp(t j:Nat):Nat:=if j<t then j else j+1
theorem ins_mk{N t:Nat}(ht:t<N)(S:Nat->Bool):Ins t (MK S N) (MK (fun j=>S (skp t j)) (N-1)) where
 lo j hj:=by
  rw[bL,bL]
  show(decide (j<N-1)&&S (if j<t then j else j+1))=_
  rw[if_pos hj,decide_eq_true (show j<N-1 by omega),decide_eq_true (show j<N by omega)]
 hi j hj:=by
  rw[bL,bL]
  show(decide (j<N-1)&&S (if j<t then j else j+1))=_
  rw[if_neg (by omega)]
  congr 1
  exact decide_eq_decide.mpr (by omega)
theorem zY:∀ PL:List (Nat×Nat),(KF.flat PL).length%2=0
 |[]=>rfl
 |p::PL=>by
  rw[KF.flat_cons,Qc,Qc]
  have:=zY PL
  omega
structure Oth(m:Nat)(es:En)(ts:List (List Nat))(ks:Kn)(rs:List (List Nat))(ls:List KF.Lk):Prop where
 g:Gr m es ts
 ro:cY (fol es ts) (2*es.length) (2*es.length) rs
 d:Dl es.length rs ls
 kl:ks.length=es.length
 ws:∀(i:Nat)(l:KF.Lk),ls[i]?=some l->∃ k,ks[i]?=some k/\l.2.2=k.2/\0<=k.2/\k.2<=10^(30:Int).toNat
 m2:2<=m
 few:es.length<=8
theorem Oth.cr{m:Nat}{es:En}{ts:List (List Nat)}{ks:Kn}{rs:List (List Nat)}{ls:List KF.Lk}(O:Oth m es ts ks rs ls):∀ r∈rs,CR (fol es ts) (2*es.length) r:=fun r hr=>(O.ro.ring r hr).cr
def mkO(ks:Kn)(N:Nat)(ls:List KF.Lk)(t:Nat)(b:Bool):Nat:=KF.oddE ls (MK (aX ks) N) N^^^(if b=true then KF.endX (KF.lkA ls t) else 0)
theorem K5{a b c:Nat}(h:a=b^^^c):b=a^^^c:=by rw[h,QB,Ry,Rx]
theorem Oth.lay{m:Nat}{es:En}{ts:List (List Nat)}{ks:Kn}{rs:List (List Nat)}{ls:List KF.Lk}(O:Oth m es ts ks rs ls)(L:Nat):KF.oddE ls (MK (UB es ks L) es.length) es.length=KF.oddE ls (MK (aX ks) es.length) es.length:=by
 refine D6 (n:=rs.length) (by rw[← O.d.ln];exact y9 O.d.rooms _ _ (Pz _)) (by rw[← O.d.ln];exact y9 O.d.rooms _ _ (Pz _)) fun a ha=>?_
 have hR:=Pq ha
 rw[O.d.oddN _ hR,O.d.oddN _ hR]
 have lt:=O.d.lt _ (Pr hR)
 obtain⟨S,hS⟩:∃ S:Nat->Bool,Ez es S (fun p=>L.testBit p):=⟨fun s=>match es[s]? with | some x=>(L.testBit x.1 ^^ L.testBit x.2) | none=>false,fun s x hx=>by show(match es[s]? with | some x=>(L.testBit x.1 ^^ L.testBit x.2) | none=>false)=_;rw[hx]⟩
 have ce:=E3 O.g.w hS (O.cr _ (Pr hR))
 have:par (fun t=>(MK (UB es ks L) es.length).testBit t) rs[a]=par (fun t=>S t ^^ (MK (aX ks) es.length).testBit t) rs[a]:=dM fun d hd=>by
  have:=lt d hd
  obtain⟨e,he⟩:∃ e,es[d/2]?=some e:=⟨_,Pq (by omega)⟩
  rw[bL,bL,decide_eq_true (show d/2<es.length by omega),QL,QL,KS he,hS _ e he]
 rw[this,vX,ce,Ru]
theorem Oth.down{m:Nat}{es:En}{ts:List (List Nat)}{ks:Kn}{rs:List (List Nat)}{ls:List KF.Lk}(O:Oth m es ts ks rs ls){t:Nat}(ht:t<es.length)(L:Nat):KF.oddE (ls.eraseIdx t) (MK (fun j=>UB es ks L (skp t j)) (es.length-1)) (ls.eraseIdx t).length=mkO ks es.length ls t (UB es ks L t)/\KF.cstU (ls.eraseIdx t) (MK (fun j=>UB es ks L (skp t j)) (es.length-1)) (ls.eraseIdx t).length=oc (fun k=>(KF.lkA ls k).2.2) t (UB es ks L) es.length:=by
 have bt:(MK (UB es ks L) es.length).testBit t=UB es ks L t:=by rw[bL,decide_eq_true ht,QL]
 obtain⟨a,b⟩:=(ins_mk ht (UB es ks L)).all (ls:=ls) O.d.ln ht
 rw[bt]at a b
 rw[O.lay L]at a
 refine⟨K5 a,?_⟩
 have:=Kb ls t (MK (UB es ks L) es.length) es.length
 rw[bt]at this
 have oe:oc (fun k=>(KF.lkA ls k).2.2) t (fun k=>(MK (UB es ks L) es.length).testBit k) es.length=oc (fun k=>(KF.lkA ls k).2.2) t (UB es ks L) es.length:=wF fun i hi=>by rw[bL,decide_eq_true hi,QL]
 rw[oe]at this
 by_cases c:UB es ks L t=true
 ·rw[if_pos c]at b
  rw[if_pos ⟨ht,c⟩]at this
  omega
 ·rw[if_neg c]at b
  rw[if_neg (fun z=>c z.2)]at this
  omega
theorem Oth.lok{m:Nat}{es:En}{ts:List (List Nat)}{ks:Kn}{rs:List (List Nat)}{ls:List KF.Lk}(O:Oth m es ts ks rs ls)(t:Nat)(hn:rs.length<=40):KF.Lok rs.length (ls.eraseIdx t) where
 n1:=hn
 l9:=by
  have h1:=List.length_eraseIdx_le ls t
  have h2:=O.d.ln
  have h3:=O.few
  omega
 sm l hl:=O.d.rooms l (Ta hl)
 w0 l hl:=by
  obtain⟨i,hi⟩:=Q6 (Ta hl)
  obtain⟨k,_,e,a,b⟩:=O.ws i l hi
  rw[e]
  refine⟨a,Int.le_trans b ?_⟩
  unfold KF.MM
  decide
theorem Oth.ways{m:Nat}{es:En}{ts:List (List Nat)}{ks:Kn}{rs:List (List Nat)}{ls:List KF.Lk}(O:Oth m es ts ks rs ls){t:Nat}(ht:t<es.length)(b:Bool):∃ L,UB es ks L t=b:=by
 obtain⟨e,he⟩:∃ e,es[t]?=some e:=⟨_,Pq ht⟩
 obtain⟨_,_,ne⟩:=O.g.w.ends e (Pr he)
 by_cases c:aX ks t=b
 ·exact⟨0,by rw[KS he,Qu,Qu,c];cases b<;>rfl⟩
 ·refine⟨2^e.1,?_⟩
  rw[KS he,Qb,Qb,decide_eq_true rfl,decide_eq_false ne]
  cases p:aX ks t<;>cases b<;>first | rfl | (rw[p]at c;exact absurd rfl c)
theorem Oth.even{m:Nat}{es:En}{ts:List (List Nat)}{ks:Kn}{rs:List (List Nat)}{ls:List KF.Lk}(O:Oth m es ts ks rs ls){t:Nat}(ht:t<es.length)(hn:rs.length<=40)(b:Bool):mkO ks es.length ls t b<2^rs.length/\(KF.bl (mkO ks es.length ls t b)).length%2=0:=by
 obtain⟨L,hL⟩:=O.ways ht b
 have ok:=O.lok t hn
 have hw:∀ l∈ls.eraseIdx t,0<=l.2.2:=fun l hl=>(ok.w0 l hl).1
 have hc:=O.d.conn O.g rfl O.cr ht
 obtain⟨h1,c,⟨PL,p1,_⟩,_⟩:=KF.low_join (KF.far_met hw hc) (MK (fun j=>UB es ks L (skp t j)) (es.length-1)) (fun l hl=>⟨(ok.sm l hl).1,(ok.sm l hl).2,KF.far_link hw hl⟩) (ls.eraseIdx t).length (Pz _)
 rw[(O.down ht L).1,hL]at h1 p1
 refine⟨h1,?_⟩
 rw[← p1.length_eq]
 exact zY PL
theorem Me{n:Nat}{ls:List KF.Lk}(ok:KF.Lok n ls)(hc:KF.Conn n ls){mk u:Nat}{cost:Int}(ho:KF.Opt (KF.farD ls) (KF.bl mk) cost)(e:KF.oddE ls u ls.length=mk):cost<=KF.cstU ls u ls.length:=by
 have hw:∀ l∈ls,0<=l.2.2:=fun l hl=>(ok.w0 l hl).1
 obtain⟨_,c,h1,h2⟩:=KF.low_join (KF.far_met hw hc) u (fun l hl=>⟨(ok.sm l hl).1,(ok.sm l hl).2,KF.far_link hw hl⟩) ls.length (Pz _)
 rw[e]at h1
 have:=ho.2 c h1
 omega
structure Lst(m:Nat)(es:En)(ks:Kn)(st:Nat->Int)(t:Nat)(b:Bool)(c:Int):Prop where
 ex:∃ L,L<2^m/\L.testBit 0=false/\UB es ks L t=b/\oc st t (UB es ks L) es.length=c
 lo:∀ L,UB es ks L t=b->c<=oc st t (UB es ks L) es.length
theorem Oth.least{m:Nat}{es:En}{ts:List (List Nat)}{ks:Kn}{rs:List (List Nat)}{ls:List KF.Lk}(O:Oth m es ts ks rs ls){t:Nat}(ht:t<es.length)(hn:rs.length<=40){b:Bool}{cost:Int}{u:Nat}(hu:u<2^(ls.eraseIdx t).length)(ho:KF.Opt (KF.farD (ls.eraseIdx t)) (KF.bl (mkO ks es.length ls t b)) cost)(e:KF.oddE (ls.eraseIdx t) u (ls.eraseIdx t).length=mkO ks es.length ls t b)(le:KF.cstU (ls.eraseIdx t) u (ls.eraseIdx t).length<=cost):Lst m es ks (fun k=>(KF.lkA ls k).2.2) t b cost:=by
 have hc:=O.d.conn O.g rfl O.cr ht
 have ok:=O.lok t hn
 have lo:∀ L,UB es ks L t=b->cost<=oc (fun k=>(KF.lkA ls k).2.2) t (UB es ks L) es.length:=fun L hL=>by
  obtain⟨h1,h2⟩:=O.down ht L
  rw[← h2]
  exact Me ok hc ho (by rw[h1,hL])
 have el:(ls.eraseIdx t).length=es.length-1:=by rw[SV (by rw[O.d.ln];exact ht),O.d.ln]
 obtain⟨S,s1,s2,s3⟩:∃ S:Nat->Bool,(∀ j,j<t->S j=u.testBit j)/\S t=b/\∀ j,t<j->S j=u.testBit (j-1):=⟨fun j=>if j<t then u.testBit j else if j=t then b else u.testBit (j-1),fun j hj=>if_pos hj,by show(if t<t then u.testBit t else if t=t then b else u.testBit (t-1))=b;rw[if_neg (Qs _),if_pos rfl],fun j hj=>by show(if j<t then u.testBit j else if j=t then b else u.testBit (j-1))=_;rw[if_neg (by omega),if_neg (by omega)]⟩
 have uh:∀ j,es.length-1<=j->u.testBit j=false:=fun j hj=>Rv (Qd hu (by rw[el];exact QD (by decide) hj))
 have I:Ins t (MK S es.length) u:=⟨fun j hj=>by rw[bL,s1 j hj,decide_eq_true (show j<es.length by omega),QL],fun j hj=>by
  rw[bL,s3 (j+1) (by omega),Nat.add_sub_cancel]
  by_cases c:j+1<es.length
  ·rw[decide_eq_true c,QL]
  ·rw[decide_eq_false c,Q7]
   exact uh j (by omega)⟩
 have bt:(MK S es.length).testBit t=b:=by rw[bL,decide_eq_true ht,QL,s2]
 obtain⟨a1,a2⟩:=I.all (ls:=ls) O.d.ln ht
 rw[bt,e]at a1
 have a3:KF.oddE ls (MK S es.length) es.length=KF.oddE ls (MK (aX ks) es.length) es.length:=by
  rw[a1]
  unfold mkO
  rw[QB,Ry,Rx]
 have ev:AllEv rs (MK S es.length) (MK (aX ks) es.length):=fun k r hr=>by
  have q1:=O.d.oddN (MK S es.length) hr
  have q2:=O.d.oddN (MK (aX ks) es.length) hr
  rw[a3,q2,uz,uz]at q1
  have l1:parR (MK S es.length) r<2:=S9 _ (by decide)
  have l2:parR (MK (aX ks) es.length) r<2:=S9 _ (by decide)
  have:=decide_eq_decide.mp q1
  omega
 obtain⟨Pl,p0,cb⟩:=Lm O.g O.ro ev
 have ub:∀ i,i<es.length->UB es ks (MK Pl m) i=S i:=fun i hi=>by
  obtain⟨x,hx⟩:∃ e,es[i]?=some e:=⟨_,Pq hi⟩
  obtain⟨e1,e2,_⟩:=O.g.w.ends x (Pr hx)
  have q:=cb i x hx
  have q':((MK S es.length).testBit i ^^ aX ks i)=(Pl x.1 ^^ Pl x.2):=q
  rw[bL,decide_eq_true hi,QL]at q'
  rw[KS hx,bL,bL,decide_eq_true e1,decide_eq_true e2,QL,QL,← q']
  cases S i<;>cases aX ks i<;>rfl
 have ubt:UB es ks (MK Pl m) t=b:=by rw[ub t ht,s2]
 have co:oc (fun k=>(KF.lkA ls k).2.2) t (UB es ks (MK Pl m)) es.length=KF.cstU (ls.eraseIdx t) u (ls.eraseIdx t).length:=by
  rw[wF (S':=fun k=>(MK S es.length).testBit k) fun i hi=>by rw[ub i hi,bL,decide_eq_true hi,QL]]
  have:=Kb ls t (MK S es.length) es.length
  rw[bt]at this a2
  by_cases c:b=true
  ·rw[if_pos ⟨ht,c⟩]at this
   rw[if_pos c]at a2
   omega
  ·rw[if_neg (fun z=>c z.2)]at this
   rw[if_neg c]at a2
   omega
 refine⟨⟨MK Pl m,?_,?_,ubt,Int.le_antisymm (by rw[co];exact le) (lo _ ubt)⟩,lo⟩
 ·refine RG _ fun i hi=>?_
  rw[bL,decide_eq_false (by omega),Q7]
 ·rw[bL,p0,RS]
end K8
namespace K8
open PySem L2
local macro_rules | `(tactic| walk_at "cc") => `(tactic| first | exact ⟨by decide, by decide⟩ | (show (0 : Int) < _; decide) | (show (0 : Int) < _; omega) | (show (0 : Int) ≤ _; omega) | exact ⟨by decide, by decide, by decide⟩ | exact ⟨by omega, by omega, by decide⟩ | exact Or.inl ⟨by decide, by decide⟩ | exact Or.inl ⟨by omega, by omega⟩)
local macro_rules | `(tactic| walk_at "rd") => `(tactic| repeat (first | refine ⟨_, rfl, ?_⟩ | refine ⟨_, _, rfl, rfl, ?_⟩ | refine ⟨rfl, ?_⟩ | (refine ⟨?cc, ?_⟩; (case cc => walk_at "cc"))))
theorem Dl.marks{N:Nat}{rs:List (List Nat)}{ls:List KF.Lk}(D:Dl N rs ls)(M:Nat):MK (oddU M rs) rs.length=KF.oddE ls M N:=by
 refine D6 (n:=rs.length) (RG _ fun i hi=>by rw[bL,decide_eq_false (by omega),Q7]) (by rw[← D.ln];exact y9 D.rooms _ _ (Pz _)) fun a ha=>?_
 have hR:=Pq ha
 rw[D.oddN _ hR,uz,bL,decide_eq_true ha,QL]
 unfold oddU
 rw[Qm,hR]
 rfl
theorem Oo{st st':Nat->Int}{t:Nat}{S:Nat->Bool}:∀{N:Nat},(∀ i,i<N->st i=st' i)->oc st t S N=oc st' t S N
 |0,_=>rfl
 |i+1,h=>by unfold oc;rw[Oo fun j hj=>h j (by omega),h i (by omega)]
def stK(ks:Kn)(t:Nat):Int:=match ks[t]? with | some k=>k.2 | none=>0
theorem MR{ks:Kn}{t:Nat}{k:Int×Int}(h:ks[t]?=some k):stK ks t=k.2:=by unfold stK;rw[h]
theorem Lst.st{m:Nat}{es:En}{ks:Kn}{st st':Nat->Int}{t:Nat}{b:Bool}{c:Int}(h:Lst m es ks st t b c)(e:∀ i,i<es.length->st i=st' i):Lst m es ks st' t b c:=by
 obtain⟨⟨L,a1,a2,a3,a4⟩,lo⟩:=h
 exact⟨⟨L,a1,a2,a3,by rw[← Oo e];exact a4⟩,fun L hL=>by rw[← Oo e];exact lo L hL⟩
theorem OF{α:Type}{R:Hp->V->α->Prop}{H:Hp}{ys:List V}{xs:List α}(h:LsAt R H ys xs)(t:Nat):LsAt R H (ys.eraseIdx t) (xs.eraseIdx t):=by
 refine⟨by rw[List.length_eraseIdx,List.length_eraseIdx,h.1],fun i x e=>?_⟩
 by_cases c:i<t
 ·rw[RY c]at e ⊢
  exact h.2 i x e
 ·rw[RZ (by omega)]at e ⊢
  exact h.2 (i+1) x e
theorem lnk_ls{H:Hp}{ks:Kn}{rs:List (List Nat)}{zs:List V}{N:Nat}(h:Hj H zs N ks rs):∃ ls:List KF.Lk,LsAt KF.LkAt H zs ls/\ls.length=N/\∀(i:Nat)(l:KF.Lk),ls[i]?=some l->((∃ r,rs[l.1]?=some r/\2*i∈r)/\∃ r,rs[l.2.1]?=some r/\2*i+1∈r)/\∃ k,ks[i]?=some k/\l.2.2=k.2:=by
 have go:∀ n,n<=N->∃ ls:List KF.Lk,LsAt KF.LkAt H (zs.take n) ls/\ls.length=n/\∀(i:Nat)(l:KF.Lk),ls[i]?=some l->((∃ r,rs[l.1]?=some r/\2*i∈r)/\∃ r,rs[l.2.1]?=some r/\2*i+1∈r)/\∃ k,ks[i]?=some k/\l.2.2=k.2:=fun n=>by
  induction n with
  |zero=>exact fun _=>⟨[],LsAt.nil,rfl,fun i l z=>by simp at z⟩
  |succ n ih =>
   intro hn
   obtain⟨ls,a,b,c⟩:=ih (by omega)
   obtain⟨k,t,x,y,r,r',h0,h1,h2,h3,h4,h5,h6⟩:=h.2 n (by omega)
   refine⟨ls++[(x,y,k.2)],?_,by rw[Px,b];rfl,fun i l e=>?_⟩
   ·rw[Qf,h1]
    exact a.snoc ⟨t,rfl,h2⟩
   ·by_cases q:i<n
    ·rw[Py (by omega)]at e
     exact c i l e
    ·have:i=n:=by
      have:=(Pp.mp e).1
      rw[Px,b]at this
      have:i<n+1:=this
      omega
     subst this
     rw[Pu (by omega),b,P1]at e
     cases e
     exact⟨⟨⟨r,h3,h4⟩,⟨r',h5,h6⟩⟩,k,h0,rfl⟩
 obtain⟨ls,a,b,c⟩:=go N (Pz _)
 rw[← h.1,Qn]at a
 exact⟨ls,a,b,c⟩
theorem BO{m:Nat}{es:En}{ts:List (List Nat)}{rs:List (List Nat)}(g:Gr m es ts)(ro:cY (fol es ts) (2*es.length) (2*es.length) rs):m+rs.length=es.length+2:=by
 obtain⟨rs',p,c⟩:=g.part
 rw[← p.same ro.part]
 exact c
structure TxtO(mg:Str->Option Value):Prop extends TxtZ mg where
 modd:∃ t,mg "MOST_ODD" = some (.int 12 t)
 n_max:mg "max" = none
def Bk(PL PS WC:Addr):Sp:=fun vs H Q _=>∃(p:Addr)(es:En)(ks:Kn)(rs:List (List Nat)),vs = [.ref p]/\WebR PL PS WC H p es ks rs/\ks.length=es.length/\es.length<=30/\rs.length<=12/\(∀ r∈rs,r.length<=900)/\∀ H',Same H H'->Q (.int ((MK (oddU (MK (aX ks) es.length) rs) rs.length:Nat):Int)) H'
def HE(TT PL PS WC:Addr):Sp:=fun vs H Q _=>∃(p:Addr)(t m:Nat)(es:En)(ts rs:List (List Nat))(ks:Kn)(S:Addr->Prop),vs = [.ref p,.int (t:Int)]/\WebF S PL PS WC H p m es ts rs ks/\Gr m es ts/\ks.length=es.length/\(∀ k∈ks,k.1=0∨k.1=1)/\(∀ k∈ks,0<=k.2/\k.2<=10^(30:Int).toNat)/\es.length<=8/\t<es.length/\Tb KF.lqF KF.lpF TT H /\
 ∀(r:Addr)(c0 c1:Int)(H':Hp),KF.SmT H H'->Tb KF.lqF KF.lpF TT H'->H' r=some (.tup [.int c0,.int c1])->Lst m es ks (stK ks) t (aX ks t) c0->Lst m es ks (stK ks) t (!aX ks t) c1->Q (.ref r) H'
def uk(s:Int):Sp:=fun vs H Q _=>∃ x:Int,vs = [.int x]/\Q (.int (if s*x > 0 then s*x else 0)) H
theorem vS{X:Cx}{x:Str}{n:Int}{pos:Pos}(hg:Gl X x)(hm:∃ t,X.mg x=some (.int n t)) (hd:(x == ("__debug__" : Str))=false:=by decide):PE X (.Name x pos) (tC (.int n)):=by
 obtain⟨t,h⟩:=hm
 exact Iw hg h ⟨t,rfl⟩ hd
theorem Kw{mk n:Nat}(h:mk<2^n):(KF.bl mk).length<=n:=fk (KF.bl_nd mk) fun x hx=>KF.bl_lt h hx
section
variable{P:Program}{w:World}{K:Pt}{mg:Str->Option Value}{base:Heap}
theorem qm:aC ["web","marks"] ["web"] (aj eM):=⟨rfl,rfl,rfl,by decide +kernel,rfl,by decide +kernel,by decide +kernel⟩
theorem LL{f f1 f2 PL PS WC:Addr}{fd d1 d2:FuncData} (F:Fun K "marks_of" "marks_of" eM f fd) (T:TxtO mg) (G_odd_rounds:Cal P w K mg base 3 "odd_rounds" ["web"] (HI PL PS WC) f1 d1) (G_ones:Cal P w K mg base 2 "ones" ["mask"] KF.spOnes f2 d2):FnOk P w K mg base CX0 4 f fd ["web"] (Bk PL PS WC):=by
 refine F.ok qm (fun vs H Q E h=>?_) (fun cdv A outer s H vs Q E hr h=>?_)
 ·obtain⟨p,es,ks,rs,rfl,_⟩:=h
  rfl
 obtain⟨p,es,ks,rs,rfl,wb,kl,few,h12,h900,kk⟩:=h
 refine⟨_,(ag (av (i:=1) qm.nd rfl (Or.inl rfl) (ay G_odd_rounds.ok (hr.mono (by decide)) rfl G_odd_rounds.mg G_odd_rounds.kp G_odd_rounds.bn .nil aP (ae (pv 0) ai)))
   (ag (bZ (aG IC (ay G_ones.ok (hr.mono (by decide)) rfl G_ones.mg G_ones.kp G_ones.bn .nil aP (ae (pv 1) ai)) (vS rfl T.modd) (aN _)) (aq cO) aS)
   (aq (aI (pv 1))))),?_⟩
 refine⟨_,rfl,p,es,ks,rs,rfl,wb,kl,few,by omega,h900,fun H1 s1=>?_⟩
 have kk':=fun H2 (s2:Same H1 H2)=>kk H2 (s1.trans s2)
 have lt:MK (oddU (MK (aX ks) es.length) rs) rs.length<2^rs.length:=RG _ fun i hi=>by rw[bL,decide_eq_false (by omega),Q7]
 generalize MK (oddU (MK (aX ks) es.length) rs) rs.length=mk at lt kk' ⊢
 have bf:=Kw lt
 refine⟨_,rfl,mk,rfl,Qd lt (QD (by decide) (by omega)),fun H2 s2=>?_⟩
 refine⟨_,_,rfl,rfl,_,rfl,ite2 (fun z=>absurd (of_decide_eq_true z) (by omega)) (fun _=>?_)⟩
 exact⟨_,rfl,kk' _ s2⟩
theorem vy:aC ["pull"] ["pull"] (aj cC):=⟨rfl,rfl,rfl,by decide +kernel,rfl,by decide +kernel,by decide +kernel⟩
theorem ok_pa{f:Addr}{fd:FuncData} (F:Fun K "paid_alike" "paid_alike" cC f fd) (T:TxtO mg):FnOk P w K mg base CX0 1 f fd ["pull"] (uk (-1)):=by
 refine F.ok vy (fun vs H Q E h=>?_) (fun cdv A outer s H vs Q E hr h=>?_)
 ·obtain⟨x,rfl,_⟩:=h
  rfl
 obtain⟨x,rfl,kk⟩:=h
 refine⟨_,(aq (aI (aE (rR rfl) (by rfl) T.n_max Ks (ae ah (ae (pe_un MN (pv 0)) ai))))),?_⟩
 refine⟨_,rfl,_,rfl,_,_,rfl,?_⟩
 rw[show(-1:Int)*x = -x by omega]at kk
 exact kk
theorem tG:aC ["pull"] ["pull"] (aj bX):=⟨rfl,rfl,rfl,by decide +kernel,rfl,by decide +kernel,by decide +kernel⟩
theorem ok_pu{f:Addr}{fd:FuncData} (F:Fun K "paid_unlike" "paid_unlike" bX f fd) (T:TxtO mg):FnOk P w K mg base CX0 1 f fd ["pull"] (uk 1):=by
 refine F.ok tG (fun vs H Q E h=>?_) (fun cdv A outer s H vs Q E hr h=>?_)
 ·obtain⟨x,rfl,_⟩:=h
  rfl
 obtain⟨x,rfl,kk⟩:=h
 refine⟨_,(aq (aI (aE (rR rfl) (by rfl) T.n_max Ks (ae ah (ae (pv 0) ai))))),?_⟩
 refine⟨_,rfl,_,_,rfl,?_⟩
 rw[SU]at kk
 exact kk
theorem ko:aC ["web","number","marks","many","links","link","pleased","displeased"] ["web","number"] (aj uv):=⟨rfl,rfl,rfl,by decide +kernel,rfl,by decide +kernel,by decide +kernel⟩
theorem NZ{TT f f1 f2 f3 g0 g1 PL PS WC:Addr}{fd d1 d2 d3 e0 e1:FuncData} (F:Fun K "roof" "roof" uv f fd) (T:TxtO mg) (cw:CW K WC) (TL:CT K PL) (TS:CT K PS) (G_marks_of:Cal P w K mg base 4 "marks_of" ["web"] (Bk PL PS WC) f1 d1) (G_links_of:Cal P w K mg base 1 "links_of" ["web"] (Bl PL PS WC) f2 d2) (G_paired:Cal P w K mg base 11 "paired" ["many","links","marks"] (KF.spPaired TT) f3 d3)
  (u0:Met P w K mg base 1 PL "wish" ["self"] (lP false) g0 e0) (u1:Met P w K mg base 1 PS "wish" ["self"] (lP true) g1 e1):FnOk P w K mg base CX0 12 f fd ["web","number"] (HE TT PL PS WC):=by
 refine F.ok ko (fun vs H Q E h=>?_) (fun cdv A outer s H vs Q E hr h=>?_)
 ·obtain⟨p,t,m,es,ts,rs,ks,S,rfl,_⟩:=h
  rfl
 obtain⟨p,t,m,es,ts,rs,ks,S,rfl,wf,g,kl,kin,kb,few,ht,tb,kk⟩:=h
 have CL0:=TL.cl
 have CL1:=TS.cl
 obtain⟨dx,fs,q1,xs,hp,wg,_,l2,hq1,tk⟩:=id wf
 obtain⟨q5,z5,l5,hq5,r5⟩:=wg.rounds
 obtain⟨q6,z6,l6,hq6,r6⟩:=wg.sides
 have ro:=wg.part
 have cnt:=BO g ro
 have m2:=g.two (by omega)
 have rs8:rs.length<=8:=by omega
 have rs1:1<=rs.length:=by
  obtain⟨r,hr',_⟩:=Qo.mp (ro.all 0 (by omega))
  have:=Rc hr'
  omega
 have r900:∀ r∈rs,r.length<=900:=fun r hr=>by
  have:=fk (ro.ring r hr).nd (ro.ring r hr).lt
  omega
 have z5l:z5.length=rs.length:=r5.1
 refine⟨_,(ag (av (i:=2) ko.nd rfl (Or.inl rfl) (ay G_marks_of.ok (hr.mono (by decide)) rfl G_marks_of.mg G_marks_of.kp G_marks_of.bn .nil aP (ae (pv 0) ai)))
   (ag (av (i:=3) ko.nd rfl (Or.inl rfl) (aE ar (by rfl) T.n_len aY (ae (b9 (pv 0) rfl) ai)))
   (ag (av (i:=4) ko.nd rfl (Or.inl rfl) (ay G_links_of.ok (hr.mono (by decide)) rfl G_links_of.mg G_links_of.kp G_links_of.bn .nil aP (ae (pv 0) ai)))
   (ag (av (i:=5) ko.nd rfl (Or.inl rfl) (gf P4 PySem.F.slot_list_pop PySem.F.type_list_pop LZ (pv 4) (ae (pv 1) ai)))
   (ag (av (i:=6) ko.nd rfl (Or.inl rfl) (ax aH (ay G_paired.ok (hr.mono (by decide)) rfl G_paired.mg G_paired.kp G_paired.bn .nil aP (ae (pv 3) (ae (pv 4) (ae (pv 2) ai)))) ah (fun _ _=>rfl)))
   (ag (av (i:=7) ko.nd rfl (Or.inl rfl) (ax aH (ay G_paired.ok (hr.mono (by decide)) rfl G_paired.mg G_paired.kp G_paired.bn .nil aP (ae (pv 3) (ae (pv 4) (ae (aw lY (aw lY (pv 2) (aw cW ah (ax aH (pv 5) ah (fun _ _=>rfl)))) (aw cW ah (ax aH (pv 5) ah (fun _ _=>rfl)))) ai)))) ah (fun _ _=>rfl)))
   (aq (aI (lX (aG iS (NS (gZ (ax az (b9 (pv 0) rfl) (pv 1) (fun _ _=>rfl)) CL0 u0.me u0.ok (hr.mono (by decide)) u0.bn .nil aP) (gZ (ax az (b9 (pv 0) rfl) (pv 1) (fun _ _=>rfl)) CL1 u1.me u1.ok (hr.mono (by decide)) u1.bn .nil aP)) ah (aN _)) (bK (ae (pv 6) (ae (pv 7) ai))) (bK (ae (pv 7) (ae (pv 6) ai)))))))))))),?_⟩
 refine⟨_,rfl,p,es,ks,rs,rfl,wf.r,kl,by omega,by omega,r900,fun H1 s1=>?_⟩
 refine⟨_,rfl,p,WC,dx,fs,_,rfl,s1 _ _ hp,cw.cl,cw.n4,l5,q5,z5,rfl,.inl (SqL.of (s1 _ _ hq5)),?_⟩
 rw[z5l]
 refine⟨_,rfl,p,es,ks,rs,rfl,⟨dx,fs,q1,xs,q6,z6,s1 _ _ hp,l2,s1 _ _ hq1,tk.mono s1,l6,s1 _ _ hq6,r6.mono s1⟩,kl,by omega,fun q zs H2 s2 nq hq lk=>?_⟩
 obtain⟨ls,lsa,ln,lp⟩:=lnk_ls lk
 have O:Oth m es ts ks rs ls:=⟨g,ro,⟨ro.nd,ro.all,fun r hr=>(ro.ring r hr).lt,fun r hr=>(ro.ring r hr).nd,ln,fun i l hl=>(lp i l hl).1⟩,kl,fun i l hl=>by
  obtain⟨k,h1,h2⟩:=(lp i l hl).2
  exact⟨k,h1,h2,kb k (Pr h1)⟩,m2,few⟩
 have st:∀ i,i<es.length->(KF.lkA ls i).2.2=stK ks i:=fun i hi=>by
  obtain⟨l,hl⟩:∃ l,ls[i]?=some l:=⟨_,Pq (by omega)⟩
  obtain⟨k,h1,h2⟩:=(lp i l hl).2
  rw[KF.lkA_is hl,MR h1,h2]
 have mkE:=O.d.marks (MK (aX ks) es.length)
 have mk0:MK (oddU (MK (aX ks) es.length) rs) rs.length=mkO ks es.length ls t false:=by rw[mkE];exact(Rx _).symm
 obtain⟨l,hl⟩:∃ l,ls[t]?=some l:=⟨_,Pq (by omega)⟩
 obtain⟨y,hy,tt,rfl,htt⟩:=lsa.2 t l hl
 have zl:zs.length=es.length:=by rw[lsa.1,ln]
 have hlr:=O.d.rooms l (Pr hl)
 have qt:tt≠q:=fun z=>by rw[z,hq]at htt;cases htt
 refine⟨_,rfl,.inl ⟨rfl,_,SqL.of hq⟩,_,rfl,q,zs,_,t,_,rfl,rfl,hq,by omega,by omega,(Du (fu (show t<zs.length by omega))).1,hy,?_⟩
 have hq3:(upd H2 q (.lst (zs.eraseIdx t))) q=some (.lst (zs.eraseIdx t)):=af
 have s3:Same H1 (upd H2 q (.lst (zs.eraseIdx t))):=aR s2 nq _
 have ln3:KF.LnAt (upd H2 q (.lst (zs.eraseIdx t))) (.ref q) (ls.eraseIdx t):=⟨q,_,rfl,hq3,(OF lsa t).imp fun v x ⟨a,b,c⟩=>⟨a,b,by rw[ao (fun z=>by rw[z,hq]at c;cases c)];exact c⟩⟩
 have tt3:(upd H2 q (.lst (zs.eraseIdx t))) tt=some (.tup [.int (l.1:Int),.int (l.2.1:Int),.int l.2.2]):=by rw[ao qt];exact htt
 generalize upd H2 q (.lst (zs.eraseIdx t))=H3 at hq3 s3 ln3 tt3
 have s13:=s1.trans s3
 have tb3:=KF.tb_same tb s13
 have lok:=O.lok t (by omega)
 have conn:=O.d.conn O.g rfl O.cr ht
 obtain⟨e1,e2⟩:=O.even ht (by omega) false
 obtain⟨e3,e4⟩:=O.even ht (by omega) true
 have f1:=Kw e1
 have f3:=Kw e3
 rw[mk0]
 refine⟨_,rfl,_,rfl,_,rfl,.ref q,rs.length,_,ls.eraseIdx t,rfl,ln3,lok,rs1,conn,e1,e2,by omega,tb3,fun r4 c4 u4 H4 sm4 tb4 hr4 hu4 od4 op4 le4=>?_⟩
 have L0:=(O.least ht (by omega) hu4 op4 od4 le4).st st
 refine⟨r4,_,0,_,rfl,rfl,SqT.of hr4,at0,?_⟩
 have ex:Builtin.bitXor (Builtin.bitXor ((mkO ks es.length ls t false:Nat):Int) (1*2^((l.1:Nat):Int).toNat)) (1*2^((l.2.1:Nat):Int).toNat)=((mkO ks es.length ls t true:Nat):Int):=by
  rw[shlN,shlN,xorN,xorN]
  congr 1
  unfold mkO
  rw[if_neg Qe,if_pos rfl,Rx,QB,KF.lkA_is hl]
  rfl
 have tt4:=sm4.tup tt3
 refine⟨_,rfl,_,rfl,_,rfl,_,rfl,tt,_,0,_,rfl,rfl,SqT.of tt4,at30,_,_,rfl,rfl,⟨by omega,by omega,by decide⟩,_,_,rfl,rfl,_,rfl,tt,_,1,_,rfl,rfl,SqT.of tt4,at31,_,_,rfl,rfl,⟨by omega,by omega,by decide⟩,_,_,rfl,rfl,?_⟩
 dsimp only
 rw[ex]
 refine⟨.ref q,rs.length,_,ls.eraseIdx t,rfl,ln3.smT sm4,lok,rs1,conn,e3,e4,by omega,tb4,fun r5 c5 u5 H5 sm5 tb5 hr5 hu5 od5 op5 le5=>?_⟩
 have L1:=(O.least ht (by omega) hu5 op5 od5 le5).st st
 refine⟨r5,_,0,_,rfl,rfl,SqT.of hr5,at0,?_⟩
 have sm35:=sm4.trans sm5
 have ins:∀{b C d:Addr}{fs:List (Str×V)},H b=some (.ins C d fs)->H5 b=some (.ins C d fs):=fun z=>sm35 _ _ (fun ps y=>by cases y) (s13 _ _ z)
 have hq15:=sm35.lst (s13 _ _ hq1)
 obtain⟨e,he⟩:∃ e,es[t]?=some e:=⟨_,Pq ht⟩
 obtain⟨k,hk⟩:∃ k,ks[t]?=some k:=⟨_,Pq (by omega)⟩
 obtain⟨p',dx',x1,x2⟩:=tk.2 t e k he hk
 have x5:=ins x2
 have pu:=Ih hk
 have smA:KF.SmT H H5:=(KF.SmT.of s13).trans sm35
 by_cases c:k.1=1
 ·rw[decide_eq_true c]at pu x5
  refine .inr ⟨_,rfl,p,WC,dx,fs,_,rfl,ins hp,cw.cl,cw.n2,l2,_,rfl,q1,xs,_,_,rfl,rfl,SqL.of hq15,aA x1,p',dx',_,rfl,x5,Bc _ _ _ (by decide +kernel) (by decide +kernel) (by decide +kernel),p',rfl,rfl,_,rfl,iteF ?_⟩
  refine⟨_,rfl,_,rfl,(by show 2<=sizeLine;decide),fun r6 hr6=>?_⟩
  have s6:=ak hr6 (.tup [.int c5,.int c4])
  exact kk r6 c5 c4 _ (smA.trans (.of s6)) (KF.tb_same tb5 s6) af (by rw[pu];exact L1) (by rw[pu];exact L0)
 ·rw[decide_eq_false c]at pu x5
  refine .inl ⟨_,rfl,p,WC,dx,fs,_,rfl,ins hp,cw.cl,cw.n2,l2,_,rfl,q1,xs,_,_,rfl,rfl,SqL.of hq15,aA x1,p',dx',_,rfl,x5,Bc _ _ _ (by decide +kernel) (by decide +kernel) (by decide +kernel),p',rfl,rfl,_,rfl,iteT ?_⟩
  refine⟨_,rfl,_,rfl,(by show 2<=sizeLine;decide),fun r6 hr6=>?_⟩
  have s6:=ak hr6 (.tup [.int c4,.int c5])
  exact kk r6 c4 c5 _ (smA.trans (.of s6)) (KF.tb_same tb5 s6) af (by rw[pu];exact L0) (by rw[pu];exact L1)
end
end K8
namespace K8
open PySem L2
local macro_rules | `(tactic| walk_at "cc") => `(tactic| first | exact ⟨by decide, by decide⟩ | (show (0 : Int) < _; decide) | (show (0 : Int) < _; omega) | (show (0 : Int) ≤ _; omega) | exact ⟨by decide, by decide, by decide⟩ | exact ⟨by omega, by omega, by decide⟩ | exact Or.inl ⟨by decide, by decide⟩ | exact Or.inl ⟨by omega, by omega⟩)
local macro_rules | `(tactic| walk_at "rd") => `(tactic| repeat (first | refine ⟨_, rfl, ?_⟩ | refine ⟨_, _, rfl, rfl, ?_⟩ | refine ⟨rfl, ?_⟩ | (refine ⟨?cc, ?_⟩; (case cc => walk_at "cc"))))
def sgN(es:En)(n L:Nat):Bool:=match es[n]? with | some e=>(L.testBit e.1 ^^ L.testBit e.2) | none=>false
theorem EF{es:En}{n L:Nat}{e:Nat×Nat}(h:es[n]?=some e):sgN es n L=(L.testBit e.1 ^^ L.testBit e.2):=by unfold sgN;rw[h]
theorem UB_sgN{es:En}{ks:Kn}{n L:Nat}(hn:n<es.length):UB es ks L n=(sgN es n L ^^ aX ks n):=by
 obtain⟨e,he⟩:∃ e,es[n]?=some e:=⟨_,Pq hn⟩
 rw[KS he,EF he]
structure Way(m:Nat)(es:En)(ks:Kn)(t:Nat)(b:Bool)(v:Int):Prop where
 ex:∃ L,L<2^m/\sgN es t L=b/\wT es ks L=v
 lo:∀ L,L<2^m->sgN es t L=b->v<=wT es ks L
theorem Way.is{m:Nat}{es:En}{ks:Kn}{t:Nat}{b:Bool}{v v':Int}(h:Way m es ks t b v)(h':Way m es ks t b v'):v=v':=by
 obtain⟨L,a1,a2,a3⟩:=h.ex
 obtain⟨L',b1,b2,b3⟩:=h'.ex
 have c1:=h.lo L' b1 b2
 have c2:=h'.lo L a1 a2
 omega
theorem wS_oc{es:En}{ks:Kn}{L t:Nat}:∀ N:Nat,wS es ks L N=oc (stK ks) t (UB es ks L) N+if t<N/\UB es ks L t=true then stK ks t else 0
 |0=>by rw[if_neg (fun z=>QA _ z.1)];rfl
 |i+1=>by
  have ih:=wS_oc (es:=es) (ks:=ks) (L:=L) (t:=t) i
  show(if UB es ks L i=true then wS es ks L i+stK ks i else wS es ks L i)=(if i≠t/\UB es ks L i=true then oc (stK ks) t (UB es ks L) i+stK ks i else oc (stK ks) t (UB es ks L) i)+_
  by_cases hi:i=t
  ·subst hi
   rw[if_neg (fun z=>Qs _ z.1),SM]at ih
   rw[if_neg (show ¬ (i≠i/\UB es ks L i=true) from fun z=>z.1 rfl),ih]
   by_cases u:UB es ks L i=true
   ·rw[if_pos u,if_pos ⟨QE _,u⟩]
   ·rw[if_neg u,if_neg (fun z=>u z.2),SM]
  ·have c1:(t<i+1/\UB es ks L t=true)↔(t<i/\UB es ks L t=true):=⟨fun z=>⟨by omega,z.2⟩,fun z=>⟨by omega,z.2⟩⟩
   rw[ih]
   simp only[c1]
   by_cases u:UB es ks L i=true
   ·rw[if_pos u,if_pos (show i≠t/\UB es ks L i=true from⟨hi,u⟩)]
    exact Int.add_right_comm _ _ _
   ·rw[if_neg u,if_neg (show ¬ (i≠t/\UB es ks L i=true) from fun z=>u z.2)]
theorem Lst.way{m:Nat}{es:En}{ks:Kn}{t:Nat}{b:Bool}{c:Int}(ht:t<es.length)(h:Lst m es ks (stK ks) t (b ^^ aX ks t) c):Way m es ks t b (c+if(b ^^ aX ks t)=true then stK ks t else 0):=by
 obtain⟨⟨L,a1,a2,a3,a4⟩,lo⟩:=h
 have sb:∀ L,UB es ks L t=(b ^^ aX ks t)↔sgN es t L=b:=fun L=>by
  rw[UB_sgN ht]
  cases sgN es t L<;>cases b<;>cases aX ks t<;>decide
 have ww:∀ L,sgN es t L=b->wT es ks L=oc (stK ks) t (UB es ks L) es.length+if(b ^^ aX ks t)=true then stK ks t else 0:=fun L hL=>by
  have e1:=(sb L).mpr hL
  show wS es ks L es.length=_
  rw[wS_oc (t:=t),e1]
  simp only[ht,true_and]
 refine⟨⟨L,a1,(sb L).mp a3,by rw[ww L ((sb L).mp a3),a4]⟩,fun L' _ hL=>?_⟩
 have:=lo L' ((sb L').mpr hL)
 rw[ww L' hL]
 omega
theorem Lg{H H':Hp}{z:List V}{n:Nat}{rs:List (List Nat)}(h:iG H z n rs)(s:KF.SmT H H'):iG H' z n rs:=⟨h.1,fun i hi=>by
 obtain⟨t,a,b,r,r',y1,y2,y3⟩:=h.2 i hi
 exact⟨t,a,b,r,r',y1,s.tup y2,y3⟩⟩
theorem HP{H H':Hp}(s:KF.SmT H H'){xs:List V}{ts:List (List Nat)}(h:bT H xs ts):bT H' xs ts:=⟨h.1,fun i l e=>by
 obtain⟨p,a,b⟩:=h.2 i l e
 exact⟨p,a,s.lst b⟩⟩
theorem Lh{H H':Hp}(s:KF.SmT H H'){ys:List V}{es:En}(h:cZ H ys es):cZ H' ys es:=⟨h.1,fun i l e=>by
 obtain⟨p,a,b⟩:=h.2 i l e
 exact⟨p,a,s.tup b⟩⟩
theorem WebF.smT{S:Addr->Prop}{PL PS WC p:Addr}{H H':Hp}{m:Nat}{es:En}{ts rs:List (List Nat)}{ks:Kn}(h:WebF S PL PS WC H p m es ts rs ks)(s:KF.SmT H H'):WebF S PL PS WC H' p m es ts rs ks:=by
 obtain⟨dx,fs,q1,xs,a,⟨g1,⟨q,z,b1,b0,b2,b3⟩,⟨q',z',c1,c2,c3⟩,⟨q2,z2,d1,d2,d3⟩,pt⟩,n,c,d,e⟩:=h
 have si:∀{b C d:Addr}{fs:List (Str×V)},H b=some (.ins C d fs)->H' b=some (.ins C d fs):=fun z=>s _ _ (fun ps y=>by cases y) z
 refine⟨dx,fs,q1,xs,si a,⟨g1,⟨q,z,b1,b0,s.lst b2,b3.1,fun j l y=>?_⟩,⟨q',z',c1,s.lst c2,HP s c3⟩,⟨q2,z2,d1,s.lst d2,Lg d3 s⟩,pt⟩,n,c,s.lst d,e.1,fun i x k q r=>?_⟩
 ·obtain⟨r,y1,y2,y3⟩:=b3.2 j l y
  exact⟨r,y1,y2,s.lst y3⟩
 ·obtain⟨p',dx',u1,u2⟩:=e.2 i x k q r
  exact⟨p',dx',u1,si u2⟩
def setV(a b:Int):List V:=if a<b then[.int 0,.int (b-a)] else if b<a then[.int 1,.int (a-b)] else[.non,.int 0]
def lQ(C:Addr)(push:Bool):Sp:=fun vs H Q _=>∃ p a b s,vs = [.ref p]/\TieAt H p C a b s/\Q (.int (if push=true then -s else s)) H
def Pm(TT PL PS WC:Addr)(H:Hp)(p:Addr)(m:Nat)(es:En)(ks:Kn):Prop:=∃(ts rs:List (List Nat))(S:Addr->Prop),WebF S PL PS WC H p m es ts rs ks/\Gr m es ts/\ks.length=es.length/\(∀ k∈ks,k.1=0∨k.1=1)/\(∀ k∈ks,0<=k.2/\k.2<=10^(30:Int).toNat)/\es.length<=8/\Tb KF.lqF KF.lpF TT H
def HM(TT PL PS WC:Addr):Sp:=fun vs H Q _=>∃(p:Addr)(t m:Nat)(es:En)(ks:Kn),vs = [.ref p,.int (t:Int)]/\Pm TT PL PS WC H p m es ks/\t<es.length /\
 ∀(r:Addr)(v0 v1:Int)(H':Hp),KF.SmT H H'->Tb KF.lqF KF.lpF TT H'->H' r=some (.tup [.int v0,.int v1])->Way m es ks t false v0->Way m es ks t true v1->Q (.ref r) H'
def A3(H:Hp)(zs:List V)(m:Nat)(es:En)(ks:Kn)(n:Nat):Prop:=zs.length=n/\∀ t,t<n->∃ r v0 v1,zs[t]?=some (.ref r)/\H r=some (.tup [.int v0,.int v1])/\Way m es ks t false v0/\Way m es ks t true v1
theorem A3.smT{H H':Hp}{zs:List V}{m:Nat}{es:En}{ks:Kn}{n:Nat}(h:A3 H zs m es ks n)(s:KF.SmT H H'):A3 H' zs m es ks n:=⟨h.1,fun t ht=>by
 obtain⟨r,v0,v1,a,b,c⟩:=h.2 t ht
 exact⟨r,v0,v1,a,s.tup b,c⟩⟩
def spBW(TT PL PS WC:Addr):Sp:=fun vs H Q _=>∃(p:Addr)(m:Nat)(es:En)(ks:Kn),vs = [.ref p]/\Pm TT PL PS WC H p m es ks /\
 ∀(q:Addr)(zs:List V)(H':Hp),KF.SmT H H'->Tb KF.lqF KF.lpF TT H'->H' q=some (.lst zs)->A3 H' zs m es ks es.length->Q (.ref q) H'
def qg:Sp:=fun vs H Q _=>∃(r:Addr)(a b:Int),vs = [.ref r]/\H r=some (.tup [.int a,.int b])/\∀ t,H t=none->Q (.ref t) (upd H t (.tup (setV a b)))
def A4(H:Hp)(zs:List V)(m:Nat)(es:En)(ks:Kn)(n:Nat):Prop:=zs.length=n/\∀ t,t<n->∃ r v0 v1,zs[t]?=some (.ref r)/\H r=some (.tup (setV v0 v1))/\Way m es ks t false v0/\Way m es ks t true v1
theorem A4.mono{H H':Hp}{zs:List V}{m:Nat}{es:En}{ks:Kn}{n:Nat}(h:A4 H zs m es ks n)(s:Same H H'):A4 H' zs m es ks n:=⟨h.1,fun t ht=>by
 obtain⟨r,v0,v1,a,b,c⟩:=h.2 t ht
 exact⟨r,v0,v1,a,s _ _ b,c⟩⟩
def HD(TT PL PS WC:Addr):Sp:=fun vs H Q _=>∃(p:Addr)(m:Nat)(es:En)(ks:Kn),vs = [.ref p]/\Pm TT PL PS WC H p m es ks /\
 ∀(q:Addr)(zs:List V)(H':Hp),KF.SmT H H'->H' q=some (.lst zs)->A4 H' zs m es ks es.length->Q (.ref q) H'
section
variable{P:Program}{w:World}{K:Pt}{mg:Str->Option Value}{base:Heap}
theorem vA:aC ["self"] ["self"] (aj cG):=⟨rfl,rfl,rfl,by decide +kernel,rfl,by decide +kernel,by decide +kernel⟩
theorem y8{f C fw:Addr}{fd fdw:FuncData}{push:Bool} (F:Fun K "signed" "Tie.signed" cG f fd) (T:CT K C) (m_wish:Met P w K mg base 1 C "wish" ["self"] (lP push) fw fdw):FnOk P w K mg base CX0 2 f fd ["self"] (lQ C push):=by
 refine F.ok vA (fun vs H Q E h=>?_) (fun cdv A outer s H vs Q E hr h=>?_)
 ·obtain⟨p,a,b,s,rfl,_⟩:=h
  rfl
 obtain⟨p,a,b,st,rfl,⟨dx,hp⟩,k⟩:=h
 have CL:=T.cl
 refine⟨_,(aq (aI (lX (aG iS (gZ (pv 0) CL m_wish.me m_wish.ok (hr.mono (by decide)) m_wish.bn .nil aP) ah (aN _)) (b9 (pv 0) rfl) (pe_un MN (b9 (pv 0) rfl))))),?_⟩
 refine⟨_,rfl,p,dx,_,rfl,hp,Bc _ _ _ (by decide +kernel) (by decide +kernel) (by decide +kernel),p,rfl,rfl,_,rfl,?_⟩
 cases push with
 |false=>exact iteT ⟨_,rfl,p,C,dx,_,_,rfl,hp,T.cl,T.n3,Hv _ _ _,k⟩
 |true=>exact iteF ⟨_,rfl,p,C,dx,_,_,rfl,hp,T.cl,T.n3,Hv _ _ _,_,rfl,k⟩
theorem eZ:aC ["web","number","pair","pull"] ["web","number"] (aj bH):=⟨rfl,rfl,rfl,by decide +kernel,rfl,by decide +kernel,by decide +kernel⟩
theorem Og{TT f f1 f2 f3 g0 g1 PL PS WC:Addr}{fd d1 d2 d3 e0 e1:FuncData} (F:Fun K "both_ways_of" "both_ways_of" bH f fd) (cw:CW K WC) (TL:CT K PL) (TS:CT K PS) (G_roof:Cal P w K mg base 12 "roof" ["web","number"] (HE TT PL PS WC) f1 d1) (G_paid_alike:Cal P w K mg base 1 "paid_alike" ["pull"] (uk (-1)) f2 d2) (G_paid_unlike:Cal P w K mg base 1 "paid_unlike" ["pull"] (uk 1) f3 d3) (u0:Met P w K mg base 2 PL "signed" ["self"] (lQ PL false) g0 e0) (u1:Met P w K mg base 2 PS "signed" ["self"] (lQ PS true) g1 e1):FnOk P w K mg base CX0 13 f fd ["web","number"] (HM TT PL PS WC):=by
 refine F.ok eZ (fun vs H Q E h=>?_) (fun cdv A outer s H vs Q E hr h=>?_)
 ·obtain⟨p,t,m,es,ks,rfl,_⟩:=h
  rfl
 obtain⟨p,t,m,es,ks,rfl,⟨ts,rs,S,wf,g,kl,kin,kb,few,tb⟩,ht,kk⟩:=h
 have CL0:=TL.cl
 have CL1:=TS.cl
 refine⟨_,(ag (av (i:=2) eZ.nd rfl (Or.inl rfl) (ay G_roof.ok (hr.mono (by decide)) rfl G_roof.mg G_roof.kp G_roof.bn .nil aP (ae (pv 0) (ae (pv 1) ai))))
   (ag (av (i:=3) eZ.nd rfl (Or.inl rfl) (NS (gZ (ax az (b9 (pv 0) rfl) (pv 1) (fun _ _=>rfl)) CL0 u0.me u0.ok (hr.mono (by decide)) u0.bn .nil aP) (gZ (ax az (b9 (pv 0) rfl) (pv 1) (fun _ _=>rfl)) CL1 u1.me u1.ok (hr.mono (by decide)) u1.bn .nil aP)))
   (aq (aI (bK (ae (aw bA (ax aH (pv 2) ah (fun _ _=>rfl)) (ay G_paid_alike.ok (hr.mono (by decide)) rfl G_paid_alike.mg G_paid_alike.kp G_paid_alike.bn .nil aP (ae (pv 3) ai))) (ae (aw bA (ax aH (pv 2) ah (fun _ _=>rfl)) (ay G_paid_unlike.ok (hr.mono (by decide)) rfl G_paid_unlike.mg G_paid_unlike.kp G_paid_unlike.bn .nil aP (ae (pv 3) ai))) ai))))))),?_⟩
 refine⟨_,rfl,_,rfl,p,t,m,es,ts,rs,ks,S,rfl,wf,g,kl,kin,kb,few,ht,tb,fun r c0 c1 H1 sm1 tb1 hr1 L0 L1=>?_⟩
 obtain⟨dx,fs,q1,xs,hp,wg,_,l2,hq1,tk⟩:=id (wf.smT sm1)
 obtain⟨e,he⟩:∃ e,es[t]?=some e:=⟨_,Pq ht⟩
 obtain⟨k,hk⟩:∃ k,ks[t]?=some k:=⟨_,Pq (by omega)⟩
 obtain⟨p',dx',x1,x2⟩:=tk.2 t e k he hk
 obtain⟨k20,_⟩:=kb k (Pr hk)
 have pu:aX ks t=decide (k.1=1):=EH hk
 have sk:stK ks t=k.2:=MR hk
 have W0:=Lst.way (b:=false) ht (by rw[Ru];exact L0)
 have W1:=Lst.way (b:=true) ht (by rw[Ti];exact L1)
 rw[Ru,sk]at W0
 rw[Ti,sk]at W1
 have fin:∀ sg:Int,sg=(if aX ks t=true then -k.2 else k.2)->∀ r',H1 r'=none->Q (.ref r') (upd H1 r' (.tup [.int (c0+(if -1*sg > 0 then -1*sg else 0)),.int (c1+(if 1*sg > 0 then 1*sg else 0))])):=fun sg hs r' hr'=>by
  have s6:=ak hr' (.tup [.int (c0+(if -1*sg > 0 then -1*sg else 0)),.int (c1+(if 1*sg > 0 then 1*sg else 0))])
  refine kk r' _ _ _ (sm1.trans (.of s6)) (KF.tb_same tb1 s6) af ?_ ?_
  ·have:(if -1*sg > 0 then -1*sg else 0)=(if aX ks t=true then k.2 else 0):=by
    rw[hs]
    by_cases c:aX ks t=true
    ·rw[if_pos c,if_pos c];split<;>omega
    ·rw[if_neg c,if_neg c];split<;>omega
   rw[this];exact W0
  ·have:(if 1*sg > 0 then 1*sg else 0)=(if(!aX ks t)=true then k.2 else 0):=by
    rw[hs]
    by_cases c:aX ks t=true
    ·rw[if_pos c,if_neg (show ¬ (!aX ks t)=true by rw[c];decide)];split<;>omega
    ·rw[if_neg c,if_pos (show(!aX ks t)=true by rw[Bool.eq_false_iff.mpr c];rfl)];split<;>omega
   rw[this];exact W1
 by_cases c:k.1=1
 ·rw[decide_eq_true c]at pu x2
  refine .inr ⟨_,rfl,p,WC,dx,fs,_,rfl,hp,cw.cl,cw.n2,l2,_,rfl,q1,xs,_,_,rfl,rfl,SqL.of hq1,aA x1,p',dx',_,rfl,x2,Bc _ _ _ (by decide +kernel) (by decide +kernel) (by decide +kernel),p',_,_,k.2,rfl,⟨dx',x2⟩,?_⟩
  refine⟨_,rfl,r,_,0,_,rfl,rfl,SqT.of hr1,at0,_,rfl,_,rfl,_,_,rfl,rfl,_,rfl,r,_,1,_,rfl,rfl,SqT.of hr1,at1,_,rfl,_,rfl,_,_,rfl,rfl,(by show 2<=sizeLine;decide),fun r' hr'=>fin _ (by rw[pu]) r' hr'⟩
 ·rw[decide_eq_false c]at pu x2
  refine .inl ⟨_,rfl,p,WC,dx,fs,_,rfl,hp,cw.cl,cw.n2,l2,_,rfl,q1,xs,_,_,rfl,rfl,SqL.of hq1,aA x1,p',dx',_,rfl,x2,Bc _ _ _ (by decide +kernel) (by decide +kernel) (by decide +kernel),p',_,_,k.2,rfl,⟨dx',x2⟩,?_⟩
  refine⟨_,rfl,r,_,0,_,rfl,rfl,SqT.of hr1,at0,_,rfl,_,rfl,_,_,rfl,rfl,_,rfl,r,_,1,_,rfl,rfl,SqT.of hr1,at1,_,rfl,_,rfl,_,_,rfl,rfl,(by show 2<=sizeLine;decide),fun r' hr'=>fin _ (by rw[pu]) r' hr'⟩
theorem yF:aC ["web"] ["web"] (aj dm):=⟨rfl,rfl,rfl,by decide +kernel,rfl,by decide +kernel,by decide +kernel⟩
theorem ok_bw{TT f f1 PL PS WC:Addr}{fd d1:FuncData} (F:Fun K "both_ways" "both_ways" dm f fd) (T:Txt mg) (cw:CW K WC) (G_both_ways_of:Cal P w K mg base 13 "both_ways_of" ["web","number"] (HM TT PL PS WC) f1 d1):FnOk P w K mg base CX0 14 f fd ["web"] (spBW TT PL PS WC):=by
 refine F.ok yF (fun vs H Q E h=>?_) (fun cdv A outer s H vs Q E hr h=>?_)
 ·obtain⟨p,m,es,ks,rfl,_⟩:=h
  rfl
 obtain⟨p,m,es,ks,rfl,⟨ts,rs,S,wf,g,kl,kin,kb,few,tb⟩,kk⟩:=h
 obtain⟨dx,fs,q1,xs,hp,wg,_,l2,hq1,tk⟩:=id wf
 have xl:xs.length=es.length:=tk.1
 refine⟨_,(aq (aI (dr rfl (fr:=[("web",0)]) (by exact bq.one (by rfl) (by decide +kernel) (by rfl) (by decide +kernel) (by rfl) (by decide +kernel) (by rfl) (by rfl) (by decide +kernel) (by rfl)) (aW rfl T.n_range (ae (aE ar (by rfl) T.n_len aY (ae (b9 (pv 0) rfl) ai)) ai)) (fun C ex s H=>(ay G_both_ways_of.ok (hr.mono (by decide)) rfl G_both_ways_of.mg G_both_ways_of.kp G_both_ways_of.bn .nil aP (ae (pv 1) (ae (pv 0) ai))))))),?_⟩
 refine⟨_,rfl,p,WC,dx,fs,_,rfl,hp,cw.cl,cw.n2,l2,q1,xs,rfl,.inl (SqL.of hq1),_,rfl,by omega,by omega,dt (n:=(xs.length:Int).toNat) (fun i zs H2=>KF.SmT H H2/\Tb KF.lqF KF.lpF TT H2/\A3 H2 zs m es ks i) (by rw[PQ];exact Ql (au (by omega))) ⟨KF.SmT.of (fun _ _ z=>z),tb,rfl,fun t z=>absurd z (QA _)⟩ ?_ ?_⟩
 ·rintro i zs H2 hi ⟨sm2,tb2,wa⟩
  rw[PQ,xl]at hi
  rw[QR]
  refine⟨_,rfl,_,rfl,p,i,m,es,ks,rfl,⟨ts,rs,S,wf.smT sm2,g,kl,kin,kb,few,tb2⟩,hi,fun r v0 v1 H3 sm3 tb3 hr3 w0 w1=>?_⟩
  refine⟨sm2.trans sm3,tb3,by rw[Px,wa.1];rfl,fun t ht=>?_⟩
  by_cases z:t=i
  ·subst z
   exact⟨r,v0,v1,by rw[← wa.1,Pu (Pz _),P1];rfl,hr3,w0,w1⟩
  ·obtain⟨r',u0,u1,y1,y2⟩:=(wa.smT sm3).2 t (by omega)
   exact⟨r',u0,u1,by rw[Py (by rw[wa.1];omega)];exact y1,y2⟩
 rintro zs H2 _ ⟨sm2,tb2,wa⟩ D hD
 rw[PQ,xl]at wa
 have sD:=ak hD (.lst zs)
 exact kk D zs _ (sm2.trans (.of sD)) (KF.tb_same tb2 sD) af (wa.smT (.of sD))
theorem Fs:aC ["pair"] ["pair"] (aj gA):=⟨rfl,rfl,rfl,by decide +kernel,rfl,by decide +kernel,by decide +kernel⟩
theorem FF{f:Addr}{fd:FuncData} (F:Fun K "setting" "setting" gA f fd):FnOk P w K mg base CX0 1 f fd ["pair"] qg:=by
 refine F.ok Fs (fun vs H Q E h=>?_) (fun cdv A outer s H vs Q E hr h=>?_)
 ·obtain⟨r,a,b,rfl,_⟩:=h
  rfl
 obtain⟨r,a,b,rfl,hr1,kk⟩:=h
 refine⟨_,(ag (bZ (aG yZ (ax aH (pv 0) ah (fun _ _=>rfl)) (ax aH (pv 0) ah (fun _ _=>rfl)) (aN _)) (aq (aI (bK (ae ah (ae (aw iR (ax aH (pv 0) ah (fun _ _=>rfl)) (ax aH (pv 0) ah (fun _ _=>rfl))) ai))))) aS)
   (ag (bZ (aG yZ (ax aH (pv 0) ah (fun _ _=>rfl)) (ax aH (pv 0) ah (fun _ _=>rfl)) (aN _)) (aq (aI (bK (ae ah (ae (aw iR (ax aH (pv 0) ah (fun _ _=>rfl)) (ax aH (pv 0) ah (fun _ _=>rfl))) ai))))) aS)
   (aq (aI (bK (ae gG (ae ah ai))))))),?_⟩
 refine⟨_,rfl,r,_,0,_,rfl,rfl,SqT.of hr1,at0,_,rfl,r,_,1,_,rfl,rfl,SqT.of hr1,at1,_,_,rfl,rfl,_,rfl,ite2 (fun c=>?_) (fun c=>?_)⟩
 ·have c':a<b:=of_decide_eq_true c
  have e:setV a b = [.int 0,.int (b-a)]:=if_pos c'
  rw[e]at kk
  exact⟨_,rfl,r,_,1,_,rfl,rfl,SqT.of hr1,at1,_,rfl,r,_,0,_,rfl,rfl,SqT.of hr1,at0,_,_,rfl,rfl,(by show 2<=sizeLine;decide),kk⟩
 ·have c':¬ a<b:=fun z=>c (decide_eq_true z)
  refine⟨_,rfl,r,_,1,_,rfl,rfl,SqT.of hr1,at1,_,rfl,r,_,0,_,rfl,rfl,SqT.of hr1,at0,_,_,rfl,rfl,_,rfl,ite2 (fun c2=>?_) (fun c2=>?_)⟩
  ·have c2':b<a:=of_decide_eq_true c2
   have e:setV a b = [.int 1,.int (a-b)]:=by unfold setV;rw[if_neg c',if_pos c2']
   rw[e]at kk
   exact⟨_,rfl,r,_,0,_,rfl,rfl,SqT.of hr1,at0,_,rfl,r,_,1,_,rfl,rfl,SqT.of hr1,at1,_,_,rfl,rfl,(by show 2<=sizeLine;decide),kk⟩
  ·have c2':¬ b<a:=fun z=>c2 (decide_eq_true z)
   have e:setV a b = [.non,.int 0]:=by unfold setV;rw[if_neg c',if_neg c2']
   rw[e]at kk
   exact⟨(by show 2<=sizeLine;decide),kk⟩
theorem BE:aC ["web"] ["web"] (aj eK):=⟨rfl,rfl,rfl,by decide +kernel,rfl,by decide +kernel,by decide +kernel⟩
theorem NY{TT f f1 f2 PL PS WC:Addr}{fd d1 d2:FuncData} (F:Fun K "set_ties" "set_ties" eK f fd) (G_both_ways:Cal P w K mg base 14 "both_ways" ["web"] (spBW TT PL PS WC) f1 d1) (G_setting:Cal P w K mg base 1 "setting" ["pair"] qg f2 d2):FnOk P w K mg base CX0 15 f fd ["web"] (HD TT PL PS WC):=by
 refine F.ok BE (fun vs H Q E h=>?_) (fun cdv A outer s H vs Q E hr h=>?_)
 ·obtain⟨p,m,es,ks,rfl,_⟩:=h
  rfl
 obtain⟨p,m,es,ks,rfl,wo,kk⟩:=h
 have few:es.length<=8:=by obtain⟨ts,rs,S,wf,g,kl,kin,kb,few,tb⟩:=wo;exact few
 refine⟨_,(aq (aI (dr rfl (fr:=[]) (by exact bq.plain (by rfl) (by decide +kernel) (by rfl) (by decide +kernel) (by rfl) (by decide +kernel)) (a9 (ay G_both_ways.ok (hr.mono (by decide)) rfl G_both_ways.mg G_both_ways.kp G_both_ways.bn .nil aP (ae (pv 0) ai))) (fun C ex s H=>(ay G_setting.ok (hr.mono (by decide)) rfl G_setting.mg G_setting.kp G_setting.bn .nil aP (ae (pv 0) ai)))))),?_⟩
 refine⟨_,rfl,p,m,es,ks,rfl,wo,fun q zs H1 sm1 tb1 hq wa=>?_⟩
 have zl:=wa.1
 refine⟨q,rfl,⟨_,SqL.of hq⟩,bS (K:=K) (xs:=zs) (fun i ys H2=>Same H1 H2/\A4 H2 ys m es ks i) (Ql (au (by omega))) ⟨fun _ _ z=>z,rfl,fun t z=>absurd z (QA _)⟩ (fun i ys H2 _ z=>SqL.of (z.1 _ _ hq)) ?_ ?_⟩
 ·rintro i x ys H2 hx ⟨s2,sa⟩
  have hi:i<es.length:=by rw[← zl];exact(Pp.mp hx).1
  obtain⟨r,v0,v1,a1,a2,w0,w1⟩:=wa.2 i hi
  rw[hx]at a1
  cases a1
  refine⟨_,rfl,r,v0,v1,rfl,s2 _ _ a2,fun t ht=>?_⟩
  have sn:=ak ht (.tup (setV v0 v1))
  refine⟨s2.trans sn,by rw[Px,sa.1];rfl,fun t' ht'=>?_⟩
  by_cases z:t'=i
  ·subst z
   exact⟨t,v0,v1,by rw[← sa.1,Pu (Pz _),P1];rfl,af,w0,w1⟩
  ·obtain⟨r',u0,u1,y1,y2⟩:=(sa.mono sn).2 t' (by omega)
   exact⟨r',u0,u1,by rw[Py (by rw[sa.1];omega)];exact y1,y2⟩
 rintro ys H2 _ ⟨s2,sa⟩ D hD
 rw[zl]at sa
 have sD:=ak hD (.lst ys)
 exact kk D ys _ (sm1.trans (.of (s2.trans sD))) af (sa.mono sD)
end
end K8
namespace K8
open PySem L2
local macro_rules | `(tactic| walk_at "cc") => `(tactic| first | exact ⟨by decide, by decide⟩ | (show (0 : Int) < _; decide) | (show (0 : Int) < _; omega) | (show (0 : Int) ≤ _; omega) | exact ⟨by decide, by decide, by decide⟩ | exact ⟨by omega, by omega, by decide⟩ | exact Or.inl ⟨by decide, by decide⟩ | exact Or.inl ⟨by omega, by omega⟩)
local macro_rules | `(tactic| walk_at "rd") => `(tactic| repeat (first | refine ⟨_, rfl, ?_⟩ | refine ⟨_, _, rfl, rfl, ?_⟩ | refine ⟨rfl, ?_⟩ | (refine ⟨?cc, ?_⟩; (case cc => walk_at "cc"))))
def vO:Option Int->V
 |none=>.non
 |some c=>.int c
def Bw(es:En)(ks:Kn)(n:Nat)(b:Bool)(i:Nat):Option Int->Prop
 |none=>∀ h,h<i->sgN es n h≠b
 |some c=>(∃ h,h<i/\sgN es n h=b/\wT es ks h=c)/\∀ h,h<i->sgN es n h=b->c<=wT es ks h
theorem Bw.skip{es:En}{ks:Kn}{n:Nat}{b:Bool}{i:Nat}{o:Option Int}(h:Bw es ks n b i o)(hs:sgN es n i≠b):Bw es ks n b (i+1) o:=by
 have old:∀ j,j<i+1->sgN es n j=b->j<i:=fun j hj e=>by
  by_cases c:j=i
  ·subst c;exact absurd e hs
  ·omega
 match o,h with
 |none,h=>exact fun j hj e=>h j (old j hj e) e
 |some c,h=>exact⟨by obtain⟨j,a,r⟩:=h.1;exact⟨j,by omega,r⟩,fun j hj e=>h.2 j (old j hj e) e⟩
theorem Bw.keep{es:En}{ks:Kn}{n:Nat}{b:Bool}{i:Nat}{c:Int}(h:Bw es ks n b i (some c))(hs:c<=wT es ks i):Bw es ks n b (i+1) (some c) :=
 ⟨by obtain⟨j,a,r⟩:=h.1;exact⟨j,by omega,r⟩,fun j hj e=>by
  by_cases q:j=i
  ·subst q;exact hs
  ·exact h.2 j (by omega) e⟩
theorem Bw.put{es:En}{ks:Kn}{n:Nat}{b:Bool}{i:Nat}{o:Option Int}(h:Bw es ks n b i o)(hs:sgN es n i=b)(lt:∀ c,o=some c->wT es ks i<c):Bw es ks n b (i+1) (some (wT es ks i)) :=
 ⟨⟨i,by omega,hs,rfl⟩,fun j hj e=>by
  by_cases q:j=i
  ·subst q;exact QV _
  ·match o,h with
   |none,h=>exact absurd e (h j (by omega))
   |some c,h=>exact Int.le_trans (Int.le_of_lt (lt c rfl)) (h.2 j (by omega) e)⟩
theorem Bw.way{m:Nat}{es:En}{ks:Kn}{n:Nat}{b:Bool}{o:Option Int}(h:Bw es ks n b (2^m) o)(hx:∃ L,L<2^m/\sgN es n L=b):∃ c,o=some c/\Way m es ks n b c:=by
 obtain⟨L,l1,l2⟩:=hx
 match o,h with
 |none,h=>exact absurd l2 (h L l1)
 |some c,h=>exact⟨c,rfl,⟨h.1,h.2⟩⟩
theorem Pa{m:Nat}{es:En}{n:Nat}{e:Nat×Nat}(he:es[n]?=some e)(h1:e.1<m)(h2:e.1≠e.2):(∃ L,L<2^m/\sgN es n L=false)/\∃ L,L<2^m/\sgN es n L=true:=by
 refine⟨⟨0,QT m,?_⟩,2^e.1,QI (by decide) h1,?_⟩
 ·rw[EF he,Qu,Qu];rfl
 ·rw[EF he,Qb,Qb,decide_eq_true rfl,decide_eq_false h2];rfl
def NB(K:Pt):Sp:=fun vs H Q _=>∃(q p:Addr)(n m:Nat)(es:En)(ks:Kn)(e:Nat×Nat),vs = [.ref q,.ref p]/\SqL K H q ((kc es ks m).map V.int)/\H p=some (.tup [iV e.1,iV e.2])/\es[n]?=some e/\e.1<m/\e.1≠e.2/\m<=10 /\
 ∀(t:Addr)(v0 v1:Int)(H':Hp),Same H H'->H' t=some (.tup (setV v0 v1))->Way m es ks n false v0->Way m es ks n true v1->Q (.ref t) H'
def Be:Sp:=fun vs H Q _=>∃(r t:Addr)(v0 v1:Int),vs = [.ref r,.ref t]/\H r=some (.tup (setV v0 v1))/\H t=some (.tup (setV v0 v1))/\Q (.bl true) H
section
variable{P:Program}{w:World}{K:Pt}{mg:Str->Option Value}{base:Heap}
theorem gz:aC ["costs","end","floor","ways","laying","way"] ["costs","end"] (aj gE):=⟨rfl,rfl,rfl,by decide +kernel,rfl,by decide +kernel,by decide +kernel⟩
theorem ok_due{f:Addr}{fd:FuncData} (F:Fun K "_law_due" "_law_due" gE f fd) (T:Txt mg):FnOk P w K mg base CX0 1 f fd ["costs","end"] (NB K):=by
 refine F.ok gz (fun vs H Q E h=>?_) (fun cdv A outer s H vs Q E hr h=>?_)
 ·obtain⟨q,p,n,m,es,ks,e,rfl,_⟩:=h
  rfl
 obtain⟨q,p,n,m,es,ks,e,rfl,hq,hp,he,e1,e2,m10,kk⟩:=h
 obtain⟨q1,q2,q3,q4⟩:=MU m10
 have cl:=GV es ks m
 have clV:((kc es ks m).map V.int).length=2^m:=by rw[PB,cl]
 refine⟨_,(ag (av (i:=2) gz.nd rfl (Or.inl rfl) (aE (Kj rfl) (by rfl) T.n_min E8 (ae (pv 0) ai)))
   (ag (av (i:=3) gz.nd rfl (Or.inl rfl) (bY (ae gG (ae gG ai))))
   (ag (bM PassesOwn.never rfl (aW rfl T.n_range (ae (aE ar (by rfl) T.n_len aY (ae (pv 0) ai)) ai)) (aO (i:=4) gz.nd rfl (Or.inl rfl)) (ag (av (i:=5) gz.nd rfl (Or.inl rfl) (aw y7 (aw lY (aw yY (pv 4) (ax aH (pv 1) ah (fun _ _=>rfl))) (aw yY (pv 4) (ax aH (pv 1) ah (fun _ _=>rfl)))) ah))
   (aq (bZ (PW.pt (yI (aG EL (ax az (pv 3) (pv 5) (fun _ _=>rfl)) gG (aN _)) (ux (aG yZ (ax az (pv 0) (pv 4) (fun _ _=>rfl)) (ax az (pv 3) (pv 5) (fun _ _=>rfl)) (aN _))))) (aq (lU (ax az (pv 0) (pv 4) (fun _ _=>rfl)) (lV (pv 3) (pv 5) d8))) aS))))
   (ag (bZ (aG IC (ax az (pv 3) ah (fun _ _=>rfl)) (pv 2) (aN _)) (aq (aI (bK (ae ah (ae (aw iR (ax az (pv 3) ah (fun _ _=>rfl)) (pv 2)) ai))))) aS)
   (ag (bZ (aG IC (ax az (pv 3) ah (fun _ _=>rfl)) (pv 2) (aN _)) (aq (aI (bK (ae ah (ae (aw iR (ax az (pv 3) ah (fun _ _=>rfl)) (pv 2)) ai))))) aS)
   (aq (aI (bK (ae gG (ae ah ai)))))))))),?_⟩
 refine⟨_,rfl,q,kc es ks m,rfl,hq,by omega +splitDisjunctions,fun fl fl1 fl2=>?_⟩
 refine⟨(by show 2<=sizeLine;decide),fun wy hwy=>?_⟩
 have s1:=ak hwy (.lst [.non,.non])
 refine⟨_,rfl,q,_,rfl,.inl (s1.seq hq),_,rfl,by omega +splitDisjunctions,by omega +splitDisjunctions,cR (n:=(((kc es ks m).map V.int).length:Int).toNat) (fun i σ H2=>∃(v4 v5:Option V)(o0 o1:Option Int),σ = [some (.ref q),some (.ref p),some (.int fl),some (.ref wy),v4,v5]/\Same H H2/\H2 wy=some (.lst [vO o0,vO o1])/\Bw es ks n false i o0/\Bw es ks n true i o1) ⟨_,_,none,none,rfl,s1,af,fun h z=>absurd z (QA _),fun h z=>absurd z (QA _)⟩ ?_ ?_⟩
 ·rintro i σ H2 hi ⟨v4,v5,o0,o1,rfl,s2,hq2,b0,b1⟩
  rw[PQ,clV]at hi
  rw[QR]
  have ci:((kc es ks m).map V.int)[i]?=some (.int (wT es ks i)):=by rw[PR,jj hi];rfl
  refine⟨_,rfl,_,rfl,p,_,0,_,rfl,rfl,SqT.of (s2 _ _ hp),at0,_,_,rfl,rfl,(show(0:Int)<=(e.1:Int) by omega +splitDisjunctions),_,rfl,_,rfl,p,_,1,_,rfl,rfl,SqT.of (s2 _ _ hp),at1,_,_,rfl,rfl,(show(0:Int)<=(e.2:Int) by omega +splitDisjunctions),_,_,rfl,rfl,_,_,rfl,rfl,?_⟩
  dsimp only
  rw[xorI]
  obtain⟨u,o,hui,hs,ho,hat,ixu⟩:∃(u:Nat)(o:Option Int),(if(i.testBit e.1 ^^ i.testBit e.2)=true then(1:Int) else 0)=(u:Int)/\sgN es n i=decide (u=1)/\(u=0/\o=o0∨u=1/\o=o1)/\[vO o0,vO o1][u]?=some (vO o)/\u<2:=by
   rw[EF he]
   cases (i.testBit e.1 ^^ i.testBit e.2) with
   |true=>exact⟨1,o1,rfl,rfl,.inr ⟨rfl,rfl⟩,rfl,by decide⟩
   |false=>exact⟨0,o0,rfl,rfl,.inl ⟨rfl,rfl⟩,rfl,by decide⟩
  rw[hui]
  have fin:(∀ c,o=some c->wT es ks i<c)->∃(v4 v5:Option V)(p0 p1:Option Int),[some (.ref q),some (.ref p),some (.int fl),some (.ref wy),some (.int (i:Int)),some (.int (u:Int))] = [some (.ref q),some (.ref p),some (.int fl),some (.ref wy),v4,v5]/\Same H (upd H2 wy (.lst ([vO o0,vO o1].set u (.int (wT es ks i)))))/\(upd H2 wy (.lst ([vO o0,vO o1].set u (.int (wT es ks i))))) wy=some (.lst [vO p0,vO p1])/\Bw es ks n false (i+1) p0/\Bw es ks n true (i+1) p1:=fun lt=>by
   rcases ho with⟨rfl,rfl⟩ | ⟨rfl,rfl⟩
   ·have hs':sgN es n i=false:=hs
    exact⟨_,_,some (wT es ks i),o1,rfl,aR s2 hwy _,af,b0.put hs' lt,b1.skip (by rw[hs'];decide)⟩
   ·have hs':sgN es n i=true:=hs
    exact⟨_,_,o0,some (wT es ks i),rfl,aR s2 hwy _,af,b0.skip (by rw[hs'];decide),b1.put hs' lt⟩
  have kee:∀ c:Int,o=some c->c<=wT es ks i->Bw es ks n false (i+1) o0/\Bw es ks n true (i+1) o1:=fun c e le=>by
   subst e
   rcases ho with⟨rfl,e⟩ | ⟨rfl,e⟩
   ·have hs':sgN es n i=false:=hs
    subst e
    exact⟨b0.keep le,b1.skip (by rw[hs'];decide)⟩
   ·have hs':sgN es n i=true:=hs
    subst e
    exact⟨b0.skip (by rw[hs'];decide),b1.keep le⟩
  refine⟨_,rfl,_,rfl,wy,[vO o0,vO o1],_,_,rfl,rfl,SqL.of hq2,aA hat,rfl,_,rfl,?_⟩
  cases o with
  |none =>
   refine iteT (iteT ?_)
   exact⟨_,rfl,_,rfl,q,_,_,_,rfl,rfl,s2.seq hq,aA ci,_,rfl,_,rfl,wy,_,_,u,rfl,rfl,hq2,fu ixu,fin (fun c z=>nomatch z)⟩
  |some c =>
   refine iteF ?_
   refine⟨_,rfl,_,rfl,q,_,_,_,rfl,rfl,s2.seq hq,aA ci,_,rfl,_,rfl,wy,_,_,_,rfl,rfl,SqL.of hq2,aA hat,_,c,rfl,rfl,_,rfl,ite2 (fun z=>?_) (fun z=>?_)⟩
   ·exact⟨_,rfl,_,rfl,q,_,_,_,rfl,rfl,s2.seq hq,aA ci,_,rfl,_,rfl,wy,_,_,u,rfl,rfl,hq2,fu ixu,fin (fun c' e=>by cases e;exact of_decide_eq_true z)⟩
   ·have le:c<=wT es ks i:=by
     have:¬ wT es ks i<c:=fun y=>z (decide_eq_true y)
     omega +splitDisjunctions
    obtain⟨k0,k1⟩:=kee c rfl le
    exact⟨_,_,o0,o1,rfl,s2,hq2,k0,k1⟩
 ·rintro σ H2 ⟨v4,v5,o0,o1,rfl,s2,hq2,b0,b1⟩
  rw[PQ,clV]at b0 b1
  obtain⟨x0,x1⟩:=Pa (m:=m) he e1 e2
  obtain⟨w0,rfl,W0⟩:=b0.way x0
  obtain⟨w1,rfl,W1⟩:=b1.way x1
  have flm:fl=w0∨fl=w1:=by
   obtain⟨L,hL⟩:=Qz.mp fl1
   have Ll:L<2^m:=by rw[← cl];exact(Pp.mp hL).1
   rw[jj Ll]at hL
   have wf:wT es ks L=fl:=P5 hL
   have lo:∀ b v,Way m es ks n b v->fl<=v:=fun b v W=>by
    obtain⟨L',a1,a2,a3⟩:=W.ex
    rw[← a3]
    exact fl2 _ (Pr (jj a1))
   cases hb:sgN es n L with
   |false=>have:=W0.lo L Ll hb;have:=lo _ _ W0;left;omega +splitDisjunctions
   |true=>have:=W1.lo L Ll hb;have:=lo _ _ W1;right;omega +splitDisjunctions
  have f0:fl<=w0:=by
   obtain⟨L',a1,a2,a3⟩:=W0.ex
   rw[← a3]
   exact fl2 _ (Pr (jj a1))
  have f1:fl<=w1:=by
   obtain⟨L',a1,a2,a3⟩:=W1.ex
   rw[← a3]
   exact fl2 _ (Pr (jj a1))
  refine⟨_,rfl,wy,_,_,_,rfl,rfl,SqL.of hq2,at0,_,rfl,_,_,rfl,rfl,_,rfl,ite2 (fun c=>?_) (fun c=>?_)⟩
  ·have c':fl<w0:=of_decide_eq_true c
   have ev:setV w0 w1 = [.int 1,.int (w0-fl)]:=by
    have:fl=w1:=by omega +splitDisjunctions
    subst this
    unfold setV
    rw[if_neg (by omega +splitDisjunctions),if_pos c']
   refine⟨_,rfl,wy,_,_,_,rfl,rfl,SqL.of hq2,at0,_,rfl,_,_,rfl,rfl,(by show 2<=sizeLine;decide),fun t ht=>?_⟩
   exact kk t w0 w1 _ (s2.trans (ak ht _)) (by rw[ev];exact af) W0 W1
  ·have c':¬ fl<w0:=fun z=>c (decide_eq_true z)
   refine⟨_,rfl,wy,_,_,_,rfl,rfl,SqL.of hq2,at1,_,rfl,_,_,rfl,rfl,_,rfl,ite2 (fun c2=>?_) (fun c2=>?_)⟩
   ·have c2':fl<w1:=of_decide_eq_true c2
    have ev:setV w0 w1 = [.int 0,.int (w1-fl)]:=by
     have:fl=w0:=by omega +splitDisjunctions
     subst this
     unfold setV
     rw[if_pos c2']
    refine⟨_,rfl,wy,_,_,_,rfl,rfl,SqL.of hq2,at1,_,rfl,_,_,rfl,rfl,(by show 2<=sizeLine;decide),fun t ht=>?_⟩
    exact kk t w0 w1 _ (s2.trans (ak ht _)) (by rw[ev];exact af) W0 W1
   ·have c2':¬ fl<w1:=fun z=>c2 (decide_eq_true z)
    have ev:setV w0 w1 = [.non,.int 0]:=by
     unfold setV
     rw[if_neg (by omega +splitDisjunctions),if_neg (by omega +splitDisjunctions)]
    refine⟨(by show 2<=sizeLine;decide),fun t ht=>?_⟩
    exact kk t w0 w1 _ (s2.trans (ak ht _)) (by rw[ev];exact af) W0 W1
theorem BG:aC ["found","due"] ["found","due"] (aj eO):=⟨rfl,rfl,rfl,by decide +kernel,rfl,by decide +kernel,by decide +kernel⟩
theorem NW{f fn:Addr}{fd dn:FuncData} (F:Fun K "_law_told" "_law_told" eO f fd) (T:Txt mg) (G_law_number:Cal P w K mg base 1 "_law_number" ["found"] Nz fn dn):FnOk P w K mg base CX0 2 f fd ["found","due"] Be:=by
 refine F.ok BG (fun vs H Q E h=>?_) (fun cdv A outer s H vs Q E hr h=>?_)
 ·obtain⟨r,t,v0,v1,rfl,_⟩:=h
  rfl
 obtain⟨r,t,v0,v1,rfl,hr1,ht1,kk⟩:=h
 have hv:setV v0 v1 = [.non,.int 0]∨∃ a b:Int,setV v0 v1 = [.int a,.int b]:=by
  unfold setV
  by_cases c:v0<v1
  ·rw[if_pos c];exact .inr ⟨_,_,rfl⟩
  ·rw[if_neg c]
   by_cases c2:v1<v0
   ·rw[if_pos c2];exact .inr ⟨_,_,rfl⟩
   ·rw[if_neg c2];exact .inl rfl
 refine⟨_,(ag (bZ (PW.pt (yI (yK (yJ (aE pZ (by rfl) T.n_isinstance eI (ae (pv 0) (ae (vV (v:=.ty "tuple") rfl T.n_tuple MB rfl) ai))))) (yI (aG oZ (aE ar (by rfl) T.n_len aY (ae (pv 0) ai)) ah (aN _)) (yI (yK (yJ (ay G_law_number.ok (hr.mono (by decide)) rfl G_law_number.mg G_law_number.kp G_law_number.bn .nil aP (ae (ax aH (pv 0) ah (fun _ _=>rfl)) ai)))) (ux (aG oZ (ax aH (pv 0) ah (fun _ _=>rfl)) (ax aH (pv 1) ah (fun _ _=>rfl)) (aN _))))))) (aq (aI Cg)) aS)
   (ag (bZ (aG EL (ax aH (pv 1) ah (fun _ _=>rfl)) gG (aN _)) (aq (aI (Cf EL (ax aH (pv 0) ah (fun _ _=>rfl)) gG (aN _)))) aS)
   (aq (aI (MY (ay G_law_number.ok (hr.mono (by decide)) rfl G_law_number.mg G_law_number.kp G_law_number.bn .nil aP (ae (ax aH (pv 0) ah (fun _ _=>rfl)) ai)) (MX (Cf iS (ax aH (pv 0) ah (fun _ _=>rfl)) (ax aH (pv 1) ah (fun _ _=>rfl)) (aN _)))))))),?_⟩
 rcases hv with hv | ⟨a,b,hv⟩
 ·rw[hv]at hr1 ht1
  refine⟨_,rfl,_,_,_,_,_,rfl,TyOf.tup hr1,Or.inl ⟨_,rfl,rfl⟩,M3 K,_,rfl,iteF ?_⟩
  refine⟨_,rfl,r,_,rfl,.inr (SqT.of hr1),rfl,_,rfl,tU rfl ?_⟩
  refine⟨_,rfl,r,_,1,_,rfl,rfl,SqT.of hr1,at1,0,rfl,_,rfl,iteF ?_⟩
  refine⟨_,rfl,r,_,1,_,rfl,rfl,SqT.of hr1,at1,_,rfl,t,_,1,_,rfl,rfl,SqT.of ht1,at1,rfl,_,rfl,tU rfl ?_⟩
  refine⟨_,rfl,t,_,0,_,rfl,rfl,SqT.of ht1,at0,rfl,_,rfl,iteT ?_⟩
  exact⟨_,rfl,r,_,0,_,rfl,rfl,SqT.of hr1,at0,rfl,kk⟩
 ·rw[hv]at hr1 ht1
  refine⟨_,rfl,_,_,_,_,_,rfl,TyOf.tup hr1,Or.inl ⟨_,rfl,rfl⟩,M3 K,_,rfl,iteF ?_⟩
  refine⟨_,rfl,r,_,rfl,.inr (SqT.of hr1),rfl,_,rfl,tU rfl ?_⟩
  refine⟨_,rfl,r,_,1,_,rfl,rfl,SqT.of hr1,at1,b,rfl,_,rfl,iteF ?_⟩
  refine⟨_,rfl,r,_,1,_,rfl,rfl,SqT.of hr1,at1,_,rfl,t,_,1,_,rfl,rfl,SqT.of ht1,at1,rfl,_,rfl,tU rfl ?_⟩
  refine⟨_,rfl,t,_,0,_,rfl,rfl,SqT.of ht1,at0,rfl,_,rfl,iteF ?_⟩
  refine⟨_,rfl,r,_,0,_,rfl,rfl,SqT.of hr1,at0,a,rfl,_,rfl,iteT ?_⟩
  refine⟨_,rfl,r,_,0,_,rfl,rfl,SqT.of hr1,at0,_,rfl,t,_,0,_,rfl,rfl,SqT.of ht1,at0,rfl,?_⟩
  rw[decide_eq_true rfl]
  exact kk
theorem Mw(ns:List Int)(a b:Nat):∃ cs:List Int,cutV (ns.map V.int) (some (a:Int)) (some (b:Int))=cs.map V.int/\cs.length<=b-a:=by
 refine⟨(ns.drop (min a ns.length)).take (min b ns.length-min a ns.length),?_,?_⟩
 ·unfold cutV
  rw[HT.sIx_nat,HT.sIx_nat,PB,RW,RX]
 ·rw[Qr]
  omega
def ED(K:Pt)(TT:Addr):Sp:=fun vs H Q _=>∃(a:Addr)(ns:List Int),vs = [.ref a]/\SqL K H a (ns.map V.int)/\ns.length<=63/\Tb KF.lqF KF.lpF TT H/\∀ H',Q (.bl true) H'
theorem uu:aC ["script","grown","kinds","costs","found","k"] ["script"] (aj vC):=⟨rfl,rfl,rfl,by decide +kernel,rfl,by decide +kernel,by decide +kernel⟩
theorem ok_law{TT f fG fR fC fK fW fS fD fT fO PL PS WC:Addr}{fd dG dR dC dK dW dS dD dT dO:FuncData} (F:Fun K "law" "law" vC f fd) (T:Txt mg) (G_law_grown:Cal P w K mg base 3 "_law_grown" ["cells","places"] (vk K) fG dG) (G_law_renumbered:Cal P w K mg base 2 "_law_renumbered" ["grown","cell"] HF fR dR) (G_law_cell:Cal P w K mg base 1 "_law_cell" ["script","k"] (EE K) fC dC) (G_law_kinds:Cal P w K mg base 2 "_law_kinds" ["script","many","limits"] (Bp K) fK dK) (G_law_costs:Cal P w K mg base 2 "_law_costs" ["grown","kinds"] Bq fO dO) (G_law_web:Cal P w K mg base 7 "_law_web" ["grown","kinds"] (Bn PL PS WC) fW dW) (G_set_ties:Cal P w K mg base 15 "set_ties" ["web"] (HD TT PL PS WC) fS dS) (G_law_due:Cal P w K mg base 1 "_law_due" ["costs","end"] (NB K) fD dD) (G_law_told:Cal P w K mg base 2 "_law_told" ["found","due"] Be fT dT):FnOk P w K mg base CX0 16 f fd ["script"] (ED K TT):=by
 refine F.ok uu (fun vs H Q E h=>?_) (fun cdv A outer s H vs Q E hr h=>?_)
 ·obtain⟨a,ns,rfl,_⟩:=h
  rfl
 obtain⟨a,ns,rfl,hS,h63,tb,kk⟩:=h
 refine⟨_,(ag (av (i:=1) uu.nd rfl (Or.inl rfl) (ay G_law_renumbered.ok (hr.mono (by decide)) rfl G_law_renumbered.mg G_law_renumbered.kp G_law_renumbered.bn .nil aP (ae (ay G_law_grown.ok (hr.mono (by decide)) rfl G_law_grown.mg G_law_grown.kp G_law_grown.bn .nil aP (ae (eu gP (pv 0) (fe ah) (fe ah)) (ae ah ai))) (ae (ay G_law_cell.ok (hr.mono (by decide)) rfl G_law_cell.mg G_law_cell.kp G_law_cell.bn .nil aP (ae (pv 0) (ae ah ai))) ai))))
   (ag (av (i:=2) uu.nd rfl (Or.inl rfl) (ay G_law_kinds.ok (hr.mono (by decide)) rfl G_law_kinds.mg G_law_kinds.kp G_law_kinds.bn .nil aP (ae (pv 0) (ae (aE ar (by rfl) T.n_len aY (ae (ax aH (pv 1) ah (fun _ _=>rfl)) ai)) (ae (bY (ae ah (ae ah (ae (aw bA (aw op_pow ah ah) ah) ai)))) ai)))))
   (ag (av (i:=3) uu.nd rfl (Or.inl rfl) (ay G_law_costs.ok (hr.mono (by decide)) rfl G_law_costs.mg G_law_costs.kp G_law_costs.bn .nil aP (ae (pv 1) (ae (pv 2) ai))))
   (ag (av (i:=4) uu.nd rfl (Or.inl rfl) (ay G_set_ties.ok (hr.mono (by decide)) rfl G_set_ties.mg G_set_ties.kp G_set_ties.bn .nil aP (ae (ay G_law_web.ok (hr.mono (by decide)) rfl G_law_web.mg G_law_web.kp G_law_web.bn .nil aP (ae (pv 1) (ae (pv 2) ai))) ai)))
   (ag (bZ (PW.pt (yI (yK (yJ (aE pZ (by rfl) T.n_isinstance eI (ae (pv 4) (ae (vV (v:=.ty "list") rfl T.n_list lD rfl) ai))))) (ux (aG oZ (aE ar (by rfl) T.n_len aY (ae (pv 4) ai)) (aE ar (by rfl) T.n_len aY (ae (pv 2) ai)) (aN _))))) (aq (aI Cg)) aS)
   (ag (bM PassesOwn.never rfl (aW rfl T.n_range (ae (aE ar (by rfl) T.n_len aY (ae (pv 2) ai)) ai)) (aO (i:=5) uu.nd rfl (Or.inl rfl)) (aq (bZ (yK (yJ (ay G_law_told.ok (hr.mono (by decide)) rfl G_law_told.mg G_law_told.kp G_law_told.bn .nil aP (ae (ax az (pv 4) (pv 5) (fun _ _=>rfl)) (ae (ay G_law_due.ok (hr.mono (by decide)) rfl G_law_due.mg G_law_due.kp G_law_due.bn .nil aP (ae (pv 3) (ae (ax az (ax aH (pv 1) ah (fun _ _=>rfl)) (pv 5) (fun _ _=>rfl)) ai))) ai))))) (aq (aI Cg)) aS)))
   (aq (aI Cg)))))))),?_⟩
 obtain⟨cs,hcs,csl⟩:=Mw ns 2 9
 refine⟨_,rfl,_,rfl,_,rfl,a,_,rfl,hS,fun b hb=>?_⟩
 have sb:=ak hb (.lst (cs.map V.int))
 rw[show cutV (ns.map V.int) (some 2) (some 9)=cs.map V.int from hcs]
 refine⟨b,6,cs,rfl,SqL.of af,by omega,by decide,fun t pe pt pr m es ts rg H1 s1 ht ⟨⟨ys,xs,zs,C⟩,g,part⟩ e0 el mP=>?_⟩
 have s01:=sb.trans s1
 refine⟨_,rfl,a,0,ns,rfl,s01.seq hS,t,pe,pt,pr,_,m,es,ts,rg,rfl,ht,⟨⟨ys,C.he,C.en⟩,⟨xs,C.ht,C.rx.off⟩,g⟩,⟨zs,C.hr,C.rz.off⟩,part,g.two e0,by omega,fun t' pe' pt' pr' es' ts' rg' H2 s2 ht' wp rp part' el'=>?_⟩
 have s02:=s01.trans s2
 obtain⟨⟨ys',hpe',hE'⟩,⟨xs',hpt',hR'⟩,g'⟩:=id wp
 have yl':ys'.length=es'.length:=hE'.1
 refine⟨_,rfl,_,rfl,t',_,0,_,rfl,rfl,SqT.of ht',at30,pe',ys',rfl,.inl (SqL.of hpe'),_,_,rfl,rfl,⟨by decide,by decide,by decide⟩,_,_,rfl,rfl,(by show 3<=sizeLine;decide),fun lm hlm=>?_⟩
 have sl:=ak hlm (.lst [V.int 2,V.int 4,V.int (10^(30:Int).toNat+1)])
 have s03:=s02.trans sl
 refine⟨a,lm,es'.length,ns,[2,4,10^(30:Int).toNat+1],(by rw[yl'];rfl),s03.seq hS,h63,SqL.of af,by decide,by decide,fun x hx=>?_,by omega,by omega,fun pk ws ks H4 s4 hpk tk kl kb=>?_⟩
 ·rcases Pw.mp hx with z | z
  ·rw[z];decide
  ·rcases Pw.mp z with z | z
   ·rw[z];decide
   ·rw[Qy.mp z];exact⟨by decide,QV _⟩
 have s24:=sl.trans s4
 have s04:=s03.trans s4
 have mE:m<=10:=by omega
 refine⟨_,rfl,_,rfl,t',pe',pt',pr',pk,m,es',ts',ks,rfl,s24 _ _ ht',wp.mono s24,⟨ws,hpk,tk⟩,kl,by omega,mE,fun qc H5 s5 nqc hqc=>?_⟩
 have s25:=s24.trans s5
 have s05:=s04.trans s5
 have wp5:=wp.mono s25
 refine⟨_,rfl,_,rfl,t',pe',pt',pr',pk,m,es',ts',ks,rfl,s25 _ _ ht',wp5,⟨ws,s5 _ _ hpk,tk.mono s5⟩,by omega,kl,by omega,fun p rs H6 s6 wf=>?_⟩
 have s06:=s05.trans s6
 have kin:∀ k∈ks,k.1=0∨k.1=1:=fun k hk=>by
  obtain⟨i,hi⟩:=Q6 hk
  exact(tk.2 i k hi).1
 have kb3:∀ k∈ks,0<=k.2/\k.2<=10^(30:Int).toNat:=fun k hk=>by
  obtain⟨i,hi⟩:=Q6 hk
  exact⟨(tk.2 i k hi).2.1,kb k hk⟩
 refine⟨p,m,es',ks,rfl,⟨ts',rs,_,wf,g',kl,kin,kb3,by omega,KF.tb_same tb s06⟩,fun qf zf H7 sm7 hqf sa=>?_⟩
 have smA:KF.SmT H5 H7:=(KF.SmT.of s6).trans sm7
 have hqc7:=smA.lst hqc
 have ht7:=smA.tup (s25 _ _ ht')
 have hpe7:=smA.lst (s25 _ _ hpe')
 have hE7:=Lh smA (hE'.mono s25)
 have hpk7:=smA.lst (s5 _ _ hpk)
 have wsl:ws.length=es'.length:=by rw[tk.1,kl]
 refine⟨_,rfl,_,_,_,_,_,rfl,TyOf.lst hqf,Or.inl ⟨_,rfl,rfl⟩,kit_ll K,_,rfl,iteF ?_⟩
 refine⟨_,rfl,qf,zf,rfl,.inl (SqL.of hqf),_,rfl,pk,ws,rfl,.inl (SqL.of hpk7),rfl,_,rfl,tU (by rw[sa.1,wsl]) ?_⟩
 refine⟨_,rfl,pk,ws,rfl,.inl (SqL.of hpk7),_,rfl,by omega,by omega,cR (n:=(ws.length:Int).toNat) (fun i σ H8=>∃(v5:Option V),σ = [some (.ref a),some (.ref t'),some (.ref pk),some (.ref qc),some (.ref qf),v5]/\Same H7 H8) ⟨_,rfl,fun _ _ z=>z⟩ ?_ ?_⟩
 ·rintro i σ H8 hi ⟨v5,rfl,s8⟩
  rw[PQ,wsl]at hi
  rw[QR]
  obtain⟨r,v0,v1,a1,a2,w0,w1⟩:=sa.2 i hi
  obtain⟨e,he⟩:∃ e,es'[i]?=some e:=⟨_,Pq hi⟩
  obtain⟨x,x1,x2⟩:=(hE7.mono s8).2 i e he
  obtain⟨y1,y2,y3⟩:=g'.w.ends e (Pr he)
  refine⟨_,rfl,_,rfl,qf,zf,_,_,rfl,rfl,SqL.of (s8 _ _ hqf),aA a1,_,rfl,_,rfl,t',_,0,_,rfl,rfl,SqT.of (s8 _ _ ht7),at30,_,rfl,pe',ys',_,_,rfl,rfl,SqL.of (s8 _ _ hpe7),aA x1,qc,x,i,m,es',ks,e,rfl,SqL.of (s8 _ _ hqc7),x2,he,y1,y3,mE,fun t2 u0 u1 H9 s9 ht2 W0 W1=>?_⟩
  have q0:=W0.is w0
  have q1:=W1.is w1
  subst q0 q1
  refine⟨r,t2,_,_,rfl,s9 _ _ (s8 _ _ a2),ht2,_,rfl,iteF ?_⟩
  exact⟨_,rfl,s8.trans s9⟩
 ·rintro σ H8 ⟨v5,rfl,s8⟩
  exact kk _
end
end K8
namespace K8
open PySem L2
open KF (gX c7 iO gU kr qp qo BM bp cn aZ cm gW)
theorem Ld{K:Pt}{x:Str}{f c T:Addr}{o1 o3:Value}{o2 o4:Option Addr}{o5 o6:Array (Option Value)}{fd:FuncData}{vs:Array Value}(a:PK K mainGlobals x=some (some (.ref f)))(l:K.lookup f=some ⟨o1,o2,.func fd,o5⟩)(e:fd.code=.ref c)(lc:K.lookup c=some ⟨o3,o4,.fields vs,o6⟩)(v:vs[11]?=some (.ref T)):RC K x=some (c,T):=by
 unfold RC
 rw[a]
 simp only[l,e,lc,v]
theorem all_mk{l:SR}{w:World}{K:Pt}{h:Heap}{mg:Str->Option Value}{fa bu br dZ E1 EY Mr ji jh pW j0 xw pS xu dB iA cV iq pU pT pV fY jZ jY bC gI bQ fy EZ mw j8 fV ip jW eF dA cU cJ EX fX eG dE iB mv jX j7 j6 mz j5 iy iu cj iw my ir iz fZ mB j4 OR:Addr}{cT TT:Addr}{oT:Value}{dT:Option Addr}{vT:Array Value}{sT:Array (Option Value)}(X:K.In h)(G:h.Ns mainGlobals mg) (hfa:mg "law" = some (.ref fa))
  {Om Ph Oj Pf od_odd an_odd FL He FK Hd IP KL Co Em LV MI IJ KG LU MH qC sf zi AY o8 pG zb AR IL KI IK KH IM KJ wm ya Cn El Cm Ek wx ye Cv Eu wu yd zk A0 Ol Pg FN Hf Cu Et we x8 za AQ Cj Ei tJ uf qB se o7 pF wt yc Oi Pe wj x9 tK ug qD sj zj AZ FJ Hc Ck Ej Ct Es Cr Er FP Hh Cq Ep zg AW zd AU mV nU ze AV FO Hg zc AS zh AX wq yb FQ Hi Cp Eo od_law Nb:Option Addr} {NH NF sl_odd Fl Fj HV Bv Lj HQ Li qj yy oU yr HS HR HU vp Bu Bt vx BC vw yA NG Fm BB vn yq Br tD qi oS vt ND vo tE qk yz Fi Bs BA Bz Fo By yw yu mS yv Fn yt yx vq Fp Bx sl_law:Array (Option Value)} {Ov OO OW NR Ki O5 Ot OM OU NP Kf O3 oc_odd kV_odd dc_odd pm_odd Na ct_odd FU Gj GC Fx uI GN FT Gi GB Fw uH GK IV Js JT Ir AA Ka CB Dk DG BW rK DS LX Mj Mu Lw xQ My IQ Jo JP Im Aw JY LW Mi Mt Lv E7 Mx qF qV rf qw jn rA zw zR Af yS oF Aq pd pj pB oY iJ pD zo zL z8 yM ox Ak IT Jq JR Ip Ay J1 IS Jp JQ Io Ax JZ IU Jr JS Iq Az J2 wC xh xA vI mH xJ CA Dj DF BV rJ DR Cz Di DE BU rH DQ wI xm xE vM mL xO CI Dt DM B8 rQ DY wH xk xD vL mK xN zy zT Ai yU oH As Ou ON OV NQ Kh O4 FV Gk GD Fy uJ GO CH Ds DL B7 rP DX wA xc xx vG mF xH zm zK zZ yL ow Aj Cw Dg DC BR rF DO tL tS tV tH kd tZ qE qU rb qv jk rj o9 ph pA oX iI pC wG xj xC vK mJ xM Oq OL OT NO Ke O2 wB xf xy vH mG xI tO tT tW tI ke ua qG qW rh qx jo rB zx zS Ag yT oG Ar FR Gg GA Fv uG GJ Cy Dh DD BS rG DP CG Dr DK B0 rO DW CF Dp DJ BZ rN DV FX Gs GG FA uL GQ CD Dn DI BY rM DU zu zP Ad yQ oB Ao zr zN Ab yO oz Am mX nA nE mU gK nF zt zO Ac yP oA An FW Gn GF Fz uK GP zp zM Aa yN oy Al zv zQ Ae yR oE Ap wD xi xB vJ mI xK FY Gu GH FC uM GU CC Dm DH BX rL DT oc_law M4 M7 MV Kg M8:Value}
  {ti_most ti_modd:Tok}
  (Ey:PK K mainGlobals "Pull" = some (some (.ref bu)))
  (Ex:PK K mainGlobals "Push" = some (some (.ref br)))
  (KR:PK K mainGlobals "Web" = some (some (.ref dZ)))
  (i0:Qg K (.ref bu) "__init__" = some (some (.ref bC)))
  (iZ:Qg K (.ref bu) "wish" = some (some (.ref gI)))
  (gh:Qg K (.ref bu) "signed" = some (some (.ref bQ)))
  (iY:Qg K (.ref br) "__init__" = some (some (.ref bC)))
  (iX:Qg K (.ref br) "wish" = some (some (.ref fy)))
  (gg:Qg K (.ref br) "signed" = some (some (.ref bQ)))
  (kH:Qg K (.ref dZ) "__init__" = some (some (.ref cJ)))
  (KQ:PK K mainGlobals "bits" = some (some (.ref E1)))
  (Jk:K.lookup E1=some ⟨Ov,Om,.func (PX "bits" "bits" (aD qp) (aB qp) (aj qp) .none OO OW NR Ph Ki O5),NH⟩)
  (Kq:PN K Ki "bits" = true)
  (EW:PJ K (.ref E1)=true)
  (KO:PK K mainGlobals "ones" = some (some (.ref EY)))
  (Ji:K.lookup EY=some ⟨Ot,Oj,.func (PX "ones" "ones" (aD qo) (aB qo) (aj qo) .none OM OU NP Pf Kf O3),NF⟩)
  (Km:PN K Kf "ones" = true)
  (EV:PJ K (.ref EY)=true)
  (Pk:PK K mainGlobals "odd" = some (some (.ref Mr)))
  (OH:K.lookup Mr=some ⟨oc_odd,od_odd,.func (PX "odd" "odd" (aD BM) (aB BM) (aj BM) .none kV_odd dc_odd pm_odd an_odd Na ct_odd),sl_odd⟩)
  (O6:PN K Na "odd" = true)
  (Mh:PJ K (.ref Mr)=true)
  (sr:PK K mainGlobals "mask_of" = some (some (.ref ji)))
  (qO:K.lookup ji=some ⟨FU,FL,.func (PX "mask_of" "mask_of" (aD cN) (aB cN) (aj cN) .none Gj GC Fx He uI GN),Fl⟩)
  (rV:PN K uI "mask_of" = true)
  (jd:PJ K (.ref ji)=true)
  (sq:PK K mainGlobals "reached" = some (some (.ref jh)))
  (qN:K.lookup jh=some ⟨FT,FK,.func (PX "reached" "reached" (aD cM) (aB cM) (aj cM) .none Gi GB Fw Hd uH GK),Fj⟩)
  (rT:PN K uH "reached" = true)
  (jc:PJ K (.ref jh)=true)
  (yj:PK K mainGlobals "beyond" = some (some (.ref pW)))
  (wX:K.lookup pW=some ⟨IV,IP,.func (PX "beyond" "beyond" (aD gX) (aB gX) (aj gX) .none Js JT Ir KL AA Ka),HV⟩)
  (xV:PN K AA "beyond" = true)
  (pO:PJ K (.ref pW)=true)
  (nZ:PK K mainGlobals "links_at" = some (some (.ref j0)))
  (ng:K.lookup j0=some ⟨CB,Co,.func (PX "links_at" "links_at" (aD c7) (aB c7) (aj c7) .none Dk DG BW Em rK DS),Bv⟩)
  (nK:PN K rK "links_at" = true)
  (jP:PJ K (.ref j0)=true)
  (sJ:PK K mainGlobals "fares" = some (some (.ref xw)))
  (wW:K.lookup xw=some ⟨LX,LV,.func (PX "fares" "fares" (aD iO) (aB iO) (aj iO) .none Mj Mu Lw MI xQ My),Lj⟩)
  (D3:PN K xQ "fares" = true)
  (wZ:PJ K (.ref xw)=true)
  (yf:PK K mainGlobals "row_to" = some (some (.ref pS)))
  (wQ:K.lookup pS=some ⟨IQ,IJ,.func (PX "row_to" "row_to" (aD gU) (aB gU) (aj gU) .none Jo JP Im KG Aw JY),HQ⟩)
  (xR:PN K Aw "row_to" = true)
  (pK:PJ K (.ref pS)=true)
  (Ew:PK K mainGlobals "whole" = some (some (.ref xu)))
  (Dd:K.lookup xu=some ⟨LW,LU,.func (PX "whole" "whole" (aD kr) (aB kr) (aj kr) .none Mi Mt Lv MH E7 Mx),Li⟩)
  (D2:PN K E7 "whole" = true)
  (wY:PJ K (.ref xu)=true)
  (gv:PK K mainGlobals "refuse_marks" = some (some (.ref dB)))
  (gm:K.lookup dB=some ⟨qF,qC,.func (PX "refuse_marks" "refuse_marks" (aD bp) (aB bp) (aj bp) .none qV rf qw sf jn rA),qj⟩)
  (gq:PN K jn "refuse_marks" = true)
  (dy:PJ K (.ref dB)=true)
  (lM:PK K mainGlobals "chosen_of" = some (some (.ref iA)))
  (kU:K.lookup iA=some ⟨zw,zi,.func (PX "chosen_of" "chosen_of" (aD cn) (aB cn) (aj cn) .none zR Af yS AY oF Aq),yy⟩)
  (lA:PN K oF "chosen_of" = true)
  (ig:PJ K (.ref iA)=true)
  (fE:PK K mainGlobals "laid_in_pairs" = some (some (.ref cV)))
  (ft:K.lookup cV=some ⟨pd,o8,.func (PX "laid_in_pairs" "laid_in_pairs" (aD aZ) (aB aZ) (aj aZ) .none pj pB oY pG iJ pD),oU⟩)
  (fA:PN K iJ "laid_in_pairs" = true)
  (bP:PJ K (.ref cV)=true)
  (lF:PK K mainGlobals "new_table" = some (some (.ref iq)))
  (kK:K.lookup iq=some ⟨zo,zb,.func (PX "new_table" "new_table" (aD cm) (aB cm) (aj cm) .none zL z8 yM AR ox Ak),yr⟩)
  (lg:PN K ox "new_table" = true)
  (h7:PJ K (.ref iq)=true)
  (yh:PK K mainGlobals "paired" = some (some (.ref pU)))
  (wU:K.lookup pU=some ⟨IT,IL,.func (PX "paired" "paired" (aD gW) (aB gW) (aj gW) .none Jq JR Ip KI Ay J1),HS⟩)
  (xT:PN K Ay "paired" = true)
  (pM:PJ K (.ref pU)=true)
  (yg:PK K mainGlobals "pushes" = some (some (.ref pT)))
  (wR:K.lookup pT=some ⟨IS,IK,.func (PX "pushes" "pushes" (aD jI) (aB jI) (aj jI) .none Jp JQ Io KH Ax JZ),HR⟩)
  (xS:PN K Ax "pushes" = true)
  (pL:PJ K (.ref pT)=true)
  (yi:PK K mainGlobals "odd_at" = some (some (.ref pV)))
  (wV:K.lookup pV=some ⟨IU,IM,.func (PX "odd_at" "odd_at" (aD jJ) (aB jJ) (aj jJ) .none Jr JS Iq KJ Az J2),HU⟩)
  (xU:PN K Az "odd_at" = true)
  (pN:PJ K (.ref pV)=true)
  (jB:PK K mainGlobals "odd_rounds" = some (some (.ref fY)))
  (i7:K.lookup fY=some ⟨wC,wm,.func (PX "odd_rounds" "odd_rounds" (aD cD) (aB cD) (aj cD) .none xh xA vI ya mH xJ),vp⟩)
  (jt:PN K mH "odd_rounds" = true)
  (fN:PJ K (.ref fY)=true)
  (nY:PK K mainGlobals "links_of" = some (some (.ref jZ)))
  (m9:K.lookup jZ=some ⟨CA,Cn,.func (PX "links_of" "links_of" (aD eN) (aB eN) (aj eN) .none Dj DF BV El rJ DR),Bu⟩)
  (nJ:PN K rJ "links_of" = true)
  (jO:PJ K (.ref jZ)=true)
  (nX:PK K mainGlobals "marks_of" = some (some (.ref jY)))
  (m8:K.lookup jY=some ⟨Cz,Cm,.func (PX "marks_of" "marks_of" (aD eM) (aB eM) (aj eM) .none Di DE BU Ek rH DQ),Bt⟩)
  (nI:PN K rH "marks_of" = true)
  (jN:PJ K (.ref jY)=true)
  (jb:K.lookup bC=some ⟨wI,wx,.func (PX "__init__" "Tie.__init__" (aD cH) (aB cH) (aj cH) .none xm xE vM ye mL xO),vx⟩)
  (jx:PN K mL "Tie.__init__" = true)
  (jf:PJ K (.ref bC)=true)
  (fU:RJ K (.ref bC)=true)
  (nz:K.lookup gI=some ⟨CI,Cv,.func (PX "wish" "Tie.wish" (aD eX) (aB eX) (aj eX) .none Dt DM B8 Eu rQ DY),BC⟩)
  (nQ:PN K rQ "Tie.wish" = true)
  (jV:PJ K (.ref gI)=true)
  (nB:RJ K (.ref gI)=true)
  (ja:K.lookup bQ=some ⟨wH,wu,.func (PX "signed" "Tie.signed" (aD cG) (aB cG) (aj cG) .none xk xD vL yd mK xN),vw⟩)
  (jw:PN K mK "Tie.signed" = true)
  (dN:PJ K (.ref bQ)=true)
  (fQ:RJ K (.ref bQ)=true)
  (kX:K.lookup fy=some ⟨zy,zk,.func (PX "wish" "Push.wish" (aD dq) (aB dq) (aj dq) .none zT Ai yU A0 oH As),yA⟩)
  (lC:PN K oH "Push.wish" = true)
  (ik:PJ K (.ref fy)=true)
  (kY:RJ K (.ref fy)=true)
  (KP:PK K mainGlobals "head" = some (some (.ref EZ)))
  (Jj:K.lookup EZ=some ⟨Ou,Ol,.func (PX "head" "head" (aD uw) (aB uw) (aj uw) .none ON OV NQ Pg Kh O4),NG⟩)
  (Ko:PN K Kh "head" = true)
  (k_head:PJ K (.ref EZ)=true)
  (sv:PK K mainGlobals "leaving" = some (some (.ref mw)))
  (qP:K.lookup mw=some ⟨FV,FN,.func (PX "leaving" "leaving" (aD gB) (aB gB) (aj gB) .none Gk GD Fy Hf uJ GO),Fm⟩)
  (rW:PN K uJ "leaving" = true)
  (ma:PJ K (.ref mw)=true)
  (oi:PK K mainGlobals "follower" = some (some (.ref j8)))
  (nu:K.lookup j8=some ⟨CH,Cu,.func (PX "follower" "follower" (aD eU) (aB eU) (aj eU) .none Ds DL B7 Et rP DX),BB⟩)
  (nP:PN K rP "follower" = true)
  (jU:PJ K (.ref j8)=true)
  (jz:PK K mainGlobals "round_from" = some (some (.ref fV)))
  (i5:K.lookup fV=some ⟨wA,we,.func (PX "round_from" "round_from" (aD cA) (aB cA) (aj cA) .none xc xx vG x8 mF xH),vn⟩)
  (jr:PN K mF "round_from" = true)
  (fL:PJ K (.ref fV)=true)
  (lE:PK K mainGlobals "rounds_of" = some (some (.ref ip)))
  (kJ:K.lookup ip=some ⟨zm,za,.func (PX "rounds_of" "rounds_of" (aD c6) (aB c6) (aj c6) .none zK zZ yL AQ ow Aj),yq⟩)
  (k8:PN K ow "rounds_of" = true)
  (hX:PJ K (.ref ip)=true)
  (nV:PK K mainGlobals "sides_of" = some (some (.ref jW)))
  (mZ:K.lookup jW=some ⟨Cw,Cj,.func (PX "sides_of" "sides_of" (aD eJ) (aB eJ) (aj eJ) .none Dg DC BR Ei rF DO),Br⟩)
  (nG:PN K rF "sides_of" = true)
  (jL:PJ K (.ref jW)=true)
  (iE:PK K mainGlobals "refuse_ends" = some (some (.ref eF)))
  (g9:K.lookup eF=some ⟨tL,tJ,.func (PX "refuse_ends" "refuse_ends" (aD bW) (aB bW) (aj bW) .none tS tV tH uf kd tZ),tD⟩)
  (iC:PN K kd "refuse_ends" = true)
  (eB:PJ K (.ref eF)=true)
  (gu:PK K mainGlobals "refuse_turns" = some (some (.ref dA)))
  (gk:K.lookup dA=some ⟨qE,qB,.func (PX "refuse_turns" "refuse_turns" (aD bG) (aB bG) (aj bG) .none qU rb qv se jk rj),qi⟩)
  (gp:PN K jk "refuse_turns" = true)
  (dv:PJ K (.ref dA)=true)
  (fB:PK K mainGlobals "refuse_parted" = some (some (.ref cU)))
  (fq:K.lookup cU=some ⟨o9,o7,.func (PX "refuse_parted" "refuse_parted" (aD bx) (aB bx) (aj bx) .none ph pA oX pF iI pC),oS⟩)
  (fz:PN K iI "refuse_parted" = true)
  (cQ:PJ K (.ref cU)=true)
  (i9:K.lookup cJ=some ⟨wG,wt,.func (PX "__init__" "Web.__init__" (aD cF) (aB cF) (aj cF) .none xj xC vK yc mJ xM),vt⟩)
  (jv:PN K mJ "Web.__init__" = true)
  (je:PJ K (.ref cJ)=true)
  (jg:RJ K (.ref cJ)=true)
  (KN:PK K mainGlobals "roof" = some (some (.ref EX)))
  (Jh:K.lookup EX=some ⟨Oq,Oi,.func (PX "roof" "roof" (aD uv) (aB uv) (aj uv) .none OL OT NO Pe Ke O2),ND⟩)
  (Kl:PN K Ke "roof" = true)
  (EU:PJ K (.ref EX)=true)
  (jA:PK K mainGlobals "paid_alike" = some (some (.ref fX)))
  (i6:K.lookup fX=some ⟨wB,wj,.func (PX "paid_alike" "paid_alike" (aD cC) (aB cC) (aj cC) .none xf xy vH x9 mG xI),vo⟩)
  (js:PN K mG "paid_alike" = true)
  (fM:PJ K (.ref fX)=true)
  (iF:PK K mainGlobals "paid_unlike" = some (some (.ref eG)))
  (hO:K.lookup eG=some ⟨tO,tK,.func (PX "paid_unlike" "paid_unlike" (aD bX) (aB bX) (aj bX) .none tT tW tI ug ke ua),tE⟩)
  (iD:PN K ke "paid_unlike" = true)
  (eE:PJ K (.ref eG)=true)
  (gy:PK K mainGlobals "both_ways_of" = some (some (.ref dE)))
  (gn:K.lookup dE=some ⟨qG,qD,.func (PX "both_ways_of" "both_ways_of" (aD bH) (aB bH) (aj bH) .none qW rh qx sj jo rB),qk⟩)
  (gs:PN K jo "both_ways_of" = true)
  (dz:PJ K (.ref dE)=true)
  (lN:PK K mainGlobals "both_ways" = some (some (.ref iB)))
  (kW:K.lookup iB=some ⟨zx,zj,.func (PX "both_ways" "both_ways" (aD dm) (aB dm) (aj dm) .none zS Ag yT AZ oG Ar),yz⟩)
  (lB:PN K oG "both_ways" = true)
  (ij:PJ K (.ref iB)=true)
  (so:PK K mainGlobals "setting" = some (some (.ref mv)))
  (qM:K.lookup mv=some ⟨FR,FJ,.func (PX "setting" "setting" (aD gA) (aB gA) (aj gA) .none Gg GA Fv Hc uG GJ),Fi⟩)
  (rS:PN K uG "setting" = true)
  (l8:PJ K (.ref mv)=true)
  (nW:PK K mainGlobals "set_ties" = some (some (.ref jX)))
  (m7:K.lookup jX=some ⟨Cy,Ck,.func (PX "set_ties" "set_ties" (aD eK) (aB eK) (aj eK) .none Dh DD BS Ej rG DP),Bs⟩)
  (nH:PN K rG "set_ties" = true)
  (jM:PJ K (.ref jX)=true)
  (oh:PK K mainGlobals "_law_cell" = some (some (.ref j7)))
  (nt:K.lookup j7=some ⟨CG,Ct,.func (PX "_law_cell" "_law_cell" (aD eR) (aB eR) (aj eR) .none Dr DK B0 Es rO DW),BA⟩)
  (nO:PN K rO "_law_cell" = true)
  (jT:PJ K (.ref j7)=true)
  (og:PK K mainGlobals "_law_head" = some (some (.ref j6)))
  (nj:K.lookup j6=some ⟨CF,Cr,.func (PX "_law_head" "_law_head" (aD eQ) (aB eQ) (aj eQ) .none Dp DJ BZ Er rN DV),Bz⟩)
  (nN:PN K rN "_law_head" = true)
  (jS:PJ K (.ref j6)=true)
  (sG:PK K mainGlobals "_law_put" = some (some (.ref mz)))
  (qR:K.lookup mz=some ⟨FX,FP,.func (PX "_law_put" "_law_put" (aD gD) (aB gD) (aj gD) .none Gs GG FA Hh uL GQ),Fo⟩)
  (rY:PN K uL "_law_put" = true)
  (ml:PJ K (.ref mz)=true)
  (n9:PK K mainGlobals "_law_step" = some (some (.ref j5)))
  (ni:K.lookup j5=some ⟨CD,Cq,.func (PX "_law_step" "_law_step" (aD eP) (aB eP) (aj eP) .none Dn DI BY Ep rM DU),By⟩)
  (nM:PN K rM "_law_step" = true)
  (jR:PJ K (.ref j5)=true)
  (lK:PK K mainGlobals "_law_grown" = some (some (.ref iy)))
  (kQ:K.lookup iy=some ⟨zu,zg,.func (PX "_law_grown" "_law_grown" (aD dj) (aB dj) (aj dj) .none zP Ad yQ AW oB Ao),yw⟩)
  (lx:PN K oB "_law_grown" = true)
  (ic:PJ K (.ref iy)=true)
  (lH:PK K mainGlobals "_law_order" = some (some (.ref iu)))
  (kM:K.lookup iu=some ⟨zr,zd,.func (PX "_law_order" "_law_order" (aD c9) (aB c9) (aj c9) .none zN Ab yO AU oz Am),yu⟩)
  (lj:PN K oz "_law_order" = true)
  (ia:PJ K (.ref iu)=true)
  (dY:PK K mainGlobals "_law_renumbered" = some (some (.ref cj)))
  (dU:K.lookup cj=some ⟨mX,mV,.func (PX "_law_renumbered" "_law_renumbered" (aD bo) (aB bo) (aj bo) .none nA nE mU nU gK nF),mS⟩)
  (dX:PN K gK "_law_renumbered" = true)
  (cg:PJ K (.ref cj)=true)
  (lJ:PK K mainGlobals "_law_kinds" = some (some (.ref iw)))
  (kP:K.lookup iw=some ⟨zt,ze,.func (PX "_law_kinds" "_law_kinds" (aD de) (aB de) (aj de) .none zO Ac yP AV oA An),yv⟩)
  (lu:PN K oA "_law_kinds" = true)
  (ib:PJ K (.ref iw)=true)
  (sA:PK K mainGlobals "_law_web" = some (some (.ref my)))
  (qQ:K.lookup my=some ⟨FW,FO,.func (PX "_law_web" "_law_web" (aD gC) (aB gC) (aj gC) .none Gn GF Fz Hg uK GP),Fn⟩)
  (rX:PN K uK "_law_web" = true)
  (mh:PJ K (.ref my)=true)
  (lG:PK K mainGlobals "_law_worth" = some (some (.ref ir)))
  (kL:K.lookup ir=some ⟨zp,zc,.func (PX "_law_worth" "_law_worth" (aD c8) (aB c8) (aj c8) .none zM Aa yN AS oy Al),yt⟩)
  (lh:PN K oy "_law_worth" = true)
  (h9:PJ K (.ref ir)=true)
  (lL:PK K mainGlobals "_law_costs" = some (some (.ref iz)))
  (kS:K.lookup iz=some ⟨zv,zh,.func (PX "_law_costs" "_law_costs" (aD dk) (aB dk) (aj dk) .none zQ Ae yR AX oE Ap),yx⟩)
  (ly:PN K oE "_law_costs" = true)
  (ie:PJ K (.ref iz)=true)
  (jC:PK K mainGlobals "_law_number" = some (some (.ref fZ)))
  (i8:K.lookup fZ=some ⟨wD,wq,.func (PX "_law_number" "_law_number" (aD cE) (aB cE) (aj cE) .none xi xB vJ yb mI xK),vq⟩)
  (ju:PN K mI "_law_number" = true)
  (fP:PJ K (.ref fZ)=true)
  (sI:PK K mainGlobals "_law_due" = some (some (.ref mB)))
  (qS:K.lookup mB=some ⟨FY,FQ,.func (PX "_law_due" "_law_due" (aD gE) (aB gE) (aj gE) .none Gu GH FC Hi uM GU),Fp⟩)
  (rZ:PN K uM "_law_due" = true)
  (mq:PJ K (.ref mB)=true)
  (n8:PK K mainGlobals "_law_told" = some (some (.ref j4)))
  (nh:K.lookup j4=some ⟨CC,Cp,.func (PX "_law_told" "_law_told" (aD eO) (aB eO) (aj eO) .none Dm DH BX Eo rL DT),Bx⟩)
  (nL:PN K rL "_law_told" = true)
  (jQ:PJ K (.ref j4)=true)
  (MJ:PK K mainGlobals "law" = some (some (.ref OR)))
  (OI:K.lookup OR=some ⟨oc_law,od_law,.func (PX "law" "law" (aD vC) (aB vC) (aj vC) .none M4 M7 MV Nb Kg M8),sl_law⟩)
  (O7:PN K Kg "law" = true)
  (OK:PJ K (.ref OR)=true)
  (Cb:Rq K bu Str.empty=true)
  (Dy:RD K bu=true)
  (BQ:RO K bu=true)
  (BL:Qg K (.ref bu) "__setattr__" = some (some (.builtin "object.__setattr__")))
  (CM:R0 K bu=true)
  (Df:PJ K (.ref bu)=true)
  (kG:Qg K (.ref bu) "one" = some none)
  (kE:Qg K (.ref bu) "two" = some none)
  (dQ:Qg K (.ref bu) "strength" = some none)
  (Ca:Rq K br Str.empty=true)
  (Dx:RD K br=true)
  (BP:RO K br=true)
  (BK:Qg K (.ref br) "__setattr__" = some (some (.builtin "object.__setattr__")))
  (CK:R0 K br=true)
  (De:PJ K (.ref br)=true)
  (kD:Qg K (.ref br) "one" = some none)
  (kC:Qg K (.ref br) "two" = some none)
  (dP:Qg K (.ref br) "strength" = some none)
  (Iv:Rq K dZ Str.empty=true)
  (JD:RD K dZ=true)
  (Il:RO K dZ=true)
  (Ib:Qg K (.ref dZ) "__setattr__" = some (some (.builtin "object.__setattr__")))
  (IX:R0 K dZ=true)
  (Jn:PJ K (.ref dZ)=true)
  (kA:Qg K (.ref dZ) "many" = some none)
  (ky:Qg K (.ref dZ) "ties" = some none)
  (iU:Qg K (.ref dZ) "turns" = some none)
  (g7:Qg K (.ref dZ) "rounds" = some none)
  (iW:Qg K (.ref dZ) "sides" = some none)
  (gi_most:PK K mainGlobals "MOST_MARKS" = some (some (.int 14 ti_most)))
  (gi_modd:PK K mainGlobals "MOST_ODD" = some (some (.int 12 ti_modd)))
  (Nm:PK K mainGlobals "len" = some none)
  (Nn:PK K mainGlobals "int" = some none)
  (Hn:PK K mainGlobals "bool" = some none)
  (Hl:PK K mainGlobals "list" = some none)
  (Ba:PK K mainGlobals "tuple" = some none)
  (Bb:PK K mainGlobals "range" = some none)
  (kj:PK K mainGlobals "enumerate" = some none)
  (iM:PK K mainGlobals "isinstance" = some none)
  (Nk:PK K mainGlobals "min" = some none)
  (Nj:PK K mainGlobals "sum" = some none)
  (u6:PK K mainGlobals "sorted" = some none)
  (Nl:PK K mainGlobals "max" = some none)
  (Ni:PK K mainGlobals "zip" = some none)
  (Np:PK K mainGlobals "abs" = some none)
  (Hm:PK K mainGlobals "dict" = some none)
  (mQ:PK K mainGlobals "reversed" = some none)
  (tbc:xQ=.ref cT) (tbl:K.lookup cT=some ⟨oT,dT,.fields vT,sT⟩) (tbv:vT[11]?=some (.ref TT)) (tbn:K.lookup TT=none)
  : ∃ fd:FuncData,(∀(s:Shared)(v:Value),BindsTo s fd ⟨[v],[]⟩ [("script",v)])/\∃ c T,RC K "fares" = some (c,T)/\K.lookup T=none/\∀ base:Heap,K.In base->base.Ns mainGlobals mg->Rr base c T->Bm mg base->FnOk l.prog w K mg base CX0 16 fa fd ["script"] (ED K T):=by
 have tbi:=Ld sJ wW tbc tbl tbv
 have e:=hfa.symm.trans (PV X G MJ)
 cases e
 have Nh:=aJ (st:=qp) Jk Kq EW
 have b_bits:=Nh.binds (ps:=["mask"]) fun _ _ _ _ _ _ us hl=>by obtain⟨x0,rfl⟩:=iL hl;rfl
 have Nf:=aJ (st:=qo) Ji Km EV
 have b_ones:=Nf.binds (ps:=["mask"]) fun _ _ _ _ _ _ us hl=>by obtain⟨x0,rfl⟩:=iL hl;rfl
 have F_odd:=aJ (st:=BM) OH O6 Mh
 have b_odd:=F_odd.binds (ps:=["mask"]) fun _ _ _ _ _ _ us hl=>by obtain⟨x0,rfl⟩:=iL hl;rfl
 have sR:=aJ (st:=cN) qO rV jd
 have AM:=sR.binds (ps:=["places"]) fun _ _ _ _ _ _ us hl=>by obtain⟨x0,rfl⟩:=iL hl;rfl
 have sP:=aJ (st:=cM) qN rT jc
 have AJ:=sP.binds (ps:=["start","pairs"]) fun _ _ _ _ _ _ us hl=>by obtain⟨x0,x1,rfl⟩:=fF hl;rfl
 have Ff:=aJ (st:=gX) wX xV pO
 have MG:=Ff.binds (ps:=["link","room"]) fun _ _ _ _ _ _ us hl=>by obtain⟨x0,x1,rfl⟩:=fF hl;rfl
 have uT:=aJ (st:=c7) ng nK jP
 have G2:=uT.binds (ps:=["many","links"]) fun _ _ _ _ _ _ us hl=>by obtain⟨x0,x1,rfl⟩:=fF hl;rfl
 have K4:=aJ (st:=iO) wW D3 wZ
 have Pc:=K4.binds (ps:=["many","links","start"]) fun _ _ _ _ _ _ us hl=>by obtain⟨x0,x1,x2,rfl⟩:=mY hl;rfl
 have Fb:=aJ (st:=gU) wQ xR pK
 have MC:=Fb.binds (ps:=["links","via","room"]) fun _ _ _ _ _ _ us hl=>by obtain⟨x0,x1,x2,rfl⟩:=mY hl;rfl
 have K3:=aJ (st:=kr) Dd D2 wY
 have Pb:=K3.binds (ps:=["many","links"]) fun _ _ _ _ _ _ us hl=>by obtain⟨x0,x1,rfl⟩:=fF hl;rfl
 have kh:=aJ (st:=bp) gm gq dy
 have ud:=kh.binds (ps:=["many","links","marks"]) fun _ _ _ _ _ _ us hl=>by obtain⟨x0,x1,x2,rfl⟩:=mY hl;rfl
 have sZ:=aJ (st:=cn) kU lA ig
 have Ef:=sZ.binds (ps:=["entries","numbers"]) fun _ _ _ _ _ _ us hl=>by obtain⟨x0,x1,rfl⟩:=fF hl;rfl
 have jF:=aJ (st:=aZ) ft fA bP
 have jy:=jF.binds (ps:=["between","chosen","table"]) fun _ _ _ _ _ _ us hl=>by obtain⟨x0,x1,x2,rfl⟩:=mY hl;rfl
 have sQ:=aJ (st:=cm) kK lg h7
 have D9:=sQ.binds (ps:=[]) fun _ _ _ _ _ _ us hl=>by cases len_0 hl;rfl
 have Fd:=aJ (st:=gW) wU xT pM
 have ME:=Fd.binds (ps:=["many","links","marks"]) fun _ _ _ _ _ _ us hl=>by obtain⟨x0,x1,x2,rfl⟩:=mY hl;rfl
 have Fc:=aJ (st:=jI) wR xS pL
 have MD:=Fc.binds (ps:=["web"]) fun _ _ _ _ _ _ us hl=>by obtain⟨x0,rfl⟩:=iL hl;rfl
 have Fe:=aJ (st:=jJ) wV xU pN
 have MF:=Fe.binds (ps:=["web","ties","number"]) fun _ _ _ _ _ _ us hl=>by obtain⟨x0,x1,x2,rfl⟩:=mY hl;rfl
 have oO:=aJ (st:=cD) i7 jt fN
 have AL:=oO.binds (ps:=["web"]) fun _ _ _ _ _ _ us hl=>by obtain⟨x0,rfl⟩:=iL hl;rfl
 have uS:=aJ (st:=eN) m9 nJ jO
 have G0:=uS.binds (ps:=["web"]) fun _ _ _ _ _ _ us hl=>by obtain⟨x0,rfl⟩:=iL hl;rfl
 have uR:=aJ (st:=eM) m8 nI jN
 have GZ:=uR.binds (ps:=["web"]) fun _ _ _ _ _ _ us hl=>by obtain⟨x0,rfl⟩:=iL hl;rfl
 have oR:=aJ (st:=cH) jb jx jf
 have oJ:=oR.binds (ps:=["self","one","two","strength"]) fun _ _ _ _ _ _ us hl=>by obtain⟨x0,x1,x2,x3,rfl⟩:=Mf hl;rfl
 have uZ:=aJ (st:=eX) nz nQ jV
 have G9:=uZ.binds (ps:=["self"]) fun _ _ _ _ _ _ us hl=>by obtain⟨x0,rfl⟩:=iL hl;rfl
 have jG:=aJ (st:=cG) ja jw dN
 have oI:=jG.binds (ps:=["self"]) fun _ _ _ _ _ _ us hl=>by obtain⟨x0,rfl⟩:=iL hl;rfl
 have tq:=aJ (st:=dq) kX lC ik
 have Eh:=tq.binds (ps:=["self"]) fun _ _ _ _ _ _ us hl=>by obtain⟨x0,rfl⟩:=iL hl;rfl
 have Ng:=aJ (st:=uw) Jj Ko k_head
 have b_head:=Ng.binds (ps:=["ties","dart"]) fun _ _ _ _ _ _ us hl=>by obtain⟨x0,x1,rfl⟩:=fF hl;rfl
 have A6:=aJ (st:=gB) qP rW ma
 have Ky:=A6.binds (ps:=["ties","number","place"]) fun _ _ _ _ _ _ us hl=>by obtain⟨x0,x1,x2,rfl⟩:=mY hl;rfl
 have uY:=aJ (st:=eU) nu nP jU
 have G8:=uY.binds (ps:=["ties","turns","dart"]) fun _ _ _ _ _ _ us hl=>by obtain⟨x0,x1,x2,rfl⟩:=mY hl;rfl
 have oK:=aJ (st:=cA) i5 jr fL
 have AI:=oK.binds (ps:=["ties","turns","first"]) fun _ _ _ _ _ _ us hl=>by obtain⟨x0,x1,x2,rfl⟩:=mY hl;rfl
 have sO:=aJ (st:=c6) kJ k8 hX
 have D8:=sO.binds (ps:=["ties","turns"]) fun _ _ _ _ _ _ us hl=>by obtain⟨x0,x1,rfl⟩:=fF hl;rfl
 have uP:=aJ (st:=eJ) mZ nG jL
 have GX:=uP.binds (ps:=["ties","rounds"]) fun _ _ _ _ _ _ us hl=>by obtain⟨x0,x1,rfl⟩:=fF hl;rfl
 have mM:=aJ (st:=bW) g9 iC eB
 have xY:=mM.binds (ps:=["many","ties"]) fun _ _ _ _ _ _ us hl=>by obtain⟨x0,x1,rfl⟩:=fF hl;rfl
 have kf:=aJ (st:=bG) gk gp dv
 have uc:=kf.binds (ps:=["many","ties","turns"]) fun _ _ _ _ _ _ us hl=>by obtain⟨x0,x1,x2,rfl⟩:=mY hl;rfl
 have jE:=aJ (st:=bx) fq fz cQ
 have r9:=jE.binds (ps:=["many","ties"]) fun _ _ _ _ _ _ us hl=>by obtain⟨x0,x1,rfl⟩:=fF hl;rfl
 have oQ:=aJ (st:=cF) i9 jv je
 have AO:=oQ.binds (ps:=["self","many","ties","turns"]) fun _ _ _ _ _ _ us hl=>by obtain⟨x0,x1,x2,x3,rfl⟩:=Mf hl;rfl
 have Nd:=aJ (st:=uv) Jh Kl EU
 have b_roof:=Nd.binds (ps:=["web","number"]) fun _ _ _ _ _ _ us hl=>by obtain⟨x0,x1,rfl⟩:=fF hl;rfl
 have oM:=aJ (st:=cC) i6 js fM
 have AK:=oM.binds (ps:=["pull"]) fun _ _ _ _ _ _ us hl=>by obtain⟨x0,rfl⟩:=iL hl;rfl
 have mN:=aJ (st:=bX) hO iD eE
 have xZ:=mN.binds (ps:=["pull"]) fun _ _ _ _ _ _ us hl=>by obtain⟨x0,rfl⟩:=iL hl;rfl
 have ki:=aJ (st:=bH) gn gs dz
 have ue:=ki.binds (ps:=["web","number"]) fun _ _ _ _ _ _ us hl=>by obtain⟨x0,x1,rfl⟩:=fF hl;rfl
 have tj:=aJ (st:=dm) kW lB ij
 have Eg:=tj.binds (ps:=["web"]) fun _ _ _ _ _ _ us hl=>by obtain⟨x0,rfl⟩:=iL hl;rfl
 have A5:=aJ (st:=gA) qM rS l8
 have Kx:=A5.binds (ps:=["pair"]) fun _ _ _ _ _ _ us hl=>by obtain⟨x0,rfl⟩:=iL hl;rfl
 have uQ:=aJ (st:=eK) m7 nH jM
 have GY:=uQ.binds (ps:=["web"]) fun _ _ _ _ _ _ us hl=>by obtain⟨x0,rfl⟩:=iL hl;rfl
 have uX:=aJ (st:=eR) nt nO jT
 have G7:=uX.binds (ps:=["script","k"]) fun _ _ _ _ _ _ us hl=>by obtain⟨x0,x1,rfl⟩:=fF hl;rfl
 have uW:=aJ (st:=eQ) nj nN jS
 have G5:=uW.binds (ps:=["ends","dart"]) fun _ _ _ _ _ _ us hl=>by obtain⟨x0,x1,rfl⟩:=fF hl;rfl
 have A8:=aJ (st:=gD) qR rY ml
 have KA:=A8.binds (ps:=["turns","place","behind","fresh"]) fun _ _ _ _ _ _ us hl=>by obtain⟨x0,x1,x2,x3,rfl⟩:=Mf hl;rfl
 have uV:=aJ (st:=eP) ni nM jR
 have G4:=uV.binds (ps:=["cell","ends","turns","rings","places"]) fun _ _ _ _ _ _ us hl=>by obtain⟨x0,x1,x2,x3,x4,rfl⟩:=len_5 hl;rfl
 have sX:=aJ (st:=dj) kQ lx ic
 have Ed:=sX.binds (ps:=["cells","places"]) fun _ _ _ _ _ _ us hl=>by obtain⟨x0,x1,rfl⟩:=fF hl;rfl
 have sV:=aJ (st:=c9) kM lj ia
 have Eb:=sV.binds (ps:=["cell","many"]) fun _ _ _ _ _ _ us hl=>by obtain⟨x0,x1,rfl⟩:=fF hl;rfl
 have iK:=aJ (st:=bo) dU dX cg
 have pE:=iK.binds (ps:=["grown","cell"]) fun _ _ _ _ _ _ us hl=>by obtain⟨x0,x1,rfl⟩:=fF hl;rfl
 have sW:=aJ (st:=de) kP lu ib
 have Ec:=sW.binds (ps:=["script","many","limits"]) fun _ _ _ _ _ _ us hl=>by obtain⟨x0,x1,x2,rfl⟩:=mY hl;rfl
 have A7:=aJ (st:=gC) qQ rX mh
 have Kz:=A7.binds (ps:=["grown","kinds"]) fun _ _ _ _ _ _ us hl=>by obtain⟨x0,x1,rfl⟩:=fF hl;rfl
 have sU:=aJ (st:=c8) kL lh h9
 have Ea:=sU.binds (ps:=["ends","kinds","laying"]) fun _ _ _ _ _ _ us hl=>by obtain⟨x0,x1,x2,rfl⟩:=mY hl;rfl
 have sY:=aJ (st:=dk) kS ly ie
 have Ee:=sY.binds (ps:=["grown","kinds"]) fun _ _ _ _ _ _ us hl=>by obtain⟨x0,x1,rfl⟩:=fF hl;rfl
 have oP:=aJ (st:=cE) i8 ju fP
 have AN:=oP.binds (ps:=["found"]) fun _ _ _ _ _ _ us hl=>by obtain⟨x0,rfl⟩:=iL hl;rfl
 have A9:=aJ (st:=gE) qS rZ mq
 have KC:=A9.binds (ps:=["costs","end"]) fun _ _ _ _ _ _ us hl=>by obtain⟨x0,x1,rfl⟩:=fF hl;rfl
 have uU:=aJ (st:=eO) nh nL jQ
 have G3:=uU.binds (ps:=["found","due"]) fun _ _ _ _ _ _ us hl=>by obtain⟨x0,x1,rfl⟩:=fF hl;rfl
 have F_law:=aJ (st:=vC) OI O7 OK
 refine⟨PX "law" "law" (aD vC) (aB vC) (aj vC) .none M4 M7 MV Nb Kg M8,fun s v=>.of_eq rfl,cT,TT,tbi,tbn,fun base _ _ hcd hbm=>?_⟩
 have m_bits:=PV X G KQ
 have m_ones:=PV X G KO
 have m_odd:=PV X G Pk
 have zG:=PV X G sr
 have zD:=PV X G sq
 have Mc:=PV X G yj
 have F6:=PV X G nZ
 have OE:=PV X G sJ
 have L8:=PV X G yf
 have OD:=PV X G Ew
 have tQ:=PV X G gv
 have C2:=PV X G lM
 have i4:=PV X G fE
 have CQ:=PV X G lF
 have Ma:=PV X G yh
 have L9:=PV X G yg
 have Mb:=PV X G yi
 have zF:=PV X G jB
 have F5:=PV X G nY
 have F4:=PV X G nX
 have m_head:=PV X G KP
 have I9:=PV X G sv
 have Gd:=PV X G oi
 have zC:=PV X G jz
 have CP:=PV X G lE
 have F2:=PV X G nV
 have wK:=PV X G iE
 have tP:=PV X G gu
 have qI:=PV X G fB
 have m_roof:=PV X G KN
 have zE:=PV X G jA
 have wN:=PV X G iF
 have tR:=PV X G gy
 have C3:=PV X G lN
 have I8:=PV X G so
 have F3:=PV X G nW
 have Gb:=PV X G oh
 have F9:=PV X G og
 have Jb:=PV X G sG
 have F8:=PV X G n9
 have CY:=PV X G lK
 have CU:=PV X G lH
 have pf:=PV X G dY
 have CV:=PV X G lJ
 have Ja:=PV X G sA
 have CS:=PV X G lG
 have CZ:=PV X G lL
 have zH:=PV X G jC
 have Jc:=PV X G sI
 have F7:=PV X G n8
 have m_law:=PV X G MJ
 have m_Pull:=PV X G Ey
 have m_Push:=PV X G Ex
 have m_Web:=PV X G KR
 have most:=PV X G gi_most
 have modd:=PV X G gi_modd
 have n_len:=Qx X G Nm
 have n_int:=Qx X G Nn
 have n_bool:=Qx X G Hn
 have n_list:=Qx X G Hl
 have n_tuple:=Qx X G Ba
 have n_range:=Qx X G Bb
 have n_enumerate:=Qx X G kj
 have n_isinstance:=Qx X G iM
 have n_min:=Qx X G Nk
 have n_sum:=Qx X G Nj
 have n_sorted:=Qx X G u6
 have n_max:=Qx X G Nl
 have n_zip:=Qx X G Ni
 have n_abs:=Qx X G Np
 have n_dict:=Qx X G Hm
 have n_reversed:=Qx X G mQ
 have TL:CT K bu:=⟨⟨Cb,Dy,BQ,BL⟩,kG,kE,dQ⟩
 have TS:CT K br:=⟨⟨Ca,Dx,BP,BK⟩,kD,kC,dP⟩
 have cw:CW K dZ:=⟨⟨Iv,JD,Il,Ib⟩,kA,ky,iU,g7,iW⟩
 have T:Txt mg:=⟨n_len,n_int,n_bool,n_list,n_tuple,n_range,n_enumerate,n_isinstance,n_min,n_sum,n_sorted⟩
 have GI:FnOk l.prog w K mg base CX0 1 bC _ _ (uo K):=Oc oR
 have ML:Mak l.prog w K mg base 1 "Pull" _ (uo K) bu bC _:=⟨⟨CM,i0,fU,Df⟩,GI,oJ,m_Pull⟩
 have MS:Mak l.prog w K mg base 1 "Push" _ (uo K) br bC _:=⟨⟨CK,iY,fU,De⟩,GI,oJ,m_Push⟩
 have Gh:Cal l.prog w K mg base 1 "head" _ (HK K) EZ _:=⟨Od Ng,b_head,m_head,k_head⟩
 have Gl:Cal l.prog w K mg base 1 "leaving" _ (HJ K) mw _:=⟨FG A6,Ky,I9,ma⟩
 have Gf:Cal l.prog w K mg base 2 "follower" _ (NA K) j8 _:=⟨Ci uY T Gh Gl,G8,Gd,jU⟩
 have Gr:Cal l.prog w K mg base 3 "round_from" _ (HL K) fV _:=⟨Oe oK Gf,AI,zC,fL⟩
 have GR:Cal l.prog w K mg base 4 "rounds_of" _ (vi K) ip _:=⟨IG sO T Gr,D8,CP,hX⟩
 have GS:Cal l.prog w K mg base 1 "sides_of" _ (Bf K) jW _:=⟨LG uP T,GX,F2,jL⟩
 have wL:Met l.prog w K mg base 1 bu "wish" _ (lP false) gI _:=⟨⟨iZ,nB,jV⟩,LD uZ,G9⟩
 have wS:Met l.prog w K mg base 1 br "wish" _ (lP true) fy _:=⟨⟨iX,kY,ik⟩,LC tq,Eh⟩
 have Gm:Cal l.prog w K mg base 1 "mask_of" _ (spMask K) ji _:=⟨ok_mask sR,AM,zG,jd⟩
 have Gp:Cal l.prog w K mg base 2 "pushes" _ (HH bu br dZ) pT _:=⟨N0 Fc T cw TL TS Gm wL wS,MD,L9,pL⟩
 have Go:Cal l.prog w K mg base 1 "odd_at" _ (Bj bu br dZ) pV _:=⟨LK Fe T cw,MF,Mb,pN⟩
 have Gq:Cal l.prog w K mg base 3 "odd_rounds" _ (HI bu br dZ) fY _:=⟨Oa oO T cw Gm Gp Go,AL,zF,fN⟩
 have Ga:Cal l.prog w K mg base 1 "reached" _ (spReach K) jh _:=⟨ok_reached sP,AJ,zD,jc⟩
 have R1:Cal l.prog w K mg base 1 "refuse_ends" _ (Bh K) eF _:=⟨LI mM,xY,wK,eB⟩
 have R2:Cal l.prog w K mg base 1 "refuse_turns" _ (vj K) dA _:=⟨IF kf T,uc,tP,dv⟩
 have R3:Cal l.prog w K mg base 2 "refuse_parted" _ (Bg K) cU _:=⟨LH jE Ga,r9,qI,cQ⟩
 have WI:FnOk l.prog w K mg base CX0 5 cJ _ _ (vh K):=LF oQ T R1 R2 R3 GR GS
 have MW:Mak l.prog w K mg base 5 "Web" _ (vh K) dZ cJ _:=⟨⟨IX,kH,jg,Jn⟩,WI,AO,m_Web⟩
 have Gc:Cal l.prog w K mg base 1 "_law_cell" _ (EE K) j7 _:=⟨Of uX T,G7,Gb,jT⟩
 have L1:Cal l.prog w K mg base 1 "_law_head" _ (Bo K) j6 _:=⟨LO uW,G5,F9,jS⟩
 have L5:Cal l.prog w K mg base 1 "_law_order" _ Bi iu _:=⟨LJ sV T,Eb,CU,ia⟩
 have kT:KF.Txt mg:=⟨n_len,n_int,n_bool,n_list,n_tuple,n_range,n_min,n_abs,n_enumerate,n_isinstance⟩
 have kA1:Cal l.prog w K mg base 1 "beyond" _ KF.spBey pW _:=⟨KF.ok_bey Ff,MG,Mc,pO⟩
 have kA2:Cal l.prog w K mg base 1 "links_at" _ KF.spAt j0 _:=⟨KF.ok_at uT kT,G2,F6,jP⟩
 have kA3:Cal l.prog w K mg base 2 "fares" _ (KF.spFares TT) xw _:=⟨KF.ok_fares K4 kT tbi sJ hcd hbm kA2 kA1,Pc,OE,wZ⟩
 have kA4:Cal l.prog w K mg base 1 "reached" _ KF.spReach jh _:=⟨KF.ok_reached sP,AJ,zD,jc⟩
 have kA5:Cal l.prog w K mg base 2 "whole" _ KF.spWhl xu _:=⟨KF.ok_whl K3 kA4,Pb,OD,wY⟩
 have kA6:Cal l.prog w K mg base 2 "row_to" _ KF.spRow pS _:=⟨KF.ok_row Fb ⟨n_list,n_reversed⟩ kA1,MC,L8,pK⟩
 have kA7:Cal l.prog w K mg base 1 "bits" _ KF.spBits E1 _:=⟨KF.ok_bits Nh,b_bits,m_bits,EW⟩
 have kA8:Cal l.prog w K mg base 2 "ones" _ KF.spOnes EY _:=⟨KF.ok_ones Nf kT kA7,b_ones,m_ones,EV⟩
 have kA9:Cal l.prog w K mg base 3 "odd" _ KF.spOdd Mr _:=⟨KF.ok_odd F_odd kA8,b_odd,m_odd,Mh⟩
 have kC1:Cal l.prog w K mg base 1 "mask_of" _ (KF.spMask K) ji _:=⟨KF.ok_mask sR,AM,zG,jd⟩
 have kC2:Cal l.prog w K mg base 4 "refuse_marks" _ KF.spRef dB _:=⟨KF.ok_ref kh ⟨⟨_,most⟩⟩ kA9 kA5 kA8,ud,tQ,dy⟩
 have kC3:Cal l.prog w K mg base 1 "chosen_of" _ KF.spChosen iA _:=⟨KF.ok_chosen sZ,Ef,C2,ig⟩
 have kC4:Cal l.prog w K mg base 1 "new_table" _ KF.spTable iq _:=⟨KF.ok_table sQ,D9,CQ,h7⟩
 have kC5:∀(D:Nat->Nat->Int)(m:Nat),(∀ a b,D a b=D b a)->Cal l.prog w K mg base 10 "laid_in_pairs" _ (KF.spLaid D m 8) cV _:=fun D m sy=>⟨KF.ok_laid sy jF kT kA7 jy i4 bP 8,jy,i4,bP⟩
 have kC6:Cal l.prog w K mg base 11 "paired" _ (KF.spPaired TT) pU _:=⟨KF.ok_paired Fd kT kC2 kA7 kA3 kC3 kC4 kC5 kC1 kA6,ME,Ma,pM⟩
 have TO:TxtO mg:={ T with n_zip:=n_zip,modd:=⟨_,modd⟩,n_max:=n_max }
 have TZ:TxtZ mg:={ T with n_zip:=n_zip }
 have Kma:Cal l.prog w K mg base 4 "marks_of" _ (Bk bu br dZ) jY _:=⟨LL uR TO Gq kA8,GZ,F4,jN⟩
 have Kli:Cal l.prog w K mg base 1 "links_of" _ (Bl bu br dZ) jZ _:=⟨LN uS TZ cw TL TS,G0,F5,jO⟩
 have Kro:Cal l.prog w K mg base 12 "roof" _ (HE TT bu br dZ) EX _:=⟨NZ Nd TO cw TL TS Kma Kli kC6 wL wS,b_roof,m_roof,EU⟩
 have Kpa:Cal l.prog w K mg base 1 "paid_alike" _ (uk (-1)) fX _:=⟨ok_pa oM TO,AK,zE,fM⟩
 have Kpu:Cal l.prog w K mg base 1 "paid_unlike" _ (uk 1) eG _:=⟨ok_pu mN TO,xZ,wN,eE⟩
 have TM:TxtM mg:={ T with n_max:=n_max }
 have N1:Cal l.prog w K mg base 1 "_law_put" _ (HG K) mz _:=⟨ok_put A8,KA,Jb,ml⟩
 have N2:Cal l.prog w K mg base 2 "_law_step" _ HC j5 _:=⟨NX uV T L1 N1,G4,F8,jR⟩
 have N3:Cal l.prog w K mg base 3 "_law_grown" _ (vk K) iy _:=⟨LR sX N2,Ed,CY,ic⟩
 have N4:Cal l.prog w K mg base 2 "_law_renumbered" _ HF cj _:=⟨ok_ren iK TM L5,pE,pf,cg⟩
 have N5:Cal l.prog w K mg base 2 "_law_kinds" _ (Bp K) iw _:=⟨LQ sW T Gc,Ec,CV,ib⟩
 have N6:Cal l.prog w K mg base 7 "_law_web" _ (Bn bu br dZ) my _:=⟨Ob A7 T ML MS TL TS MW cw,Kz,Ja,mh⟩
 have N7:Cal l.prog w K mg base 1 "_law_number" _ Nz fZ _:=⟨IH oP T,AN,zH,fP⟩
 have N8:Cal l.prog w K mg base 1 "_law_worth" _ (Ny K) ir _:=⟨LB sU T,Ea,CS,h9⟩
 have N9:Cal l.prog w K mg base 2 "_law_costs" _ Bq iz _:=⟨LS sY T N8,Ee,CZ,ie⟩
 have sL:Met l.prog w K mg base 2 bu "signed" _ (lQ bu false) bQ _:=⟨⟨gh,fQ,dN⟩,y8 jG TL wL,oI⟩
 have sS:Met l.prog w K mg base 2 br "signed" _ (lQ br true) bQ _:=⟨⟨gg,fQ,dN⟩,y8 jG TS wS,oI⟩
 have B1:Cal l.prog w K mg base 13 "both_ways_of" _ (HM TT bu br dZ) dE _:=⟨Og ki cw TL TS Kro Kpa Kpu sL sS,ue,tR,dz⟩
 have B2:Cal l.prog w K mg base 14 "both_ways" _ (spBW TT bu br dZ) iB _:=⟨ok_bw tj T cw B1,Eg,C3,ij⟩
 have B3:Cal l.prog w K mg base 1 "setting" _ qg mv _:=⟨FF A5,Kx,I8,l8⟩
 have B4:Cal l.prog w K mg base 15 "set_ties" _ (HD TT bu br dZ) jX _:=⟨NY uQ B2 B3,GY,F3,jM⟩
 have B5:Cal l.prog w K mg base 1 "_law_due" _ (NB K) mB _:=⟨ok_due A9 T,KC,Jc,mq⟩
 have B6:Cal l.prog w K mg base 2 "_law_told" _ Be j4 _:=⟨NW uU T N7,G3,F7,jQ⟩
 exact ok_law F_law T N3 N4 Gc N5 N9 N6 B4 B5 B6
theorem walk{l:SR}{q:Program}{loose:List Str}{XP:(Str->Option Value)->Heap->Prop}{YP:World->Heap->Prop}{d:DefRec}{K:Params->Pt}(hn:l.most=some 63)(hdf:d.params.defaults = [])
  (hY:∀(w:World)(h:Heap),YP w h->(K w.params).In h) (hrec:((PyProof.Rows.recsOf q).find? (fun e=>e.name == ("fares" : Str))).isSome=true)
  (F:∀(w:World)(mg:Str->Option Value)(fa:Addr)(h:Heap),(K w.params).In h->h.Ns mainGlobals mg->mg d.name=some (.ref fa) ->
   ∃ fd:FuncData,(∀(s:Shared)(u:Value),BindsTo s fd ⟨[u],[]⟩ [("script",u)])/\∃ c T,RC (K w.params) "fares" = some (c,T)/\(K w.params).lookup T=none/\∀ base:Heap,(K w.params).In base->base.Ns mainGlobals mg->Rr base c T->Bm mg base->FnOk l.prog w (K w.params) mg base CX0 16 fa fd ["script"] (ED (K w.params) T)) :
  PySem.W.WalkO q loose XP YP l.row.toRowW d [] (fun f vs=>PySem.call f vs) :=
 L2.walk_ofT (n:=63) (k:=16) (x:="script") (CX:=CX0) (sp:=fun K T=>ED K T) hn (by decide) hdf ⟨rfl,by decide,by decide⟩ hY (Option.some_get hrec).symm F (fun _ _ _ a ns hl hT hS=>⟨a,ns,rfl,hS,hl,.inl hT,fun _=>rfl⟩) fun _ _ _ _ z=>z
end K8
def PySem.W.Fast.tw115788192880682272:Nat:=0
def PySem.W.Fast.tw7401372465936069601:Nat:=0
def PySem.W.Fast.tw954769103138363655:Nat:=0
def PySem.W.Fast.tw14910496020957286056:Nat:=0
def PySem.W.Fast.tw4458001984645823177:Nat:=0
def PySem.W.Fast.tw9488812565851686923:Nat:=0
def PySem.W.Fast.tw4216115896267656748:Nat:=0
def PySem.W.Fast.tw2387549804915376781:Nat:=0
def PySem.W.Fast.tw6485696114335357102:Nat:=0
def PySem.W.Fast.tw15576405205339809646:Nat:=0
def PySem.W.Fast.tw7001907518918993616:Nat:=0
def PySem.W.Fast.tw7560176685780781777:Nat:=0
def PySem.W.Fast.tw15445943893603984885:Nat:=0
def PySem.W.Fast.tw9064788095547822805:Nat:=0
def PySem.W.Fast.tw13352873231070362453:Nat:=0
def PySem.W.Fast.tw6883212059502596571:Nat:=0
def PySem.W.Fast.tw18352817564649733628:Nat:=0
def PySem.W.Fast.tw5670193106259104252:Nat:=0
def PySem.W.Fast.tw8476089128811521565:Nat:=0
namespace PySem.W.Fast
def tw17271468818099806208:=0
def tw15898932840443719744:=0
def tw10058176839172893856:=0
def tw12915413516252359872:=0
def tw6334464850334748992:=0
def tw5457226549194929504:=0
def tw5329494973672376672:=0
def tw11048748010370937216:=0
def tw16071238795172388352:=0
def tw13595311755884029664:=0
def tw2010972470687974176:=0
def tw5448598925483891520:=0
def tw8190596795952741216:=0
def tw2310853798428169281:=0
def tw15366479412344120449:=0
def tw14435763472184719553:=0
def tw158117637327822049:=0
def tw8226181960175083745:=0
def tw15090240420034420001:=0
def tw14019345940085305633:=0
def tw10064232429738569025:=0
def tw12171815443596508481:=0
def tw10942838330434287937:=0
def tw17023804600197227937:=0
def tw16790772047958272417:=0
def tw4440772188739958177:=0
def tw13755995808229700033:=0
def tw14826910203480443361:=0
def tw4604089230052408833:=0
def tw16390572638934843937:=0
def tw1745454726499809953:=0
def tw16376321996676932353:=0
def tw14795372971146949441:=0
def tw10971022059496719394:=0
def tw14680958961109914658:=0
def tw14539722096171195458:=0
def tw15573318329641675874:=0
def tw1232862391029356706:=0
def tw16199621401767520546:=0
def tw12400278533339883842:=0
def tw505263525917572418:=0
def tw8488035356049034658:=0
def tw2853191323868650946:=0
def tw11476268718214639074:=0
def tw2253183116754822690:=0
def tw12705359362586232418:=0
def tw4703858914499099234:=0
def tw8957185744059531938:=0
def tw14229571408740740802:=0
def tw16932732576069118690:=0
def tw1256695130882814818:=0
def tw4225890353249040226:=0
def tw5902202459076833186:=0
def tw10303632913090526178:=0
def tw12604451662533099587:=0
def tw762565597682986051:=0
def tw9408782867157094499:=0
def tw4564873011346346115:=0
def tw7577433213963236483:=0
def tw9656817617850520771:=0
def tw7781584900308673923:=0
def tw8073830130070925859:=0
def tw10057586373162114627:=0
def tw6917013673420548675:=0
def tw2126976357528173187:=0
def tw5063701248570558083:=0
def tw3615080835697764035:=0
def tw18438912368031324899:=0
def tw10367196945344604899:=0
def tw6190632505785711427:=0
def tw16922509190999092035:=0
def tw14650787404380281699:=0
def tw12156286792468228035:=0
def tw11537295273412921348:=0
def tw14701991714855915588:=0
def tw13898359319127599204:=0
def tw10935396988653693028:=0
def tw4720352949075978372:=0
def tw1119524845364284612:=0
def tw6660459219850704068:=0
def tw17967598411366167748:=0
def tw6064453710850171204:=0
def tw13681214733559137636:=0
def tw7412489856452645348:=0
def tw1536830141396905540:=0
def tw12524745110374966884:=0
def tw17878869222597117572:=0
def tw13090770845454459556:=0
def tw16057901103363951268:=0
def tw15014267927791959748:=0
def tw3431043840283188964:=0
def tw870419554384471780:=0
def tw1178602507976559396:=0
def tw17642794450359992196:=0
def tw11599649318226798500:=0
def tw12501693816691466212:=0
def tw8625805786298263621:=0
def tw17877900586604785733:=0
def tw13030711999780498533:=0
def tw18021982594201396421:=0
def tw6310644303680892101:=0
def tw593712012567100645:=0
def tw16921497156133869797:=0
def tw8394068323542909285:=0
def tw2997412227202666917:=0
def tw9382148953601086917:=0
def tw10238460040370107909:=0
def tw13373868268329177669:=0
def tw8477243012605918789:=0
def tw13342274763008400965:=0
def tw10653330119860123205:=0
def tw10376673215654774437:=0
def tw5012533782468163237:=0
def tw9521880962824860357:=0
def tw5299040730945239845:=0
def tw11732817683130148677:=0
def tw8532174673337532422:=0
def tw810329872919948326:=0
def tw9376334329898404966:=0
def tw14766474837715177670:=0
def tw9226730883421686982:=0
def tw9608181447851996422:=0
def tw14975975772328948166:=0
def tw6900859755987567078:=0
def tw3943046590945995398:=0
def tw14690170506274142854:=0
def tw5820582023384163110:=0
def tw8411981698527032166:=0
def tw1976472097207225222:=0
def tw9235656588429941670:=0
def tw8020015574775631879:=0
def tw6501083490320542823:=0
def tw2662871098020676743:=0
def tw2251602113740477671:=0
def tw3061887524312909095:=0
def tw1083830540295119143:=0
def tw12242174111257346407:=0
def tw17932141752970275239:=0
def tw18227998195842725383:=0
def tw5131486812111468071:=0
def tw13361135580326254183:=0
def tw12787389816324588167:=0
def tw17507252655330162375:=0
def tw10156178299282352871:=0
def tw1326090756672037607:=0
def tw4662431320998375239:=0
def tw1533213711123184519:=0
def tw13159488593422402439:=0
def tw13662804277961974695:=0
def tw16433167210824048583:=0
def tw16316489719691895880:=0
def tw14874370144712694920:=0
def tw1243110610956005544:=0
def tw7900709897899987112:=0
def tw18437015977198541000:=0
def tw9469751582263236840:=0
def tw5982580041568986408:=0
def tw7079269207993665832:=0
def tw1394342576356390184:=0
def tw2321589874176491880:=0
def tw16032971053368307048:=0
def tw10938506470242694568:=0
def tw15277333769045743048:=0
def tw11365971161314081256:=0
def tw8694009130772165096:=0
def tw12343550999659003464:=0
def tw17987057095077144200:=0
def tw14348636229342311048:=0
def tw1232565414639541928:=0
def tw9101448477061632680:=0
def tw3571903860971366056:=0
def tw7701658931786704744:=0
def tw10131351231495480264:=0
def tw16981996712263156809:=0
def tw18329364109117805705:=0
def tw16520621008132564169:=0
def tw3135535128945978569:=0
def tw11852047599727634697:=0
def tw7004100491880161609:=0
def tw10343447971473927529:=0
def tw4125340935119208905:=0
def tw10874411323598429673:=0
def tw14065158695328676425:=0
def tw14881138729308493417:=0
def tw730696905765231209:=0
def tw12007204526409720457:=0
def tw7476453908143123145:=0
def tw4908850151833619145:=0
def tw16224407824867889961:=0
def tw4961382063402250057:=0
def tw6414766667279371241:=0
def tw12870658858854330506:=0
def tw12911154310742618410:=0
def tw4451999636478980426:=0
def tw14624573657469018474:=0
def tw4399346083998521738:=0
def tw15791674972600282570:=0
def tw2693540240065204778:=0
def tw396334590558938666:=0
def tw5513082315261783626:=0
def tw8595901084943315626:=0
def tw12964609094854737738:=0
def tw15242973011028558698:=0
def tw13980906470541689738:=0
def tw66838778374570922:=0
def tw10916242500366916586:=0
def tw7677472613115037707:=0
def tw2963212415986009099:=0
def tw16133832322064551979:=0
def tw10796945621438050507:=0
def tw17464092224392199371:=0
def tw16848472979854851403:=0
def tw16842007284003877195:=0
def tw17517373361701975403:=0
def tw14630491552279651691:=0
def tw4902094249328677291:=0
def tw17046876011237238315:=0
def tw16836515722708457067:=0
def tw6586742240715735691:=0
def tw11050961893356289803:=0
def tw15247397077109694251:=0
def tw3178477009098409771:=0
def tw6309108180400593739:=0
def tw6155397984907046795:=0
def tw16479492844744453067:=0
def tw6289464335595468779:=0
def tw14390016922413661228:=0
def tw13973501843073422540:=0
def tw12565912198738896140:=0
def tw9305526646260040044:=0
def tw12438998775075822028:=0
def tw9277048256664236588:=0
def tw5216357156257886764:=0
def tw2583838106603416172:=0
def tw4355765343660133004:=0
def tw7897938167060255372:=0
def tw7555945005254144716:=0
def tw14103727313527757612:=0
def tw4159423449633925932:=0
def tw3614515346110958476:=0
def tw531368170246552524:=0
def tw5150328680854408140:=0
def tw16792016089273009197:=0
def tw13945115862746909837:=0
def tw4855846999264610477:=0
def tw16516044505430787309:=0
def tw626176409295267149:=0
def tw16456124757005282733:=0
def tw3637668946375508557:=0
def tw11243229077259849293:=0
def tw3353151988952104557:=0
def tw17000937237716668109:=0
def tw15840935240808868589:=0
def tw350054960688200461:=0
def tw9637843946190586637:=0
def tw1209343070989280045:=0
def tw4006648910094348109:=0
def tw14357694350321330061:=0
def tw17591720169642928045:=0
def tw1880792925801471917:=0
def tw6700079032057728973:=0
def tw861942417497339853:=0
def tw6031939346191615054:=0
def tw7933810397867896942:=0
def tw8518614048209474734:=0
def tw18097944656425937134:=0
def tw17383128598801305870:=0
def tw10640731093602353550:=0
def tw3450051822325042638:=0
def tw2271423198974108142:=0
def tw17266180664532394510:=0
def tw6212708828394783278:=0
def tw1447118640028881454:=0
def tw2909066587657649710:=0
def tw13292592155275977294:=0
def tw2324182432914337390:=0
def tw8073507546734768846:=0
def tw863495856223281870:=0
def tw4084990515345769262:=0
def tw15348958709743206222:=0
def tw16711286152355443566:=0
def tw1899942466920658862:=0
def tw16903542490404745198:=0
def tw6982378524197321710:=0
def tw18364734041704498191:=0
def tw11978588239901269071:=0
def tw3627976794571370575:=0
def tw7888466350172686447:=0
def tw16268940033452922095:=0
def tw11051452661866586351:=0
def tw14483002533942271279:=0
def tw18159525917026273743:=0
def tw4269375354895008207:=0
def tw11289707695652563439:=0
def tw12606332217838347791:=0
def tw1989421475584925199:=0
def tw11456480402550298127:=0
def tw7012646426057207343:=0
def tw153943974088215215:=0
def tw4381989321308335983:=0
def tw12236298469194481551:=0
def tw11189879757848432591:=0
def tw8723605387899752528:=0
def tw18130897465685348560:=0
def tw14702606726262253776:=0
def tw13297871437237052656:=0
def tw65631119080650032:=0
def tw10473306600949991856:=0
def tw8153298497720329744:=0
def tw11950951631589410320:=0
def tw10206337922603743056:=0
def tw12249570253227345808:=0
def tw14898998289923034000:=0
def tw2671308925087087504:=0
def tw10754280824660602800:=0
def tw14473586863317397521:=0
def tw882832487732696113:=0
def tw416060168577695793:=0
def tw6134858404359347281:=0
def tw3495728075274627281:=0
def tw8618268348372040913:=0
def tw17414756623442084177:=0
def tw15279477623734635857:=0
def tw15034694189710162289:=0
def tw14219002686678768049:=0
def tw8400129407710195249:=0
def tw7343105855044075057:=0
def tw14792811990616758865:=0
def tw10671007652507892337:=0
def tw5768206191238472337:=0
def tw6894593083968587441:=0
def tw12373386980179454673:=0
def tw14354742957240866577:=0
def tw4463472846552207185:=0
def tw17848713612748828529:=0
def tw7909780217030893457:=0
def tw4128366227430032305:=0
def tw931847023035138033:=0
def tw11343130985580810225:=0
def tw2815621637574202482:=0
def tw7311346051352489106:=0
def tw13749759551611825298:=0
def tw18013772720179474706:=0
def tw10481419853310124370:=0
def tw10502791111711149394:=0
def tw15505648127866044786:=0
def tw2549082432486191506:=0
def tw7196398855339128210:=0
def tw10244417157244660146:=0
def tw7362998907465592242:=0
def tw5615698029346220498:=0
def tw3285777948640312818:=0
def tw5040371504890087954:=0
def tw9743059912822435506:=0
def tw17570954869665779506:=0
def tw13653030795680556946:=0
def tw4994951459530659794:=0
def tw17539001516308074482:=0
def tw5287215173402767411:=0
def tw570052030423721011:=0
def tw9077158512978318451:=0
def tw1207113737946424499:=0
def tw5174587412347856083:=0
def tw48882321209993459:=0
def tw2942617166849121555:=0
def tw8703022941556654419:=0
def tw17921714623777309075:=0
def tw2388349068682188211:=0
def tw3944831755116968371:=0
def tw17212956560866407955:=0
def tw5448270834502915635:=0
def tw5592970503187685043:=0
def tw16287885846029049523:=0
def tw3893327934251057843:=0
def tw3553159226376196883:=0
def tw3965372217238757139:=0
def tw4673016093655850771:=0
def tw9607159056839859284:=0
def tw1167919946752424052:=0
def tw10364170608507191476:=0
def tw17438356341595891924:=0
def tw10746867861657854196:=0
def tw15587139272115256564:=0
def tw11906677441377911156:=0
def tw11300355194053776884:=0
def tw9820329467939364372:=0
def tw11716221933080107540:=0
def tw1894356166520890932:=0
def tw4336680472584035924:=0
def tw16700062333939121780:=0
def tw8973594814140248756:=0
def tw1391473722394460884:=0
def tw10433803492587598548:=0
def tw4136499057859650292:=0
def tw15859514963905050388:=0
def tw10062031972199718708:=0
def tw12402888423862496052:=0
def tw2551955699627640724:=0
def tw5003054565763882005:=0
def tw18272294966507451445:=0
def tw10225062322500032597:=0
def tw15709904271798511733:=0
def tw16948205411382922453:=0
def tw15288017519832503541:=0
def tw100144513495222549:=0
def tw5644544273025589653:=0
def tw5371703355710304725:=0
def tw8411546921893737941:=0
def tw17291605774430396917:=0
def tw4871811115019932181:=0
def tw5296958134600403605:=0
def tw2423884319736168117:=0
def tw7034258012428766997:=0
def tw1036907867807867733:=0
def tw630863268620505973:=0
def tw11405350579965497269:=0
def tw497164305686825973:=0
def tw11090913560563130742:=0
def tw2655169492815441302:=0
def tw14485590501294183894:=0
def tw13534032183191106038:=0
def tw3124567870013637110:=0
def tw2688533613255033430:=0
def tw816935042746522262:=0
def tw16380308671741566646:=0
def tw6841979169329681110:=0
def tw7954507316864126742:=0
def tw4293990806716407798:=0
def tw10685523567035819063:=0
def tw5496589614022504567:=0
def tw8236562113535109303:=0
def tw14176759007745276087:=0
def tw15775056751096010007:=0
def tw68322433362184503:=0
def tw11379192707325406583:=0
def tw13690301573547456951:=0
def tw5144353471432757719:=0
def tw5755883230786702807:=0
def tw15773168071371382231:=0
def tw10324305870559445623:=0
def tw16908193199772450487:=0
def tw17158854818251219671:=0
def tw3136476566516373271:=0
def tw9233058209151653655:=0
def tw901698600524788535:=0
def tw5692173327889063895:=0
def tw17361385599772370968:=0
def tw11544009860040139832:=0
def tw10678586508023081016:=0
def tw3530765325796877528:=0
def tw1872764501313897784:=0
def tw14777973329560019320:=0
def tw10998868034094980568:=0
def tw1985824038748869176:=0
def tw14625315142980033080:=0
def tw15362053790528922296:=0
def tw8665460762085575672:=0
def tw2956513571050154169:=0
def tw5057064477355796697:=0
def tw4959070694970391801:=0
def tw14126347513172588825:=0
def tw3120768973563985337:=0
def tw1920909856133272057:=0
def tw10408270556547034777:=0
def tw11052700626674339513:=0
def tw4697990970809221017:=0
def tw10870775558154782617:=0
def tw10105360127147734969:=0
def tw824479334691509209:=0
def tw16673529300044244985:=0
def tw6735877715132812314:=0
def tw3379053693211015258:=0
def tw13140020267523883098:=0
def tw10912665672464756890:=0
def tw12194303038163621050:=0
def tw7078366685234351354:=0
def tw2823583292506527034:=0
def tw16606274018752138618:=0
def tw2389256027598692730:=0
def tw6390271556056741338:=0
def tw16870164525766866458:=0
def tw5040122511074406074:=0
def tw5527398292162830010:=0
def tw9470295090668151514:=0
def tw15790285598719121210:=0
def tw16230723451039194938:=0
def tw12484742314992758650:=0
def tw10156337087037506522:=0
def tw9499169540841014555:=0
def tw1471924294049450267:=0
def tw6807357793738572091:=0
def tw1868208032177537435:=0
def tw16910735916575564251:=0
def tw1012651895279989243:=0
def tw17868765141437722139:=0
def tw4137002291597889083:=0
def tw17006613587053881019:=0
def tw2875668041216651035:=0
def tw5831531448824478491:=0
def tw1210977718666689467:=0
def tw3506058121170630716:=0
def tw4191471175296929852:=0
def tw4091538615586433116:=0
def tw5503153204427697244:=0
def tw6361717632757203100:=0
def tw10116088118018290844:=0
def tw12271612736059337884:=0
def tw15762596400530573500:=0
def tw9090508042237876444:=0
def tw1452253348168093916:=0
def tw3373987807641477372:=0
def tw14711008735532313884:=0
def tw13829798833998332284:=0
def tw12316241268276841852:=0
def tw16460034077881393532:=0
def tw9381418991918271932:=0
def tw4574157448023514588:=0
def tw14156594365109796316:=0
def tw7444700172751087100:=0
def tw6360877279302738492:=0
def tw8005671162305848924:=0
def tw6258463114238871196:=0
def tw14343618146681306940:=0
def tw530293246884246332:=0
def tw11756243526368294716:=0
def tw173556952691686300:=0
def tw10272130821091700668:=0
def tw6177359643399668668:=0
def tw2292454206665409468:=0
def tw10610925310509884477:=0
def tw10836904112961035357:=0
def tw1955386854957284445:=0
def tw11276576865849368701:=0
def tw9804227632393846109:=0
def tw12094747526197127581:=0
def tw17629756958595331485:=0
def tw10804165158230164989:=0
def tw9495558363209703005:=0
def tw6088973626694510173:=0
def tw9137340810310591101:=0
def tw5643283299705275037:=0
def tw15455649317299077853:=0
def tw179110309455406845:=0
def tw3002829093008313085:=0
def tw17525053612696508253:=0
def tw1256873989335656285:=0
def tw14796224930344522653:=0
def tw3589343478367537085:=0
def tw10145899248101753821:=0
def tw10224267104250939389:=0
def tw1053052595698142238:=0
def tw7062101951016744062:=0
def tw2804055893775580478:=0
def tw768258845116694942:=0
def tw14018431140526327198:=0
def tw7725418467406291486:=0
def tw11564805809631828542:=0
def tw9334047592432422558:=0
def tw7229613913340426942:=0
def tw8509026178389821118:=0
def tw1692021812212618942:=0
def tw7137050606672368478:=0
def tw4448784042557472702:=0
def tw11137582557759872031:=0
def tw17501556728775735327:=0
def tw15591185577082923199:=0
def tw1902414324184340671:=0
def tw15854287544834339135:=0
def tw10113693753794337119:=0
def tw17045199721263176063:=0
def tw6529486607967196639:=0
def tw9280472299131046399:=0
def tw14216579488817501855:=0
def tw17267663243017625343:=0
def tw4423759925886255039:=0
def tw497568741565506559:=0
def tw13323382703496501198:=0
end PySem.W.Fast
open PySem PySem.W PyProof.Rows
set_option maxRecDepth 100000 in
set_option maxHeartbeats 0 in
theorem PySem.Challenge.cw_spinfloor_k37_ties_that_are_set_holds : PySem.Challenge.rw_spinfloor_k37_ties_that_are_set.Holds := by
 w_on;o_law;k_head;(case hw=>w_witness2)
 k_fill
 refine K8.walk (l:=PySem.Challenge.rw_spinfloor_k37_ties_that_are_set) rfl rfl (fun w h Y=>PySem.W.km_in_of Y) ?R ?F
 (case R=>kernel_rfl)
 case F =>
  intro w mg fa h KX G hmg
  refine' K8.all_mk KX G hmg ?Ey ?Ex ?KR ?i0 ?iZ ?gh ?iY ?iX ?gg ?kH ?KQ ?Jk ?Kq ?EW ?KO ?Ji ?Km ?EV ?Pk ?OH ?O6 ?Mh ?sr ?qO ?rV ?jd ?sq ?qN ?rT ?jc ?yj ?wX ?xV ?pO ?nZ ?ng ?nK ?jP ?sJ ?wW ?D3 ?wZ ?yf ?wQ ?xR ?pK ?Ew ?Dd ?D2 ?wY ?gv ?gm ?gq ?dy ?lM ?kU ?lA ?ig ?fE ?ft ?fA ?bP ?lF ?kK ?lg ?h7 ?yh ?wU ?xT ?pM ?yg ?wR ?xS ?pL ?yi ?wV ?xU ?pN ?jB ?i7 ?jt ?fN ?nY ?m9 ?nJ ?jO ?nX ?m8 ?nI ?jN ?jb ?jx ?jf ?fU ?nz ?nQ ?jV ?nB ?ja ?jw ?dN ?fQ ?kX ?lC ?ik ?kY ?KP ?Jj ?Ko ?k_head ?sv ?qP ?rW ?ma ?oi ?nu ?nP ?jU ?jz ?i5 ?jr ?fL ?lE ?kJ ?k8 ?hX ?nV ?mZ ?nG ?jL ?iE ?g9 ?iC ?eB ?gu ?gk ?gp ?dv ?fB ?fq ?fz ?cQ ?i9 ?jv ?je ?jg ?KN ?Jh ?Kl ?EU ?jA ?i6 ?js ?fM ?iF ?hO ?iD ?eE ?gy ?gn ?gs ?dz ?lN ?kW ?lB ?ij ?so ?qM ?rS ?l8 ?nW ?m7 ?nH ?jM ?oh ?nt ?nO ?jT ?og ?nj ?nN ?jS ?sG ?qR ?rY ?ml ?n9 ?ni ?nM ?jR ?lK ?kQ ?lx ?ic ?lH ?kM ?lj ?ia ?dY ?dU ?dX ?cg ?lJ ?kP ?lu ?ib ?sA ?qQ ?rX ?mh ?lG ?kL ?lh ?h9 ?lL ?kS ?ly ?ie ?jC ?i8 ?ju ?fP ?sI ?qS ?rZ ?mq ?n8 ?nh ?nL ?jQ ?MJ ?OI ?O7 ?OK ?Cb ?Dy ?BQ ?BL ?CM ?Df ?kG ?kE ?dQ ?Ca ?Dx ?BP ?BK ?CK ?De ?kD ?kC ?dP ?Iv ?JD ?Il ?Ib ?IX ?Jn ?kA ?ky ?iU ?g7 ?iW ?gi_most ?gi_modd ?Nm ?Nn ?Hn ?Hl ?Ba ?Bb ?kj ?iM ?Nk ?Nj ?u6 ?Nl ?Ni ?Np ?Hm ?mQ ?tbc ?tbl ?tbv ?tbn
  (case Ey=>k_is)
  (case Ex=>k_is)
  (case KR=>k_is)
  (case i0=>k_is)
  (case iZ=>k_is)
  (case gh=>k_is)
  (case iY=>k_is)
  (case iX=>k_is)
  (case gg=>k_is)
  (case kH=>k_is)
  (case KQ=>k_is)
  (case Jk=>k_is)
  (case Kq=>k_is)
  (case EW=>k_is)
  (case KO=>k_is)
  (case Ji=>k_is)
  (case Km=>k_is)
  (case EV=>k_is)
  (case Pk=>k_is)
  (case OH=>k_is)
  (case O6=>k_is)
  (case Mh=>k_is)
  (case sr=>k_is)
  (case qO=>k_is)
  (case rV=>k_is)
  (case jd=>k_is)
  (case sq=>k_is)
  (case qN=>k_is)
  (case rT=>k_is)
  (case jc=>k_is)
  (case yj=>k_is)
  (case wX=>k_is)
  (case xV=>k_is)
  (case pO=>k_is)
  (case nZ=>k_is)
  (case ng=>k_is)
  (case nK=>k_is)
  (case jP=>k_is)
  (case sJ=>k_is)
  (case wW=>k_is)
  (case D3=>k_is)
  (case wZ=>k_is)
  (case yf=>k_is)
  (case wQ=>k_is)
  (case xR=>k_is)
  (case pK=>k_is)
  (case Ew=>k_is)
  (case Dd=>k_is)
  (case D2=>k_is)
  (case wY=>k_is)
  (case gv=>k_is)
  (case gm=>k_is)
  (case gq=>k_is)
  (case dy=>k_is)
  (case lM=>k_is)
  (case kU=>k_is)
  (case lA=>k_is)
  (case ig=>k_is)
  (case fE=>k_is)
  (case ft=>k_is)
  (case fA=>k_is)
  (case bP=>k_is)
  (case lF=>k_is)
  (case kK=>k_is)
  (case lg=>k_is)
  (case h7=>k_is)
  (case yh=>k_is)
  (case wU=>k_is)
  (case xT=>k_is)
  (case pM=>k_is)
  (case yg=>k_is)
  (case wR=>k_is)
  (case xS=>k_is)
  (case pL=>k_is)
  (case yi=>k_is)
  (case wV=>k_is)
  (case xU=>k_is)
  (case pN=>k_is)
  (case jB=>k_is)
  (case i7=>k_is)
  (case jt=>k_is)
  (case fN=>k_is)
  (case nY=>k_is)
  (case m9=>k_is)
  (case nJ=>k_is)
  (case jO=>k_is)
  (case nX=>k_is)
  (case m8=>k_is)
  (case nI=>k_is)
  (case jN=>k_is)
  (case jb=>k_is)
  (case jx=>k_is)
  (case jf=>k_is)
  (case fU=>k_is)
  (case nz=>k_is)
  (case nQ=>k_is)
  (case jV=>k_is)
  (case nB=>k_is)
  (case ja=>k_is)
  (case jw=>k_is)
  (case dN=>k_is)
  (case fQ=>k_is)
  (case kX=>k_is)
  (case lC=>k_is)
  (case ik=>k_is)
  (case kY=>k_is)
  (case KP=>k_is)
  (case Jj=>k_is)
  (case Ko=>k_is)
  (case k_head=>k_is)
  (case sv=>k_is)
  (case qP=>k_is)
  (case rW=>k_is)
  (case ma=>k_is)
  (case oi=>k_is)
  (case nu=>k_is)
  (case nP=>k_is)
  (case jU=>k_is)
  (case jz=>k_is)
  (case i5=>k_is)
  (case jr=>k_is)
  (case fL=>k_is)
  (case lE=>k_is)
  (case kJ=>k_is)
  (case k8=>k_is)
  (case hX=>k_is)
  (case nV=>k_is)
  (case mZ=>k_is)
  (case nG=>k_is)
  (case jL=>k_is)
  (case iE=>k_is)
  (case g9=>k_is)
  (case iC=>k_is)
  (case eB=>k_is)
  (case gu=>k_is)
  (case gk=>k_is)
  (case gp=>k_is)
  (case dv=>k_is)
  (case fB=>k_is)
  (case fq=>k_is)
  (case fz=>k_is)
  (case cQ=>k_is)
  (case i9=>k_is)
  (case jv=>k_is)
  (case je=>k_is)
  (case jg=>k_is)
  (case KN=>k_is)
  (case Jh=>k_is)
  (case Kl=>k_is)
  (case EU=>k_is)
  (case jA=>k_is)
  (case i6=>k_is)
  (case js=>k_is)
  (case fM=>k_is)
  (case iF=>k_is)
  (case hO=>k_is)
  (case iD=>k_is)
  (case eE=>k_is)
  (case gy=>k_is)
  (case gn=>k_is)
  (case gs=>k_is)
  (case dz=>k_is)
  (case lN=>k_is)
  (case kW=>k_is)
  (case lB=>k_is)
  (case ij=>k_is)
  (case so=>k_is)
  (case qM=>k_is)
  (case rS=>k_is)
  (case l8=>k_is)
  (case nW=>k_is)
  (case m7=>k_is)
  (case nH=>k_is)
  (case jM=>k_is)
  (case oh=>k_is)
  (case nt=>k_is)
  (case nO=>k_is)
  (case jT=>k_is)
  (case og=>k_is)
  (case nj=>k_is)
  (case nN=>k_is)
  (case jS=>k_is)
  (case sG=>k_is)
  (case qR=>k_is)
  (case rY=>k_is)
  (case ml=>k_is)
  (case n9=>k_is)
  (case ni=>k_is)
  (case nM=>k_is)
  (case jR=>k_is)
  (case lK=>k_is)
  (case kQ=>k_is)
  (case lx=>k_is)
  (case ic=>k_is)
  (case lH=>k_is)
  (case kM=>k_is)
  (case lj=>k_is)
  (case ia=>k_is)
  (case dY=>k_is)
  (case dU=>k_is)
  (case dX=>k_is)
  (case cg=>k_is)
  (case lJ=>k_is)
  (case kP=>k_is)
  (case lu=>k_is)
  (case ib=>k_is)
  (case sA=>k_is)
  (case qQ=>k_is)
  (case rX=>k_is)
  (case mh=>k_is)
  (case lG=>k_is)
  (case kL=>k_is)
  (case lh=>k_is)
  (case h9=>k_is)
  (case lL=>k_is)
  (case kS=>k_is)
  (case ly=>k_is)
  (case ie=>k_is)
  (case jC=>k_is)
  (case i8=>k_is)
  (case ju=>k_is)
  (case fP=>k_is)
  (case sI=>k_is)
  (case qS=>k_is)
  (case rZ=>k_is)
  (case mq=>k_is)
  (case n8=>k_is)
  (case nh=>k_is)
  (case nL=>k_is)
  (case jQ=>k_is)
  (case MJ=>k_is)
  (case OI=>k_is)
  (case O7=>k_is)
  (case OK=>k_is)
  (case Cb=>k_is)
  (case Dy=>k_is)
  (case BQ=>k_is)
  (case BL=>k_is)
  (case CM=>k_is)
  (case Df=>k_is)
  (case kG=>k_is)
  (case kE=>k_is)
  (case dQ=>k_is)
  (case Ca=>k_is)
  (case Dx=>k_is)
  (case BP=>k_is)
  (case BK=>k_is)
  (case CK=>k_is)
  (case De=>k_is)
  (case kD=>k_is)
  (case kC=>k_is)
  (case dP=>k_is)
  (case Iv=>k_is)
  (case JD=>k_is)
  (case Il=>k_is)
  (case Ib=>k_is)
  (case IX=>k_is)
  (case Jn=>k_is)
  (case kA=>k_is)
  (case ky=>k_is)
  (case iU=>k_is)
  (case g7=>k_is)
  (case iW=>k_is)
  (case gi_most=>k_is)
  (case gi_modd=>k_is)
  (case Nm=>k_is)
  (case Nn=>k_is)
  (case Hn=>k_is)
  (case Hl=>k_is)
  (case Ba=>k_is)
  (case Bb=>k_is)
  (case kj=>k_is)
  (case iM=>k_is)
  (case Nk=>k_is)
  (case Nj=>k_is)
  (case u6=>k_is)
  (case Nl=>k_is)
  (case Ni=>k_is)
  (case Np=>k_is)
  (case Hm=>k_is)
  (case mQ=>k_is)
  (case tbc=>rfl)
  (case tbl=>k_is)
  (case tbv=>rfl)
  (case tbn=>kernel_rfl)
