import PyProof.Rows.All
import Wide.All
import OpenK.AllK
import Wide.FinOn
import Lean
import PyProof.EqAt
import PyProof.EqKinds
import PyProof.TupleCall
import PySem.Challenge.RW_spinfloor_k53_what_rests
open Array renaming length_toList → OI, toList_append → OU, getElem?_toList → Pf, getElem?_eq_getElem → Px, toList_push → P4, toList_reverse → Qq, toList_extract → QK, getD_eq_getD_getElem? → QT, perm_iff_toList_perm → QU, getElem?_eq_none → Q9, getD → Rk, toList_setIfInBounds → R5, getElem?_eq_some_iff → R6, size_setIfInBounds → Sf
open Bool renaming false_ne_true → Ox, false_eq_true → O2, not_eq_true' → Qd, and_eq_true → QH, eq_iff_iff → QS, false_and → Rw, xor_assoc → R8, xor_comm → Sk, not_true → Sl
open Int renaming toNat_natCast → Ob, emod_lt_of_pos → Pe, emod_nonneg → Pk, zero_add → Po, le_refl → Pr, le_of_lt → PJ, toNat_of_nonneg → PM, natCast_nonneg → RE, le_trans → RK, fdiv_eq_ediv_of_nonneg → R4
open List renaming getElem?_eq_some_iff → NP, getElem?_eq_getElem → NQ, length_map → NR, length_append → NT, mem_cons → NU, mem_of_getElem? → NV, getElem?_append_right → NW, getElem?_append_left → NX, getElem?_map → NZ, mem_append → N0, nodup_cons → Oa, mem_cons_of_mem → Oe, length_singleton → Of, mem_cons_self → Og, nodup_append → Oh, mem_append_right → Oi, mem_singleton → Ol, map_append → Oo, length_take → Ou, range → Oz, getD_eq_getElem?_getD → OB, size_toArray → OC, flatten_cons → OD, take_append_drop → OF, mem_append_left → OH, length_cons → OJ, mem_map → OL, getElem?_set → OM, append_assoc → ON, length_range → OR, mem_iff_getElem? → OS, length_set → OT, take_of_length_le → OV, map_cons → OW, length_drop → OX, mem_flatten → OY, perm_append_comm → OZ, not_mem_nil → O4, take_add_one → O7, pairwise_append → O8, pairwise_iff_getElem → O9, append_nil → Pa, take_length → Pb, range_succ → Pc, getElem?_take → Pd, getElem?_range → Ph, getElem_mem → Pj, mem_of_mem_take → Pm, mem_of_mem_drop → Pn, drop_eq_getElem_cons → Pw, flatten_append → PB, replicate → PN, nodup_nil → PQ, getElem?_drop → PV, filter_append → PX, cons_append → PY, mem_range → P0, getElem_of_mem → P6, length_filter_le → P8, getElem?_eq_none → P9, length_nil → Qb, filter_nil → Qc, getElem?_replicate → Qf, drop_drop → Qh, length_pos_of_mem → Qi, map_map → Qm, find?_cons → Qn, perm_ext_iff_of_nodup → Qo, extract_eq_drop_take → Qs, pairwise_singleton → Qu, length_eq_zero_iff → Qv, filter_cons_of_pos → Qw, filter_cons_of_neg → Qx, append_of_mem → Qy, any_cons → Qz, getElem?_set_self → QA, drop_zero → QC, drop_take → QD, set_append_right → QE, all_eq_true → QG, getElem?_set_ne → QJ, take_add → QL, map_take → QM, map_drop → QN, lookup → QP, filterMap_cons → QR, pairwise_cons → QV, map → QW, take_take → QX, mem_or_eq_of_mem_set → QY, idxOf_lt_length_iff → Q0, getElem_take → Q3, getElem_map → Q7, drop_eq_nil_of_le → Q8, nil_append → Rh, mem_filter → Ri, getElem?_reverse → Rj, set_append_left → Ro, idxOf_cons_self → Rp, getElem?_of_mem → Rq, length_reverse → Rz, mem_filterMap → RD, getElem_drop → RI, ext_getElem? → RJ, take_append_of_le_length → RM, mem_reverse → RN, isEmpty_nil → RO, eq_nil_of_length_eq_zero → RP, drop_append → RQ, of_mem_zip → RX, length → RY, foldl_cons → RZ, length_eraseIdx_of_lt → R0
open List.Pairwise renaming nil → Q4
open List.Perm renaming append_left → PF, swap → Rv, refl → R7
open Nat renaming le_refl → NY, ne_of_lt → Ot, sub_self → OA, le_of_lt → OG, lt_of_lt_of_le → OO, lt_succ_self → O3, zero_le → O5, le_trans → O6, lt_irrefl → Pg, lt_succ_of_lt → PD, min_eq_left → PH, ne_of_gt → PR, lt_of_le_of_lt → PU, not_lt_zero → P5, mod_eq_of_lt → P7, lt_trans → Qe, le_succ → Ql, eq_of_testBit_eq → Qp, testBit_two_pow → Qt, not_lt_of_le → QF, lt_trichotomy → QZ, zero_testBit → Q6, testBit_and → Rb, mod_self → Rg, pow_lt_pow_right → Rl, pow_le_pow_right → Rm, testBit_or → Ru, xor_assoc → RB, pos_of_ne_zero → RC, testBit_xor → RV, testBit → RW, testBit_two_pow_self → Sd, mod_lt → Se
open Nat.succ renaming inj → Rf
open Option renaming map_eq_some_iff → O0, map_some → Ra, isSome_map → RH, isSome_iff_exists → Sb
open Option.some renaming inj → Ov
open PySem renaming Spec → Ow, mem_of_lookup → Pz
open PySem.F renaming plainAttrs_list → OE, type_list_append → OP, slot_list_append → OQ, plain_extend_loop → Qr, type_list_insert → R9, slot_list_insert → Sa, type_list_index → Sh, slot_list_index → Si, plain_list_iadd → Sj
open PySem.W renaming Frag → NS, keepIn → Oc, nsIn → Od, codeIn → Oj, mg_of → Om, fnOf → Oq, findIn → Oy, mg_none_of → O1, kla_obj → Pp, kia_one → Pq, kitOne → Pt, CodeHd → Pu, tabIn → Py, emptyDict → PK, mroIn → PZ, hasDictIn → P1, instObj → Qa, plainGet → Qg, callWith_K → Qj, isFn → Qk, plainOver → QB, looks_findIn → QI, makesIn → QO, Looks → Q5, tabObj → Rr, lookIn → Rt, plainGet_of → Rx, hideAll_get → Ry, excIn → RA, specialIn → RF, methodObj → RG, any_some → RL, takesIn → RS, takerIn → RT, OpenLaw → RU, clsIn → Sg
set_option Elab.async false
set_option linter.all false
set_option compiler.extract_closed false
set_option genSizeOf false
set_option maxRecDepth 100000
local macro_rules | `(tactic| omega) => `(tactic| first | assumption | lia | omega +splitDisjunctions)
local macro_rules | `(tactic| ac_rfl) => `(tactic| omega +splitDisjunctions)
local macro_rules | `(tactic| ac_nf) => `(tactic| exact ⟨rfl,rfl,rfl,by decide +kernel,rfl,by decide +kernel,by decide +kernel⟩)
local macro_rules | `(tactic| decide) => `(tactic| decide +kernel)
namespace L2
open PySem PySem.Spec PyProof.Rows
abbrev Key:=Sum Int Str
def Co:Key->Value->Bool
 |.inl k,v=>Value.isInt k v
 |.inr x,v=>Value.isStrOf x v
def keyH(w:World):Key->Int
 |.inl k=>hashInt k
 |.inr x=>hashStr w x
theorem bG:∀{k:Key}{v:Value},Co k v=true->(∃ i t,k=Sum.inl i/\v=Value.int i t)∨(∃ x t,k=Sum.inr x/\v=Value.str x t)
 |.inl i,v,h=>by
  obtain⟨t,e⟩:=Value.isInt_shape (k:=i) (v:=v) h;exact .inl ⟨i,t,rfl,e⟩
 |.inr x,v,h=>by
  obtain⟨t,e⟩:=Value.isStrOf_shape (x:=x) (v:=v) h;exact .inr ⟨x,t,rfl,e⟩
theorem HS(i:Int)(t:Tok):Co (.inl i) (.int i t)=true:=by simp[Co,Value.isInt]
theorem HR(x:Str)(t:Tok):Co (.inr x) (.str x t)=true:=by simp[Co,Value.isStrOf]
theorem key_ll(a b:Int):decide ((Sum.inl a:Key)=Sum.inl b)=(a == b):=by
 by_cases e:a=b
 ·subst e;simp
 ·have h:¬ (Sum.inl a:Key)=Sum.inl b:=fun q=>e (Sum.inl.inj q)
  rw[decide_eq_false h];exact(beq_eq_false_iff_ne.mpr e).symm
theorem key_rr(a b:Str):decide ((Sum.inr a:Key)=Sum.inr b)=decide (a=b):=by
 by_cases e:a=b
 ·subst e;simp
 ·have h:¬ (Sum.inr a:Key)=Sum.inr b:=fun q=>e (Sum.inr.inj q)
  rw[decide_eq_false h,decide_eq_false e]
theorem key_lr(a:Int)(b:Str):decide ((Sum.inl a:Key)=Sum.inr b)=false:=decide_eq_false (fun q=>nomatch q)
theorem key_rl(a:Str)(b:Int):decide ((Sum.inr a:Key)=Sum.inl b)=false:=decide_eq_false (fun q=>nomatch q)
def cj(prog:Program)(w:World):PySem.KeyKind prog w Key where
 is:=Co
 hash:=keyH w
 inj:=fun v a b ha hb=>by
  rcases bG ha with⟨i,t,rfl,rfl⟩ | ⟨x,t,rfl,rfl⟩
  ·rcases bG hb with⟨j,u,rfl,e⟩ | ⟨y,u,rfl,e⟩
   ·injection e with e1 _;rw[e1]
   ·exact nomatch e
  ·rcases bG hb with⟨j,u,rfl,e⟩ | ⟨y,u,rfl,e⟩
   ·exact nomatch e
   ·injection e with e1 _;rw[e1]
 byValue:=fun k v h=>by
  rcases bG h with⟨i,t,rfl,rfl⟩ | ⟨x,t,rfl,rfl⟩<;>rfl
 pyHash:=fun hv h=>by
  rcases bG hv with⟨i,t,rfl,rfl⟩ | ⟨x,t,rfl,rfl⟩
  ·exact wpAny_pyHash_int h
  ·exact wpAny_pyHash_str h
 eqBool:=fun hu hv h=>by
  rcases bG hu with⟨i,t,rfl,rfl⟩ | ⟨x,t,rfl,rfl⟩
  ·rcases bG hv with⟨j,u,rfl,rfl⟩ | ⟨y,u,rfl,rfl⟩
   ·rw[key_ll]at h;exact wpAny_eqBool_int h
   ·rw[key_lr]at h;exact SeqAt.EqAt.int_str i t y u _ _ _ _ h
  ·rcases bG hv with⟨j,u,rfl,rfl⟩ | ⟨y,u,rfl,rfl⟩
   ·rw[key_rl]at h;exact SeqAt.EqAt.str_int x t j u _ _ _ _ h
   ·rw[key_rr]at h;exact wpAny_eqBool_str h
 «strs»:=fun k x t v h=>by
  rcases bG h with⟨i,u,rfl,e⟩ | ⟨y,u,rfl,e⟩
  ·exact nomatch e
  ·injection e with e1 _;subst e1
   cases v<;>rfl
theorem B7(prog:Program)(w:World)(i:Int)(t:Tok):(cj prog w).is (.inl i) (.int i t)=true:=HS i t
theorem B6(prog:Program)(w:World)(x:Str)(t:Tok):(cj prog w).is (.inr x) (.str x t)=true:=HR x t
inductive V where
 |non | bl (b:Bool) | int (i:Int) | str (x:Str) | byt (b:Array UInt8) | flt (b:UInt64) | ref (a:Addr) | ty (n:String)
 deriving DecidableEq
def RelV:V->Value->Prop
 |.non,u=>u=Value.none
 |.bl b,u=>u=Value.bool b
 |.int i,u=>∃ t,u=Value.int i t
 |.str x,u=>∃ t,u=Value.str x t
 |.byt b,u=>∃ t,u=Value.bytes b t
 |.flt b,u=>∃ t,u=Value.float b t
 |.ref a,u=>u=Value.ref a
 |.ty n,u=>u=Value.type n
abbrev Vals:List V->List Value->Prop:=Paired RelV
theorem Vals.length{xs:List V}{us:List Value}(r:Vals xs us):xs.length=us.length:=Paired.length r
theorem Vals.get:∀{xs:List V}{us:List Value}{i:Nat}{x:V},Vals xs us->xs[i]?=some x->∃ u,us[i]?=some u/\RelV x u
 |_,_,_,_,.nil,e=>by simp at e
 |_,_,0,_,.cons r _,e=>by simp at e;subst e;exact⟨_,rfl,r⟩
 |_,_,i+1,x,.cons _ t,e=>by
  obtain⟨u,h1,h2⟩:=Vals.get (i:=i) (x:=x) t (by simpa using e)
  exact⟨u,by simpa using h1,h2⟩
theorem Vals.set{x:V}{u:Value}(r:RelV x u):∀{xs:List V}{us:List Value}(i:Nat),Vals xs us->Vals (xs.set i x) (us.set i u)
 |_,_,_,.nil=>.nil
 |_,_,0,.cons _ t=>.cons r t
 |_,_,i+1,.cons q t=>.cons q (Vals.set r i t)
theorem Vals.append:∀{xs ys:List V}{us ws:List Value},Vals xs us->Vals ys ws->Vals (xs++ys) (us++ws)
 |_,_,_,_,.nil,s=>s
 |_,_,_,_,.cons r t,s=>.cons r (Vals.append t s)
theorem Vals.take:∀{xs:List V}{us:List Value}(n:Nat),Vals xs us->Vals (xs.take n) (us.take n)
 |_,_,0,_=>.nil
 |_,_,_+1,.nil=>.nil
 |_,_,n+1,.cons r t=>.cons r (Vals.take n t)
theorem Vals.drop:∀{xs:List V}{us:List Value}(n:Nat),Vals xs us->Vals (xs.drop n) (us.drop n)
 |_,_,0,r=>r
 |_,_,_+1,.nil=>.nil
 |_,_,n+1,.cons _ t=>Vals.drop n t
def RelO:Option V->Option Value->Prop
 |some v,some u=>RelV v u
 |none,none=>True
 |_,_=>False
def KV{κ:Type}:List (κ×V)->List (κ×Value)->Prop:=Paired fun(p:κ×V) (q:κ×Value)=>p.1=q.1/\RelV p.2 q.2
def kV:Key->V
 |.inl i=>.int i
 |.inr x=>.str x
inductive HO where
  |lst (xs:List V)
  |tup (xs:List V)
  |dK (kvs:List (Key×V)) | dT (kvs:List (List Key×V))
  |set (S:Int->Bool) (n:Nat)
  |ins (C dx:Addr) (fs:List (Str×V))
  |own (x:Addr)
  |xd (fs:List (Str×V))
  |met (f x:Addr)
  |rng (lo hi:Int)
  |frz (o:Obj) (u:HO)
  |tbl (ps:Array Value)
  |ext (φ:Heap->Prop)
abbrev Hp:=Addr->Option HO
def upd(H:Hp)(a:Addr)(o:HO):Hp:=fun b=>if b=a then some o else H b
theorem ae{H:Hp}{a:Addr}{o:HO}:upd H a o a=some o:=by unfold upd;rw[if_pos rfl]
theorem ak{H:Hp}{a b:Addr}{o:HO}(h:b≠a):upd H a o b=H b:=by unfold upd;rw[if_neg h]
theorem ne_of{H:Hp}{a b:Addr}{o u:HO}(h:H a=some o)(h':H b=some u)(d:o≠u):a≠b:=by
 intro e;subst e;rw[h]at h';exact d (Ov h')
theorem ax{H:Hp}{a b:Addr}{o:HO}(h:H a=some o)(h':H b=none):a≠b:=by
 intro e;subst e;rw[h]at h';cases h'
section
variable(P:Program)(w:World)
def bN(H:Hp)(h:Heap)(a:Addr):HO->Prop
 |.lst xs=>xs.length<=sizeLine/\∃(its:List Value)(n:Nat),Vals xs its/\h.get? a=some { cls:=.type "list",data:=.seq its.toArray n }
 |.tup xs=>xs.length<=sizeLine/\∃ its:List Value,Vals xs its/\IsTup h a its.toArray
 |.dK kvs=>kvs.length<=sizeLine/\(a == sysModules)=false/\∃ vs,KV kvs vs/\h.DictOf (cj P w) a vs
 |.dT kvs=>kvs.length<=sizeLine/\(a == sysModules)=false/\∃ xs:List (List Key×Addr×Value),
   Paired (fun(p:List Key×V) (q:List Key×Addr×Value)=>p.1=q.1/\H q.2.1=some (.tup (p.1.map kV))/\RelV p.2 q.2.2) kvs xs /\
   ∃ o es ep,h.get? a=some o/\o.ExactDict/\o.data=.dict es ep/\es.toList=xs.map (entryOfKey (tupleKind (cj P w)))/\(xs.map (·.1)).Nodup
 |.set S n=>h.SetOf (intKind P w) a S n
 |.ins C dx fs=>H dx=some (.own a)/\fs.length<=1000/\dx≠a/\h.get? a=some (Qa C dx) /\
   ∃ mA,h.Ns1 dx mA/\(∀ f,RelO (fs.lookup f) (mA f))/\PySem.Within mA (fs.map (·.1))
 |.own _=>∃ o,h.get? a=some o
 |.xd fs=>∃ mA,h.Ns1 a mA/\∀ f,RelO (fs.lookup f) (mA f)
 |.rng lo hi=>∃ t u v,h.get? a=some { cls:=.type "range",data:=.fields #[.int lo t,.int hi u,.int 1 v] }
 |.frz o u=>h.get? a=some o/\bN H h a u
 |.tbl ps=>h.get? a=some { cls:=.none,data:=.fields ps }
 |.met f x=>h.get? a=some (RG (.ref f) (.ref x))
 |.ext φ=>φ h/\(∃ o,h.get? a=some o)/\∀ h1 h2:Heap,φ h1->(∀ o,h1.get? a=some o->h2.get? a=some o)->φ h2
def HOk(H:Hp)(h:Heap):Prop:=∀ a o,H a=some o->bN P w H h a o
end
section
variable{P:Program}{w:World}{H H':Hp}{h h':Heap}{a:Addr}{o:HO}
theorem bN.lt(x:bN P w H h a o):a<h.objs.size:=by
 cases o with
 |lst xs=>obtain⟨_,_,_,_,e⟩:=x;exact Heap.lt_size e
 |tup xs=>obtain⟨_,_,_,p⟩:=x;exact p.lt
 |dK kvs=>obtain⟨_,_,_,_,o,_,_,e,_⟩:=x;exact Heap.lt_size e
 |dT kvs=>obtain⟨_,_,_,_,o,_,_,e,_⟩:=x;exact Heap.lt_size e
 |set S n=>obtain⟨o,_,_,_,e,_⟩:=x;exact Heap.lt_size e
 |ins C dx fs=>obtain⟨_,_,_,e,_⟩:=x;exact Heap.lt_size e
 |own y=>obtain⟨_,e⟩:=x;exact Heap.lt_size e
 |xd fs=>obtain⟨_,⟨_,_,_,e,_⟩,_⟩:=x;exact Heap.lt_size e
 |rng lo hi=>obtain⟨_,_,_,e⟩:=x;exact Heap.lt_size e
 |frz ob u=>obtain⟨e,_⟩:=x;exact Heap.lt_size e
 |tbl ps=>exact Heap.lt_size (show h.get? a=some _ from x)
 |met f y=>exact Heap.lt_size (show h.get? a=some _ from x)
 |ext φ=>obtain⟨_,⟨_,e⟩,_⟩:=x;exact Heap.lt_size e
theorem Paired.mapP{α β:Type}{F G:α->β->Prop}:∀{l₁:List α}{l₂:List β},Paired F l₁ l₂->(∀ a b,F a b->G a b)->Paired G l₁ l₂
 |_,_,.nil,_=>.nil
 |_,_,.cons r t,f=>.cons (f _ _ r) (Paired.mapP t f)
theorem bN.stay(x:bN P w H h a o)(k:∀ b u,(b=a∨H b=some (.own a))->h.get? b=some u->h'.get? b=some u)
  (ho:∀ b,H b=some (.own a)->H' b=some (.own a)) (ht:∀ b xs,H b=some (.tup xs)->H' b=some (.tup xs)):bN P w H' h' a o:=by
 induction o with
 |lst xs=>obtain⟨z,its,n,r,e⟩:=x;exact⟨z,its,n,r,k _ _ (.inl rfl) e⟩
 |tup xs=>obtain⟨z,its,r,ob,e,c⟩:=x;exact⟨z,its,r,ob,k _ _ (.inl rfl) e,c⟩
 |dK kvs=>obtain⟨z,y,vs,r,ob,es,ep,e,c⟩:=x;exact⟨z,y,vs,r,ob,es,ep,k _ _ (.inl rfl) e,c⟩
 |dT kvs =>
  obtain⟨z,y,xs,r,ob,es,ep,e,c⟩:=x;exact⟨z,y,xs,Paired.mapP r fun p q z=>⟨z.1,ht _ _ z.2.1,z.2.2⟩,ob,es,ep,k _ _ (.inl rfl) e,c⟩
 |set S n=>obtain⟨ob,es,ep,t,e,c⟩:=x;exact⟨ob,es,ep,t,k _ _ (.inl rfl) e,c⟩
 |ins C dx fs =>
  obtain⟨d,z,ne,e,mA,⟨od,es,ep,e2,c⟩,r⟩:=x;exact⟨ho _ d,z,ne,k _ _ (.inl rfl) e,mA,⟨od,es,ep,k _ _ (.inr d) e2,c⟩,r⟩
 |own y=>obtain⟨ob,e⟩:=x;exact⟨ob,k _ _ (.inl rfl) e⟩
 |xd fs=>obtain⟨mA,⟨od,es,ep,e,c⟩,r⟩:=x;exact⟨mA,⟨od,es,ep,k _ _ (.inl rfl) e,c⟩,r⟩
 |rng lo hi=>obtain⟨t,u,v,e⟩:=x;exact⟨t,u,v,k _ _ (.inl rfl) e⟩
 |frz ob u ih=>obtain⟨e,q⟩:=x;exact⟨k _ _ (.inl rfl) e,ih q⟩
 |tbl ps =>
  have e:h.get? a=some { cls:=.none,data:=.fields ps }:=x;show h'.get? a=some { cls:=.none,data:=.fields ps };exact k a _ (.inl rfl) e
 |met f y =>
  have e:h.get? a=some (RG (.ref f) (.ref y)):=x;show h'.get? a=some (RG (.ref f) (.ref y));exact k a _ (.inl rfl) e
 |ext φ=>obtain⟨p,⟨o,e⟩,st⟩:=x;exact⟨st _ _ p fun o q=>k _ _ (.inl rfl) q,⟨o,k _ _ (.inl rfl) e⟩,st⟩
theorem HOk.lt(x:HOk P w H h)(e:H a=some o):a<h.objs.size:=(x a o e).lt
theorem HOk.fresh(x:HOk P w H h)(e:h.objs.size<=a):H a=none:=by
 cases q:H a with
 |none=>rfl
 |some u=>exact absurd (OO (x.lt q) e) (Pg _)
theorem HOk.kept(x:HOk P w H h)(k:∀ b u,h.get? b=some u->h'.get? b=some u):HOk P w H h':=fun a o e =>
 (x a o e).stay (fun b u _ q=>k b u q) (fun _ q=>q) fun _ _ q=>q
theorem HOk.laid(x:HOk P w H h)(k:∀ b u,h.get? b=some u->h'.get? b=some u)(hp:h.objs.size<=a)(new:bN P w (upd H a o) h' a o):HOk P w (upd H a o) h':=fun b u e=>by
 have hn:=x.fresh hp;by_cases hb:b=a
 ·subst hb;rw[ae]at e;cases e;exact new
 ·rw[ak hb]at e;exact(x b u e).stay (fun c v _ q=>k c v q) (fun c q=>by rw[ak (ax q hn)];exact q) fun c xs q=>by rw[ak (ax q hn)];exact q
end
def Rd(H:Hp)(a:Addr)(u:HO):Prop:=H a=some u∨∃ o,H a=some (.frz o u)
theorem Rd.ok{P:Program}{w:World}{H:Hp}{h:Heap}{a:Addr}{u:HO}(r:Rd H a u)(x:HOk P w H h):bN P w H h a u:=by
 rcases r with r | ⟨o,r⟩
 ·exact x a u r
 ·obtain⟨_,q⟩:=x a _ r;exact q
def Mut:Option HO->Prop
 |some (.lst _)=>True
 |some (.dK _)=>True
 |some (.dT _)=>True
 |some (.set _ _)=>True
 |some (.ins _ _ _)=>True
 |some (.ext _)=>True
 |_=>False
section
variable{P:Program}{w:World}{H:Hp}{h h':Heap}{x e:Addr}{o':HO}
theorem HOk.write(ok:HOk P w H h)(mu:Mut (H x))(he:e=x∨H e=some (.own x))(k:∀ b u,b≠e->h.get? b=some u->h'.get? b=some u)(heo:∃ u,h'.get? e=some u)
  (new:bN P w (upd H x o') h' x o'):HOk P w (upd H x o') h':=fun b u q=>by
 have nown:∀ c y,H c=some (.own y)->c≠x:=fun c y r z=>by subst z;rw[r]at mu;exact mu
 have ntup:∀ c xs,H c=some (.tup xs)->c≠x:=fun c xs r z=>by subst z;rw[r]at mu;exact mu
 by_cases hb:b=x
 ·subst hb;rw[ae]at q;cases q;exact new
 ·rw[ak hb]at q;by_cases hbe:b=e
  ·have q':H b=some (.own x):=by
    rcases he with z | z
    ·exact absurd (hbe.trans z) hb
    ·rw[hbe];exact z
   rw[q]at q';cases q';obtain⟨v,hv⟩:=heo;exact⟨v,by rw[hbe];exact hv⟩
  ·refine(ok b u q).stay (fun c v hc r=>k c v ?_ r) (fun c r=>by rw[ak (nown c b r)];exact r) fun c xs r=>by rw[ak (ntup c xs r)];exact r
   rcases hc with rfl | hc
   ·exact hbe
   ·rintro rfl;rcases he with z | z
    ·exact nown c b hc z
    ·rw[hc]at z;cases z;exact hb rfl
end
structure Un(fs ex:List Addr)(H H':Hp)(h h':Heap):Prop where
 keep:∀ b o,h.get? b=some o->H b=none->b∉fs->b∉ex->h'.get? b=some o
 slot:∀ b o,h.get? b=some o->H b=none->b∈fs->b∉ex->∃ sl,h'.get? b=some { o with slots:=sl }
 free:∀ b o,h.get? b=some o->H b=none->b∉ex->H' b=none
 there:∀ b o,h.get? b=some o->b∉ex->∃ o',h'.get? b=some o'
 tups:∀ b xs,H b=some (.tup xs)->H' b=some (.tup xs)
 frzs:∀ b o u,H b=some (.frz o u)->H' b=some (.frz o u)
 tbls:∀ b ps,H b=some (.tbl ps)->∃ more,H' b=some (.tbl (ps++more))
section
variable{fs fs' ex ex':List Addr}{H H1 H2:Hp}{h h1 h2 h':Heap}{a x e:Addr}{o:HO}
theorem Un.any(u:Un fs ex H H1 h h1){b:Addr}{ob:Obj}(q:h.get? b=some ob)(n:H b=none)(hx:b∉ex):∃ sl,h1.get? b=some { ob with slots:=sl }:=by
 by_cases hb:b∈fs
 ·exact u.slot b ob q n hb hx
 ·exact⟨ob.slots,u.keep b ob q n hb hx⟩
theorem Un.kept(k:∀ b u,h.get? b=some u->h'.get? b=some u):Un fs ex H H h h' :=
 ⟨fun b ob q _ _ _=>k b ob q,fun b ob q _ _ _=>⟨ob.slots,k b ob q⟩,fun _ _ _ n _=>n,fun b ob q _=>⟨ob,k b ob q⟩,fun _ _ q=>q,fun _ _ _ q=>q,fun _ ps q=>⟨#[],by rw[q];simp⟩⟩
theorem Un.refl:Un fs ex H H h h:=Un.kept fun _ _ q=>q
theorem Un.laid(k:∀ b u,h.get? b=some u->h'.get? b=some u)(hp:h.objs.size<=a)(hn:H a=none):Un fs ex H (upd H a o) h h' where
 keep:=fun b u q _ _ _=>k b u q
 slot:=fun b u q _ _ _=>⟨u.slots,k b u q⟩
 free:=fun b u q n _=>by rw[ak (Ot (OO (Heap.lt_size q) hp))];exact n
 there:=fun b u q _=>⟨u,k b u q⟩
 tups:=fun b xs q=>by rw[ak (ax q hn)];exact q
 frzs:=fun b u xs q=>by rw[ak (ax q hn)];exact q
 tbls:=fun b ps q=>⟨#[],by rw[ak (ax q hn),q];simp⟩
theorem Un.write(mu:Mut (H x))(he:e=x∨H e=some (.own x))(k:∀ b u,b≠e->h.get? b=some u->h'.get? b=some u)(heo:∃ u,h'.get? e=some u):Un fs ex H (upd H x o) h h':=by
 have hx:∀ b,H b=none->b≠x:=fun b n z=>by subst z;rw[n]at mu;exact mu
 have hb:∀ b,H b=none->b≠e:=fun b n z=>by
  subst z;rcases he with r | r
  ·exact hx b n r
  ·rw[n]at r;cases r
 have hm:∀ b u,H b=some u->¬ Mut (some u)->b≠x:=fun b u q nm z=>by subst z;rw[q]at mu;exact nm mu
 refine⟨fun b u q n _ _=>k b u (hb b n) q,fun b u q n _ _=>⟨u.slots,k b u (hb b n) q⟩,fun b u q n _=>by rw[ak (hx b n)];exact n,fun b u q _=>?_,
  fun b xs q=>by rw[ak (hm b _ q fun z=>z)];exact q,fun b u xs q=>by rw[ak (hm b _ q fun z=>z)];exact q,fun b ps q=>⟨#[],by rw[ak (hm b _ q fun z=>z),q];simp⟩⟩
 by_cases hbe:b=e
 ·subst hbe;exact heo
 ·exact⟨u,k b u hbe q⟩
end
def trk(h:Heap)(H:Hp):List Addr:=(Oz h.objs.size).filter fun a=>(H a).isSome
def hidT(h:Heap)(H:Hp):Heap:=PySem.W.hideAll h (trk h H)
theorem Im(h:Heap)(H:Hp):(hidT h H).objs.size=h.objs.size:=PySem.W.hideAll_size _ _
theorem qP{h:Heap}{H:Hp}{b:Addr}{o:Obj}(e:h.get? b=some o)(n:H b=none):(hidT h H).get? b=some o :=
 Ry _ e fun hm=>by
  have q:(H b).isSome=true:=(Ri.mp hm).2;rw[n]at q;simp at q
theorem MV{h:Heap}{H:Hp}{b:Addr}{o:Obj}(e:(hidT h H).get? b=some o):h.get? b=some o/\H b=none:=by
 have e':h.get? b=some o:=PySem.W.of_hideAll (trk h H) e;refine⟨e',?_⟩
 cases q:H b with
 |none=>rfl
 |some x =>
  have hm:b∈trk h H:=Ri.mpr ⟨P0.mpr (Heap.lt_size e'),by simp[q]⟩
  have z:(hidT h H).get? b=none:=PySem.W.hideAll_none (trk h H) hm;rw[z]at e;cases e
structure Mod(K:NS)(mg:Str->Option Value)(base:Heap):Prop where
 kin:K.In base
 glob:base.Ns mainGlobals mg
 blt:∃ mb,base.Ns builtinsNs mb/\∀ x:Str,x≠"__name__"->mb x=bootBuiltins x
 nolimit:base.NoLimit
set_option genInjectivity false in
structure Cx where
 prog:Program
 w:World
 K:NS
 mg:Str->Option Value
 base:Heap
 A:Around
 N:List Str
 s₀:Shared
 H₀:Hp
 env:Env
 outer:List Env
 stack:List Env
 ex:List Addr
 fn:Str->Bool
 calm:Bool
 pn:List (Addr×Obj)
 xe:Value->Shared->Prop
def frs(l:List Env):List Addr:=l.filterMap (·.frame)
abbrev Cx.fs(X:Cx):List Addr:=frs X.outer
def Vis(sc:Scope)(x:Str):Prop:=sc.names.lookup x=some .local∨sc.names.lookup x=some .cell∨sc.names.lookup x=some .free
def Loc(sc:Scope)(x:Str):Prop:=sc.names.lookup x=some .local∨sc.names.lookup x=some .cell
def Look(env:Env)(h:Heap)(m:Str->Option Value)(x:Str)(u:Value):Prop :=
 (env.kindOf x=some .local/\m x=some u)∨((env.kindOf x=some .cell∨env.kindOf x=some .free)/\∃ c,env.cells.lookup x=some c/\h.IsCell c (some u))
structure Cx.Ok(X:Cx):Prop where
 mod:Mod X.K X.mg X.base
 kind:X.env.scope.kind=.function
 glob:X.env.globals=mainGlobals
 blt:X.env.builtins=builtinsNs
 above:X.s₀.heap.objs.size<=X.env.locals
 inj:∀ x y c,X.env.cells.lookup x=some c->X.env.cells.lookup y=some c->x=y
 has:∀ x,(X.env.kindOf x=some .cell∨X.env.kindOf x=some .free)->∃ c,X.env.cells.lookup x=some c
 cab:∀ x c,X.fn x=true->X.env.cells.lookup x=some c->X.s₀.heap.objs.size<=c
 hd:X.calm=true->X.A.handled=none
 frames:X.A.frames=some X.stack
 stk:X.stack=X.outer∨(X.stack=X.env::X.outer/\X.env.frame=some X.env.locals)
 exf:∀ b∈X.ex,b≠X.env.locals/\∀ x c,X.env.cells.lookup x=some c->c≠b
 bs:∀ b o,X.base.get? b=some o->X.s₀.heap.get? b=some o/\X.H₀ b=none
 bsz:X.base.objs.size<=X.s₀.heap.objs.size
 noex:∀ b o,X.base.get? b=some o->b∉X.ex
 exfs:∀ b∈X.ex,b∉X.fs
 funs:X.s₀.heap.FunFrames X.base X.outer
 frf:∀ b∈X.fs,X.H₀ b=none
structure Inv(X:Cx)(pins:List (Addr×Obj))(σ:List (Option V))(H:Hp)(s:Shared):Prop where
 ok:X.Ok
 os:s.os=X.s₀.os
 bare:AllBare s.gens
 base:Un X.fs X.ex X.H₀ H X.s₀.heap s.heap
 loc:∃ m,s.heap.Ns X.env.locals m/\∀(i:Nat)(x:Str)(v:V),X.N[i]?=some x->σ[i]?=some (some v)->Vis X.env.scope x->∃ u,RelV v u/\Look X.env s.heap m x u
 cell:∀ x c,X.env.cells.lookup x=some c->∃ v,s.heap.IsCell c v
 free:H X.env.locals=none
 freeC:∀ x c,X.env.cells.lookup x=some c->H c=none
 pin:∀ p∈X.pn++pins,s.heap.get? p.1=some p.2/\H p.1=none/\p.1≠X.env.locals/\p.1∉X.fs/\∀ v,p.2.data≠.cell v
 hok:HOk X.prog X.w H s.heap
 len:σ.length=X.N.length
section
variable{X:Cx}{pins:List (Addr×Obj)}{σ:List (Option V)}{H H':Hp}{s:Shared}{h':Heap}
theorem Cx.Ok.nofr(ok:X.Ok){b:Addr}{o:Obj}(e:X.base.get? b=some o):b∉X.fs:=fun hb=>by
 have:=(ok.funs.mem hb).1;rw[e]at this;cases this
theorem Inv.bs(I:Inv X pins σ H s):∀ b o,X.base.get? b=some o->s.heap.get? b=some o/\H b=none:=fun b o e =>
 ⟨I.base.keep b o (I.ok.bs b o e).1 (I.ok.bs b o e).2 (I.ok.nofr e) (I.ok.noex b o e),I.base.free b o (I.ok.bs b o e).1 (I.ok.bs b o e).2 (I.ok.noex b o e)⟩
theorem Inv.bk(I:Inv X pins σ H s):∀ b o,X.base.get? b=some o->s.heap.get? b=some o:=fun b o e=>(I.bs b o e).1
theorem Inv.mod(I:Inv X pins σ H s):Mod X.K X.mg X.base:=I.ok.mod
theorem Inv.kIn(I:Inv X pins σ H s):X.K.In s.heap:=I.ok.mod.kin.keeps I.bk
theorem Inv.nolimit(I:Inv X pins σ H s):s.heap.NoLimit:=I.ok.mod.nolimit.keeps I.bk
theorem Inv.lt(I:Inv X pins σ H s):X.env.locals<s.heap.objs.size:=let ⟨_,hn,_⟩:=I.loc;hn.lt
theorem Inv.sz(I:Inv X pins σ H s):X.s₀.heap.objs.size<=s.heap.objs.size:=O6 I.ok.above (OG I.lt)
theorem Inv.nofs(I:Inv X pins σ H s){a:Addr}(h:s.heap.objs.size<=a):a∉X.fs:=fun hb=>by
 obtain⟨_,o,ho,_⟩:=I.ok.funs.mem hb;exact absurd (OO (Heap.lt_size ho) (O6 I.sz h)) (Pg _)
theorem Inv.cne(I:Inv X pins σ H s):∀ x c,X.env.cells.lookup x=some c->c≠X.env.locals:=fun x c e z=>by
 obtain⟨v,o,ho,hd⟩:=I.cell x c e;obtain⟨m,⟨o',es,ep,ho',hd',_⟩,_⟩:=I.loc;rw[z,ho']at ho;cases ho;rw[hd']at hd;cases hd
theorem Inv.funs(I:Inv X pins σ H s):s.heap.FunFrames X.base X.outer:=by
 have all:∀(l:List Env),(∀ b∈frs l,b∈X.fs)->X.s₀.heap.FunFrames X.base l->s.heap.FunFrames X.base l:=by
  intro l;induction l with
  |nil=>intro _ _;trivial
  |cons env r ih =>
   intro hs hl;obtain⟨hk,⟨L,o,hf,hn,ho,hd⟩,hr⟩:=hl;have hL:L∈X.fs:=hs L (by unfold frs;rw[QR,hf];exact Og)
   obtain⟨sl,e⟩:=I.base.slot L o ho (I.ok.frf L hL) hL fun z=>I.ok.exfs L z hL;exact⟨hk,⟨L,_,hf,hn,e,hd⟩,ih (fun b hb=>hs b (by unfold frs;rw[QR,hf];exact Oe _ hb)) hr⟩
 exact all X.outer (fun _ hb=>hb) I.ok.funs
theorem Inv.stack(I:Inv X pins σ H s):s.heap.FunFrames X.base X.stack:=by
 rcases I.ok.stk with e | ⟨e,hf⟩
 ·rw[e];exact I.funs
 ·rw[e];obtain⟨m,hn,_⟩:=I.loc;refine .cons (by rw[I.ok.kind];decide) hf hn ?_ I.funs
  exact Heap.get?_none_of_le (O6 I.ok.bsz I.ok.above)
theorem Inv.stkSub(I:Inv X pins σ H s):∀ b∈frs X.stack,b∈X.env.locals::X.fs:=fun b hb=>by
 rcases I.ok.stk with e | ⟨e,hf⟩
 ·rw[e]at hb;exact Oe _ hb
 ·rw[e]at hb;unfold frs at hb;rw[QR,hf]at hb;exact hb
theorem Inv.stkFree(I:Inv X pins σ H s):∀ b∈frs X.stack,H b=none:=fun b hb=>by
 rcases NU.mp (I.stkSub b hb)with e | hb
 ·rw[e];exact I.free
 ·obtain⟨_,o,ho,_⟩:=I.ok.funs.mem hb;exact I.base.free b o ho (I.ok.frf b hb) fun z=>I.ok.exfs b z hb
theorem Inv.step{g':Array GenState}{t':Nat}{d':Drawn}{ch:List Addr}(I:Inv X pins σ H s)
  (hch:∀ b∈ch,(b∈X.ex∨X.s₀.heap.objs.size<=b)/\b≠X.env.locals/\(∀ x c,X.env.cells.lookup x=some c->c≠b)/\∀ p∈X.pn++pins,p.1≠b)
  (keep:∀ b o,b≠X.env.locals->b∉X.fs->b∉ch->s.heap.get? b=some o->H b=none->h'.get? b=some o)
  (slot:∀ b o,b≠X.env.locals->b∈X.fs->b∉ch->s.heap.get? b=some o->H b=none->∃ sl,h'.get? b=some { o with slots:=sl }) (free:∀ b o,b∉ch->s.heap.get? b=some o->H b=none->H' b=none)
  (there:∀ b o,b∉ch->s.heap.get? b=some o->∃ o',h'.get? b=some o')
  (tups:∀ b xs,H b=some (.tup xs)->H' b=some (.tup xs)) (frzs:∀ b o u,H b=some (.frz o u)->H' b=some (.frz o u)) (tbls:∀ b ps,H b=some (.tbl ps)->∃ more,H' b=some (.tbl (ps++more)))
  (ns:∀ m,s.heap.Ns X.env.locals m->h'.Ns X.env.locals m) (hok:HOk X.prog X.w H' h') (hg:AllBare g') :
  Inv X pins σ H' { s with heap:=h',gens:=g',drawn:=d',toks:=t' }:=by
 have neL:∀ b o,X.s₀.heap.get? b=some o->b≠X.env.locals:=fun b o e=>Ot (OO (Heap.lt_size e) I.ok.above);have neC:∀ b o,X.s₀.heap.get? b=some o->b∉X.ex->b∉ch:=fun b o e hx hb=>by
  rcases(hch b hb).1 with z | z
  ·exact hx z
  ·exact absurd (OO (Heap.lt_size e) z) (Pg _)
 have cellK:∀ x c,X.env.cells.lookup x=some c->∀ v,s.heap.IsCell c v->h'.IsCell c v:=fun x c e v ⟨o,ho,hd⟩=>by
  have nch:c∉ch:=fun z=>(hch c z).2.2.1 x c e rfl;by_cases hc:c∈X.fs
  ·obtain⟨sl,q⟩:=slot c o (I.cne x c e) hc nch ho (I.freeC x c e);exact⟨_,q,hd⟩
  ·exact⟨o,keep c o (I.cne x c e) hc nch ho (I.freeC x c e),hd⟩
 refine⟨I.ok,I.os,hg,⟨fun b o e n hb hx=>?_,fun b o e n hb hx=>?_,fun b o e n hx=>?_,fun b o e hx=>?_,fun b xs e=>tups b xs (I.base.tups b xs e),fun b o xs e=>frzs b o xs (I.base.frzs b o xs e),fun b ps e=>?_⟩,?_,fun x c e=>?_,?_,fun x c e=>?_,fun p hp=>?_,hok,I.len⟩
 ·exact keep b o (neL b o e) hb (neC b o e hx) (I.base.keep b o e n hb hx) (I.base.free b o e n hx)
 ·obtain⟨sl,e1⟩:=I.base.slot b o e n hb hx;obtain⟨sl',e2⟩:=slot b _ (neL b o e) hb (neC b o e hx) e1 (I.base.free b o e n hx);exact⟨sl',e2⟩
 ·obtain⟨o',e1⟩:=I.base.there b o e hx;exact free b o' (neC b o e hx) e1 (I.base.free b o e n hx)
 ·obtain⟨o',e1⟩:=I.base.there b o e hx;exact there b o' (neC b o e hx) e1
 ·obtain⟨m1,e1⟩:=I.base.tbls b ps e;obtain⟨m2,e2⟩:=tbls b _ e1;exact⟨m1++m2,by rw[e2,Array.append_assoc]⟩
 ·obtain⟨m,hn,hl⟩:=I.loc;refine⟨m,ns m hn,fun i x v e1 e2 e3=>?_⟩;obtain⟨u,r,l⟩:=hl i x v e1 e2 e3;refine⟨u,r,?_⟩;rcases l with l | ⟨k,c,e,z⟩
  ·exact .inl l
  ·exact .inr ⟨k,c,e,cellK x c e _ z⟩
 ·obtain⟨v,z⟩:=I.cell x c e;exact⟨v,cellK x c e v z⟩
 ·obtain⟨m,⟨o,_,_,ho,_⟩,_⟩:=I.loc;exact free _ o (fun z=>(hch _ z).2.1 rfl) ho I.free
 ·obtain⟨v,o,ho,hd⟩:=I.cell x c e;exact free c o (fun z=>(hch c z).2.2.1 x c e rfl) ho (I.freeC x c e)
 ·obtain⟨e,n,ne,nf,d⟩:=I.pin p hp;have nch:p.1∉ch:=fun z=>(hch p.1 z).2.2.2 p hp rfl;exact⟨keep p.1 p.2 ne nf nch e n,free p.1 p.2 nch e n,ne,nf,d⟩
theorem Inv.un{t':Nat}(I:Inv X pins σ H s)(u:Un X.fs [] H H' s.heap h')(hok:HOk X.prog X.w H' h'):Inv X pins σ H' { s with heap:=h',toks:=t' }:=by
 obtain⟨m,⟨o,es,ep,ho,r⟩,_⟩:=id I.loc;obtain⟨sl,hL⟩:=u.any ho I.free (by simp)
 exact I.step (g':=s.gens) (d':=s.drawn) (ch:=[]) (fun _ z=>nomatch z) (fun b o _ hb _ e n=>u.keep b o e n hb (by simp)) (fun b o _ hb _ e n=>u.slot b o e n hb (by simp)) (fun b o _ e n=>u.free b o e n (by simp)) (fun b o _ e=>u.there b o e (by simp)) u.tups u.frzs u.tbls (fun m' hm=>by
  obtain⟨o',es',ep',ho',r'⟩:=hm;rw[ho]at ho';cases ho'
  exact⟨_,es',ep',hL,r'⟩) hok I.bare
theorem Inv.call{g':Array GenState}{t':Nat}{d':Drawn}{ch:List Addr}(I:Inv X pins σ H s)(u:Un (frs X.stack) ch H H' s.heap h')(hok:HOk X.prog X.w H' h')(hg:AllBare g')
  (hch:∀ b∈ch,(b∈X.ex∨X.s₀.heap.objs.size<=b)/\b≠X.env.locals/\(∀ x c,X.env.cells.lookup x=some c->c≠b)/\∀ p∈X.pn++pins,p.1≠b) :
  Inv X pins σ H' { s with heap:=h',gens:=g',drawn:=d',toks:=t' }:=by
 obtain⟨m,⟨o,es,ep,ho,r⟩,_⟩:=id I.loc;obtain⟨sl,hL⟩:=u.any ho I.free fun z=>(hch _ z).2.1 rfl
 exact I.step (ch:=ch) hch (fun b o hL hb hc e n=>u.keep b o e n (fun z=>(NU.mp (I.stkSub b z)).elim hL hb) hc) (fun b o _ _ hc e n=>u.any e n hc) (fun b o hc e n=>u.free b o e n hc) (fun b o hc e=>u.there b o e hc) u.tups u.frzs u.tbls (fun m' hm=>by
  obtain⟨o',es',ep',ho',r'⟩:=hm;rw[ho]at ho';cases ho'
  exact⟨_,es',ep',hL,r'⟩) hok hg
theorem Inv.turned{t':Nat}{it:Addr}(I:Inv X pins σ H s)(k:∀ b o,b≠it->s.heap.get? b=some o->h'.get? b=some o)(hn:H it=none)(hL:it≠X.env.locals)
  (h1:it∈X.ex∨X.s₀.heap.objs.size<=it) (h2:∀ x c,X.env.cells.lookup x=some c->c≠it) (h3:∀ p∈X.pn++pins,p.1≠it):Inv X pins σ H { s with heap:=h',toks:=t' }:=by
 have nit:∀ b u,H b=some u->b≠it:=fun b u e z=>by rw[z,hn]at e;cases e
 refine I.step (g':=s.gens) (d':=s.drawn) (ch:=[it]) (fun b hb=>?_) (fun b o _ _ hc e _=>k b o (fun z=>hc (by simp[z])) e) (fun b o _ _ hc e _=>⟨o.slots,k b o (fun z=>hc (by simp[z])) e⟩) (fun _ _ _ _ n=>n)
  (fun b o hc e=>⟨o,k b o (fun z=>hc (by simp[z])) e⟩) (fun _ _ e=>e) (fun _ _ _ e=>e) (fun b ps e=>⟨#[],by rw[e];simp⟩) (fun m hm=>?_) (fun b u e=>?_) I.bare
 ·have e:b=it:=by simpa using hb
  subst e;exact⟨h1,hL,h2,h3⟩
 ·obtain⟨o,es,ep,ho,r⟩:=hm;exact⟨o,es,ep,k _ o (Ne.symm hL) ho,r⟩
 ·refine(I.hok b u e).stay (fun c v hc q=>k c v ?_ q) (fun _ q=>q) fun _ _ q=>q;rcases hc with z | z
  ·rw[z];exact nit b u e
  ·exact nit c _ z
theorem Inv.tok(I:Inv X pins σ H s)(t:Nat):Inv X pins σ H { s with toks:=t }:=I.un (h':=s.heap) (t':=t) Un.refl I.hok
theorem Inv.kept{t':Nat}(I:Inv X pins σ H s)(k:∀ b u,s.heap.get? b=some u->h'.get? b=some u):Inv X pins σ H { s with heap:=h',toks:=t' }:=I.un (Un.kept k) (I.hok.kept k)
theorem Inv.laid{a:Addr}{o:HO}{t':Nat}(I:Inv X pins σ H s)(k:∀ b u,s.heap.get? b=some u->h'.get? b=some u)(hp:s.heap.objs.size<=a)(new:bN X.prog X.w (upd H a o) h' a o) :
  Inv X pins σ (upd H a o) { s with heap:=h',toks:=t' }:=I.un (Un.laid k hp (I.hok.fresh hp)) (I.hok.laid k hp new)
theorem Inv.write{x e:Addr}{o:HO}{t':Nat}(I:Inv X pins σ H s)(mu:Mut (H x))(he:e=x∨H e=some (.own x))(k:∀ b u,b≠e->s.heap.get? b=some u->h'.get? b=some u)(heo:∃ u,h'.get? e=some u)
  (new:bN X.prog X.w (upd H x o) h' x o):Inv X pins σ (upd H x o) { s with heap:=h',toks:=t' }:=I.un (Un.write mu he k heo) (I.hok.write mu he k heo new)
theorem Inv.weak{σ':List (Option V)}(I:Inv X pins σ H s)(hl:σ'.length=σ.length)(w:∀ (i:Nat) v,σ'[i]?=some (some v)->σ[i]?=some (some v)):Inv X pins σ' H s :=
 ⟨I.ok,I.os,I.bare,I.base,let ⟨m,hn,hl'⟩:=I.loc;⟨m,hn,fun i x v e1 e2 e3=>hl' i x v e1 (w i v e2) e3⟩,I.cell,I.free,I.freeC,I.pin,I.hok,hl.trans I.len⟩
theorem Inv.pins_of{pins':List (Addr×Obj)}(I:Inv X pins σ H s)(h:∀ p∈pins',s.heap.get? p.1=some p.2/\H p.1=none/\p.1≠X.env.locals/\p.1∉X.fs/\∀ v,p.2.data≠.cell v):Inv X pins' σ H s :=
 ⟨I.ok,I.os,I.bare,I.base,I.loc,I.cell,I.free,I.freeC,fun p hp=>(N0.mp hp).elim (fun z=>I.pin p (OH _ z)) (h p),I.hok,I.len⟩
theorem wC{N:List Str}(hN:N.Nodup){i j:Nat}{x:Str}(a:N[i]?=some x)(b:N[j]?=some x):i=j:=by
 obtain⟨h1,e1⟩:=NP.mp a;obtain⟨h2,e2⟩:=NP.mp b;exact(List.getElem_inj hN).mp (e1.trans e2.symm)
theorem GC{M:Model}{A:Around}{E:Value->Shared->Prop}{i:Nat}{x:Str}{v:V}{u:Value}{Q:Unit->Shared->Prop}(I:Inv X pins σ H s)(hN:X.N.Nodup)(hi:X.N[i]?=some x)(hx:Loc X.env.scope x)(r:RelV v u)
  (h:∀ s',Inv X pins (σ.set i (some v)) H s'->(∃ a,Heap.SameBut a s.heap s'.heap/\(a=X.env.locals∨X.env.cells.lookup x=some a))->Q () s') (hf:X.fn x=true∨X.env.scope.names.lookup x=some .local:=by first | exact .inl rfl | exact .inr rfl | assumption):wpAny M A (storeName X.env x u) Q E s:=by
 obtain⟨m,hn,hl⟩:=id I.loc;have hcls:(X.env.scope.kind == .class||(X.env.scope.kind == .module&&X.env.locals != X.env.globals))=false:=by rw[I.ok.kind];rfl
 have hiσ:i<σ.length:=by rw[I.len];exact(NP.mp hi).1
 have cne:=I.cne;have tracked:∀{a:Addr}{h':Heap},(∃ o,s.heap.get? a=some o/\H a=none)->Heap.SameBut a s.heap h'->HOk X.prog X.w H h':=fun{a h'} ha hs b ob e=>by
  obtain⟨_,_,hfree⟩:=ha;refine(I.hok b ob e).stay (fun c w' hc q=>(hs.2 c ?_).trans q) (fun _ q=>q) fun _ _ q=>q;rintro rfl;rcases hc with rfl | hc
  ·rw[hfree]at e;cases e
  ·rw[hfree]at hc;cases hc
 rcases hx with hk | hk
 ·refine wpAny_storeName_local hk hn (fun h' hn' hs=>?_) hcls;obtain⟨oL,_,_,hoL,_⟩:=id hn;refine h _ ⟨I.ok,I.os,I.bare,⟨fun b o e n hb hx=>?_,fun b o e n hb hx=>?_,I.base.free,fun b o e hx=>?_,I.base.tups,I.base.frzs,I.base.tbls⟩,⟨_,hn',fun j y v' e1 e2 e3=>?_⟩,fun y c e=>?_,I.free,I.freeC,fun p hp=>?_,tracked ⟨oL,hoL,I.free⟩ hs,by simpa using I.len⟩ ⟨_,hs,.inl rfl⟩
  ·exact(hs.2 b (Ot (OO (Heap.lt_size e) I.ok.above))).trans (I.base.keep b o e n hb hx)
  ·obtain⟨sl,e1⟩:=I.base.slot b o e n hb hx;exact⟨sl,(hs.2 b (Ot (OO (Heap.lt_size e) I.ok.above))).trans e1⟩
  ·obtain⟨o',e1⟩:=I.base.there b o e hx;exact⟨o',(hs.2 b (Ot (OO (Heap.lt_size e) I.ok.above))).trans e1⟩
  ·by_cases hj:j=i
   ·subst hj;rw[hi]at e1;cases e1;rw[QA hiσ]at e2
    cases e2
    exact⟨u,r,.inl ⟨hk,by simp⟩⟩
   ·rw[QJ (Ne.symm hj)]at e2;obtain⟨u',r',q⟩:=hl j y v' e1 e2 e3;refine⟨u',r',?_⟩;rcases q with⟨k,e⟩ | ⟨k,c,e,z⟩
    ·refine .inl ⟨k,?_⟩;have:y≠x:=fun e=>hj (wC hN e1 (e▸hi));simp[this,e]
    ·exact .inr ⟨k,c,e,z.sameBut hs (cne y c e)⟩
  ·obtain⟨w',z⟩:=I.cell y c e;exact⟨w',z.sameBut hs (cne y c e)⟩
  ·obtain⟨e,n,ne,nf,d⟩:=I.pin p hp;exact⟨(hs.2 p.1 ne).trans e,n,ne,nf,d⟩
 ·have hfn:X.fn x=true:=by
   rcases hf with z | z
   ·exact z
   ·rw[z]at hk;cases hk
  obtain⟨c,hc⟩:=I.ok.has x (.inl hk);obtain⟨w',z⟩:=I.cell x c hc;refine wpAny_storeName_cell I.ok.kind hk hc z (fun h' hc' hs=>?_);obtain⟨oc,hoc,hocd⟩:=id z;refine h { s with heap:=h' } ⟨I.ok,I.os,I.bare,⟨fun b o e n hb hx=>?_,fun b o e n hb hx=>?_,I.base.free,fun b o e hx=>?_,I.base.tups,I.base.frzs,I.base.tbls⟩,⟨m,hn.sameBut hs (Ne.symm (cne x c hc)),fun j y v' e1 e2 e3=>?_⟩,fun y c' e=>?_,I.free,I.freeC,fun p hp=>?_,tracked ⟨oc,hoc,I.freeC x c hc⟩ hs,by simpa using I.len⟩ ⟨c,hs,.inr hc⟩
  ·exact(hs.2 b (Ot (OO (Heap.lt_size e) (I.ok.cab x c hfn hc)))).trans (I.base.keep b o e n hb hx)
  ·obtain⟨sl,e1⟩:=I.base.slot b o e n hb hx;exact⟨sl,(hs.2 b (Ot (OO (Heap.lt_size e) (I.ok.cab x c hfn hc)))).trans e1⟩
  ·obtain⟨o',e1⟩:=I.base.there b o e hx;exact⟨o',(hs.2 b (Ot (OO (Heap.lt_size e) (I.ok.cab x c hfn hc)))).trans e1⟩
  ·by_cases hj:j=i
   ·subst hj;rw[hi]at e1;cases e1;rw[QA hiσ]at e2
    cases e2
    exact⟨u,r,.inr ⟨.inl hk,c,hc,hc'⟩⟩
   ·rw[QJ (Ne.symm hj)]at e2;obtain⟨u',r',q⟩:=hl j y v' e1 e2 e3;refine⟨u',r',?_⟩;rcases q with q | ⟨k,c',e,z'⟩
    ·exact .inl q
    ·refine .inr ⟨k,c',e,z'.sameBut hs ?_⟩;rintro rfl;exact hj (wC hN e1 (I.ok.inj _ _ _ e hc▸hi))
  ·by_cases hcc:c'=c
   ·subst hcc;exact⟨_,hc'⟩
   ·obtain⟨w2,z2⟩:=I.cell y c' e;exact⟨w2,z2.sameBut hs hcc⟩
  ·obtain⟨e,n,ne,nf,d⟩:=I.pin p hp;refine⟨(hs.2 p.1 ?_).trans e,n,ne,nf,d⟩;intro q;rw[q,hoc]at e;have q':oc=p.2:=Ov e;exact d w' (by rw[← q'];exact hocd)
theorem mI{M:Model}{A:Around}{E:Value->Shared->Prop}{i:Nat}{x:Str}{v:V}{u:Value}{Q:Unit->Shared->Prop}(I:Inv X pins σ H s)(hN:X.N.Nodup)(hi:X.N[i]?=some x)(hx:Loc X.env.scope x)(r:RelV v u)
  (h:∀ s',Inv X pins (σ.set i (some v)) H s'->Q () s') (hf:X.fn x=true∨X.env.scope.names.lookup x=some .local:=by first | exact .inl rfl | exact .inr rfl | assumption):wpAny M A (storeName X.env x u) Q E s :=
 GC I hN hi hx r (fun s' I' _=>h s' I') hf
theorem Inv.call'{s':Shared}{ch:List Addr}(I:Inv X pins σ H s)(ho:s'.os=s.os)(u:Un (frs X.stack) ch H H' s.heap s'.heap)(hok:HOk X.prog X.w H' s'.heap)(hg:AllBare s'.gens)
  (hch:∀ b∈ch,(b∈X.ex∨X.s₀.heap.objs.size<=b)/\b≠X.env.locals/\(∀ x c,X.env.cells.lookup x=some c->c≠b)/\∀ p∈X.pn++pins,p.1≠b):Inv X pins σ H' s':=by
 obtain⟨h',g',d',t',o'⟩:=s';have e:o'=s.os:=ho;subst e;exact I.call (g':=g') (t':=t') (d':=d') u hok hg hch
end
abbrev XK:=Value->Option Addr->Hp->Prop
abbrev St:=List (Option V)
abbrev VK:=V->Hp->Prop
abbrev TE:=St->Hp->VK->Prop
abbrev TT:=St->Hp->(Bool->Hp->Prop)->Prop
abbrev TA:=St->Hp->(List V->Hp->Prop)->Prop
set_option genInjectivity false in
structure Ends where
 nx:St->Hp->Prop
 rt:VK
 bk:St->Hp->Prop:=fun _ _=>False
 ct:St->Hp->Prop:=fun _ _=>False
abbrev TS:=Ends->St->Hp->Prop
def EP(X:Cx)(pins:List (Addr×Obj))(σ:St)(Q:VK)(u:Value)(s':Shared):Prop:=∃ v H',Inv X pins σ H' s'/\RelV v u/\Q v H'
def TP(X:Cx)(pins:List (Addr×Obj))(σ:St)(Q:Bool->Hp->Prop)(b:Bool)(s':Shared):Prop:=∃ H',Inv X pins σ H' s'/\Q b H'
def AP(X:Cx)(pins:List (Addr×Obj))(σ:St)(Q:List V->Hp->Prop)(us:List Value)(s':Shared):Prop:=∃ vs H',Inv X pins σ H' s'/\Vals vs us/\Q vs H'
def SP(X:Cx)(pins:List (Addr×Obj))(D:Ends)(f:Flow)(s':Shared):Prop :=
 match f with
 |.next=>∃ σ' H',Inv X pins σ' H' s'/\D.nx σ' H'
 |.brk=>∃ σ' H',Inv X pins σ' H' s'/\D.bk σ' H'
 |.cont=>∃ σ' H',Inv X pins σ' H' s'/\D.ct σ' H'
 |.ret u=>∃ v σ' H',Inv X pins σ' H' s'/\RelV v u/\D.rt v H'
def PE(X:Cx)(e:Expr)(t:TE):Prop :=
 ∀(pins:List (Addr×Obj))(s:Shared)(σ:St)(H:Hp)(Q:VK),Inv X pins σ H s->t σ H Q->wpAny (model X.prog X.w) X.A (eval e X.env) (EP X pins σ Q) X.xe s
def PT(X:Cx)(e:Expr)(t:TT):Prop :=
 ∀(pins:List (Addr×Obj))(s:Shared)(σ:St)(H:Hp)(Q:Bool->Hp->Prop),Inv X pins σ H s->t σ H Q->wpAny (model X.prog X.w) X.A (isTrue e X.env (eval e X.env)) (TP X pins σ Q) X.xe s
def PW(X:Cx)(e:Expr)(t:TT):Prop :=
 ∀(whole:Sem Value)(pins:List (Addr×Obj))(s:Shared)(σ:St)(H:Hp)(Q:Bool->Hp->Prop),Inv X pins σ H s->t σ H Q->wpAny (model X.prog X.w) X.A (isTrue e X.env whole) (TP X pins σ Q) X.xe s
theorem PW.pt{X:Cx}{e:Expr}{t:TT}(h:PW X e t):PT X e t:=h _
def PA(X:Cx)(es:List Expr)(t:TA):Prop :=
 ∀(pos:Pos)(pins:List (Addr×Obj))(s:Shared)(σ:St)(H:Hp)(Q:List V->Hp->Prop),Inv X pins σ H s->t σ H Q->wpAny (model X.prog X.w) X.A (spliced (backTo pos (starEach es X.env))) (AP X pins σ Q) X.xe s
def PS(X:Cx)(st:Stmt)(t:TS):Prop :=
 ∀(pins:List (Addr×Obj))(s:Shared)(σ:St)(H:Hp)(D:Ends),Inv X pins σ H s->t D σ H->wpAny (model X.prog X.w) X.A (exec st X.env) (SP X pins D) X.xe s
def PSs(X:Cx)(st:List Stmt)(t:TS):Prop :=
 ∀(pins:List (Addr×Obj))(s:Shared)(σ:St)(H:Hp)(D:Ends),Inv X pins σ H s->t D σ H->wpAny (model X.prog X.w) X.A (execs st X.env) (SP X pins D) X.xe s
theorem thn{α:Type}{t:Sem α}{Q Q':α->Shared->Prop}{M:Model}{A:Around}{E:Value->Shared->Prop}{s:Shared}(h:wpAny M A t Q E s)(hQ:∀ a s,Q a s->Q' a s):wpAny M A t Q' E s:=wpAny_mono h hQ fun _ _ x=>x
section
variable{X:Cx}
def tVar(i:Nat):TE:=fun σ H Q=>∃ v,σ[i]?=some (some v)/\Q v H
def tC(v:V):TE:=fun _ H Q=>Q v H
theorem pe_var{i:Nat}{x:Str}{pos:Pos}(hN:X.N[i]?=some x)(hv:Vis X.env.scope x) (hd:(x == ("__debug__" : Str))=false:=by decide) (hcd:(x == ("__classdict__" : Str))=false:=by decide):PE X (.Name x pos) (tVar i):=by
 intro pins s σ H Q I h;obtain⟨v,e,h⟩:=h;obtain⟨m,hn,hl⟩:=I.loc;obtain⟨u,r,l⟩:=hl i x v hN e hv;have fin:EP X pins σ Q u s:=⟨v,H,I,r,h⟩;rcases l with⟨hk,hm⟩ | ⟨hk,c,hc,hcell⟩
 ·exact wpAny_Name (wpAny_loadName_local I.ok.kind hk hn hm fin) hd
 ·rcases hk with hk | hk
  ·exact wpAny_Name (wpAny_loadName_cell I.ok.kind hk hc hcell fin) hd
  ·exact wpAny_Name (wpAny_loadName_free I.ok.kind hk hc hcell fin hcd) hd
theorem aj{i j pos}:PE X (.Constant (.int i) j pos) (tC (.int i)):=fun _ _ _ H _ I h=>wpAny_Constant_int ⟨.int i,H,I.tok _,⟨_,rfl⟩,h⟩
theorem BL{b j pos}:PE X (.Constant (.bool b) j pos) (tC (.bl b)):=fun _ _ _ H _ I h=>Constant_bool ⟨.bl b,H,I,rfl,h⟩
theorem Hk{j pos}:PE X (.Constant .none j pos) (tC .non):=fun _ _ _ H _ I h=>Constant_none ⟨.non,H,I,rfl,h⟩
theorem pe_str{x j pos}:PE X (.Constant (.str x) j pos) (tC (.str x)):=fun _ _ _ H _ I h=>Calls.Constant_str ⟨.str x,H,I.tok _,⟨_,rfl⟩,h⟩
def Gl(X:Cx)(x:Str):Prop:=X.env.kindOf x=some .globalImplicit
theorem lH{E:Value->Shared->Prop}{pins:List (Addr×Obj)}{s:Shared}{σ:St}{H:Hp}{x:Str}{u:Value}{pos:Pos}{Q:Value->Shared->Prop}(I:Inv X pins σ H s)(hg:Gl X x)(hm:X.mg x=some u)(h:Q u s)
  (hd:(x == ("__debug__" : Str))=false:=by decide):wpAny (model X.prog X.w) X.A (eval (.Name x pos) X.env) Q E s :=
 Calls.Name_function_global I.ok.kind hg (Calls.loadGlobal_global (by rw[I.ok.glob];exact I.mod.glob.keeps I.bk) hm h) hd
theorem mV{E:Value->Shared->Prop}{pins:List (Addr×Obj)}{s:Shared}{σ:St}{H:Hp}{x:Str}{u:Value}{pos:Pos}{Q:Value->Shared->Prop}(I:Inv X pins σ H s)(hg:Gl X x)(hm:X.mg x=none)(hv:bootBuiltins x=some u)(h:Q u s)
  (hn:x≠"__name__":=by decide) (hd:(x == ("__debug__" : Str))=false:=by decide):wpAny (model X.prog X.w) X.A (eval (.Name x pos) X.env) Q E s:=by
 obtain⟨mb,h1,h2⟩:=I.mod.blt;exact Calls.Name_function_global I.ok.kind hg (Calls.loadGlobal_builtin (by rw[I.ok.glob];exact I.mod.glob.keeps I.bk) hm (by rw[I.ok.blt];exact h1.keeps I.bk) ((h2 x hn).trans hv) h) hd
theorem vY{x:Str}{v:V}{u:Value}{pos:Pos}(hg:Gl X x)(hm:X.mg x=some u)(r:RelV v u) (hd:(x == ("__debug__" : Str))=false:=by decide):PE X (.Name x pos) (tC v) :=
 fun _ _ _ H _ I h=>lH I hg hm ⟨v,H,I,r,h⟩ hd
theorem vZ{x:Str}{v:V}{u:Value}{pos:Pos}(hg:Gl X x)(hm:X.mg x=none)(hv:bootBuiltins x=some u)(r:RelV v u) (hn:x≠"__name__":=by decide) (hd:(x == ("__debug__" : Str))=false:=by decide):PE X (.Name x pos) (tC v) :=
 fun _ _ _ H _ I h=>mV I hg hm hv ⟨v,H,I,r,h⟩ hn hd
variable{a b:Expr}{ta tb:TE}{pos:Pos}
def PC(X:Cx)(op:CmpOp)(a b:Expr)(t:TE):Prop :=
 ∀(pins:List (Addr×Obj))(s:Shared)(σ:St)(H:Hp)(Q:VK),Inv X pins σ H s->t σ H Q ->
  wpAny (model X.prog X.w) X.A (eval a X.env) (fun v s₁=>wpAny (model X.prog X.w) X.A (eval b X.env) (fun u s₂=>wpAny (model X.prog X.w) X.A (compareOp op v u) (EP X pins σ Q) X.xe s₂) X.xe s₁) X.xe s
def tB(t:TE):TT:=fun σ H Q=>t σ H fun x H1=>∃ c,x=.bl c/\Q c H1
theorem G8{op:CmpOp}{t:TE}(h:PC X op a b t)(h1:behindInMarks op b=false:=by first | exact nobehind _ (by decide) (by decide) | rfl):PT X (.Compare a [op] [b] pos) (tB t):=by
 intro pins s σ H Q I hw;refine wpAny_isTrue_Compare1 (thn (h pins s σ H _ I hw) fun v s1 h1=>thn h1 fun u s2 h2=>thn h2 fun c s3 ⟨x,H1,I1,r1,q1⟩=>?_) h1;obtain⟨d,rfl,q⟩:=q1
 cases r1
 exact wpAny_truthy_bool ⟨H1,I1,q⟩
theorem mQ{e:Expr}{t:TE}(h:PE X e t)(he:∀ whole,isTrue e X.env whole=(do let v ← whole;standAt e.pos;holding [v] (truthy v)):=by intro _;rfl):PT X e (tB t):=by
 intro pins s σ H Q I hw;refine isTrue_plain (thn (h pins s σ H _ I hw) fun v s1 ⟨x,H1,I1,r1,q1⟩=>?_) (he _);obtain⟨d,rfl,q⟩:=q1
 cases r1
 exact wpAny_truthy_bool ⟨H1,I1,q⟩
variable{tA tB':TT}{rest:List Expr}
def tAnd(t u:TT):TT:=fun σ H Q=>t σ H fun c H1=>if c=true then u σ H1 Q else Q false H1
def tOr(t u:TT):TT:=fun σ H Q=>t σ H fun c H1=>if c=true then Q true H1 else u σ H1 Q
def tNot(t:TT):TT:=fun σ H Q=>t σ H fun c H1=>Q (!c) H1
theorem Bu(ha:PT X a tA):PW X (.BoolOp .And [a] pos) tA:=by
 intro wh pins s σ H Q I h;refine isTrue_and (thn (ha pins s σ H Q I h) fun c s1 e=>?_)
 cases c with
 |true=>exact isTrue_and_nil e
 |false=>exact e
theorem yC(ha:PT X a tA):PW X (.BoolOp .Or [a] pos) tA:=by
 intro wh pins s σ H Q I h;refine isTrue_or (thn (ha pins s σ H Q I h) fun c s1 e=>?_)
 cases c with
 |false=>exact isTrue_or_nil e
 |true=>exact e
theorem G5(ha:PT X a tA)(hb:PW X (.BoolOp .And (b::rest) pos) tB'):PW X (.BoolOp .And (a::b::rest) pos) (tAnd tA tB'):=by
 intro wh pins s σ H Q I h;refine isTrue_and (thn (ha pins s σ H _ I h) fun c s1 ⟨H1,I1,q1⟩=>?_)
 cases c with
 |true=>exact hb wh pins s1 σ H1 Q I1 q1
 |false=>exact⟨H1,I1,q1⟩
theorem G4(ha:PT X a tA)(hb:PW X (.BoolOp .Or (b::rest) pos) tB'):PW X (.BoolOp .Or (a::b::rest) pos) (tOr tA tB'):=by
 intro wh pins s σ H Q I h;refine isTrue_or (thn (ha pins s σ H _ I h) fun c s1 ⟨H1,I1,q1⟩=>?_)
 cases c with
 |true=>exact⟨H1,I1,q1⟩
 |false=>exact hb wh pins s1 σ H1 Q I1 q1
theorem uJ(ha:PT X a tA):PT X (.UnaryOp .Not a pos) (tNot tA):=by
 intro pins s σ H Q I h;exact isTrue_not (ha pins s σ H (fun c H1=>Q (!c) H1) I h)
def tAndV(ta tb:TE):TE:=fun σ H Q=>ta σ H fun x H1=>∃ c,x=.bl c/\if c=true then tb σ H1 Q else Q (.bl false) H1
def tNotV(ta:TE):TE:=fun σ H Q=>ta σ H fun x H1=>∃ c,x=.bl c/\Q (.bl (!c)) H1
theorem LG{op}{t:TE}(h:PE X a t):PE X (.BoolOp op [a] pos) t:=fun pins s σ H Q I hw=>BoolOp_one (h pins s σ H Q I hw)
theorem LK(ha:PE X a ta)(hb:PE X (.BoolOp .And (b::rest) pos) tb):PE X (.BoolOp .And (a::b::rest) pos) (tAndV ta tb):=by
 intro pins s σ H Q I h;refine BoolOp_and (thn (ha pins s σ H _ I h) fun v s1 ⟨x,H1,I1,r1,q1⟩=>?_);obtain⟨c,rfl,q1⟩:=q1
 cases r1
 refine wpAny_truthy_bool ?_
 cases c with
 |true=>exact hb pins s1 σ H1 Q I1 q1
 |false=>exact⟨.bl false,H1,I1,rfl,q1⟩
theorem Hj(ha:PE X a ta):PE X (.UnaryOp .Not a pos) (tNotV ta):=by
 intro pins s σ H Q I h;refine UnaryOp_ (thn (ha pins s σ H _ I h) fun v s1 ⟨x,H1,I1,r1,q1⟩=>?_);obtain⟨c,rfl,q1⟩:=q1
 cases r1
 exact not_of (wpAny_truthy_bool ⟨.bl (!c),H1,I1,rfl,q1⟩)
def tIf(t:TT)(ta tb:TE):TE:=fun σ H Q=>t σ H fun c H1=>if c=true then ta σ H1 Q else tb σ H1 Q
theorem vX{c:Expr}(hc:PT X c tA)(ha:PE X a ta)(hb:PE X b tb):PE X (.IfExp c a b pos) (tIf tA ta tb):=by
 intro pins s σ H Q I h;refine wpAny_IfExp (thn (hc pins s σ H _ I h) fun d s1 ⟨H1,I1,q1⟩=>?_)
 cases d with
 |true=>exact ha pins s1 σ H1 Q I1 q1
 |false=>exact hb pins s1 σ H1 Q I1 q1
end
def SqL(K:NS)(H:Hp)(a:Addr)(xs:List V):Prop :=
 Rd H a (.lst xs) ∨
  ∃(o:Obj)(its:Array Value)(n:Nat),K.lookup a=some o/\o.cls=.type "list"/\o.dict=none/\o.data=.seq its n/\its.size<=sizeLine/\Vals xs its.toList
def SqT(K:NS)(H:Hp)(a:Addr)(xs:List V):Prop :=
 Rd H a (.tup xs) ∨
  ∃(o:Obj)(its:Array Value)(n:Nat),K.lookup a=some o/\o.cls=.type "tuple"/\o.data=.seq its n/\its.size<=sizeLine/\Vals xs its.toList
def absV:Value->Option V
 |.none=>some .non
 |.bool b=>some (.bl b)
 |.int i _=>some (.int i)
 |.str x _=>some (.str x)
 |.bytes b _=>some (.byt b)
 |.float b _=>some (.flt b)
 |.ref a=>some (.ref a)
 |.type n=>some (.ty n)
 |_=>none
theorem RelV.abs{x:V}{u:Value}(r:RelV x u):absV u=some x:=by
 cases x with
 |non=>cases r;rfl
 |bl _=>cases r;rfl
 |int _=>obtain⟨t,rfl⟩:=r;rfl
 |str _=>obtain⟨t,rfl⟩:=r;rfl
 |byt _=>obtain⟨t,rfl⟩:=r;rfl
 |flt _=>obtain⟨t,rfl⟩:=r;rfl
 |ref _=>cases r;rfl
 |ty _=>cases r;rfl
theorem RelV.inj{x y:V}{u:Value}(r:RelV x u)(q:RelV y u):x=y:=Ov (r.abs.symm.trans q.abs)
theorem Vals.inj:∀{xs ys:List V}{us:List Value},Vals xs us->Vals ys us->xs=ys
 |_,_,_,.nil,.nil=>rfl
 |_,_,_,.cons r t,.cons r' t'=>by rw[r.inj r',Vals.inj t t']
section
variable{X:Cx}{pins:List (Addr×Obj)}{σ:St}{H:Hp}{s:Shared}{a:Addr}{xs ys:List V}
theorem SqL.of{K:NS}(h:H a=some (.lst xs)):SqL K H a xs:=.inl (.inl h)
theorem SqT.of{K:NS}(h:H a=some (.tup xs)):SqT K H a xs:=.inl (.inl h)
theorem Inv.list(I:Inv X pins σ H s)(h:SqL X.K H a xs):∃ its:List Value,Vals xs its/\PlainL s.heap a its.toArray/\xs.length<=sizeLine:=by
 rcases h with h | ⟨o,its,n,hk,hc,hd,hs,hz,r⟩
 ·obtain⟨z,its,n,r,e⟩:=h.ok I.hok;exact⟨its,r,⟨_,n,e,rfl,rfl,rfl⟩,z⟩
 ·refine⟨its.toList,r,⟨o,n,I.kIn a o hk,hc,hd,by simpa using hs⟩,?_⟩
  have e:=r.length;simp only[OI]at e;omega
theorem Inv.tuple(I:Inv X pins σ H s)(h:SqT X.K H a xs):∃ its:List Value,Vals xs its/\IsTup s.heap a its.toArray/\xs.length<=sizeLine:=by
 rcases h with h | ⟨o,its,n,hk,hc,hs,hz,r⟩
 ·obtain⟨z,its,r,p⟩:=h.ok I.hok;exact⟨its,r,p,z⟩
 ·refine⟨its.toList,r,⟨o,I.kIn a o hk,hc,n,by simpa using hs⟩,?_⟩
  have e:=r.length;simp only[OI]at e;omega
theorem Inv.list_inj(I:Inv X pins σ H s)(h:SqL X.K H a xs)(h':SqL X.K H a ys):xs=ys:=by
 obtain⟨its,r,⟨o,n,e,_,_,d⟩,_⟩:=I.list h;obtain⟨its',r',⟨o',n',e',_,_,d'⟩,_⟩:=I.list h';rw[e]at e';cases e';rw[d]at d';injection d' with d1 _;have:its=its':=by simpa using congrArg Array.toList d1
 subst this;exact r.inj r'
end
abbrev Cx.wish(X:Cx)(E:Value->Shared->Prop):Cx:={ X with xe:=E }
abbrev Cx.nox(X:Cx):Cx:=X.wish fun _ _=>False
theorem Cx.Ok.wish{X:Cx}(ok:X.Ok)(E:Value->Shared->Prop):(X.wish E).Ok :=
 ⟨ok.mod,ok.kind,ok.glob,ok.blt,ok.above,ok.inj,ok.has,ok.cab,ok.hd,ok.frames,ok.stk,ok.exf,ok.bs,ok.bsz,ok.noex,ok.exfs,ok.funs,ok.frf⟩
theorem Cx.Ok.unwish{X:Cx}{E:Value->Shared->Prop}(ok:(X.wish E).Ok):X.Ok :=
 ⟨ok.mod,ok.kind,ok.glob,ok.blt,ok.above,ok.inj,ok.has,ok.cab,ok.hd,ok.frames,ok.stk,ok.exf,ok.bs,ok.bsz,ok.noex,ok.exfs,ok.funs,ok.frf⟩
section
variable{X:Cx}{pins:List (Addr×Obj)}{σ:St}{H:Hp}{s:Shared}{E:Value->Shared->Prop}
theorem Inv.wish(I:Inv X pins σ H s)(E:Value->Shared->Prop):Inv (X.wish E) pins σ H s:=⟨I.ok.wish E,I.os,I.bare,I.base,I.loc,I.cell,I.free,I.freeC,I.pin,I.hok,I.len⟩
theorem Inv.unwish(I:Inv (X.wish E) pins σ H s):Inv X pins σ H s:=⟨I.ok.unwish,I.os,I.bare,I.base,I.loc,I.cell,I.free,I.freeC,I.pin,I.hok,I.len⟩
theorem SP.unwish{D:Ends}{f:Flow}{s':Shared}(h:SP (X.wish E) pins D f s'):SP X pins D f s':=by
 cases f with
 |next=>obtain⟨σ',H',I,q⟩:=h;exact⟨σ',H',I.unwish,q⟩
 |brk=>obtain⟨σ',H',I,q⟩:=h;exact⟨σ',H',I.unwish,q⟩
 |cont=>obtain⟨σ',H',I,q⟩:=h;exact⟨σ',H',I.unwish,q⟩
 |ret u=>obtain⟨v,σ',H',I,r,q⟩:=h;exact⟨v,σ',H',I.unwish,r,q⟩
theorem PSs.nox{st:List Stmt}{t:TS}(h:PSs X.nox st t):PSs X st t:=fun pins s σ H D I hw =>
 wpAny_mono (h pins s σ H D (I.wish _) hw) (fun _ _ q=>q.unwish) fun _ _ z=>False.elim z
end
section
variable{X:Cx}{st:Stmt}{rest:List Stmt}{t u:TS}{e:Expr}{te:TE}{pos:Pos}
def tNext:TS:=fun D σ H=>D.nx σ H
def tSeq(t u:TS):TS:=fun D σ H=>t { D with nx:=u D } σ H
theorem aR:PSs X [] tNext:=fun _ _ σ H _ I h=>wpAny_execs_nil ⟨σ,H,I,h⟩
theorem af(h1:PS X st t)(h2:PSs X rest u):PSs X (st::rest) (tSeq t u):=by
 intro pins s σ H D I h;refine wpAny_execs_cons (thn (h1 pins s σ H { D with nx:=u D } I h) fun f s1 q=>?_)
 cases f with
 |next =>
  obtain⟨σ',H',I',q⟩:=q;exact h2 pins s1 σ' H' D I' q
 |ret v=>exact q
 |brk=>exact q
 |cont=>exact q
theorem ao(h1:PS X st t):PSs X [st] t:=by
 intro pins s σ H D I h;refine wpAny_execs_cons (thn (h1 pins s σ H D I h) fun f s1 q=>?_)
 cases f with
 |next=>exact wpAny_execs_nil q
 |ret v=>exact q
 |brk=>exact q
 |cont=>exact q
theorem Inv.quiet{pins:List (Addr×Obj)}{σ:St}{H:Hp}{s:Shared}(I:Inv X pins σ H s):interactive X.env=false:=by simp[interactive,I.ok.kind]
def tDrop(te:TE):TS:=fun D σ H=>te σ H fun _ H1=>D.nx σ H1
theorem bp(he:PE X e te)(hs:swapsWith e none pos.line X.env=pure false:=by rfl):PS X (.Expr e pos) (tDrop te):=by
 intro pins s σ H D I h;exact wpAny_Expr_any (thn (he pins s σ H _ I h) fun v s1 ⟨x,H1,I1,r1,q1⟩=>⟨σ,H1,I1,q1⟩) I.quiet hs
def tRet(te:TE):TS:=fun D σ H=>te σ H D.rt
theorem aG(he:PE X e te):PS X (.Return (some e) pos) (tRet te):=by
 intro pins s σ H D I h;exact wpAny_Return_some (thn (he pins s σ H _ I h) fun v s1 ⟨x,H1,I1,r1,q1⟩=>⟨x,σ,H1,I1,r1,q1⟩)
def tRetN:TS:=fun D _ H=>D.rt .non H
theorem ME:PS X (.Return none pos) tRetN:=fun _ _ σ H _ I h=>wpAny_Return_none ⟨.non,σ,H,I,rfl,h⟩
def tIfS(c:TT)(t u:TS):TS:=fun D σ H=>c σ H fun b H1=>if b=true then t D σ H1 else u D σ H1
theorem b9{c:Expr}{a b:List Stmt}{tc:TT}(hc:PT X c tc)(ha:PSs X a t)(hb:PSs X b u):PS X (.If c a b pos) (tIfS tc t u):=by
 intro pins s σ H D I h;refine wpAny_If (thn (hc pins s σ H _ I h) fun d s1 ⟨H1,I1,q1⟩=>?_)
 cases d with
 |true=>exact ha pins s1 σ H1 D I1 q1
 |false=>exact hb pins s1 σ H1 D I1 q1
def tNever:TS:=fun _ _ _=>False
theorem iD:PS X st tNever:=fun _ _ _ _ _ _ h=>h.elim
end
abbrev TG:=V->St->Hp->(St->Hp->Prop)->Prop
abbrev TGs:=List V->St->Hp->(St->Hp->Prop)->Prop
def PG(X:Cx)(target:Expr)(t:TG):Prop :=
 ∀(pins:List (Addr×Obj))(s:Shared)(σ:St)(H:Hp)(v:V)(u:Value)(Q:St->Hp->Prop),Inv X pins σ H s->RelV v u->t v σ H Q ->
  wpAny (model X.prog X.w) X.A (assign target X.env u) (fun _ s'=>∃ σ' H',Inv X pins σ' H' s'/\Q σ' H') X.xe s
def PGs(X:Cx)(ts:List Expr)(t:TGs):Prop :=
 ∀(pins:List (Addr×Obj))(s:Shared)(σ:St)(H:Hp)(vs:List V)(us:List Value)(Q:St->Hp->Prop),Inv X pins σ H s->Vals vs us->t vs σ H Q ->
  wpAny (model X.prog X.w) X.A (assignInOrder ((assignEach ts X.env).map (·.2)) us) (fun _ s'=>∃ σ' H',Inv X pins σ' H' s'/\Q σ' H') X.xe s
abbrev TSet:=V->V->V->Hp->(Hp->Prop)->Prop
def PSet(X:Cx)(t:TSet):Prop :=
 ∀(pins:List (Addr×Obj))(s:Shared)(σ:St)(H:Hp)(o i v:V)(ov iv u:Value)(Q:Hp->Prop),Inv X pins σ H s->RelV o ov->RelV i iv->RelV v u->t o i v H Q ->
  wpAny (model X.prog X.w) X.A (setItem ov iv u) (fun _ s'=>∃ H',Inv X pins σ H' s'/\Q H') X.xe s
section
variable{X:Cx}{pos:Pos}
def gName(i:Nat):TG:=fun v σ H Q=>Q (σ.set i (some v)) H
theorem aX{i:Nat}{x:Str}(hN:X.N.Nodup)(hi:X.N[i]?=some x)(hx:Loc X.env.scope x)(hf:X.fn x=true∨X.env.scope.names.lookup x=some .local:=by first | exact .inl rfl | exact .inr rfl | assumption):PG X (.Name x pos) (gName i):=by
 intro pins s σ H v u Q I r h;exact wpAny_assign_Name (mI I hN hi hx r (fun s' I'=>⟨_,H,I',h⟩) hf)
def gNil:TGs:=fun vs σ H Q=>vs = []/\Q σ H
def gCons(t:TG)(u:TGs):TGs:=fun vs σ H Q=>∃ v r,vs=v::r/\t v σ H fun σ' H'=>u r σ' H' Q
theorem BG:PGs X [] gNil:=by
 intro pins s σ H vs us Q I r h;obtain⟨e,h⟩:=h;subst e
 cases r
 exact assignInOrder_nil ⟨σ,H,I,h⟩
theorem kd{e:Expr}{es:List Expr}{t:TG}{u:TGs}(h1:PG X e t)(h2:PGs X es u)
  (hs:(assignEach (e::es) X.env).map (·.2)=assign e X.env::(assignEach es X.env).map (·.2):=by rfl):PGs X (e::es) (gCons t u):=by
 intro pins s σ H vs us Q I r h;obtain⟨v,vr,e1,h⟩:=h;subst e1
 cases r with
 |cons r rr =>
  rw[hs];refine assignInOrder_cons (thn (h1 pins s σ H _ _ _ I r h) fun _ s1 ⟨σ1,H1,I1,q1⟩=>?_);exact h2 pins s1 σ1 H1 _ _ Q I1 rr q1
def gTup(K:NS)(n:Nat)(t:TGs):TG:=fun v σ H Q=>∃ a xs,v=.ref a/\SqT K H a xs/\xs.length=n/\t xs σ H Q
theorem Hg{es:List Expr}{k:Nat}{t:TGs}{n:Nat}(hc:X.calm=true)(h:PGs X es t)
  (hn:(assignEach es X.env).length=n:=by rfl) (hst:(assignEach es X.env).findIdx? (·.1)=none:=by rfl):PG X (.Tuple es k pos) (gTup X.K n t):=by
 intro pins s σ H v u Q I r hw;obtain⟨a,xs,e1,hq,hl,hw⟩:=hw;subst e1
 cases r
 obtain⟨its,rv,ht,hz⟩:=I.tuple hq;refine assign_Tuple_tuple (I.ok.hd hc) ht (by simp[hn,← hl,rv.length]) hst fun h' hx=>?_
 have I1:Inv X pins σ H { s with heap:=h' }:=I.kept (t':=s.toks) fun b o e=>hx b o (Ot (Heap.lt_size e)) e;exact h pins _ σ H xs _ Q I1 (by simpa using rv) hw
def gSub(to ti:TE)(t:TSet):TG:=fun v σ H Q=>to σ H fun o H1=>ti σ H1 fun i H2=>t o i v H2 fun H3=>Q σ H3
theorem yP{o i:Expr}{to ti:TE}{t:TSet}(ho:PE X o to)(hi:PE X i ti)(hs:PSet X t)
  (ha:∀ v,assign (.Subscript o i pos) X.env v=(do
   let ov ← holding [v] (eval o X.env)
   let iv ← holding [v,ov] (eval i X.env)
   standAt pos
   holding [v,ov,iv] (setItem ov iv v)
   release [v,ov,iv] []):=by intro _;rfl):PG X (.Subscript o i pos) (gSub to ti t):=by
 intro pins s σ H v u Q I r h;rw[ha];refine wpAny_bind (wpAny_holding (thn (ho pins s σ H _ I h) fun ov s1 ⟨x,H1,I1,r1,q1⟩=>?_));refine wpAny_bind (wpAny_holding (thn (hi pins s1 σ H1 _ I1 q1) fun iv s2 ⟨y,H2,I2,r2,q2⟩=>?_));refine wpAny_bind (wpAny_standAt (wpAny_bind (wpAny_holding (thn (hs pins s2 σ H2 x y v ov iv u _ I2 r1 r2 r q2) fun _ s3 ⟨H3,I3,q3⟩=>?_))));exact wpAny_release ⟨σ,H3,I3,q3⟩
def tAsg(te:TE)(g:TG):TS:=fun D σ H=>te σ H fun x H1=>g x σ H1 D.nx
theorem yD{tg e:Expr}{te:TE}{g:TG}(he:PE X e te)(hg:PG X tg g)(hs:swapsWithSole [tg] e pos.line X.env=pure false:=by rfl)(hw:swappedStores [tg] e X.env=pure none:=by rfl)
  (h1:(assignEach [tg] X.env).map (·.2) = [assign tg X.env]:=by rfl):PS X (.Assign [tg] e pos) (tAsg te g):=by
 intro pins s σ H D I h;refine wpAny_Assign_stores (thn (he pins s σ H _ I h) fun v s1 ⟨x,H1,I1,r1,q1⟩=>?_) hs hw;rw[h1];exact thn (hg pins s1 σ H1 x v _ I1 r1 q1) fun _ s2 q=>q
theorem av{i:Nat}{x:Str}{e:Expr}{te:TE}{pos':Pos}(hN:X.N.Nodup)(hi:X.N[i]?=some x)(hx:Loc X.env.scope x)(he:PE X e te)(hs:swapsWith e (some (.Name x pos')) pos.line X.env=pure false:=by rfl)(hf:X.fn x=true∨X.env.scope.names.lookup x=some .local:=by first | exact .inl rfl | exact .inr rfl | assumption) :
  PS X (.Assign [.Name x pos'] e pos) (tAsg te (gName i)):=by
 intro pins s σ H D I h;refine wpAny_Assign_Name (thn (he pins s σ H _ I h) fun v s1 ⟨y,H1,I1,r1,q1⟩=>?_) hs;exact mI I1 hN hi hx r1 (fun s2 I2=>⟨_,H1,I2,q1⟩) hf
def Lx(c:TT)(tb:TS):TS:=fun D σ H=>∃ W:Nat->St->Hp->Prop,(∃ m,W m σ H)/\∀ m σ H,W m σ H ->
 c σ H fun b H1=>if b=true then ∃ N:St->Hp->Prop,(∀ σ' H',N σ' H'->∃ m',m'<m/\W m' σ' H')/\tb { D with nx:=N,ct:=N,bk:=D.nx } σ H1 else D.nx σ H1
theorem mR{c:Expr}{body:List Stmt}{tc:TT}{tb:TS}(hp:PassesOwn (model X.prog X.w) X.A X.env X.xe)(hc:PT X c tc)(hb:PSs X body tb):PS X (.While c body [] pos) (Lx tc tb):=by
 intro pins s σ H D I h;obtain⟨W,⟨m0,w0⟩,turn⟩:=h;refine wpAny_While (codeAny_whileLoop (fun n s'=>∃ σ' H',Inv X pins σ' H' s'/\W n σ' H') ?_ m0 ⟨σ,H,I,w0⟩);rintro n s1 ⟨σ1,H1,I1,w1⟩;refine wpAny_passesOwn hp (thn (hc pins s1 σ1 H1 _ I1 (turn n σ1 H1 w1)) fun b s2 ⟨H2,I2,q2⟩=>?_)
 cases b with
 |true =>
  obtain⟨N,hN,q2⟩:=q2;rw[if_pos rfl];refine wpAny_passesOwn hp (thn (hb pins s2 σ1 H2 _ I2 q2) fun f s3 q3=>?_)
  cases f with
  |next =>
   obtain⟨σ3,H3,I3,n3⟩:=q3;obtain⟨m',hm,w3⟩:=hN σ3 H3 n3;exact⟨m',hm,σ3,H3,I3,w3⟩
  |cont =>
   obtain⟨σ3,H3,I3,n3⟩:=q3;obtain⟨m',hm,w3⟩:=hN σ3 H3 n3;exact⟨m',hm,σ3,H3,I3,w3⟩
  |brk=>exact q3
  |ret v=>exact q3
 |false =>
  rw[if_neg Ox];exact wpAny_execs_nil ⟨σ1,H2,I2,q2⟩
end
set_option genInjectivity false in
structure It where
 go:Nat->Hp->Prop
 yld:Nat->Hp->V->Hp->Prop
 stop:Nat->Hp->Prop
def FpOk(X:Cx)(pins:List (Addr×Obj))(H:Hp)(b:Addr):Prop :=
 H b=none/\b≠X.env.locals/\b∉X.fs/\(b∈X.ex∨X.s₀.heap.objs.size<=b)/\(∀ x c,X.env.cells.lookup x=some c->c≠b)/\∀ p∈X.pn++pins,p.1≠b
theorem Inv.fpOk{X:Cx}{pins:List (Addr×Obj)}{σ:St}{H H':Hp}{s:Shared}{b:Addr}(I:Inv X pins σ H s)(hb:s.heap.objs.size<=b)(hn:H' b=none):FpOk X pins H' b:=by
 refine⟨hn,PR (OO I.lt hb),I.nofs hb,.inr (O6 I.sz hb),fun x c e z=>?_,fun p hp z=>?_⟩
 ·obtain⟨v,q⟩:=I.cell x c e;exact absurd (OO q.lt (by rw[z];exact hb)) (Pg _)
 ·exact absurd (OO (Heap.lt_size (I.pin p hp).1) (by rw[z];exact hb)) (Pg _)
structure Turn(P:Program)(w:World)(K:NS)(tg:Expr)(J:It)(fp:List Addr)(it:Addr)(tn:Nat->Heap->Prop):Prop where
 mem:it∈fp
 obj:∀ i h,tn i h->∀ b∈fp,∃ o,h.get? b=some o/\∀ v,o.data≠.cell v
 keep:∀ i h h',tn i h->(∀ b∈fp,∀ o,h.get? b=some o->h'.get? b=some o)->tn i h'
 item:∀(X:Cx),X.prog=P->X.w=w->X.K=K->X.calm=true->∀(i:Nat)(pins:List (Addr×Obj))(s:Shared)(σ:St)(H:Hp)(E:Value->Shared->Prop),Inv X pins σ H s->(∀ b∈fp,FpOk X pins H b)->tn i s.heap->J.go i H ->
  wpAny (model P w) X.A (pyNext (.ref it)) (fun r s1=>∃ u,r=some u /\
   wpAny (model P w) X.A (letOwnedTupleGo tg (.ref it) u) (fun _ s2=>∃ x H',Inv X pins σ H' s2/\RelV x u/\J.yld i H x H'/\tn (i+1) s2.heap/\∀ b∈fp,H' b=none) E s1) E s
 done:∀(X:Cx),X.prog=P->X.w=w->X.K=K->X.calm=true->∀(i:Nat)(pins:List (Addr×Obj))(s:Shared)(σ:St)(H:Hp)(E:Value->Shared->Prop),Inv X pins σ H s->(∀ b∈fp,FpOk X pins H b)->tn i s.heap->J.stop i H ->
  wpAny (model P w) X.A (pyNext (.ref it)) (fun r s1=>r=none/\Inv X pins σ H s1) E s
 self:∀(A:Around)(i:Nat)(s:Shared)(Q:Value->Shared->Prop)(E:Value->Shared->Prop),tn i s.heap->Q (.ref it) s->wpAny (model P w) A (pyIter (.ref it)) Q E s
abbrev TI:=St->Hp->(It->Hp->Prop)->Prop
def PIE(X:Cx)(pins:List (Addr×Obj))(σ:St)(tg:Expr)(R:It->Hp->Prop)(itv:Value)(s2:Shared):Prop :=
 ∃(it:Addr)(fp:List Addr)(tn:Nat->Heap->Prop)(J:It)(H':Hp),itv=.ref it/\Inv X pins σ H' s2/\Turn X.prog X.w X.K tg J fp it tn/\tn 0 s2.heap/\(∀ b∈fp,FpOk X pins H' b)/\R J H'
def PI(X:Cx)(tg iter:Expr)(wi:TI):Prop :=
 ∀(pins:List (Addr×Obj))(s:Shared)(σ:St)(H:Hp)(R:It->Hp->Prop),Inv X pins σ H s->wi σ H R ->
  wpAny (model X.prog X.w) X.A (eval iter X.env) (fun v s1=>wpAny (model X.prog X.w) X.A (pyIter v) (PIE X pins σ tg R) X.xe s1) X.xe s
theorem go_of{M:Model}{A:Around}{E:Value->Shared->Prop}{s:Shared}{tg:Expr}{it:Addr}{u:Value}{o:Obj}{n:String}{vs:Array Value}{Q:Unit->Shared->Prop}(ho:s.heap.get? it=some o)(hc:o.cls=.type n)(hd:o.data=.fields vs)
  (hn : ["enumerate","zip","dict_itemiterator","dict_reverseitemiterator","odict_iterator","itertools.zip_longest","itertools.pairwise"].contains n=false) (hQ:Q () s):wpAny M A (letOwnedTupleGo tg (.ref it) u) Q E s:=by
 unfold letOwnedTupleGo
 cases tg<;>first
  |exact wpAny_pure hQ
  | (cases u<;>first
    |exact wpAny_pure hQ
    | (refine wpAny_bind (wpAny_load ho ?_)
       rw[hc,hd]
       show wpAny M A (if(["enumerate","zip","dict_itemiterator","dict_reverseitemiterator","odict_iterator","itertools.zip_longest","itertools.pairwise"].contains n&&vs[0]? == some (rawInt _))=true then _ else _) Q E s
       rw[if_neg (by intro h;rw[hn,Rw]at h;cases h)]
       exact wpAny_pure hQ))
def Itl(K:NS)(a:Addr):It :=
 ⟨fun i H=>∃ xs x,SqL K H a xs/\xs[i]?=some x,fun i H x H'=>H'=H/\∀ xs,SqL K H a xs->xs[i]?=some x,fun i H=>∃ xs,SqL K H a xs/\xs.length<=i⟩
def Itr(lo:Int)(n:Nat):It:=⟨fun i _=>i<n,fun i H x H'=>H'=H/\x=.int (lo+i),fun i _=>n<=i⟩
theorem Gx{P:Program}{w:World}{K:NS}{tg:Expr}(a it:Addr):Turn P w K tg (Itl K a) [it] it (fun i h=>h.IsListIter it a i) where
 mem:=by simp
 obj:=fun i h st b hb=>by
  have e:b=it:=by simpa using hb
  subst e;obtain⟨o,e,c,d⟩:=st;exact⟨o,e,fun v z=>by rw[d]at z;cases z⟩
 keep:=fun i h h' st k=>st.at fun o e=>k it (by simp) o e
 item:=by
  intro X hP hw hK hc i pins s σ H E I hf st hg;subst hP hw hK;obtain⟨xs,x,hq,hx⟩:=hg;obtain⟨its,rv,p,hz⟩:=I.list hq;obtain⟨u,hu,ru⟩:=rv.get hx;obtain⟨f0,f1,f2,f3,f4,f5⟩:=hf it (by simp)
  refine wpAny_pyNext_list_item st p.isList (x:=u) (by simpa using hu) fun h' st' sb=>?_
  have I1:Inv X pins σ H { s with heap:=h' }:=I.turned (t':=s.toks) (fun b o hb e=>(sb.2 b hb).trans e) f0 f1 f3 f4 f5;obtain⟨o,e,c,d⟩:=id st';exact⟨u,rfl,go_of (s:={ s with heap:=h' }) e c d (by decide) ⟨x,H,I1,ru,⟨rfl,fun ys hy=>by rw[I.list_inj hy hq];exact hx⟩,st',fun b hb=>(hf b hb).1⟩⟩
 done:=by
  intro X hP hw hK hc i pins s σ H E I hf st hg;subst hP hw hK;obtain⟨xs,hq,hx⟩:=hg;obtain⟨its,rv,p,hz⟩:=I.list hq;obtain⟨f0,f1,f2,f3,f4,f5⟩:=hf it (by simp)
  have hl:=rv.length;exact wpAny_pyNext_list_end (I.ok.hd hc) st p.isList (by simp;omega) fun h' eb=>⟨rfl,I.turned (t':=s.toks) (fun b o hb e=>eb b o hb e) f0 f1 f3 f4 f5⟩
 self:=fun _ _ _ _ _ st h=>wpAny_pyIter_listiter st h
theorem EI{P:Program}{w:World}{K:NS}{tg:Expr}(it:Addr)(lo:Int)(n:Nat):Turn P w K tg (Itr lo n) [it] it (fun i h=>IsRangeIter h it (lo+(i:Nat)*1) ((n:Int)-(i:Nat)) 1) where
 mem:=by simp
 obj:=fun i h st b hb=>by
  have e:b=it:=by simpa using hb
  subst e
  exact⟨_,st,fun v z=>by
   have z':Data.fields _=Data.cell v:=z
   cases z'⟩
 keep:=fun i h h' st k=>k it (by simp) _ st
 item:=by
  intro X hP hw hK hc i pins s σ H E I hf st hg;subst hP hw hK;obtain⟨f0,f1,f2,f3,f4,f5⟩:=hf it (by simp)
  have W:=Walks.range (prog:=X.prog) (w:=X.w) (I.ok.hd hc) it lo 1 n;refine W.item i s _ _ hg st fun v h' tk hv st' kk=>?_;obtain⟨t,rfl⟩:=hv;have I1:Inv X pins σ H { s with heap:=h',toks:=tk }:=I.turned (fun b o hb e=>kk b o (by simpa using hb) e) f0 f1 f3 f4 f5
  refine⟨_,rfl,go_of (s:={ s with heap:=h',toks:=tk }) (n:="range_iterator") st' rfl rfl (by decide) ⟨.int (lo+i),H,I1,⟨t,?_⟩,⟨rfl,rfl⟩,st',fun b hb=>(hf b hb).1⟩⟩
  rw[Int.mul_one]
 done:=by
  intro X hP hw hK hc i pins s σ H E I hf st hg;subst hP hw hK;obtain⟨f0,f1,f2,f3,f4,f5⟩:=hf it (by simp)
  exact wpAny_pyNext_range_end (I.ok.hd hc) st (by have:n<=i:=hg;omega) fun h' eb=>⟨rfl,I.turned (t':=s.toks) (fun b o hb e=>eb b o hb e) f0 f1 f3 f4 f5⟩
 self:=fun _ _ _ _ _ st h=>wpAny_pyIter_rangeiter st h
section
variable{X:Cx}{tg:Expr}
def iList(K:NS)(tl:TE):TI:=fun σ H R=>tl σ H fun x H1=>∃ a,x=.ref a/\(∃ xs,SqL K H1 a xs)/\R (Itl K a) H1
theorem br{l:Expr}{tl:TE}(hl:PE X l tl):PI X tg l (iList X.K tl):=by
 intro pins s σ H R I h;refine thn (hl pins s σ H _ I h) fun v s1 ⟨x,H1,I1,r1,q1⟩=>?_;obtain⟨a,e,⟨xs,hq⟩,q⟩:=q1;subst e
 cases r1
 obtain⟨its,rv,p,hz⟩:=I1.list hq;refine wpAny_pyIter_list p.isList ?_;refine⟨s1.heap.objs.size,[s1.heap.objs.size],_,_,H1,rfl,I1.kept (t':=s1.toks) fun b o e=>Heap.get?_push_of_some _ e,Gx a _,⟨_,Heap.get?_push_size _ rfl,rfl,rfl⟩,fun b hb=>?_,q⟩;have e:b=s1.heap.objs.size:=by simpa using hb
 subst e;exact I1.fpOk (NY _) (I1.hok.fresh (NY _))
theorem JF{pins:List (Addr×Obj)}{σ:St}{H:Hp}{s:Shared}{R:It->Hp->Prop}{E:Value->Shared->Prop}{lo hi:Int}{t u v:Tok}{tk:Nat}(I:Inv X pins σ H s)(h1 : -(2^62)<=lo)(h2:lo<2^62)(h3 : -(2^62)<=hi)(h4:hi<2^62)
  (q:R (Itr lo (hi-lo).toNat) H):wpAny (model X.prog X.w) X.A (pyIter (.ref s.heap.objs.size)) (PIE X pins σ tg R) E { s with heap:=s.heap.push { cls:=.type "range",data:=.fields #[.int lo t,.int hi u,.int 1 v] },toks:=tk }:=by
 refine wpAny_pyIter_range (IsRange.new ..) (small_one h1 h2 h3 h4) ?_;have I1:Inv X pins σ H { s with heap:=s.heap.push { cls:=.type "range",data:=.fields #[.int lo t,.int hi u,.int 1 v] },toks:=tk }:=I.kept fun b o e=>Heap.get?_push_of_some _ e
 refine⟨(s.heap.push { cls:=.type "range",data:=.fields #[.int lo t,.int hi u,.int 1 v] }).objs.size,[(s.heap.push { cls:=.type "range",data:=.fields #[.int lo t,.int hi u,.int 1 v] }).objs.size],_,_,H,rfl,
  I1.kept (t':=tk) fun b o e=>Heap.get?_push_of_some _ e,EI _ lo (hi-lo).toNat,?_,fun b hb=>?_,q⟩
 ·have e1:lo+((0:Nat):Int)*1=lo:=by simp
  have e2:(((hi-lo).toNat:Nat):Int)-((0:Nat):Int)=Builtin.Range.rangeSize lo hi 1:=by rw[rangeSize_one];split<;>omega
  show IsRangeIter _ _ (lo+((0:Nat):Int)*1) ((((hi-lo).toNat:Nat):Int)-((0:Nat):Int)) 1;rw[e1,e2];exact Heap.get?_push_size _ rfl
 ·have e:b=(s.heap.push { cls:=.type "range",data:=.fields #[.int lo t,.int hi u,.int 1 v] }).objs.size:=by simpa using hb
  subst e;exact I1.fpOk (NY _) (I1.hok.fresh (NY _))
def iRng1(ta:TA):TI:=fun σ H R=>ta σ H fun vs H1=>∃ j:Int,vs = [.int j]/\-(2^62)<=j/\j<2^62/\R (Itr 0 j.toNat) H1
theorem aW{a:Expr}{ta:TA}{p pos:Pos} (hg:Gl X "range") (hm:X.mg "range" = none) (ha:PA X [a] ta) (hs:starEach [a] X.env = [(false,eval a X.env)]:=by rfl):PI X tg (.Call (.Name "range" p) [a] [] pos) (iRng1 ta):=by
 intro pins s σ H R I h;refine Call_ (mV I hg hm boot_range (PyProof.Rows.callWith_type1 (thn (ha pos pins s σ H _ I h) fun us s1 ⟨vs,H1,I1,r1,q1⟩=>?_) hs rfl));obtain⟨j,e,q1,q2,q⟩:=q1;subst e
 cases r1 with
 |cons r rr =>
  cases rr
  obtain⟨t,rfl⟩:=r;exact call_range_1 (JF I1 (by omega) (by omega) q1 q2 (by simpa using q))
def tFor(wi:TI)(g:TG)(tb:TS):TS:=fun D σ H=>wi σ H fun J H1=>∃ W:Nat->Nat->St->Hp->Prop,(∃ m,W 0 m σ H1)/\∀ i m σ H,W i m σ H ->
 (J.stop i H/\D.nx σ H)∨(J.go i H/\∃ N:St->Hp->Prop,(∀ σ' H',N σ' H'->∃ m',m'<m/\W (i+1) m' σ' H')/\∀ x H',J.yld i H x H'->g x σ H' fun σ2 H2=>tb { D with nx:=N,ct:=N,bk:=D.nx } σ2 H2)
def yN(fp:List Addr)(h:Heap):List (Addr×Obj):=fp.filterMap fun b=>(h.get? b).map fun o=>(b,o)
theorem iu{fp:List Addr}{h:Heap}{b:Addr}{o:Obj}(hb:b∈fp)(e:h.get? b=some o):(b,o)∈yN fp h:=RD.mpr ⟨b,hb,by rw[e];rfl⟩
theorem Hx{fp:List Addr}{h:Heap}{p:Addr×Obj}(hp:p∈yN fp h):p.1∈fp/\h.get? p.1=some p.2:=by
 obtain⟨b,hb,e⟩:=RD.mp hp
 cases q:h.get? b with
 |none=>rw[q]at e;cases e
 |some o =>
  rw[q]at e;have e':(b,o)=p:=Ov e;subst e';exact⟨hb,q⟩
theorem Inv.pinned{pins:List (Addr×Obj)}{σ:St}{H:Hp}{s:Shared}{fp:List Addr}(I:Inv X pins σ H s)(hf:∀ b∈fp,FpOk X pins H b)(ho:∀ b∈fp,∃ o,s.heap.get? b=some o/\∀ v,o.data≠.cell v):Inv X (pins++yN fp s.heap) σ H s :=
 I.pins_of fun p hp=>(N0.mp hp).elim (fun z=>I.pin p (Oi _ z)) fun z=>by
  obtain⟨hb,e⟩:=Hx z;obtain⟨f0,f1,f2,_⟩:=hf p.1 hb;obtain⟨o,e',d⟩:=ho p.1 hb;rw[e]at e';cases e';exact⟨e,f0,f1,f2,d⟩
theorem Inv.unpinned{pins pl:List (Addr×Obj)}{σ:St}{H:Hp}{s:Shared}(I:Inv X (pins++pl) σ H s):Inv X pins σ H s:=I.pins_of fun p hp=>I.pin p (Oi _ (OH _ hp))
theorem cA{iter:Expr}{body:List Stmt}{wi:TI}{g:TG}{tb:TS}{pos:Pos}(hp:PassesOwn (model X.prog X.w) X.A X.env X.xe)(hc:X.calm=true)(hi:PI X tg iter wi)(hg:PG X tg g)(hb:PSs X body tb)
  (hs:∀ x,foldedSetIterable iter X.env x=pure x:=by intro _;rfl):PS X (.For tg iter body [] pos) (tFor wi g tb):=by
 intro pins s σ H D I h;refine wpAny_For (thn (hi pins s σ H _ I h) fun v s1 h1=>thn h1 fun itv s2 h2=>?_) hs;obtain⟨it,fp,tn,J,H2,e,I2,T,st2,f2,W,⟨m0,w0⟩,turn⟩:=h2;subst e;have stat:∀{H':Hp},(∀ b∈fp,H' b=none)->∀ b∈fp,FpOk X pins H' b:=fun hn b hb=>⟨hn b hb,(f2 b hb).2⟩;refine codeAny_forLoop_any (fun n s'=>∃ i σ' H',Inv X pins σ' H' s'/\tn i s'.heap/\(∀ b∈fp,H' b=none)/\W i n σ' H') ?_ m0 ⟨0,σ,H2,I2,st2,fun b hb=>(f2 b hb).1,w0⟩;rintro n s3 ⟨i,σ3,H3,I3,st3,fr3,w3⟩;rcases turn i n σ3 H3 w3 with⟨stop,qn⟩ | ⟨go,N,hN,step⟩
 ·refine wpAny_passesOwn hp (thn (T.done X rfl rfl rfl hc i pins s3 σ3 H3 X.xe I3 (stat fr3) st3 stop) fun r s4 ⟨hr,I4⟩=>?_);subst hr;exact wpAny_execs_nil ⟨σ3,H3,I4,qn⟩
 ·refine wpAny_passesOwn hp (thn (T.item X rfl rfl rfl hc i pins s3 σ3 H3 X.xe I3 (stat fr3) st3 go) fun r s4 ⟨u,hr,h4⟩=>?_);subst hr;refine wpAny_passesOwn hp (thn h4 fun _ s5 ⟨x,H5,I5,r5,y5,st5,fr5⟩=>?_);have I5':=I5.pinned (stat fr5) (T.obj _ _ st5);refine wpAny_passesOwn hp (thn (hg _ s5 σ3 H5 x u _ I5' r5 (step x H5 y5)) fun _ s6 ⟨σ6,H6,I6,q6⟩=>?_);refine wpAny_passesOwn hp (thn (hb _ s6 σ6 H6 _ I6 q6) fun f s7 q7=>?_);have again:∀{σ7:St}{H7:Hp},Inv X (pins++yN fp s5.heap) σ7 H7 s7->N σ7 H7->∃ m,m<n/\∃ i σ' H',Inv X pins σ' H' s7/\tn i s7.heap/\(∀ b∈fp,H' b=none)/\W i m σ' H':=fun{σ7 H7} I7 n7=>by
   obtain⟨m',hm,w7⟩:=hN σ7 H7 n7;refine⟨m',hm,i+1,σ7,H7,I7.unpinned,T.keep _ _ _ st5 fun b hb o e=>(I7.pin (b,o) (Oi _ (Oi _ (iu hb e)))).1,fun b hb=>?_,w7⟩;obtain⟨o,e,d⟩:=T.obj _ _ st5 b hb;exact(I7.pin (b,o) (Oi _ (Oi _ (iu hb e)))).2.1
  cases f with
  |next=>obtain⟨σ7,H7,I7,n7⟩:=q7;exact again I7 n7
  |cont=>obtain⟨σ7,H7,I7,n7⟩:=q7;exact again I7 n7
  |brk=>obtain⟨σ7,H7,I7,q7⟩:=q7;exact⟨σ7,H7,I7.unpinned,q7⟩
  |ret v=>obtain⟨x7,σ7,H7,I7,r7,q7⟩:=q7;exact⟨x7,σ7,H7,I7.unpinned,r7,q7⟩
end
theorem gH{K:NS}{a:Addr}{xs:List V}{g:TG}{tb:TS}{D:Ends}{σ:St}{H:Hp}(Pv:Nat->St->Hp->Prop)(h0:Pv 0 σ H)(hl:∀ i σ H,i<=xs.length->Pv i σ H->SqL K H a xs)
  (hs:∀ i x σ H,xs[i]?=some x->Pv i σ H->g x σ H fun σ2 H2=>tb { D with nx:=Pv (i+1),ct:=Pv (i+1),bk:=D.nx } σ2 H2) (hd:∀ σ H,Pv xs.length σ H->D.nx σ H) :
  ∃ W:Nat->Nat->St->Hp->Prop,(∃ m,W 0 m σ H)/\∀ i m σ H,W i m σ H ->
   ((Itl K a).stop i H/\D.nx σ H)∨((Itl K a).go i H/\∃ N:St->Hp->Prop,(∀ σ' H',N σ' H'->∃ m',m'<m/\W (i+1) m' σ' H')/\∀ x H',(Itl K a).yld i H x H'->g x σ H' fun σ2 H2=>tb { D with nx:=N,ct:=N,bk:=D.nx } σ2 H2):=by
 refine⟨fun i m σ H=>m=xs.length-i/\i<=xs.length/\Pv i σ H,⟨xs.length,by simp,O5 _,h0⟩,?_⟩
 rintro i m σ H ⟨rfl,hi,p⟩;have q:=hl i σ H hi p;by_cases hlt:i<xs.length
 ·refine .inr ⟨⟨xs,xs[i],q,by simp[hlt]⟩,Pv (i+1),fun σ' H' p'=>⟨xs.length-(i+1),by omega,rfl,hlt,p'⟩,fun x H' y=>?_⟩
  obtain⟨e,y⟩:=y;subst e;exact hs i x σ _ (y xs q) p
 ·have e:i=xs.length:=by omega
  subst e;exact .inl ⟨⟨xs,q,NY _⟩,hd σ H p⟩
theorem cn{lo:Int}{n:Nat}{g:TG}{tb:TS}{D:Ends}{σ:St}{H:Hp}(Pv:Nat->St->Hp->Prop)(h0:Pv 0 σ H)
  (hs:∀ i σ H,i<n->Pv i σ H->g (.int (lo+i)) σ H fun σ2 H2=>tb { D with nx:=Pv (i+1),ct:=Pv (i+1),bk:=D.nx } σ2 H2) (hd:∀ σ H,Pv n σ H->D.nx σ H) :
  ∃ W:Nat->Nat->St->Hp->Prop,(∃ m,W 0 m σ H)/\∀ i m σ H,W i m σ H ->
   ((Itr lo n).stop i H/\D.nx σ H)∨((Itr lo n).go i H/\∃ N:St->Hp->Prop,(∀ σ' H',N σ' H'->∃ m',m'<m/\W (i+1) m' σ' H')/\∀ x H',(Itr lo n).yld i H x H'->g x σ H' fun σ2 H2=>tb { D with nx:=N,ct:=N,bk:=D.nx } σ2 H2):=by
 refine⟨fun i m σ H=>m=n-i/\i<=n/\Pv i σ H,⟨n,by simp,O5 _,h0⟩,?_⟩
 rintro i m σ H ⟨rfl,hi,p⟩;by_cases hlt:i<n
 ·refine .inr ⟨hlt,Pv (i+1),fun σ' H' p'=>⟨n-(i+1),by omega,rfl,hlt,p'⟩,fun x H' y=>?_⟩
  obtain⟨e,y⟩:=y;subst e y;exact hs i σ _ hlt p
 ·have e:i=n:=by omega
  subst e;exact .inl ⟨NY _,hd σ H p⟩
theorem DN{c:TT}{tb:TS}{D:Ends}{σ:St}{H:Hp}(Pv:St->Hp->Prop)(μ:St->Hp->Nat)(h0:Pv σ H)
  (hs:∀ σ H,Pv σ H->c σ H fun b H1=>if b=true then tb { D with nx:=fun σ' H'=>Pv σ' H'/\μ σ' H'<μ σ H,ct:=fun σ' H'=>Pv σ' H'/\μ σ' H'<μ σ H,bk:=D.nx } σ H1 else D.nx σ H1)
  (mono:∀ σ H Q Q',(∀ b H1,Q b H1->Q' b H1)->c σ H Q->c σ H Q'):Lx c tb D σ H:=by
 refine⟨fun m σ H=>m=μ σ H/\Pv σ H,⟨_,rfl,h0⟩,?_⟩;rintro m σ H ⟨rfl,p⟩;refine mono σ H _ _ (fun b H1 q=>?_) (hs σ H p)
 cases b with
 |true=>exact⟨_,fun σ' H' ⟨p',l⟩=>⟨_,l,rfl,p'⟩,q⟩
 |false=>exact q
abbrev R2:=V->V->Hp->VK->Prop
def OpR(X:Cx)(f:Value->Value->Sem Value)(r:R2):Prop :=
 ∀(pins:List (Addr×Obj))(s:Shared)(σ:St)(H:Hp)(x y:V)(v u:Value)(Q:VK),Inv X pins σ H s->RelV x v->RelV y u->r x y H Q ->
  wpAny (model X.prog X.w) X.A (f v u) (EP X pins σ Q) X.xe s
def jf(X:Cx)(f:Value)(r:List V->Hp->VK->Prop):Prop :=
 ∀(pins:List (Addr×Obj))(s:Shared)(σ:St)(H:Hp)(xs:List V)(us:List Value)(Q:VK),Inv X pins σ H s->Vals xs us->r xs H Q ->
  wpAny (model X.prog X.w) X.A (call f us) (EP X pins σ Q) X.xe s
def tOp(r:R2)(ta tb:TE):TE:=fun σ H Q=>ta σ H fun x H1=>tb σ H1 fun y H2=>r x y H2 Q
def rI(C:Int->Int->Prop)(g:Int->Int->V):R2:=fun x y H Q=>∃ i j,x=.int i/\y=.int j/\C i j/\Q (g i j) H
def rI0(g:Int->Int->V):R2:=fun x y H Q=>∃ i j,x=.int i/\y=.int j/\Q (g i j) H
section
variable{X:Cx}{a b c:Expr}{ta tb tc:TE}{pos:Pos}
theorem binT(ha:PE X a ta)(hb:PE X b tb){pins:List (Addr×Obj)}{s:Shared}{σ:St}{H:Hp}{R:V->V->Hp->Prop}(I:Inv X pins σ H s)
  (h:ta σ H fun x H1=>tb σ H1 fun y H2=>R x y H2) {Q:Value->Shared->Prop} {f:Value->Value->Sem Value}
  (hf:∀ v u s2 x y H2,Inv X pins σ H2 s2->RelV x v->RelV y u->R x y H2->wpAny (model X.prog X.w) X.A (f v u) Q X.xe s2) :
  wpAny (model X.prog X.w) X.A (eval a X.env) (fun v s₁=>wpAny (model X.prog X.w) X.A (eval b X.env) (fun u s₂=>wpAny (model X.prog X.w) X.A (f v u) Q X.xe s₂) X.xe s₁) X.xe s:=by
 refine thn (ha pins s σ H _ I h) fun v s1 ⟨x,H1,I1,r1,q1⟩=>?_;refine thn (hb pins s1 σ H1 _ I1 q1) fun u s2 ⟨y,H2,I2,r2,q2⟩=>?_;exact hf v u s2 x y H2 I2 r1 r2 q2
theorem aq{op:Operator}{r:R2}(ho:OpR X (binaryOp op) r)(ha:PE X a ta)(hb:PE X b tb):PE X (.BinOp a op b pos) (tOp r ta tb):=by
 intro pins s σ H Q I h;exact wpAny_BinOp (binT ha hb I h fun v u s2 x y H2 I2 rx ry q=>ho pins s2 σ H2 x y v u Q I2 rx ry q)
theorem opI{f:Value->Value->Sem Value}{C:Int->Int->Prop}{g:Int->Int->Int}
  (rule:∀(i j:Int)(t u:Tok)(s:Shared)(Q:Value->Shared->Prop)(E:Value->Shared->Prop),C i j->Q (.int (g i j) s.toks) { s with toks:=s.toks+1 }->wpAny (model X.prog X.w) X.A (f (.int i t) (.int j u)) Q E s) :
  OpR X f (rI C fun i j=>.int (g i j)):=by
 intro pins s σ H x y v u Q I rx ry h;obtain⟨i,j,rfl,rfl,hc,q⟩:=h;obtain⟨t,rfl⟩:=rx;obtain⟨t',rfl⟩:=ry;exact rule i j t t' s _ _ hc ⟨.int (g i j),H,I.tok _,⟨_,rfl⟩,q⟩
theorem opI0{f:Value->Value->Sem Value}{g:Int->Int->Int}
  (rule:∀(i j:Int)(t u:Tok)(s:Shared)(Q:Value->Shared->Prop)(E:Value->Shared->Prop),Q (.int (g i j) s.toks) { s with toks:=s.toks+1 }->wpAny (model X.prog X.w) X.A (f (.int i t) (.int j u)) Q E s) :
  OpR X f (rI0 fun i j=>.int (g i j)):=by
 intro pins s σ H x y v u Q I rx ry h;obtain⟨i,j,rfl,rfl,q⟩:=h;obtain⟨t,rfl⟩:=rx;obtain⟨t',rfl⟩:=ry;exact rule i j t t' s _ _ ⟨.int (g i j),H,I.tok _,⟨_,rfl⟩,q⟩
theorem opB0{f:Value->Value->Sem Value}{g:Int->Int->Bool}
  (rule:∀(i j:Int)(t u:Tok)(s:Shared)(Q:Value->Shared->Prop)(E:Value->Shared->Prop),Q (.bool (g i j)) s->wpAny (model X.prog X.w) X.A (f (.int i t) (.int j u)) Q E s) :
  OpR X f (rI0 fun i j=>.bl (g i j)):=by
 intro pins s σ H x y v u Q I rx ry h;obtain⟨i,j,rfl,rfl,q⟩:=h;obtain⟨t,rfl⟩:=rx;obtain⟨t',rfl⟩:=ry;exact rule i j t t' s _ _ ⟨.bl (g i j),H,I,rfl,q⟩
def CDiv(i j:Int):Prop:=0<j/\j<1073741824
def CPow(i j:Int):Prop:=0<=j/\j<=1000000/\i.natAbs<2^64
def CMul(i j:Int):Prop:=(-(2^64)<i/\i<2^64)∨(-(2^64)<j/\j<2^64)
theorem CMul.ok{i j:Int}(h:CMul i j):IntMulOk i j:=by
 rcases h with⟨h1,h2⟩ | ⟨h1,h2⟩
 ·exact .of_left (intBits_le_64 h1 h2)
 ·exact .of_right (intBits_le_64 h1 h2)
theorem EH(k:Nat):(0:Int)<=2^k:=by
 rw[two_pow_cast];exact RE _
theorem bq:OpR X (binaryOp .Add) (rI0 fun i j=>.int (i+j)):=opI0 fun _ _ _ _ _ _ _ q=>add_int q
theorem kS:OpR X (binaryOp .Sub) (rI0 fun i j=>.int (i-j)):=opI0 fun _ _ _ _ _ _ _ q=>sub_int q
theorem gA:OpR X (binaryOp .Mult) (rI CMul fun i j=>.int (i*j)):=opI fun _ _ _ _ _ _ _ hc q=>mul_int q hc.ok
theorem bu:OpR X (binaryOp .FloorDiv) (rI CDiv fun i j=>.int (i/j)):=opI fun i j _ _ _ _ _ hc q=>by
 have h1:(0:Int)<j:=hc.1;have h2:j<1073741824:=hc.2;exact floordiv_int (by omega) (by rw[R4 i (by omega)];exact q) (.inl (PyProof.noPylong_small (by omega)))
theorem a8:OpR X (binaryOp .Mod) (rI (fun _ j=>0<j) fun i j=>.int (i%j)):=opI fun i j _ _ _ _ _ hc q=>by
 have h1:(0:Int)<j:=hc;exact mod_int' (by omega) (by rw[Int.fmod_eq_emod_of_nonneg i (by omega)];exact q)
theorem LL:OpR X (binaryOp .Pow) (rI CPow fun i j=>.int (i^j.toNat)):=opI fun _ _ _ _ _ _ _ hc q=>pow_int_small hc.1 hc.2.1 hc.2.2 q
theorem ja:OpR X (binaryOp .LShift) (rI CPow fun i j=>.int (i*2^j.toNat)):=opI fun _ _ _ _ _ _ _ hc q=>lshift_int_small hc.1 hc.2.1 hc.2.2 q
theorem D6:OpR X (binaryOp .RShift) (rI (fun _ j=>0<=j) fun i j=>.int (i/2^j.toNat)):=opI fun i j _ _ _ _ _ hc q =>
 rshift_int hc (by rw[R4 i (EH _)];exact q)
theorem Ho:OpR X (binaryOp .BitAnd) (rI0 fun i j=>.int (Builtin.bitAnd i j)):=opI0 fun _ _ _ _ _ _ _ q=>and_int q
theorem op_or:OpR X (binaryOp .BitOr) (rI0 fun i j=>.int (Builtin.bitOr i j)):=opI0 fun _ _ _ _ _ _ _ q=>or_int q
theorem yR:OpR X (binaryOp .BitXor) (rI0 fun i j=>.int (Builtin.bitXor i j)):=opI0 fun _ _ _ _ _ _ _ q=>xor_int q
end
def scal:V->V->Bool
 |.non,.non=>true | .non,.int _=>true | .int _,.non=>true | .non,.bl _=>true | .bl _,.non=>true | .non,.str _=>true | .str _,.non=>true
 |.int _,.int _=>true | .bl _,.bl _=>true | .str _,.str _=>true | .byt _,.byt _=>true
 |.int _,.str _=>true | .str _,.int _=>true | .bl _,.str _=>true | .str _,.bl _=>true
 |_,_=>false
def rEq:R2:=fun x y H Q=>scal x y=true/\Q (.bl (decide (x=y))) H
def rNe:R2:=fun x y H Q=>scal x y=true/\Q (.bl (!decide (x=y))) H
theorem Iz{i j:Int}:decide (V.int i=V.int j)=(i == j):=by
 rw[QS];simp
theorem LY{i j:Bool}:decide (V.bl i=V.bl j)=(i == j):=by
 rw[QS];simp
theorem Iy{i j:Str}:decide (V.str i=V.str j)=(i == j):=by
 rw[QS];simp
theorem IA{i j:Array UInt8}:decide (V.byt i=V.byt j)=(i.toList == j.toList):=by
 rw[QS]
 cases i
 cases j
 simp
section
variable{X:Cx}{a b c:Expr}{ta tb tc:TE}{pos:Pos}
theorem bz{pins:List (Addr×Obj)}{σ:St}{H:Hp}{s:Shared}{Q:VK}{k k':Bool}(I:Inv X pins σ H s)(q:Q (.bl k) H)(e:k=k'):EP X pins σ Q (.bool k') s:=by
 subst e;exact⟨.bl k,H,I,rfl,q⟩
theorem gW:OpR X (compareOp .Eq) rEq:=by
 intro pins s σ H x y v u Q I rx ry h;obtain⟨hs,q⟩:=h
 cases x with
 |non =>
  cases rx
  cases y with
  |non=>cases ry;exact PySem.EqNone.eq_none_none (bz I q (by simp))
  |bl j=>cases ry;exact PySem.EqNone.eq_none_bool (bz I q (by simp))
  |int j=>obtain⟨t',rfl⟩:=ry;exact PySem.EqNone.eq_none_int (bz I q (by simp))
  |str j=>obtain⟨t',rfl⟩:=ry;exact PySem.EqNone.eq_none_str (bz I q (by simp))
  |_=>exact absurd (show false=true from hs) Ox
 |bl i =>
  cases rx
  cases y with
  |non=>cases ry;exact PySem.EqNone.eq_bool_none (bz I q (by simp))
  |bl j=>cases ry;exact eq_bool (bz I q LY)
  |str j=>obtain⟨t',rfl⟩:=ry;exact PySem.EqMixed.eq_bool_str (bz I q (by simp))
  |_=>exact absurd (show false=true from hs) Ox
 |int i =>
  obtain⟨t,rfl⟩:=rx
  cases y with
  |non=>cases ry;exact PySem.EqNone.eq_int_none (bz I q (by simp))
  |int j=>obtain⟨t',rfl⟩:=ry;exact eq_int (bz I q Iz)
  |str j=>obtain⟨t',rfl⟩:=ry;exact PySem.EqMixed.eq_int_str (bz I q (by simp))
  |_=>exact absurd (show false=true from hs) Ox
 |str i =>
  obtain⟨t,rfl⟩:=rx
  cases y with
  |non=>cases ry;exact PySem.EqNone.eq_str_none (bz I q (by simp))
  |bl j=>cases ry;exact PySem.EqMixed.eq_str_bool (bz I q (by simp))
  |int j=>obtain⟨t',rfl⟩:=ry;exact PySem.EqMixed.eq_str_int (bz I q (by simp))
  |str j=>obtain⟨t',rfl⟩:=ry;exact eq_str (bz I q Iy)
  |_=>exact absurd (show false=true from hs) Ox
 |byt i =>
  obtain⟨t,rfl⟩:=rx
  cases y with
  |byt j=>obtain⟨t',rfl⟩:=ry;exact PySem.W.eq_bytes (bz I q IA)
  |_=>exact absurd (show false=true from hs) Ox
 |_=>cases y<;>exact absurd (show false=true from hs) Ox
theorem wa:OpR X (compareOp .NotEq) rNe:=by
 intro pins s σ H x y v u Q I rx ry h;obtain⟨hs,q⟩:=h
 cases x with
 |non =>
  cases rx
  cases y with
  |non=>cases ry;exact PySem.EqNone.ne_none_none (bz I q (by simp))
  |bl j=>cases ry;exact PySem.EqNone.ne_none_bool (bz I q (by simp))
  |int j=>obtain⟨t',rfl⟩:=ry;exact PySem.EqNone.ne_none_int (bz I q (by simp))
  |str j=>obtain⟨t',rfl⟩:=ry;exact PySem.EqNone.ne_none_str (bz I q (by simp))
  |_=>exact absurd (show false=true from hs) Ox
 |bl i =>
  cases rx
  cases y with
  |non=>cases ry;exact PySem.EqNone.ne_bool_none (bz I q (by simp))
  |bl j=>cases ry;exact ne_bool (bz I q (congrArg not LY))
  |str j=>obtain⟨t',rfl⟩:=ry;exact PySem.EqMixed.ne_bool_str (bz I q (by simp))
  |_=>exact absurd (show false=true from hs) Ox
 |int i =>
  obtain⟨t,rfl⟩:=rx
  cases y with
  |non=>cases ry;exact PySem.EqNone.ne_int_none (bz I q (by simp))
  |int j=>obtain⟨t',rfl⟩:=ry;exact ne_int (bz I q (congrArg not Iz))
  |str j=>obtain⟨t',rfl⟩:=ry;exact PySem.EqMixed.ne_int_str (bz I q (by simp))
  |_=>exact absurd (show false=true from hs) Ox
 |str i =>
  obtain⟨t,rfl⟩:=rx
  cases y with
  |non=>cases ry;exact PySem.EqNone.ne_str_none (bz I q (by simp))
  |bl j=>cases ry;exact PySem.EqMixed.ne_str_bool (bz I q (by simp))
  |int j=>obtain⟨t',rfl⟩:=ry;exact PySem.EqMixed.ne_str_int (bz I q (by simp))
  |str j=>obtain⟨t',rfl⟩:=ry;exact ne_str (bz I q (congrArg not Iy))
  |_=>exact absurd (show false=true from hs) Ox
 |byt i =>
  obtain⟨t,rfl⟩:=rx
  cases y with
  |byt j=>obtain⟨t',rfl⟩:=ry;exact PySem.W.ne_bytes (bz I q (congrArg not IA))
  |_=>exact absurd (show false=true from hs) Ox
 |_=>cases y<;>exact absurd (show false=true from hs) Ox
theorem E2:OpR X (compareOp .Lt) (rI0 fun i j=>.bl (decide (i<j))):=opB0 fun _ _ _ _ _ _ _ q=>lt_int q
theorem op_gt:OpR X (compareOp .Gt) (rI0 fun i j=>.bl (decide (j<i))):=opB0 fun _ _ _ _ _ _ _ q=>gt_int q
theorem E3:OpR X (compareOp .GtE) (rI0 fun i j=>.bl (decide (j<=i))):=opB0 fun _ _ _ _ _ _ _ q=>ge_int q
theorem MI:OpR X (compareOp .IsNot) (fun x y H Q=>y=.non/\Q (.bl (!decide (x=.non))) H):=by
 intro pins s σ H x y v u Q I rx ry h;obtain⟨rfl,q⟩:=h
 cases ry
 refine isnot_none_gen (bz I q ?_)
 cases x<;>first
  | (cases rx;rfl)
  | (obtain⟨t,rfl⟩:=rx;rfl)
theorem aK(b:Expr){op:CmpOp}(h:op≠.In:=by decide)(h2:op≠.NotIn:=by decide):behindInMarks op b=false:=by
 have e1:(op == CmpOp.In)=false:=by cases op<;>first | rfl | exact absurd rfl h
 have e2:(op == CmpOp.NotIn)=false:=by cases op<;>first | rfl | exact absurd rfl h2
 cases b<;>simp[behindInMarks,e1,e2]
theorem iE{op:CmpOp}{r:R2}(ho:OpR X (compareOp op) r)(ha:PE X a ta)(hb:PE X b tb)(hm:behindInMarks op b=false):PE X (.Compare a [op] [b] pos) (tOp r ta tb):=by
 intro pins s σ H Q I h;exact wpAny_Compare1 (binT ha hb I h fun v u s2 x y H2 I2 rx ry q=>ho pins s2 σ H2 x y v u Q I2 rx ry q) hm
def tTest(t:TE):TT:=fun σ H Q=>t σ H fun x H'=>∃ k,x=.bl k/\Q k H'
theorem aE{op:CmpOp}{r:R2}(ho:OpR X (compareOp op) r)(ha:PE X a ta)(hb:PE X b tb)(hm:behindInMarks op b=false):PT X (.Compare a [op] [b] pos) (tTest (tOp r ta tb)):=by
 intro pins s σ H Q I h
 refine wpAny_isTrue_Compare1 (thn (ha pins s σ H _ I h) fun v s1 ⟨x,H1,I1,r1,q1⟩=>thn (hb pins s1 σ H1 _ I1 q1) fun u s2 ⟨y,H2,I2,r2,q2⟩ =>
  thn (ho pins s2 σ H2 x y v u _ I2 r1 r2 q2) fun c s3 ⟨z,H3,I3,r3,k,e,q3⟩=>?_) hm
 subst e
 cases r3
 exact wpAny_truthy_bool ⟨H3,I3,q3⟩
theorem rN:(sizeLine:Nat)<2^63:=by rw[sizeLine_eq];decide
theorem vi{x:V}{us:List Value}(r:Vals [x] us):∃ u,us = [u]/\RelV x u:=by
 cases r with
 |cons r1 r2=>cases r2;exact⟨_,rfl,r1⟩
theorem EG{x y:V}{us:List Value}(r:Vals [x,y] us):∃ u w',us = [u,w']/\RelV x u/\RelV y w':=by
 cases r with
 |cons r1 r2 =>
  cases r2 with
  |cons r3 r4=>cases r4;exact⟨_,_,rfl,r1,r3⟩
theorem sU(hc:X.calm=true):jf X (.builtin "max") (fun xs H Q=>∃ i j,xs = [.int i,.int j]/\Q (.int (if j > i then j else i)) H):=by
 intro pins s σ H xs us Q I r h;obtain⟨i,j,rfl,q⟩:=h;obtain⟨u,w',rfl,⟨t,rfl⟩,⟨t',rfl⟩⟩:=EG r;refine max_two_ints (I.ok.hd hc) fun h' tk k=>⟨_,H,I.kept k,?_,q⟩;by_cases hj:j > i
 ·rw[if_pos hj,if_pos hj];exact⟨_,rfl⟩
 ·rw[if_neg hj,if_neg hj];exact⟨_,rfl⟩
theorem IK(hc:X.calm=true):jf X (.builtin "min") (fun xs H Q=>∃ i j,xs = [.int i,.int j]/\Q (.int (if j<i then j else i)) H):=by
 intro pins s σ H xs us Q I r h;obtain⟨i,j,rfl,q⟩:=h;obtain⟨u,w',rfl,⟨t,rfl⟩,⟨t',rfl⟩⟩:=EG r;refine min_two_ints (I.ok.hd hc) fun h' tk k=>⟨_,H,I.kept k,?_,q⟩;by_cases hj:j<i
 ·rw[if_pos hj,if_pos hj];exact⟨_,rfl⟩
 ·rw[if_neg hj,if_neg hj];exact⟨_,rfl⟩
end
structure ObjM(h:Heap)(x dx C:Addr)(mA:Str->Option Value):Prop where
 obj:h.get? x=some (Qa C dx)
 ns:h.Ns1 dx mA
 ne:dx≠x
theorem HM{h:Heap}{dx:Addr}{mA:Str->Option Value}(n:h.Ns1 dx mA):∃ od,h.get? dx=some od/\∀ name,Rt name od=some (mA name):=by
 obtain⟨o,es,ep,ho,hd,hk,_,hm⟩:=n;refine⟨o,ho,fun name=>?_⟩;have e:=hm name;unfold nsFind findBy at e;rw[← Array.find?_toList]at e;unfold Rt;rw[hd];dsimp only;split
 ·rename_i y q;rw[q]at e;exact congrArg some e
 ·rename_i q;rw[q]at e;have a:es.toList.any (·.refKey)=false:=by
   rw[List.any_eq_false];intro y hy;obtain⟨z,t,hkey⟩:=hk y (Array.mem_toList_iff.mp hy);simp[DictEntry.refKey,hkey]
  have a':¬ es.toList.any (·.refKey)=true:=by rw[a];exact Ox
  rw[if_neg a'];exact congrArg some e
theorem ObjM.look{h:Heap}{x dx C:Addr}{mA:Str->Option Value}(I:ObjM h x dx C mA):∃ od,PySem.W.InstAt h x (Qa C dx) C (some od)/\∀ name,Rt name od=some (mA name) :=
 let ⟨od,ho,hl⟩:=HM I.ns
 ⟨od,⟨I.obj,rfl,rfl,ho⟩,hl⟩
section
variable{prog:Program}{w:World}{A:Around}{E:Value->Shared->Prop}{s:Shared}{K:NS}{x dx C f:Addr}{mA:Str->Option Value}{name:Str}{v:Value}
theorem Nk{expr:Bool}{Q:Value->Shared->Prop}(X:K.In s.heap)(I:ObjM s.heap x dx C mA)(hg:Qg K C name=true)(hh:P1 K C=true)
  (ha:Oy K (.ref C) name=some none) (hv:mA name=some v) (hv':PySem.W.handedIn v=true) (h:Q v { s with toks:=s.toks+1 }) :
  wpAny (model prog w) A (getAttr (.ref x) name expr) Q E s:=by
 obtain⟨od,J,hl⟩:=I.look;exact PySem.W.get_value X J (Rx hg).1 (PySem.W.findObj_own hh ha rfl (by rw[hl,hv])) hv' h
theorem K0{pl:Sem Bool}{Q:Value×List Value->Shared->Prop}(X:K.In s.heap)(I:ObjM s.heap x dx C mA)(hg:Qg K C name=true)
  (hf:Oy K (.ref C) name=some (some (.ref f))) (ht:Qk K (.ref f)=true) (hv:mA name=none) (h:Q (.ref f,[.ref x]) s) :
  wpAny (model prog w) A (getMethod (.ref x) name pl) Q E s:=by
 obtain⟨od,J,hl⟩:=I.look;exact PySem.W.method_fn X J (Rx hg).1 (Rx hg).2 hf (beq_iff_eq.mp ht) (by show(Rt name od).map (·.isSome)=some false;rw[hl,hv];rfl) h
theorem Mz{ns:List Str}{Q:Unit->Shared->Prop}(X:K.In s.heap)(I:ObjM s.heap x dx C mA)
  (hs:Oy K (.ref C) "__setattr__" = some (some (.builtin "object.__setattr__"))) (hp:QB K C=true) (ht:RT K C name=some none) (hh:P1 K C=true)
  (hw:PySem.Within mA ns) (hsz:ns.length<=sizeLine)
  (h:∀ h',ObjM h' x dx C (fun y=>if y=name then some v else mA y)->Heap.SameBut dx s.heap h'->Q () { s with heap:=h',toks:=s.toks+2 }) :
  wpAny (model prog w) A (setAttr (.ref x) name v) Q E s:=by
 obtain⟨od,J,hl⟩:=I.look;refine PySem.W.set_plain X J hs (PySem.W.osa_open (s:={ s with toks:=s.toks+1 }) (r:=none) X J hp ht fun b=>?_);obtain⟨cd,hc,hd'⟩:=RL hh;have hx:s.heap.get? x=some ⟨.ref C,some dx,.plain,#[]⟩:=I.obj;refine wpAny_bind (wpAny_pure (wpAny_bind (wpAny_bind (wpAny_loadPart hx (wpAny_bind (PySem.W.Looks.here (s:={ s with toks:=s.toks+1 }) (PySem.W.looks_clsIn X hc) ?_))))));rw[hd'];refine wpAny_pure (a:=some dx) (wpAny_bind (wpAny_pure (wpAny_bind ?_)));refine wpAny_nsSet1 (s:={ s with toks:=s.toks+1 }) I.ns fun h' hn2 hs2=>?_;obtain⟨oD,esD,epD,hoD,hdD,hcD⟩:=hn2.count (PySem.Within.cons name v hw);refine wpAny_bind (wpAny_lookBehind hoD (by rw[hdD];exact pastItsLine_dict (O6 hcD (by rw[OJ];omega))) ?_)
 exact wpAny_pure (h _ ⟨(hs2.2 _ (Ne.symm I.ne)).trans I.obj,hn2,I.ne⟩ hs2)
theorem KA{R:Result->Shared->Prop}{vs:List Value}{kw:List (Str×Value)}(X:K.In s.heap)(hm:QO K C=true)
  (hi:Oy K (.ref C) "__init__" = some (some (.ref f))) (hf:PySem.W.typeIn K (.ref f)=some (.type "function"))
  (h:codeAny (model prog w) (A.under (.builtin "type.__call__" ⟨.ref C::vs,kw⟩)) (.call (.ref f) ⟨.ref (s.heap.objs.size+1)::vs,kw⟩) (PySem.W.InitBack (s.heap.objs.size+1) R)
   { s with heap:=(s.heap.push PK).push (Qa C s.heap.objs.size) }) :
  codeAny (model prog w) A (.call (.ref C) ⟨vs,kw⟩) R s:=by
 obtain⟨hh,g,d,t,os⟩:=s;exact PySem.W.make_core (PySem.W.makes_of X hm) (QI X hi) (fun self=>PySem.W.bind_fn X self hf) (.inl rfl) h
end
def putF(f:Str)(v:V):List (Str×V)->List (Str×V)
 |[]=>[(f,v)]
 | (g,x)::r=>if g=f then(g,v)::r else(g,x)::putF f v r
theorem az(f g:Str)(v:V):∀ fs:List (Str×V),(putF f v fs).lookup g=if g=f then some v else fs.lookup g
 |[]=>by
  show QP g [(f,v)]=_;by_cases h:g=f
  ·have hb:(g == f)=true:=beq_iff_eq.mpr h
   simp only[QP,hb,if_pos h]
  ·have hb:(g == f)=false:=beq_eq_false_iff_ne.mpr h
   simp only[QP,hb,if_neg h]
 | (k,x)::r=>by
  have ih:=az f g v r;rw[show putF f v ((k,x)::r)=(if k=f then(k,v)::r else(k,x)::putF f v r) from rfl];by_cases hk:k=f
  ·rw[if_pos hk];by_cases h:g=k
   ·have hb:(g == k)=true:=beq_iff_eq.mpr h
    simp only[QP,hb,if_pos (h.trans hk)]
   ·have hb:(g == k)=false:=beq_eq_false_iff_ne.mpr h
    simp only[QP,hb,if_neg (fun e:g=f=>h (e.trans hk.symm))]
  ·rw[if_neg hk];by_cases h:g=k
   ·have hb:(g == k)=true:=beq_iff_eq.mpr h
    simp only[QP,hb,if_neg (fun e:g=f=>hk (h.symm.trans e))]
   ·have hb:(g == k)=false:=beq_eq_false_iff_ne.mpr h
    simp only[QP,hb];exact ih
theorem rZ(f:Str)(v:V):∀ fs:List (Str×V),f∈(putF f v fs).map (·.1)/\∀ g,g∈fs.map (·.1)->g∈(putF f v fs).map (·.1)
 |[]=>⟨by simp[putF],fun g h=>by simp at h⟩
 | (k,x)::r=>by
  obtain⟨i1,i2⟩:=rZ f v r;rw[show putF f v ((k,x)::r)=(if k=f then(k,v)::r else(k,x)::putF f v r) from rfl];by_cases hk:k=f
  ·rw[if_pos hk];subst hk;exact⟨by simp,fun g h=>by simpa using h⟩
  ·rw[if_neg hk];refine⟨?_,fun g h=>?_⟩
   ·rw[OW];exact Oe _ i1
   ·rw[OW]at h ⊢;rcases NU.mp h with e | e
    ·exact NU.mpr (.inl e)
    ·exact Oe _ (i2 g e)
theorem rO(f:Str)(v:V):∀ fs:List (Str×V),(putF f v fs).length<=fs.length+1
 |[]=>by simp[putF]
 | (k,x)::r=>by
  have ih:=rO f v r;rw[show putF f v ((k,x)::r)=(if k=f then(k,v)::r else(k,x)::putF f v r) from rfl];by_cases hk:k=f
  ·rw[if_pos hk,OJ,OJ];omega
  ·rw[if_neg hk,OJ,OJ];omega
theorem RelO.some_of{v:V}{o:Option Value}(r:RelO (some v) o):∃ u,o=some u/\RelV v u:=by
 cases o with
 |none=>exact(show False from r).elim
 |some u=>exact⟨u,rfl,r⟩
theorem RelO.none_of{o:Option Value}(r:RelO none o):o=none:=by
 cases o with
 |none=>rfl
 |some u=>exact(show False from r).elim
theorem Iq{v:V}{u:Value}(r:RelV v u):PySem.W.handedIn u=true:=by
 cases v with
 |non=>cases (show u=Value.none from r);rfl
 |bl b=>cases (show u=Value.bool b from r);rfl
 |int i=>obtain⟨t,e⟩:=(show ∃ t,u=Value.int i t from r);cases e;rfl
 |str x=>obtain⟨t,e⟩:=(show ∃ t,u=Value.str x t from r);cases e;rfl
 |byt b=>obtain⟨t,e⟩:=(show ∃ t,u=Value.bytes b t from r);cases e;rfl
 |flt b=>obtain⟨t,e⟩:=(show ∃ t,u=Value.float b t from r);cases e;rfl
 |ref a=>cases (show u=Value.ref a from r);rfl
 |ty n=>cases (show u=Value.type n from r);rfl
section
variable{P:Program}{w:World}{H H':Hp}{h h':Heap}{a C dx:Addr}{fs fs':List (Str×V)}
theorem xc(hok:HOk P w H h)(e:H a=some (.ins C dx fs)):∃ mA,ObjM h a dx C mA/\(∀ f,RelO (fs.lookup f) (mA f))/\PySem.Within mA (fs.map (·.1))/\fs.length<=1000/\H dx=some (.own a):=by
 obtain⟨d,z,ne,ob,mA,n,r,q⟩:=(show bN P w H h a (.ins C dx fs) from hok a _ e);exact⟨mA,⟨ob,n,ne⟩,r,q,z,d⟩
end
structure Cls(K:NS)(C:Addr):Prop where
 pg:Qg K C Str.empty=true
 hd:P1 K C=true
 po:QB K C=true
 sa:Oy K (.ref C) "__setattr__" = some (some (.builtin "object.__setattr__"))
theorem Cls.get{K:NS}{C:Addr}(c:Cls K C)(f:Str):Qg K C f=true:=c.pg
def gQ(K:NS)(C:Addr)(f:Str):Prop:=Oy K (.ref C) f=some none
theorem gQ.taker{K:NS}{C:Addr}{f:Str}(n:gQ K C f):RT K C f=some none:=by
 unfold RT;rw[show Oy K (.ref C) f=some none from n];rfl
structure Meth(K:NS)(C:Addr)(m:Str)(f:Addr):Prop where
 at_:Oy K (.ref C) m=some (some (.ref f))
 fn:Qk K (.ref f)=true
 kp:Oc K (.ref f)=true
section
variable{X:Cx}{pins:List (Addr×Obj)}{σ:St}{H:Hp}{s:Shared}{a C dx:Addr}{fs:List (Str×V)}{f:Str}{v:V}{A:Around}{E:Value->Shared->Prop}
theorem FI{b:Bool}{Q:Value->Shared->Prop}(I:Inv X pins σ H s)(e:H a=some (.ins C dx fs))(c:Cls X.K C)(n:gQ X.K C f)(l:fs.lookup f=some v)
  (h:∀ u s',Inv X pins σ H s'->RelV v u->Q u s'):wpAny (model X.prog X.w) A (getAttr (.ref a) f b) Q E s:=by
 obtain⟨mA,O,r,_,_,_⟩:=xc I.hok e;obtain⟨u,hu,ru⟩:=RelO.some_of (v:=v) (o:=mA f) (by rw[← l];exact r f)
 exact Nk I.kIn O (c.get f) c.hd n hu (Iq ru) (h u _ (I.tok _) ru)
theorem uM{m:Str}{g:Addr}{pl:Sem Bool}{Q:Value×List Value->Shared->Prop}(I:Inv X pins σ H s)(e:H a=some (.ins C dx fs))(c:Cls X.K C)(k:Meth X.K C m g)(l:fs.lookup m=none)
  (h:Q (.ref g,[.ref a]) s):wpAny (model X.prog X.w) A (getMethod (.ref a) m pl) Q E s:=by
 obtain⟨mA,O,r,_,_,_⟩:=xc I.hok e;have hn:mA m=none:=RelO.none_of (by rw[← l];exact r m)
 exact K0 I.kIn O (c.get m) k.at_ k.fn hn h
theorem ER{y:V}{u:Value}{Q:Unit->Shared->Prop}(I:Inv X pins σ H s)(e:H a=some (.ins C dx fs))(c:Cls X.K C)(n:gQ X.K C f)(hl:fs.length<1000)(ry:RelV y u)
  (h:∀ s',Inv X pins σ (upd H a (.ins C dx (putF f y fs))) s'->Q () s'):wpAny (model X.prog X.w) A (setAttr (.ref a) f u) Q E s:=by
 obtain⟨mA,O,r,wi,_,ho⟩:=xc I.hok e;have hz:(fs.map (·.1)).length<=sizeLine:=by rw[NR,sizeLine_eq];omega
 refine Mz I.kIn O c.sa c.po n.taker c.hd wi hz fun h' O' sb=>h _ ?_;have hd:∃ o,h'.get? dx=some o:=let ⟨o,_,_,e',_⟩:=O'.ns;⟨o,e'⟩;refine I.write (x:=a) (e:=dx) (by rw[e];exact True.intro) (.inr ho) (fun b q hb z=>(sb.2 b hb).trans z) hd ?_
 refine⟨by rw[ak O.ne];exact ho,?_,O.ne,O'.obj,_,O'.ns,fun g=>?_,fun g hg=>?_⟩
 ·have:=rO f y fs;omega
 ·show RelO ((putF f y fs).lookup g) (if g=f then some u else mA g);rw[az];by_cases q:g=f
  ·rw[if_pos q,if_pos q];exact ry
  ·rw[if_neg q,if_neg q];exact r g
 ·by_cases q:g=f
  ·rw[q];exact(rZ f y fs).1
  ·refine(rZ f y fs).2 g (wi g fun z=>hg ?_);show(if g=f then some u else mA g)=none;rw[if_neg q];exact z
theorem Inv.made(I:Inv X pins σ H s):Inv X pins σ (upd (upd H s.heap.objs.size (.own (s.heap.objs.size+1))) (s.heap.objs.size+1) (.ins C s.heap.objs.size []))
  { s with heap:=(s.heap.push PK).push (Qa C s.heap.objs.size) }:=by
 have e1:(s.heap.push PK).get? s.heap.objs.size=some PK:=Heap.get?_push_size s.heap rfl;have e2:((s.heap.push PK).push (Qa C s.heap.objs.size)).get? (s.heap.objs.size+1)=some (Qa C s.heap.objs.size):=by
  have:=Heap.get?_push_size (s.heap.push PK) (o:=Qa C s.heap.objs.size) rfl;rwa[Heap.size_push]at this
 have e3:(s.heap.push PK).Ns s.heap.objs.size (fun _=>none):=⟨PK,#[],_,e1,rfl,(fun e he=>absurd he (by simp)),fun _=>rfl⟩
 have I1:=I.laid (a:=s.heap.objs.size) (o:=.own (s.heap.objs.size+1)) (h':=s.heap.push PK) (t':=s.toks) (fun b u q=>Heap.get?_push_of_some _ q) (NY _) ⟨_,e1⟩;refine I1.laid (a:=s.heap.objs.size+1) (o:=.ins C s.heap.objs.size []) (t':=s.toks) (fun b u q=>Heap.get?_push_of_some _ q) (Nat.le_of_eq (Heap.size_push _ _)) ?_;have ne:s.heap.objs.size≠s.heap.objs.size+1:=Ot (O3 _);refine⟨by rw[ak ne,ae],O5 _,ne,e2,fun _=>none,(Heap.Ns1.of_empty e3).at fun o q=>Heap.get?_push_of_some _ q,fun _=>True.intro,fun y hy=>absurd rfl hy⟩
theorem NJ{prog:Program}{w:World}{env:Env}{e:Expr}{f:Str}{pos:Pos}{s:Shared}{Q:Value->Shared->Prop}(hb:attributeBase e f env (eval e env)=eval e env)
  (h:wpAny (model prog w) A (eval e env) (fun o s₁=>wpAny (model prog w) A (getAttr o f true) Q E s₁) E s):wpAny (model prog w) A (eval (.Attribute e f pos) env) Q E s :=
 Attribute_any_ h (by rw[arm_eval_Attribute,hb])
end
def tFld(K:NS)(ta:TE)(f:Str):TE:=fun σ H Q=>ta σ H fun x H1=>∃ a C dx fs v,x=.ref a/\H1 a=some (.ins C dx fs)/\Cls K C/\gQ K C f/\fs.lookup f=some v/\Q v H1
def sFld(K:NS)(ta tv:TE)(f:Str):TS:=fun D σ H=>tv σ H fun y H1=>ta σ H1 fun x H2=>∃ a C dx fs,x=.ref a/\H2 a=some (.ins C dx fs)/\Cls K C/\gQ K C f/\fs.length<1000 /\
 D.nx σ (upd H2 a (.ins C dx (putF f y fs)))
section
variable{X:Cx}{o e value:Expr}{f:Str}{pos pos' tpos:Pos}{ta tv:TE}
theorem cY(he:PE X e ta)(hb:attributeBase e f X.env (eval e X.env)=eval e X.env):PE X (.Attribute e f pos) (tFld X.K ta f):=by
 intro pins s σ H Q I h;refine NJ hb (thn (he pins s σ H _ I h) fun u s1 ⟨x,H1,I1,rx,a,C,dx,fs,v,ex,ea,c,n,l,q⟩=>?_);subst ex;obtain rfl:u=Value.ref a:=rx;exact FI I1 ea c n l fun u' s2 I2 ru=>⟨v,H1,I2,ru,q⟩
theorem o8(ha:PE X o ta)(hv:PE X value tv)(hs:swapsWith value (some (.Attribute o f pos')) pos.line X.env=pure false):PS X (.Assign [.Attribute o f pos'] value pos) (sFld X.K ta tv f):=by
 intro pins s σ H D I h;refine plainObj_wpAny_Assign_Attribute (thn (hv pins s σ H _ I h) fun u s1 ⟨y,H1,I1,ry,q⟩=>thn (ha pins s1 σ H1 _ I1 q) fun ov s2 ⟨x,H2,I2,rx,a,C,dx,fs,ex,ea,c,n,l,q2⟩=>?_) hs;subst ex;obtain rfl:ov=Value.ref a:=rx;exact ER I2 ea c n l ry fun s3 I3=>⟨σ,_,I3,q2⟩
end
section
variable{X:Cx}{pins:List (Addr×Obj)}{σ:St}{H:Hp}{s:Shared}{A:Around}{E:Value->Shared->Prop}{Q:Value->Shared->Prop}{c:Value}{b:Bool}
inductive TyOf(K:NS)(H:Hp):V->Value->Prop where
 |non:TyOf K H .non (.type "NoneType")
 |bl (x:Bool):TyOf K H (.bl x) (.type "bool")
 |int (i:Int):TyOf K H (.int i) (.type "int")
 |str (x:Str):TyOf K H (.str x) (.type "str")
 |flt (x:UInt64):TyOf K H (.flt x) (.type "float")
 |lst {a:Addr} {xs:List V} (e:H a=some (.lst xs)):TyOf K H (.ref a) (.type "list")
 |frz {a:Addr} {o:Obj} {xs:List V} (e:H a=some (.frz o (.lst xs))):TyOf K H (.ref a) (.type "list")
 |tup {a:Addr} {xs:List V} (e:H a=some (.tup xs)):TyOf K H (.ref a) (.type "tuple")
 |dK {a:Addr} {kvs:List (Key×V)} (e:H a=some (.dK kvs)):TyOf K H (.ref a) (.type "dict")
 |dT {a:Addr} {kvs:List (List Key×V)} (e:H a=some (.dT kvs)):TyOf K H (.ref a) (.type "dict")
 |ins {a C dx:Addr} {fs:List (Str×V)} (e:H a=some (.ins C dx fs)) (cl:Cls K C) (ha:Oy K (.ref C) "__class__" = some (some (.builtin "object.__class__")))
   (hn:RF K (.builtin "object.__class__") "__get__" = some (some (.builtin "getset_descriptor.__get__"))) (htk:RS K (.builtin "object.__class__")=some true)
   (hm:PZ K C (.type "object")=some true):TyOf K H (.ref a) (.ref C)
theorem HY{x:V}{u t:Value}(I:Inv X pins σ H s)(rx:RelV x u)(ty:TyOf X.K H x t)(e:Pt X.K t c=some b)(h:∀ tk,Q (.bool b) { s with toks:=tk }) :
  wpAny (model X.prog X.w) A (call (.builtin "isinstance") [u,c]) Q E s:=by
 cases ty with
 |non=>cases (show u=Value.none from rx);exact Pq PySem.W.kitx_none I.kIn True.intro e (fun z=>nomatch z) h
 |bl y=>cases (show u=Value.bool y from rx);exact Pq PySem.W.kitx_bool I.kIn True.intro e (fun z=>nomatch z) h
 |int i=>obtain⟨t,q⟩:=(show ∃ t,u=Value.int i t from rx);cases q;exact Pq PySem.W.kitx_int I.kIn True.intro e (fun z=>nomatch z) h
 |str y=>obtain⟨t,q⟩:=(show ∃ t,u=Value.str y t from rx);cases q;exact Pq PySem.W.kitx_str I.kIn True.intro e (fun z=>nomatch z) h
 |flt y=>obtain⟨t,q⟩:=(show ∃ t,u=Value.float y t from rx);cases q;exact Pq PySem.W.kitx_float I.kIn True.intro e (fun z=>nomatch z) h
 | @lst a xs ea =>
  cases (show u=Value.ref a from rx)
  obtain⟨_,_,n,_,h1⟩:=(show bN X.prog X.w H s.heap a (.lst xs) from I.hok a _ ea);exact Pq PySem.W.kitx_list I.kIn ⟨_,h1,rfl⟩ e (fun z=>nomatch z) h
 | @frz a ob xs ea =>
  cases (show u=Value.ref a from rx)
  obtain⟨_,_,_,n,_,h1⟩:=(show bN X.prog X.w H s.heap a (.frz ob (.lst xs)) from I.hok a _ ea);exact Pq PySem.W.kitx_list I.kIn ⟨_,h1,rfl⟩ e (fun z=>nomatch z) h
 | @tup a xs ea =>
  cases (show u=Value.ref a from rx)
  obtain⟨_,_,_,p⟩:=(show bN X.prog X.w H s.heap a (.tup xs) from I.hok a _ ea);obtain⟨o,h1,h2,_⟩:=p;exact Pq PySem.W.kitx_tuple I.kIn ⟨o,h1,h2⟩ e (fun z=>nomatch z) h
 | @dK a kvs ea =>
  cases (show u=Value.ref a from rx)
  obtain⟨_,_,vs,_,p⟩:=(show bN X.prog X.w H s.heap a (.dK kvs) from I.hok a _ ea);obtain⟨o,es,ep,h1,h2,_⟩:=p;exact Pq PySem.W.kitx_dict I.kIn ⟨o,h1,h2.1⟩ e (fun z=>nomatch z) h
 | @dT a kvs ea =>
  cases (show u=Value.ref a from rx)
  obtain⟨_,_,xs,_,o,es,ep,h1,h2,_⟩:=(show bN X.prog X.w H s.heap a (.dT kvs) from I.hok a _ ea);exact Pq PySem.W.kitx_dict I.kIn ⟨o,h1,h2.1⟩ e (fun z=>nomatch z) h
 | @ins a C dx fs ea cl ha hn htk hm =>
  cases (show u=Value.ref a from rx)
  obtain⟨mA,O,_⟩:=xc I.hok ea;obtain⟨od,J,_⟩:=O.look;exact Pq (PySem.W.kitx_own (cl.get _) cl.hd ha hn htk hm) I.kIn J e (fun z=>nomatch z) h
end
structure Room(k:Nat)(A:Around):Prop where
 hd:A.handled=none
 dp:A.depth+3*k+5<recursionLimit
 un:A.units+16*k+200<cLine
theorem Room.mono{j k:Nat}{A:Around}(r:Room k A)(h:j<=k):Room j A:=⟨r.hd,by have:=r.dp;omega,by have:=r.un;omega⟩
theorem Room.deeper{k:Nat}{A:Around}(r:Room (k+1) A)(env:Env):Room k (A.deeper env) :=
 ⟨r.hd,by have:=r.dp;show A.depth+1+3*k+5<_;omega,by have:=r.un;show A.units+3+16*k+200<_;omega⟩
theorem Fn{A:Around}{C:Addr}{us:List Value}{kw:List (Str×Value)}:(A.under (.builtin "type.__call__" ⟨.ref C::us,kw⟩)).depth=A.depth+1:=by
 first | rfl | simp[Around.under,Code.weight,Code.isCreation,Code.isGuard,Code.isCaller,Code.frames,Code.isFrame,guardIds]
theorem Fm{A:Around}{C:Addr}{us:List Value}{kw:List (Str×Value)}:(A.under (.builtin "type.__call__" ⟨.ref C::us,kw⟩)).units=A.units+1:=by
 first | rfl | simp[Around.under,Code.cUnits,Code.frames,Code.isFrame]
theorem Room.make{k:Nat}{A:Around}(r:Room (k+1) A)(C:Addr)(us:List Value)(kw:List (Str×Value)):Room k (A.under (.builtin "type.__call__" ⟨.ref C::us,kw⟩)) :=
 ⟨r.hd,by have:=r.dp;rw[Fn];omega,by have:=r.un;rw[Fm];omega⟩
theorem Room.depth{k:Nat}{A:Around}(r:Room k A):A.depth<recursionLimit:=by have:=r.dp;omega
theorem Room.units{k:Nat}{A:Around}(r:Room k A):A.units+64<cLine:=by have:=r.un;omega
def tNil:TA:=fun _ H Q=>Q [] H
def tCons(ta:TE)(tr:TA):TA:=fun σ H Q=>ta σ H fun x H1=>tr σ H1 fun xs H2=>Q (x::xs) H2
section
variable{X:Cx}{e:Expr}{es:List Expr}{te:TE}{t:TA}{pos:Pos}
theorem ag:PA X [] tNil:=fun _ _ _ _ H Q I h=>Calls.spliced_nil ⟨[],H,I,.nil,h⟩
theorem aa(ha:PE X e te)(hr:PA X es t)(hs:starEach (e::es) X.env=(false,eval e X.env)::starEach es X.env:=by rfl):PA X (e::es) (tCons te t):=by
 intro pos pins s σ H Q I h;rw[hs];show wpAny _ _ (spliced ((false,eval e X.env)::backTo pos (starEach es X.env))) _ _ s;refine Calls.spliced_cons (thn (ha pins s σ H _ I h) fun u s1 ⟨x,H1,I1,r1,q1⟩=>?_);exact thn (hr pos pins s1 σ H1 _ I1 q1) fun us s2 ⟨xs,H2,I2,r2,q2⟩=>⟨x::xs,H2,I2,.cons r1 r2,q2⟩
def tTup(t:TA):TE:=fun σ H Q=>t σ H fun xs H1=>xs.length<=sizeLine/\∀ p,H1 p=none->Q (.ref p) (upd H1 p (.tup xs))
def tLst(t:TA):TE:=fun σ H Q=>t σ H fun xs H1=>xs.length<=sizeLine/\∀ p,H1 p=none->Q (.ref p) (upd H1 p (.lst xs))
theorem i9{x1}(h:PA X es t):PE X (.Tuple es x1 pos) (tTup t):=by
 intro pins s σ H Q I hq;refine wpAny_Tuple_spliced (thn (h pos pins s σ H _ I hq) fun us s1 ⟨xs,H1,I1,r,z,q⟩=>⟨by rw[← r.length];exact z,?_⟩)
 have hf:H1 s1.heap.objs.size=none:=I1.hok.fresh (NY _);refine⟨.ref s1.heap.objs.size,upd H1 s1.heap.objs.size (.tup xs),I1.laid (t':=s1.toks) (fun b u e=>Heap.get?_push_of_some _ e) (NY _) ?_,rfl,q _ hf⟩;exact⟨z,us,r,⟨_,Heap.get?_push_size _ rfl,rfl,_,rfl⟩⟩
theorem bj(h:PA X es t):PE X (.List es pos) (tLst t):=by
 intro pins s σ H Q I hq;refine wpAny_List_spliced (thn (h pos pins s σ H _ I hq) fun us s1 ⟨xs,H1,I1,r,z,q⟩=>⟨by rw[← r.length];exact z,?_⟩)
 have hf:H1 s1.heap.objs.size=none:=I1.hok.fresh (NY _);refine⟨.ref s1.heap.objs.size,upd H1 s1.heap.objs.size (.lst xs),I1.laid (t':=s1.toks) (fun b u e=>Heap.get?_push_of_some _ e) (NY _) ?_,rfl,q _ hf⟩;exact⟨z,us,0,r,Heap.get?_push_size _ rfl⟩
end
abbrev Sp:=List V->Hp->VK->XK->Prop
abbrev CXT:=List Env->Hp->Shared->XK->Value->Shared->Prop
structure Env0(P:Program)(w:World)(K:NS)(mg:Str->Option Value)(base:Heap)(A:Around)(outer:List Env)(s:Shared)(H:Hp):Prop where
 frames:A.frames=some outer
 mod:Mod K mg base
 bs:∀ b o,base.get? b=some o->s.heap.get? b=some o/\H b=none
 bsz:base.objs.size<=s.heap.objs.size
 funs:s.heap.FunFrames base outer
 frf:∀ b∈frs outer,H b=none
 hok:HOk P w H s.heap
 bare:AllBare s.gens
def CE(outer:List Env)(P:Program)(w:World)(H:Hp)(s:Shared)(Q:VK)(u:Value)(s':Shared):Prop :=
 ∃ v H',s'.os=s.os/\AllBare s'.gens/\Un (frs outer) [] H H' s.heap s'.heap/\HOk P w H' s'.heap/\RelV v u/\Q v H'
def CR(CX:CXT)(outer:List Env)(P:Program)(w:World)(H:Hp)(s:Shared)(Q:VK)(E:XK)(r:Result)(s':Shared):Prop :=
 match r with
 |.ok (.ret u)=>CE outer P w H s Q u s'
 |.ok _=>False
 |.error e=>CX outer H s E e s'
structure FnOk(P:Program)(w:World)(K:NS)(mg:Str->Option Value)(base:Heap)(CX:CXT)(k:Nat)(f:Addr)(fd:FuncData)(ps:List Str)(sp:Sp):Prop where
 len:∀ vs H Q E,sp vs H Q E->vs.length=ps.length
 run:∀(A:Around)(outer:List Env)(s:Shared)(H:Hp)(args:Args)(us:List Value)(vs:List V)(Q:VK)(E:XK),Room k A->Env0 P w K mg base A outer s H->BindsTo s fd args (ps.zip us)->Vals vs us->sp vs H Q E ->
  codeAny (model P w) A (.call (.ref f) args) (CR CX outer P w H s Q E) s
theorem Env0.make{P:Program}{w:World}{K:NS}{mg:Str->Option Value}{base:Heap}{A:Around}{outer:List Env}{s:Shared}{H:Hp}(e:Env0 P w K mg base A outer s H)(C:Addr)(us:List Value)(kw:List (Str×Value)) :
  Env0 P w K mg base (A.under (.builtin "type.__call__" ⟨.ref C::us,kw⟩)) outer s H:=⟨by first | exact e.frames | (simpa[Around.under,Code.envs,Code.isFrame,pushEnvs] using e.frames),e.mod,e.bs,e.bsz,e.funs,e.frf,e.hok,e.bare⟩
section
variable{X:Cx}{pins:List (Addr×Obj)}{σ:St}{H:Hp}{s s':Shared}
theorem Inv.env0(I:Inv X pins σ H s):Env0 X.prog X.w X.K X.mg X.base X.A X.stack s H :=
 ⟨I.ok.frames,I.ok.mod,I.bs,O6 I.ok.bsz I.sz,I.stack,I.stkFree,I.hok,I.bare⟩
theorem Inv.after{Q:VK}{u:Value}(I:Inv X pins σ H s)(h:CE X.stack X.prog X.w H s Q u s'):EP X pins σ Q u s':=by
 obtain⟨v,H',os,bare,un,hok,r,q⟩:=h;obtain⟨hh,g,d,t,os'⟩:=s';obtain rfl:os'=s.os:=os;exact⟨v,H',I.call (h':=hh) (g':=g) (d':=d) (t':=t) (ch:=[]) un hok bare (fun b z=>absurd z (by simp)),r,q⟩
end
def tCall(sp:Sp)(dvs:List V)(E:XK)(t:TA):TE:=fun σ H Q=>t σ H fun vs H1=>sp (vs++dvs) H1 Q E
def tMeth(C:Addr)(m:Str)(sp:Sp)(dvs:List V)(E:XK)(ta:TE)(t:TA):TE:=fun σ H Q=>ta σ H fun x H1=>∃ a dx fs,x=.ref a/\H1 a=some (.ins C dx fs)/\fs.lookup m=none /\
 t σ H1 fun vs H2=>sp (x::(vs++dvs)) H2 Q E
def tMake(C:Addr)(sp:Sp)(dvs:List V)(E:XK)(t:TA):TE:=fun σ H Q=>t σ H fun vs H1=>∀ x dx,H1 x=none->H1 dx=none->dx≠x ->
 sp (.ref x::(vs++dvs)) (upd (upd H1 dx (.own x)) x (.ins C dx [])) (fun v H2=>v=.non/\Q (.ref x) H2) E
def jg(K:NS)(fd:FuncData)(ps:List Str)(ds:List Value):Prop :=
 ∀(s:Shared)(us:List Value),K.In s.heap->(us++ds).length=ps.length->BindsTo s fd ⟨us,[]⟩ (ps.zip (us++ds))
theorem jg.all{K:NS}{fd:FuncData}{ps:List Str}(h:∀ us:List Value,us.length=ps.length->bindArgs fd ⟨us,[]⟩=pure (ps.zip us)):jg K fd ps []:=fun s us _ hl=>by
 rw[Pa]at hl ⊢;exact .of_eq (h us hl)
def pI(CX:CXT)(X:Cx)(E:XK):Prop:=∀(pins:List (Addr×Obj))(σ:St)(H:Hp)(s:Shared)(e:Value)(s':Shared),Inv X pins σ H s->CX X.stack H s E e s'->X.xe e s'
section
variable{X:Cx}{CX:CXT}{k:Nat}{f C:Addr}{fd:FuncData}{ps:List Str}{sp:Sp}{dvs:List V}{ds:List Value}{E:XK}{x m:Str}{p pos apos:Pos}{e o:Expr}{es:List Expr}{ta:TE}{t:TA}
theorem GY{pins:List (Addr×Obj)}{σ:St}{H:Hp}{s:Shared}{Q:VK}{us:List Value}{vs:List V}(F:FnOk X.prog X.w X.K X.mg X.base CX k f fd ps sp)(hr:Room k X.A)(hb:jg X.K fd ps ds)(hd:Vals dvs ds)(hx:pI CX X E)
  (I:Inv X pins σ H s) (r:Vals vs us) (h:sp (vs++dvs) H Q E):wpAny (model X.prog X.w) X.A (call (.ref f) us) (EP X pins σ Q) X.xe s:=by
 have r2:Vals (vs++dvs) (us++ds):=r.append hd;have hl:(us++ds).length=ps.length:=by rw[← r2.length];exact F.len _ _ _ _ h
 refine wpAny_call (codeAny_mono (F.run X.A X.stack s H ⟨us,[]⟩ (us++ds) (vs++dvs) Q E hr I.env0 (hb s us I.kIn hl) r2 h) fun r s' hq=>?_)
 cases r with
 |error e=>exact hx pins σ H s e s' I hq
 |ok fl =>
  cases fl with
  |ret u=>exact I.after hq
  |next=>exact False.elim hq
  |brk=>exact False.elim hq
  |cont=>exact False.elim hq
theorem aB(F:FnOk X.prog X.w X.K X.mg X.base CX k f fd ps sp)(hr:Room k X.A)(hg:Gl X x)(hm:X.mg x=some (.ref f))(hk:Oc X.K (.ref f)=true)(hb:jg X.K fd ps ds)(hd:Vals dvs ds)(hx:pI CX X E)
  (ha:PA X (e::es) t) (hdb:(x == ("__debug__" : Str))=false:=by decide) (he:starEach (e::es) X.env=(false,eval e X.env)::starEach es X.env:=by rfl) (hpl:(backTo pos (starEach es X.env)).any (·.1)=false:=by rfl) :
  PE X (.Call (.Name x p) (e::es) [] pos) (tCall sp dvs E t):=by
 intro pins s σ H Q I h;refine wpAny_Call_Name_kw (lH I hg hm ?_ hdb);refine Qj (h₀:=X.base) I.ok.mod.kin hk (thn (ha pos pins s σ H _ I h) fun us s1 ⟨vs,H1,I1,r,q⟩=>⟨I1.kIn,?_⟩) he hpl;exact GY F hr hb hd hx I1 r q
theorem BJ{pl:Sem Bool}(he:PE X o ta)(c:Cls X.K C)(hm:Meth X.K C m f)(F:FnOk X.prog X.w X.K X.mg X.base CX k f fd ps sp)(hr:Room k X.A)(hb:jg X.K fd ps ds)(hd:Vals dvs ds)(hx:pI CX X E)(ha:PA X (e::es) t)
  (hst:starEach (e::es) X.env=(false,eval e X.env)::starEach es X.env:=by rfl) (hpl:(backTo pos (starEach es X.env)).any (·.1)=false:=by rfl)
  (ht:eval (.Call (.Attribute o m apos) (e::es) [] pos) X.env=(do
   let ov ← eval o X.env
   standAt apos.atName
   let (f,first) ← holding [ov] (getMethod ov m pl)
   callWith pos f first (backTo pos (starEach (e::es) X.env)) (backToKw pos (keywordEach [] X.env))):=by rfl) :
  PE X (.Call (.Attribute o m apos) (e::es) [] pos) (tMeth C m sp dvs E ta t):=by
 intro pins s σ H Q I h;refine PySem.W.methodCall_KW (pl:=pl) (thn (he pins s σ H _ I h) fun u s1 ⟨x,H1,I1,rx,a,dx,fs,ex,ea,l,q⟩=>?_) ht;subst ex;obtain rfl:u=Value.ref a:=rx;refine uM I1 ea c hm l ?_;refine Qj (first:=[.ref a]) (h₀:=X.base) I.ok.mod.kin hm.kp (thn (ha pos pins s1 σ H1 _ I1 q) fun us s2 ⟨vs,H2,I2,r,q2⟩=>⟨I2.kIn,?_⟩) hst hpl;exact GY (us:=.ref a::us) (vs:=.ref a::vs) F hr hb hd hx I2 (.cons rfl r) q2
theorem JQ{pl:Sem Bool}(he:PE X o ta)(c:Cls X.K C)(hm:Meth X.K C m f)(F:FnOk X.prog X.w X.K X.mg X.base CX k f fd ps sp)(hr:Room k X.A)(hb:jg X.K fd ps ds)(hd:Vals dvs ds)(hx:pI CX X E)
  (ht:eval (.Call (.Attribute o m apos) [] [] pos) X.env=(do
   let ov ← eval o X.env
   standAt apos.atName
   let (f,first) ← holding [ov] (getMethod ov m pl)
   callWith pos f first (backTo pos (starEach [] X.env)) (backToKw pos (keywordEach [] X.env))):=by rfl) :
  PE X (.Call (.Attribute o m apos) [] [] pos) (tMeth C m sp dvs E ta tNil):=by
 intro pins s σ H Q I h;refine PySem.W.methodCall_KW (pl:=pl) (thn (he pins s σ H _ I h) fun u s1 ⟨x,H1,I1,rx,a,dx,fs,ex,ea,l,q⟩=>?_) ht;subst ex;obtain rfl:u=Value.ref a:=rx;refine uM I1 ea c hm l ?_;exact PySem.W.callWith_K0 (first:=[.ref a]) I1.kIn hm.kp (GY (us:=[.ref a]) (vs:=[.ref a]) F hr hb hd hx I1 (.cons rfl .nil) q)
structure Mk(K:NS)(C f:Addr):Prop where
 makes:QO K C=true
 init:Oy K (.ref C) "__init__" = some (some (.ref f))
 fn:Qk K (.ref f)=true
 kp:Oc K (.ref C)=true
theorem JC{pins:List (Addr×Obj)}{σ:St}{H:Hp}{s:Shared}{Q:VK}{us:List Value}{vs:List V}(M:Mk X.K C f)(F:FnOk X.prog X.w X.K X.mg X.base CX k f fd ps sp)(hr:Room (k+1) X.A)(hb:jg X.K fd ps ds)(hd:Vals dvs ds)
  (hx:pI CX X E) (I:Inv X pins σ H s) (r:Vals vs us)
  (h:∀ x dx,H x=none->H dx=none->dx≠x->sp (.ref x::(vs++dvs)) (upd (upd H dx (.own x)) x (.ins C dx [])) (fun v H2=>v=.non/\Q (.ref x) H2) E) :
  wpAny (model X.prog X.w) X.A (call (.ref C) us) (EP X pins σ Q) X.xe s:=by
 have hq:=h (s.heap.objs.size+1) s.heap.objs.size (I.hok.fresh (Ql _)) (I.hok.fresh (NY _)) (Ot (O3 _));have I2:=Inv.made (C:=C) I;have r2:Vals (V.ref (s.heap.objs.size+1)::(vs++dvs)) (Value.ref (s.heap.objs.size+1)::(us++ds)):=.cons rfl (r.append hd);have hl:(Value.ref (s.heap.objs.size+1)::us++ds).length=ps.length:=by
  have e:=r2.length;rw[F.len _ _ _ _ hq]at e;exact e.symm
 refine wpAny_call (KA (f:=f) I.kIn M.makes M.init (beq_iff_eq.mp M.fn) (codeAny_mono (F.run _ X.stack _ _ ⟨Value.ref (s.heap.objs.size+1)::us,[]⟩ (Value.ref (s.heap.objs.size+1)::(us++ds)) _ _ E (hr.make C us [])
  (I2.env0.make C us []) (hb _ (Value.ref (s.heap.objs.size+1)::us) I2.kIn hl) r2 hq) fun r s' hq'=>?_))
 cases r with
 |error e=>exact hx pins σ _ _ e s' I2 hq'
 |ok fl =>
  cases fl with
  |ret u =>
   obtain⟨v,H',I3,rv,ev,q3⟩:=I2.after hq';subst ev;exact⟨rv,⟨V.ref (s.heap.objs.size+1),H',I3,rfl,q3⟩⟩
  |next=>exact False.elim hq'
  |brk=>exact False.elim hq'
  |cont=>exact False.elim hq'
theorem lj(M:Mk X.K C f)(F:FnOk X.prog X.w X.K X.mg X.base CX k f fd ps sp)(hr:Room (k+1) X.A)(hg:Gl X x)(hm:X.mg x=some (.ref C))(hb:jg X.K fd ps ds)(hd:Vals dvs ds)(hx:pI CX X E)
  (ha:PA X (e::es) t) (hdb:(x == ("__debug__" : Str))=false:=by decide) (he:starEach (e::es) X.env=(false,eval e X.env)::starEach es X.env:=by rfl) (hpl:(backTo pos (starEach es X.env)).any (·.1)=false:=by rfl) :
  PE X (.Call (.Name x p) (e::es) [] pos) (tMake C sp dvs E t):=by
 intro pins s σ H Q I h;refine wpAny_Call_Name_kw (lH I hg hm ?_ hdb);refine Qj (h₀:=X.base) I.ok.mod.kin M.kp (thn (ha pos pins s σ H _ I h) fun us s1 ⟨vs,H1,I1,r,q⟩=>⟨I1.kIn,?_⟩) he hpl;exact JC M F hr hb hd hx I1 r q
end
section
variable{X:Cx}{CX:CXT}{k:Nat}{f C:Addr}{fd:FuncData}{ps ks:List Str}{sp:Sp}{E:XK}{x m:Str}{p pos apos kpos:Pos}{e o:Expr}{es:List Expr}{kws:List Keyword}{te ta:TE}{t tk:TA}{nm:Option Str}
variable{g:List Value->List Value->List Value}{gV:List V->List V->List V}
end
structure aA(N P:List Str)(sc:Scope):Prop where
 kind:sc.kind=.function
 co:sc.isCoroutine=false
 gen:sc.isGenerator=false
 nd:N.Nodup
 pre:N.take P.length=P
 par:∀ x∈P,sc.names.lookup x=some .local∨sc.names.lookup x=some .cell
 nofree:∀ y∈sc.names,y.2≠.free
theorem Al{kindOf:Str->Option NameKind}{x:Str}:∀{binds:List (Str×Value)}{m:Str->Option Value},(∀ v,(x,v)∉binds)->bindL kindOf binds m x=m x
 |[],_,_=>rfl
 | (n,v)::r,m,h=>by
  unfold bindL;rw[Al fun w hw=>h w (Oe _ hw)];split
  ·have:x≠n:=by rintro rfl;exact h v Og
   simp[this]
  ·rfl
theorem An{kindOf:Str->Option NameKind}{x:Str}:∀{binds:List (Str×Value)}{m:Str->Option Value},(∀ v,(x,v)∉binds)->bindC kindOf binds m x=m x
 |[],_,_=>rfl
 | (n,v)::r,m,h=>by
  unfold bindC;rw[An fun w hw=>h w (Oe _ hw)];split
  ·rfl
  ·have:x≠n:=by rintro rfl;exact h v Og
   simp[this]
theorem Am{kindOf:Str->Option NameKind}{x:Str}{v:Value}:∀{P:List Str}{vs:List Value}{i:Nat}{m:Str->Option Value},P.Nodup->P[i]?=some x->vs[i]?=some v->kindOf x=some .local ->
  bindL kindOf (P.zip vs) m x=some v
 |[],_,_,_,_,h,_,_=>by simp at h
 |_::_,[],_,_,_,_,h,_=>by simp at h
 |p::P,w::vs,0,m,nd,h1,h2,hk=>by
  simp at h1 h2;subst h1;subst h2;show bindL kindOf ((p,w)::P.zip vs) m p=_;unfold bindL;rw[Al fun v hv=>(Oa.mp nd).1 (RX hv).1,if_pos hk];simp
 |p::P,w::vs,i+1,m,nd,h1,h2,hk=>by
  show bindL kindOf ((p,w)::P.zip vs) m x=_;unfold bindL;exact Am (i:=i) (Oa.mp nd).2 (by simpa using h1) (by simpa using h2) hk
theorem Ao{kindOf:Str->Option NameKind}{x:Str}{v:Value}:∀{P:List Str}{vs:List Value}{i:Nat}{m:Str->Option Value},P.Nodup->P[i]?=some x->vs[i]?=some v->kindOf x≠some .local ->
  bindC kindOf (P.zip vs) m x=some v
 |[],_,_,_,_,h,_,_=>by simp at h
 |_::_,[],_,_,_,_,h,_=>by simp at h
 |p::P,w::vs,0,m,nd,h1,h2,hk=>by
  simp at h1 h2;subst h1;subst h2;show bindC kindOf ((p,w)::P.zip vs) m p=_;unfold bindC;rw[An fun v hv=>(Oa.mp nd).1 (RX hv).1,if_neg hk];simp
 |p::P,w::vs,i+1,m,nd,h1,h2,hk=>by
  show bindC kindOf ((p,w)::P.zip vs) m x=_;unfold bindC;exact Ao (i:=i) (Oa.mp nd).2 (by simpa using h1) (by simpa using h2) hk
def start(N:List Str)(vs:List V):St:=vs.map some++PN (N.length-vs.length) none
def cxOf(CX:CXT)(P:Program)(w:World)(K:NS)(mg:Str->Option Value)(base:Heap)(N:List Str)(qual:Str)(scope:Scope)(f:Addr)(cd:Value)(A:Around)(outer:List Env)(s:Shared)(H:Hp)(E:XK):Cx where
 prog:=P
 w:=w
 K:=K
 mg:=mg
 base:=base
 A:=A.deeper (envOfC qual scope s.heap.objs.size f cd)
 N:=N
 s₀:=s
 H₀:=H
 env:=envOfC qual scope s.heap.objs.size f cd
 outer:=outer
 stack:=envOfC qual scope s.heap.objs.size f cd::outer
 ex:=[]
 calm:=true
 fn:=fun _=>true
 pn:=[]
 xe:=fun e s'=>wpAny (model P w) (A.deeper (envOfC qual scope s.heap.objs.size f cd)) (leaving (envOfC qual scope s.heap.objs.size f cd) e) (fun _ s''=>CX outer H s E e s'') (fun e' s''=>CX outer H s E e' s'') s'
theorem Eu{sc:Scope}{n:Nat}{x:Str}(h:sc.names.lookup x=some .cell):∃ c,(cellsFrom n sc.names []).lookup x=some c:=by
 have q:=PySem.W.cellsFrom_some sc.names n [] (.inl h);exact Sb.mp q
theorem Ia{CX:CXT}{P:Program}{w:World}{K:NS}{mg:Str->Option Value}{base:Heap}{N ps:List Str}{qual:Str}{scope:Scope}{f:Addr}{cd:Value}{A:Around}{outer:List Env}{s s1:Shared}{H:Hp}{E:XK}{us:List Value}{vs:List V}
  (S:aA N ps scope) (hd:A.handled=none) (e0:Env0 P w K mg base A outer s H) (hl:vs.length=ps.length) (r:Vals vs us)
  (x:InCallC s s.heap.objs.size (bindL (envOfC qual scope s.heap.objs.size f cd).kindOf (ps.zip us) fun _=>none) (cellsFrom (s.heap.objs.size+1) scope.names []) (bindC (envOfC qual scope s.heap.objs.size f cd).kindOf (ps.zip us) fun _=>none) s1) :
  Inv (cxOf CX P w K mg base N qual scope f cd A outer s H E) [] (start N vs) H s1:=by
 have hpl:ps.length<=N.length:=by have:=congrArg RY S.pre;rw[Ou]at this;omega
 obtain⟨h1,tk,rfl,hk⟩:=x.done;have noA:∀ b:Addr,b∉(cxOf CX P w K mg base N qual scope f cd A outer s H E).ex:=fun b z=>absurd (show b∈([]:List Addr) from z) (by simp)
 refine⟨⟨e0.mod,S.kind,rfl,rfl,NY _,fun y z c h1 h2=>?_,fun y hy=>?_,fun y c _ h=>?_,fun _=>hd,Around.frames_deeper e0.frames,.inr ⟨rfl,rfl⟩,fun b z=>absurd z (noA b),e0.bs,e0.bsz,fun b _ _=>noA b,fun b z=>absurd z (noA b),e0.funs,e0.frf⟩,
  rfl,e0.bare,Un.kept hk,⟨_,x.toInCall.ns,fun i y v h1 h2 h3=>?_⟩,fun y c h=>⟨_,x.cell y c h⟩,e0.hok.fresh (NY _),fun y c h=>?_,fun p hp=>absurd (show p∈([]:List (Addr×Obj)) from hp) (by simp),e0.hok.kept hk,?_⟩
 ·exact name_of_addr x.apart (Pz h1) (Pz h2)
 ·have hy:scope.names.lookup y=some .cell∨scope.names.lookup y=some .free:=hy
  rcases hy with hy | hy
  ·exact Eu hy
  ·exact absurd rfl (S.nofree _ (Pz hy))
 ·exact OG (x.above y c (Pz h))
 ·have hi:i<vs.length:=by
   unfold start at h2;by_cases hi:i<vs.length
   ·exact hi
   ·rw[NW (by simpa using hi)]at h2
    rw[Qf]at h2;split at h2<;>cases h2
  have ha:vs[i]?=some v:=by
   unfold start at h2;rw[NX (by simpa using hi),NZ]at h2
   cases e:vs[i]? with
   |none=>rw[e]at h2;cases h2
   |some a=>rw[e]at h2;cases h2;rfl
  obtain⟨u,hu,rv⟩:=r.get ha;have hp:ps[i]?=some y:=by
   rw[← S.pre,List.getElem?_take_of_lt (by omega)];exact h1
  have ndP:ps.Nodup:=by rw[← S.pre];exact S.nd.sublist (List.take_sublist _ _)
  refine⟨u,rv,?_⟩;rcases S.par y (NV hp)with k | k
  ·exact .inl ⟨k,Am ndP hp hu k⟩
  ·obtain⟨c,e⟩:=Eu (n:=s.heap.objs.size+1) k;refine .inr ⟨.inl k,c,e,?_⟩;have q:=x.cell y c e;rw[Ao ndP hp hu (by show scope.names.lookup y≠_;rw[k];decide)]at q
   exact q
 ·exact e0.hok.fresh (OG (x.above y c (Pz h)))
 ·unfold start;show _=N.length;rw[NT,NR,List.length_replicate];omega
theorem K1{CX:CXT}{P:Program}{w:World}{K:NS}{mg:Str->Option Value}{base:Heap}{k:Nat}{f:Addr}{name qual:Str}{params:Arguments}{body:List Stmt}{scope:Scope}{dV kV doc pm cdv ct oc:Value}{an od:Option Addr}
  {osl:Array (Option Value)} {N ps:List Str} {sp:Sp} (lk:K.lookup f=some ⟨oc,od,.func (Oq name qual params body scope dV kV doc pm an cdv ct),osl⟩) (hcd:Oj K cdv qual=true) (S:aA N ps scope)
  (len:∀ vs H Q E,sp vs H Q E->vs.length=ps.length)
  (hbody:∀(A:Around)(outer:List Env)(s:Shared)(H:Hp)(vs:List V)(Q:VK)(E:XK),Room k (A.deeper (envOfC qual scope s.heap.objs.size f cdv))->sp vs H Q E ->
   ∃ t,PSs (cxOf CX P w K mg base N qual scope f cdv A outer s H E) body t/\t { nx:=fun _ H'=>Q .non H',rt:=Q } (start N vs) H) :
  FnOk P w K mg base CX (k+1) f (Oq name qual params body scope dV kV doc pm an cdv ct) ps sp:=by
 refine⟨len,fun A outer s H args us vs Q E hr e0 hb r hsp=>?_⟩;have hl:=len _ _ _ _ hsp;have KX:K.In s.heap:=e0.mod.kin.keeps fun b o e=>(e0.bs b o e).1;have lim:s.heap.NoLimit:=e0.mod.nolimit.keeps fun b o e=>(e0.bs b o e).1;have hkind:∀ y∈ps.zip us,scope.names.lookup y.1=some .local∨(scope.names.lookup y.1=some .cell/\((cellsFrom (s.heap.objs.size+1) scope.names []).lookup y.1).isSome=true):=fun⟨n,v⟩ hy=>by
  rcases S.par n (RX hy).1 with q | q
  ·exact .inl q
  ·exact .inr ⟨q,PySem.W.cellsFrom_some _ _ _ (.inl q)⟩
 refine codeAny_call_function hr.depth (KX _ _ lk) rfl S.co S.gen rfl (PySem.W.codeRec_of KX hcd) (hb _ _ _ _ ?_);refine wpAny_newFunctionEnv_cells S.kind hkind fun env he s1 x=>?_;subst he;refine⟨lim.keeps x.toInCall.keep,codeAny_func ?_⟩;obtain⟨t,ht,hq⟩:=hbody A outer s H vs Q E (hr.deeper _) hsp;have I:Inv (cxOf CX P w K mg base N qual scope f cdv A outer s H E) [] (start N vs) H s1:=Ia S hr.hd e0 hl r x;refine wpAny_mono (ht [] s1 (start N vs) H _ I hq) (fun fl s' hs=>?_) fun e s' hs=>hs;have fin:∀{σ':St}{H':Hp}{v:V}{u:Value},Inv (cxOf CX P w K mg base N qual scope f cdv A outer s H E) [] σ' H' s'->RelV v u->Q v H'->CE outer P w H s Q u s' :=
  fun{σ' H' v u} J rv q=>⟨v,H',J.os,J.bare,J.base,J.hok,rv,q⟩
 cases fl with
 |ret u =>
  obtain⟨v,σ',H',J,rv,q⟩:=hs;exact fin J rv q
 |next =>
  obtain⟨σ',H',J,q⟩:=hs;exact fin (v:=V.non) (u:=Value.none) J rfl q
 |brk =>
  obtain⟨_,_,_,q⟩:=hs;exact False.elim q
 |cont =>
  obtain⟨_,_,_,q⟩:=hs;exact False.elim q
section
variable{X:Cx}{x:Str}{p pos:Pos}{e:Expr}{es:List Expr}{t:TA}{id T:String}{r:List V->Hp->VK->Prop}
def tCB(r:List V->Hp->VK->Prop)(t:TA):TE:=fun σ H Q=>t σ H fun vs H1=>r vs H1 Q
theorem aw(hc:jf X (.builtin id) r)(hg:Gl X x)(hm:X.mg x=none)(hv:bootBuiltins x=some (.builtin id))(ha:PA X (e::es) t) (hn:x≠"__name__":=by decide) (hdb:(x == ("__debug__" : Str))=false:=by decide)
  (he:starEach (e::es) X.env=(false,eval e X.env)::starEach es X.env:=by rfl) (hpl:(backTo pos (starEach es X.env)).any (·.1)=false:=by rfl):PE X (.Call (.Name x p) (e::es) [] pos) (tCB r t):=by
 intro pins s σ H Q I h;refine wpAny_Call_Name_kw (mV I hg hm hv ?_ hn hdb);exact PyProof.Rows.callWith_builtin1 (thn (ha pos pins s σ H _ I h) fun us s1 ⟨vs,H1,I1,r1,q1⟩=>hc pins s1 σ H1 vs us Q I1 r1 q1) he hpl
theorem fF(hc:jf X (.type T) r)(hg:Gl X x)(hm:X.mg x=none)(hv:bootBuiltins x=some (.type T))(ha:PA X (e::es) t) (hn:x≠"__name__":=by decide) (hdb:(x == ("__debug__" : Str))=false:=by decide)
  (he:starEach (e::es) X.env=(false,eval e X.env)::starEach es X.env:=by rfl) (hpl:(backTo pos (starEach es X.env)).any (·.1)=false:=by rfl):PE X (.Call (.Name x p) (e::es) [] pos) (tCB r t):=by
 intro pins s σ H Q I h;refine wpAny_Call_Name_kw (mV I hg hm hv ?_ hn hdb);exact PyProof.Rows.callWith_type1 (thn (ha pos pins s σ H _ I h) fun us s1 ⟨vs,H1,I1,r1,q1⟩=>hc pins s1 σ H1 vs us Q I1 r1 q1) he hpl
end
end L2
namespace HT
open PySem PyProof.Rows
section
open PySem.SeqAt
open PySem.AutoSeq1 (wpAny_loadPart')
open PySem.MeetsSeq PySem.MeetsSeq2 PySem.MeetsSeq3
end
section
variable{prog:Program}{w:World}{A:Around}{E:Value->Shared->Prop}{s:Shared}
def sIx(n d:Nat):Option Int->Nat
 |none=>d
 |some v=>if v<0 then(v+(n:Int)).toNat else min v.toNat n
theorem sIx_nat(n d k:Nat):sIx n d (some (k:Int))=min k n:=by
 show(if(k:Int)<0 then((k:Int)+(n:Int)).toNat else min (k:Int).toNat n)=min k n;rw[if_neg (by omega),Ob]
end
end HT
namespace L2
open PySem PySem.Spec PyProof.Rows
abbrev TO:=St->Hp->(Option Int->Hp->Prop)->Prop
def PO(X:Cx)(e:Option Expr)(t:TO):Prop :=
 ∀(pins:List (Addr×Obj))(s:Shared)(σ:St)(H:Hp)(Q:Option Int->Hp->Prop),Inv X pins σ H s->t σ H Q ->
  wpAny (model X.prog X.w) X.A (evalPart e X.env) (fun u s'=>∃ o H',Inv X pins σ H' s'/\IsPart u o/\Q o H') X.xe s
def Mo:TO:=fun _ H Q=>Q none H
def tPart(t:TE):TO:=fun σ H Q=>t σ H fun x H1=>∃ i,x=.int i/\Q (some i) H1
section
variable{X:Cx}{e:Expr}{te:TE}{lo hi:Option Expr}{tl th:TO}{pos p2:Pos}
theorem nX:PO X none Mo:=by
 intro pins s σ H Q I h;rw[evalPart_none];exact wpAny_pure ⟨none,H,I,.none,h⟩
theorem gU(h:PE X e te):PO X (some e) (tPart te):=by
 intro pins s σ H Q I hw;rw[evalPart_some];refine thn (h pins s σ H _ I hw) fun u s1 ⟨x,H1,I1,r1,q1⟩=>?_;obtain⟨i,rfl,q⟩:=q1;obtain⟨t,rfl⟩:=r1;exact⟨some i,H1,I1,.int i t,q⟩
def SlR(X:Cx)(r:V->Option Int->Option Int->Hp->VK->Prop):Prop :=
 ∀(pins:List (Addr×Obj))(s:Shared)(σ:St)(H:Hp)(x:V)(v vl vu:Value)(lo hi:Option Int)(sl:Addr)(Q:VK),Inv X pins σ H s->RelV x v->s.heap.IsSliceOf sl vl vu .none->IsPart vl lo->IsPart vu hi->r x lo hi H Q ->
  ∃ T id,typeLookup (.type T) "__getitem__" = pure (some (.builtin id))/\s.TypeIs v T/\wpAny (model X.prog X.w) X.A (getItem v (.ref sl)) (EP X pins σ Q) X.xe s
def tSl(r:V->Option Int->Option Int->Hp->VK->Prop)(te:TE)(tl th:TO):TE:=fun σ H Q=>te σ H fun x H1=>tl σ H1 fun l H2=>th σ H2 fun u H3=>r x l u H3 Q
theorem gy{r:V->Option Int->Option Int->Hp->VK->Prop}(hr:SlR X r)(he:PE X e te)(hl:PO X lo tl)(hu:PO X hi th):PE X (.Subscript e (.Slice lo hi none p2) pos) (tSl r te tl th):=by
 intro pins s σ H Q I h;refine Subscript_ (thn (he pins s σ H _ I h) fun v s1 ⟨x,H1,I1,r1,q1⟩=>?_);refine wpAny_Slice (thn (hl pins s1 σ H1 _ I1 q1) fun vl s2 ⟨l,H2,I2,pl,q2⟩=>thn (hu pins s2 σ H2 _ I2 q2) fun vu s3 ⟨u,H3,I3,pu,q3⟩=>?_);rw[evalPart_none];refine wpAny_pure ?_;have I4:Inv X pins σ H3 { s3 with heap:=s3.heap.push { cls:=.type "slice",data:=.fields #[vl,vu,.none] } }:=I3.kept (t':=s3.toks) fun b ob q=>Heap.get?_push_of_some _ q;obtain⟨T,id,hT,ht,hg⟩:=hr pins { s3 with heap:=s3.heap.push { cls:=.type "slice",data:=.fields #[vl,vu,.none] } } σ H3 x v vl vu l u s3.heap.objs.size Q I4 r1 (Heap.IsSliceOf.new ..) pl pu q3;show wpAny (model X.prog X.w) X.A (subscriptTail e (.Slice lo hi none p2) v (.ref s3.heap.objs.size)) (EP X pins σ Q) X.xe { s3 with heap:=s3.heap.push { cls:=.type "slice",data:=.fields #[vl,vu,.none] } };exact tail_any (ops:=[.ref s3.heap.objs.size,v]) ht hT hg (by with_unfolding_all rfl)
def cutV(xs:List V)(lo hi:Option Int):List V:=(xs.drop (HT.sIx xs.length 0 lo)).take (HT.sIx xs.length xs.length hi-HT.sIx xs.length 0 lo)
theorem CU(xs:List V)(lo hi:Option Int):(cutV xs lo hi).length<=xs.length:=by
 unfold cutV;rw[Ou,OX];omega
end
def ixN(n:Nat)(i:Int):Option Nat:=if 0<=i then(if i<n then some i.toNat else none) else if -(n:Int)<=i then some (i+n).toNat else none
def atI{α:Type}(xs:List α)(i:Int):Option α:=(ixN xs.length i).bind fun j=>xs[j]?
theorem HW{n:Nat}{i:Int}{j:Nat}(h:ixN n i=some j):seqIndex? i n=some j/\j<n/\-(n:Int)<=i/\i<n:=by
 unfold ixN at h;by_cases h0:0<=i
 ·rw[if_pos h0]at h;by_cases h1:i<n
  ·rw[if_pos h1]at h;have e:i.toNat=j:=Ov h;exact⟨by rw[seqIndex_of h0 h1,e],by omega,by omega,h1⟩
  ·rw[if_neg h1]at h;cases h
 ·rw[if_neg h0]at h;by_cases h1 : -(n:Int)<=i
  ·rw[if_pos h1]at h;have e:(i+n).toNat=j:=Ov h;exact⟨by rw[seqIndex_neg (by omega) h1,e],by omega,h1,by omega⟩
  ·rw[if_neg h1]at h;cases h
theorem IY{α:Type}{xs:List α}{i:Int}{v:α}(h:atI xs i=some v):∃ j,seqIndex? i xs.length=some j/\xs[j]?=some v/\j<xs.length/\-(xs.length:Int)<=i/\i<xs.length:=by
 unfold atI at h
 cases e:ixN xs.length i with
 |none=>rw[e]at h;cases h
 |some j =>
  rw[e]at h;obtain⟨h1,h2,h3,h4⟩:=HW e;exact⟨j,h1,h,h2,h3,h4⟩
theorem aD{α:Type}{xs:List α}{j:Nat}{v:α}(h:xs[j]?=some v):atI xs (j:Int)=some v:=by
 have hj:j<xs.length:=(NP.mp h).1;have e:ixN xs.length (j:Int)=some j:=by
  unfold ixN;rw[if_pos (by omega),if_pos (by omega)];simp
 unfold atI;rw[e];exact h
def NN(b:Expr):Prop:=∀ o i,subscripted b false o i=operate [o,i] (getItem o i)
def IxR(X:Cx)(r:R2):Prop :=
 ∀(value slice:Expr)(pins:List (Addr×Obj))(s:Shared)(σ:St)(H:Hp)(x y:V)(v u:Value)(Q:VK),Inv X pins σ H s->RelV x v->RelV y u->r x y H Q ->
  subscripted slice false v u=operate [v,u] (getItem v u)->wpAny (model X.prog X.w) X.A (subscriptTail value slice v u) (EP X pins σ Q) X.xe s
def MtR(X:Cx)(id:String)(r:V->List V->Hp->VK->Prop):Prop :=
 ∀(pins:List (Addr×Obj))(s:Shared)(σ:St)(H:Hp)(x:V)(xs:List V)(v:Value)(us:List Value)(Q:VK),Inv X pins σ H s->RelV x v->Vals xs us->r x xs H Q ->
  wpAny (model X.prog X.w) X.A (call (.builtin id) (v::us)) (EP X pins σ Q) X.xe s
section
variable{X:Cx}{a b:Expr}{ta tb:TE}{pos:Pos}
theorem aN{r:R2}(hr:IxR X r)(ha:PE X a ta)(hb:PE X b tb)(hs:NN b):PE X (.Subscript a b pos) (tOp r ta tb):=by
 intro pins s σ H Q I h;exact Subscript_ (binT ha hb I h fun v u s2 x y H2 I2 rx ry q=>hr a b pins s2 σ H2 x y v u Q I2 rx ry q (hs _ _))
def rIxL(K:NS):R2:=fun x y H Q=>∃ p xs i v,x=.ref p/\y=.int i/\SqL K H p xs/\atI xs i=some v/\Q v H
def rIxT(K:NS):R2:=fun x y H Q=>∃ p xs i v,x=.ref p/\y=.int i/\SqT K H p xs/\atI xs i=some v/\Q v H
theorem aH:IxR X (rIxL X.K):=by
 intro value slice pins s σ H x y v u Q I rx ry h hs;obtain⟨p,xs,i,z,rfl,rfl,hq,he,q⟩:=h
 cases rx
 obtain⟨t,rfl⟩:=ry;obtain⟨its,r,pl,hz⟩:=I.list hq;obtain⟨j,h1,h2,h3,h4,h5⟩:=IY he;obtain⟨w,ew,rw'⟩:=r.get h2;have hl:=r.length;have hn:=rN;have fin:EP X pins σ Q w s:=⟨z,H,I,rw',q⟩;by_cases h0:0<=i
 ·have hj:i.toNat=j:=by
   rw[seqIndex_of h0 h5]at h1;exact Ov h1
  exact item_listR pl.isList h0 (by omega) (by rw[hj];simpa using ew) fin hs
 ·have hj:(i+(its.toArray.size:Int)).toNat=j:=by
   rw[seqIndex_neg (by omega) h4]at h1
   rw[OC,← hl];exact Ov h1
  exact subscriptTail_builtinR (x:=w) pl.isList.typeIs slot_list_getitem.lookup
   (wpAny_getItem_list_neg (Q:=fun r s'=>r=w/\EP X pins σ Q r s') pl.isList (by omega) (by rw[OC]<;>omega) (by omega) (by rw[hj];simpa using ew) ⟨rfl,fin⟩) hs
theorem bD:IxR X (rIxT X.K):=by
 intro value slice pins s σ H x y v u Q I rx ry h hs;obtain⟨p,xs,i,z,rfl,rfl,hq,he,q⟩:=h
 cases rx
 obtain⟨t,rfl⟩:=ry;obtain⟨its,r,pl,hz⟩:=I.tuple hq;obtain⟨j,h1,h2,h3,h4,h5⟩:=IY he;obtain⟨w,ew,rw'⟩:=r.get h2;have hl:=r.length;have hn:=rN;have fin:EP X pins σ Q w s:=⟨z,H,I,rw',q⟩;exact subscriptTail_builtinR (x:=w) pl.typeIs slot_tuple_getitem.lookup
  (getItem_tuple (j:=j) (Q:=fun r s'=>r=w/\EP X pins σ Q r s') pl (by omega) (by omega) (by rw[OC,← hl];exact h1) (by simpa using ew) ⟨rfl,fin⟩) hs
theorem Fl(its:List Value)(n j:Nat)(u:Value):Obj.mapSeq (·.setIfInBounds j u) { cls:=.type "list",data:=.seq its.toArray n }={ cls:=.type "list",data:=.seq (its.set j u).toArray n }:=by
 simp[Obj.mapSeq]
theorem Inv.lst{pins:List (Addr×Obj)}{σ:St}{H:Hp}{s:Shared}{p:Addr}{xs:List V}(I:Inv X pins σ H s)(h:H p=some (.lst xs)) :
  ∃(its:List Value)(n:Nat),Vals xs its/\s.heap.get? p=some { cls:=.type "list",data:=.seq its.toArray n }/\xs.length<=sizeLine:=by
 obtain⟨z,its,n,r,e⟩:=I.hok p _ h;exact⟨its,n,r,e,z⟩
theorem Inv.lstUpd{pins:List (Addr×Obj)}{σ:St}{H:Hp}{s:Shared}{p:Addr}{xs ys:List V}{its its':List Value}{n n':Nat}{f:Obj->Obj}(I:Inv X pins σ H s)(h:H p=some (.lst xs))
  (ho:s.heap.get? p=some { cls:=.type "list",data:=.seq its.toArray n }) (hf:f { cls:=.type "list",data:=.seq its.toArray n }={ cls:=.type "list",data:=.seq its'.toArray n' }) (r:Vals ys its') (hz:ys.length<=sizeLine) (t:Nat) :
  Inv X pins σ (upd H p (.lst ys)) { s with heap:=s.heap.update p f,toks:=t }:=by
 have e:(s.heap.update p f).get? p=some { cls:=.type "list",data:=.seq its'.toArray n' }:=by
  rw[Heap.get?_update_self f ho (by rw[hf]<;>rfl),hf]
 refine I.write (x:=p) (e:=p) (by rw[h];trivial) (.inl rfl) (fun b u hb q=>(Heap.get?_update_other _ _ (Ne.symm hb)).trans q) ⟨_,e⟩ ?_
 exact⟨hz,its',n',r,e⟩
def rSetL:V->V->V->Hp->(Hp->Prop)->Prop:=fun o i v H Q=>∃ p xs k j,o=.ref p/\i=.int k/\H p=some (.lst xs)/\ixN xs.length k=some j/\Q (upd H p (.lst (xs.set j v)))
theorem mJ:PSet X rSetL:=by
 intro pins s σ H o i v ov iv u Q I ro ri rv h;obtain⟨p,xs,k,j,rfl,rfl,hp,hj,q⟩:=h
 cases ro
 obtain⟨t,rfl⟩:=ri;obtain⟨its,n,r,ho,hz⟩:=I.lst hp;obtain⟨h1,h2,h3,h4⟩:=HW hj;have hl:=r.length;have hn:=rN;have I':Inv X pins σ (upd H p (.lst (xs.set j v))) { s with heap:=s.heap.update p (Obj.mapSeq (·.setIfInBounds j u)) } :=
  I.lstUpd hp ho (Fl its n j u) (r.set rv j) (by rw[OT];exact hz) s.toks
 by_cases h0:0<=k
 ·have hk:k.toNat=j:=by
   rw[seqIndex_of h0 h4]at h1;exact Ov h1
  exact PySem.W.ki_setAt ho h0 (by omega) (by rw[OC,← hl];exact h4) (by rw[hk];exact⟨_,I',q⟩)
 ·have hk:(k+(its.toArray.size:Int)).toNat=j:=by
   rw[seqIndex_neg (by omega) h3]at h1
   rw[OC,← hl];exact Ov h1
  exact PySem.W.ki_setBack ho (by omega) (by rw[OC,← hl];exact h3) (by omega) (by rw[hk];exact⟨_,I',q⟩)
theorem yg(lo hi:Option Int)(n:Nat):(sliceBounds lo hi none n).1=((HT.sIx n 0 lo:Nat):Int)/\(sliceBounds lo hi none n).2.1=((HT.sIx n n hi:Nat):Int)/\(sliceBounds lo hi none n).2.2=1:=by
 refine⟨?_,?_,rfl⟩
 ·cases lo with
  |none=>simp[sliceBounds,HT.sIx]
  |some i =>
   simp only[sliceBounds,HT.sIx,Option.getD_none,show(1:Int) > 0 by decide,if_true]
   by_cases h:i<0
   ·simp only[h,if_true]<;>omega
   ·simp only[h,if_false]<;>omega
 ·cases hi with
  |none=>simp[sliceBounds,HT.sIx]
  |some i =>
   simp only[sliceBounds,HT.sIx,Option.getD_none,show(1:Int) > 0 by decide,if_true]
   by_cases h:i<0
   ·simp only[h,if_true]<;>omega
   ·simp only[h,if_false]<;>omega
theorem vz(its:List Value)(lo hi:Option Int):slicePick its.toArray lo hi none=((its.drop (HT.sIx its.length 0 lo)).take (HT.sIx its.length its.length hi-HT.sIx its.length 0 lo)).toArray:=by
 obtain⟨h1,h2,h3⟩:=yg lo hi its.toArray.size;unfold slicePick;rw[h1,h2,h3];simp only[sliceRange_one,pick_run,OC]<;>rfl
def rSlL(K:NS):V->Option Int->Option Int->Hp->VK->Prop:=fun x lo hi H Q=>∃ a xs,x=.ref a/\SqL K H a xs/\∀ p,H p=none->Q (.ref p) (upd H p (.lst (cutV xs lo hi)))
theorem jn:SlR X (rSlL X.K):=by
 intro pins s σ H x v vl vu lo hi sl Q I rx hs pl pu h;obtain⟨a,xs,rfl,hx,q⟩:=h
 cases rx
 obtain⟨its,r,ht,hz⟩:=I.list hx;have hlen:=r.length;refine⟨"list",_,slot_list_getitem.lookup,ht.isList.typeIs,?_⟩;refine wpAny_getItem_list_slice ht.isList hs pl pu .none (by simp) ?_ (by rw[OC]<;>omega)
 rw[vz,← hlen];refine⟨.ref s.heap.objs.size,_,I.laid (t':=s.toks) (o:=.lst (cutV xs lo hi)) (fun b ob q=>Heap.get?_push_of_some _ q) (NY _) ?_,rfl,q _ (I.hok.fresh (NY _))⟩;exact⟨O6 (CU xs lo hi) hz,_,0,(r.drop (HT.sIx xs.length 0 lo)).take (HT.sIx xs.length xs.length hi-HT.sIx xs.length 0 lo),Heap.get?_push_size _ rfl⟩
def xg:V->Bool
 |.non=>true
 |.bl _=>true
 |.int _=>true
 |.str _=>true
 |_=>false
def eqV:V->V->Bool
 |.non,.non=>true
 |.bl a,.bl b=>a == b
 |.bl a,.int b=>(if a then 1 else 0) == b
 |.int a,.bl b=>a == (if b then 1 else 0)
 |.int a,.int b=>a == b
 |.str a,.str b=>a == b
 |_,_=>false
theorem eqAt_V{A:Around}{s:Shared}{y x:V}{u v:Value}(ry:RelV y u)(rx:RelV x v)(fy:xg y=true)(fx:xg x=true):SeqAt.EqAt A s u v (eqV y x):=by
 cases y with
 |non =>
  cases ry
  cases x with
  |non=>cases rx;exact SeqAt.EqAt.same _
  |bl b=>cases rx;exact SeqAt.EqAt.none_bool b
  |int b=>obtain⟨t,rfl⟩:=rx;exact SeqAt.EqAt.none_int b t
  |str b=>obtain⟨t,rfl⟩:=rx;exact SeqAt.EqAt.none_str b t
  |_=>exact absurd (show false=true from fx) Ox
 |bl a =>
  cases ry
  cases x with
  |non=>cases rx;exact SeqAt.EqAt.bool_none a
  |bl b=>cases rx;exact SeqAt.EqAt.bool_bool a b
  |int b=>obtain⟨t,rfl⟩:=rx;exact SeqAt.EqAt.bool_int a b t
  |str b=>obtain⟨t,rfl⟩:=rx;exact SeqAt.EqAt.bool_str a b t
  |_=>exact absurd (show false=true from fx) Ox
 |int a =>
  obtain⟨t',rfl⟩:=ry
  cases x with
  |non=>cases rx;exact SeqAt.EqAt.int_none a t'
  |bl b=>cases rx;exact SeqAt.EqAt.int_bool a t' b
  |int b=>obtain⟨t,rfl⟩:=rx;exact SeqAt.EqAt.int_int a t' b t
  |str b=>obtain⟨t,rfl⟩:=rx;exact SeqAt.EqAt.int_str a t' b t
  |_=>exact absurd (show false=true from fx) Ox
 |str a =>
  obtain⟨t',rfl⟩:=ry
  cases x with
  |non=>cases rx;exact SeqAt.EqAt.str_none a t'
  |bl b=>cases rx;exact SeqAt.EqAt.str_bool a t' b
  |int b=>obtain⟨t,rfl⟩:=rx;exact SeqAt.EqAt.str_int a t' b t
  |str b=>obtain⟨t,rfl⟩:=rx;exact SeqAt.EqAt.str_str a t' b t
  |_=>exact absurd (show false=true from fx) Ox
 |_=>exact absurd (show false=true from fy) Ox
def eqU(x:V)(u:Value):Bool:=match u with
 |.none=>eqV .non x
 |.bool b=>eqV (.bl b) x
 |.int i _=>eqV (.int i) x
 |.str z _=>eqV (.str z) x
 |_=>false
theorem LW{x y:V}{u:Value}(r:RelV y u)(f:xg y=true):eqU x u=eqV y x:=by
 cases y with
 |non=>cases r;rfl
 |bl b=>cases r;rfl
 |int i=>obtain⟨t,rfl⟩:=r;rfl
 |str z=>obtain⟨t,rfl⟩:=r;rfl
 |_=>exact absurd (show false=true from f) Ox
theorem Dw{x:V}:∀{xs:List V}{us:List Value},Vals xs us->xs.all xg=true->us.any (eqU x)=xs.any fun y=>eqV y x
 |_,_,.nil,_=>rfl
 |y::xs,u::us,.cons r t,f=>by
  rw[List.all_cons,QH]at f;rw[Qz,Qz,LW r f.1,Dw t f.2]
theorem wD{A:Around}{s:Shared}{x:V}{v:Value}(rx:RelV x v)(fx:xg x=true):∀{xs:List V}{us:List Value},Vals xs us->xs.all xg=true->∀ u∈us,SeqAt.EqAt A s u v (eqU x u)
 |_,_,.nil,_=>fun u hu=>by cases hu
 |y::xs,u::us,.cons r t,f=>fun u' hu=>by
  rw[List.all_cons,QH]at f;rcases NU.mp hu with rfl | hu
  ·rw[LW r f.1];exact eqAt_V r rx f.1 fx
  ·exact wD rx fx t f.2 u' hu
def inV(x:V)(xs:List V):Bool:=xs.any fun y=>eqV y x
def rIn(K:NS)(neg:Bool):R2:=fun x y H Q=>∃ p xs,y=.ref p/\(SqL K H p xs∨SqT K H p xs)/\xg x=true/\xs.all xg=true/\Q (.bl (if neg then !inV x xs else inV x xs)) H
theorem Hn:OpR X (compareOp .In) (rIn X.K false):=by
 intro pins s σ H x y v u Q I rx ry h;obtain⟨p,xs,rfl,hq,fx,fs,q⟩:=h
 cases ry
 rcases hq with hq | hq
 ·obtain⟨its,r,pl,hz⟩:=I.list hq;refine SeqAt.in_listAt (eqU x) pl.isList (fun w hw=>wD rx fx r fs w (by simpa using hw)) ⟨.bl _,H,I,rfl,?_⟩
  rw[show its.toArray.any (eqU x)=its.any (eqU x) by simp,Dw r fs]
  exact q
 ·obtain⟨its,r,pl,hz⟩:=I.tuple hq;refine SeqAt.in_tupleAt (eqU x) pl (fun w hw=>wD rx fx r fs w (by simpa using hw)) ⟨.bl _,H,I,rfl,?_⟩
  rw[show its.toArray.any (eqU x)=its.any (eqU x) by simp,Dw r fs]
  exact q
theorem ar:jf X (.builtin "len") (fun xs H Q=>∃ p ys,xs = [.ref p]/\(SqL X.K H p ys∨SqT X.K H p ys)/\Q (.int ys.length) H):=by
 intro pins s σ H xs us Q I r h;obtain⟨p,ys,rfl,hq,q⟩:=h;obtain⟨u,rfl,rx⟩:=vi r
 cases rx
 have hn:=rN;rcases hq with hq | hq
 ·obtain⟨its,r',pl,hz⟩:=I.list hq;have hlen:=r'.length;exact Calls.call_len_list pl.isList (by simp only[OC]<;>omega) ⟨.int ys.length,H,I.tok _,⟨s.toks+1,by rw[OC,hlen]⟩,q⟩
 ·obtain⟨its,r',pl,hz⟩:=I.tuple hq;have hlen:=r'.length;exact len_tuple pl (by simp only[OC]<;>omega) ⟨.int ys.length,H,I.tok _,⟨s.toks+1,by rw[OC,hlen]⟩,q⟩
theorem gP:jf X (.type "list") (fun xs H Q=>∃ p ys,xs = [.ref p]/\(SqL X.K H p ys∨SqT X.K H p ys)/\∀ l,H l=none->Q (.ref l) (upd H l (.lst ys))):=by
 intro pins s σ H xs us Q I r h;obtain⟨p,ys,rfl,hq,q⟩:=h;obtain⟨u,rfl,rx⟩:=vi r
 cases rx
 have fin:∀(its:List Value),Vals ys its->ys.length<=sizeLine->∀(h':Heap)(c':Nat),(∀ b o',s.heap.get? b=some o'->h'.get? b=some o') ->
   h'.get? s.heap.objs.size=some { cls:=.type "list",dict:=none,data:=.seq its.toArray c',slots:=#[] }->EP X pins σ Q (.ref s.heap.objs.size) { s with heap:=h' }:=fun its r' hz h' c' kp e =>
  ⟨.ref s.heap.objs.size,_,I.laid (t':=s.toks) kp (NY _) (show bN X.prog X.w _ h' _ (.lst ys) from⟨hz,its,c',r',e⟩),rfl,q _ (I.hok.fresh (NY _))⟩
 rcases hq with hq | hq
 ·obtain⟨its,r',pl,hz⟩:=I.list hq;have hlen:=r'.length;obtain⟨o,ho,hc,n,hd⟩:=pl.isList;exact call_list_seq p (.inl rfl) ho hc hd (fun h' c' kp e=>fin its r' hz h' c' kp e) (by simp only[OC]<;>omega)
 ·obtain⟨its,r',pl,hz⟩:=I.tuple hq;have hlen:=r'.length;obtain⟨o,ho,hc,n,hd⟩:=pl;exact call_list_seq p (.inr rfl) ho hc hd (fun h' c' kp e=>fin its r' hz h' c' kp e) (by simp only[OC]<;>omega)
def tyV(K:NS)(T:String)(x:V)(H:Hp):Prop:=match x with
 |.str _=>T = "str"
 |.int _=>T = "int"
 |.ref p=>(T = "list"/\∃ xs,SqL K H p xs)∨(T = "tuple"/\∃ o,K.lookup p=some o/\o.cls=.type "tuple"/\o.dict=none) ∨
   (T = "dict"/\((∃ kvs,H p=some (.dK kvs))∨∃ kvs,H p=some (.dT kvs)))∨(T = "set"/\∃ S n,H p=some (.set S n))
 |_=>False
theorem tyV_is{pins:List (Addr×Obj)}{σ:St}{H:Hp}{s:Shared}{T:String}{x:V}{v:Value}(I:Inv X pins σ H s)(r:RelV x v)(ty:tyV X.K T x H) :
  s.TypeIs v T/\∀ a,v=.ref a->∃ ob,s.heap.get? a=some ob/\ob.dict=none:=by
 cases x with
 |str z =>
  obtain⟨t,rfl⟩:=r
  cases (show T = "str" from ty)
  exact⟨typeIs_str s z t,fun _ e=>nomatch e⟩
 |int i =>
  obtain⟨t,rfl⟩:=r
  cases (show T = "int" from ty)
  exact⟨typeIs_int s i t,fun _ e=>nomatch e⟩
 |ref p =>
  cases r
  rcases ty with⟨rfl,xs,hq⟩ | ⟨rfl,o,hk,hc,hd⟩ | ⟨rfl,hk⟩ | ⟨rfl,S,n,hk⟩
  ·obtain⟨its,_,pl,_⟩:=I.list hq;refine⟨pl.isList.typeIs,fun a e=>?_⟩
   cases e
   obtain⟨o,n,e,c,hd,_⟩:=pl;exact⟨o,e,hd⟩
  ·refine⟨⟨o,I.kIn p o hk,hc⟩,fun a e=>?_⟩
   cases e
   exact⟨o,I.kIn _ o hk,hd⟩
  ·have z:∃ o,s.heap.get? p=some o/\o.ExactDict:=by
    rcases hk with⟨kvs,hk⟩ | ⟨kvs,hk⟩
    ·obtain⟨_,_,_,_,o,_,_,e,ex,_⟩:=I.hok p _ hk;exact⟨o,e,ex⟩
    ·obtain⟨_,_,_,_,o,_,_,e,ex,_⟩:=I.hok p _ hk;exact⟨o,e,ex⟩
   obtain⟨o,e,ex⟩:=z;refine⟨⟨o,e,ex.1⟩,fun a e2=>?_⟩
   cases e2
   exact⟨o,e,ex.2.1⟩
  ·obtain⟨o,_,_,_,e,ex,_⟩:=I.hok p _ hk;refine⟨⟨o,e,ex.1⟩,fun a e2=>?_⟩
   cases e2
   exact⟨o,e,ex.2.1⟩
 |_=>exact False.elim ty
def tBM(K:NS)(T:String)(r:V->List V->Hp->VK->Prop)(to:TE)(t:TA):TE:=fun σ H Q=>to σ H fun x H1=>tyV K T x H1/\t σ H1 fun xs H2=>r x xs H2 Q
variable{o e:Expr}{es:List Expr}{to:TE}{t:TA}{name:Str}{apos cpos:Pos}{T id:String}{r:V->List V->Hp->VK->Prop}
theorem iF(pa:PlainAttrs T)(slot:Slot T name id) (hty:typeOf (.builtin id)=pure (.type "method_descriptor")) (hm:MtR X id r) (ho:PE X o to) (ha:PA X (e::es) t)
  (hbase:attributeBase o name X.env (eval o X.env)=eval o X.env:=by rfl)
  (hfew:((backTo cpos (starEach (e::es) X.env)).all (fun x=>!x.1)&&(backToKw cpos (keywordEach [] X.env)).all (fun x=>x.1.isSome)
   && decide ((e::es).length+([]:List Keyword).length+(if([]:List Keyword).isEmpty then 0 else 1)<30))=true:=by rfl)
  (hline:(apos.endLine == cpos.line)=true:=by rfl) (hs:starEach (e::es) X.env=(false,eval e X.env)::starEach es X.env:=by rfl) (hplain:(backTo cpos (starEach es X.env)).any (·.1)=false:=by rfl) :
  PE X (.Call (.Attribute o name apos) (e::es) [] cpos) (tBM X.K T r to t):=by
 intro pins s σ H Q I h;refine wpAny_Call_method_late hbase hfew hline rfl (thn (ho pins s σ H _ I h) fun v s1 ⟨x,H1,I1,r1,ty,q1⟩=>?_);obtain⟨h1,h2⟩:=tyV_is I1 r1 ty;refine⟨T,id,pa,slot,hty,h1,h2,?_⟩;have hA:=ha cpos pins s1 σ H1 _ I1 q1;rw[hs]at hA ⊢;refine Calls.callWith_builtin (by show(false||(backTo cpos (starEach es X.env)).any (·.1))=false;rw[hplain]<;>rfl) (Calls.evalArgs_plain ?_)
 exact thn hA fun us s2 ⟨vs,H2,I2,r2,q2⟩=>hm pins s2 σ H2 x vs v us Q I2 r1 r2 q2
end
def MtM(X:Cx)(id:String)(r:V->List V->Hp->VK->Prop):Prop :=
 ∀(pins:List (Addr×Obj))(s:Shared)(σ:St)(H:Hp)(x:V)(xs:List V)(v:Value)(us:List Value)(Q:VK),Inv X pins σ H s->RelV x v->Vals xs us->r x xs H Q ->
  wpAny (model X.prog X.w) X.A (call (.builtin id) (v::us)) (EP X pins σ Q) X.xe s
theorem Vals.one:∀{x:V}{us:List Value},Vals [x] us->∃ u,us = [u]/\RelV x u
 |_,_,.cons r .nil=>⟨_,rfl,r⟩
theorem Vals.two:∀{x y:V}{us:List Value},Vals [x,y] us->∃ u v,us = [u,v]/\RelV x u/\RelV y v
 |_,_,_,.cons r (.cons q .nil)=>⟨_,_,rfl,r,q⟩
theorem Vals.reverse{xs:List V}{us:List Value}(h:Vals xs us):Vals xs.reverse us.reverse:=by
 induction h with
 |nil=>exact .nil
 |cons r t ih=>rw[List.reverse_cons,List.reverse_cons];exact Vals.append ih (.cons r .nil)
section
variable{X:Cx}{pins:List (Addr×Obj)}{σ:St}{H:Hp}{s:Shared}{l b:Addr}{xs ys zs:List V}
theorem Inv.lset{its its':List Value}{n:Nat}{f:Array Value->Array Value}{t':Nat}(I:Inv X pins σ H s)(hH:H l=some (.lst xs))
  (e:s.heap.get? l=some { cls:=.type "list",data:=.seq its.toArray n }) (hf:f its.toArray=its'.toArray) (hv:Vals ys its') (hz:ys.length<=sizeLine) :
  Inv X pins σ (upd H l (.lst ys)) { s with heap:=s.heap.update l (Obj.mapSeq f),toks:=t' }:=by
 have q:=PySem.IsL.update e f;rw[hf]at q;refine I.write (x:=l) (e:=l) (by rw[hH];exact trivial) (.inl rfl) (fun b' u hb hu=>(Heap.get?_update_other s.heap (Obj.mapSeq f) (Ne.symm hb)).trans hu) ⟨_,q⟩ ?_
 exact⟨hz,its',_,hv,q⟩
theorem Inv.lnew{its:List Value}{t':Nat}(I:Inv X pins σ H s)(hv:Vals ys its)(hz:ys.length<=sizeLine) :
  Inv X pins σ (upd H s.heap.objs.size (.lst ys)) { s with heap:=s.heap.push { cls:=.type "list",data:=.seq its.toArray },toks:=t' } :=
 I.laid (fun _ _ q=>Heap.get?_push_of_some _ q) (NY _) ⟨hz,its,0,hv,Heap.get?_push_size _ rfl⟩
theorem Inv.fresh(I:Inv X pins σ H s):H s.heap.objs.size=none:=I.hok.fresh (NY _)
theorem Inv.lstM(I:Inv X pins σ H s)(hH:H l=some (.lst xs)):xs.length<=sizeLine/\∃(its:List Value)(n:Nat),Vals xs its/\xs.length=its.length/\s.heap.get? l=some { cls:=.type "list",data:=.seq its.toArray n }:=by
 obtain⟨z,its,n,r,e⟩:=I.hok l _ hH;exact⟨z,its,n,r,r.length,e⟩
end
section
variable{X:Cx}
def MD:V->List V->Hp->VK->Prop:=fun x vs H Q=>∃ l xs y,x=.ref l/\vs = [y]/\H l=some (.lst xs)/\xs.length<sizeLine/\Q .non (upd H l (.lst (xs++[y])))
theorem bx:MtM X "list.append" MD:=by
 intro pins s σ H x vs v us Q I rx rv h;obtain⟨l,xs,y,rfl,rfl,hH,hz,q⟩:=h
 cases rx
 obtain⟨u,rfl,ru⟩:=rv.one;obtain⟨z,its,n,r,hl,e⟩:=I.lstM hH;refine call_meets F.slot_list_append ⟨_,e,rfl⟩ F.entry_list_append (F.args_list_append_2 _ _) (PySem.list_append l its.toArray n u (by rw[OC];omega)) ⟨e,?_⟩
 refine⟨.non,_,I.lset (its':=its++[u]) hH e (by simp) (r.append (.cons ru .nil)) ?_,rfl,q⟩
 rw[NT,Of];omega
def rCat:R2:=fun x y H Q=>∃ l b xs zs,x=.ref l/\y=.ref b/\H l=some (.lst xs)/\H b=some (.lst zs)/\xs.length+zs.length<=sizeLine/\∀ p,H p=none->Q (.ref p) (upd H p (.lst (xs++zs)))
theorem op_cat:OpR X (binaryOp .Add) rCat:=by
 intro pins s σ H x y v u Q I rx ry h;obtain⟨l,b,xs,zs,rfl,rfl,hH,hB,hz,q⟩:=h
 cases rx
 cases ry
 obtain⟨z,its,n,r,hl,e⟩:=I.lstM hH;obtain⟨z2,its2,n2,r2,hl2,e2⟩:=I.lstM hB;refine PySem.P.add_list e e2 ?_ (by rw[OC,OC];omega)
 have ea:its.toArray++its2.toArray=(its++its2).toArray:=by simp
 rw[ea];exact⟨.ref _,_,I.lnew (t':=s.toks) (r.append r2) (by rw[NT];omega),rfl,q _ I.fresh⟩
end
section
variable{prog:Program}{w:World}{A:Around}{E:Value->Shared->Prop}{s:Shared}
end
section
variable{X:Cx}
end
end L2
namespace Att
open PySem PySem.W PySem.Calls PyProof.Rows
theorem sj{P:Params}{h:Heap}:∀(ns:List Int)(vs:List Value),WellAll P h vs (ns.map WData.int)->IntsAre vs ns:=by
 intro ns;induction ns with
 |nil =>
  intro vs w;rw[List.map_nil]at w
  cases w
  exact .nil
 |cons n ns ih =>
  intro vs w;rw[OW]at w
  cases w with
  |cons a b =>
   cases a
   exact .cons _ _ (ih _ b)
theorem GV{l:OpenLaw}{n:Nat}(hn:l.most=some n){P:Params}{h:Heap}{args:List WData}{vals:List Value}
  (hpre:l.row.toRowW.claim.pre args=true) (hwl:WellAll P h vals args) :
  ∃ a vs ns,vals = [Value.ref a]/\args = [WData.list (ns.map WData.int)]/\h.get? a=some { cls:=.type "list",data:=.seq vs.toArray }/\IntsAre vs ns/\ns.length<=n:=by
 have hsh:WShape.hasAll [] args [.list .int]=true:=(pre_splitW hpre).1;have hc:l.pre.holds [] { args:=args }=true:=(pre_splitW hpre).2;obtain⟨d,r,rfl,h1,h2⟩:=hasAllW_cons hsh;obtain rfl:=hasAllW_nil h2;obtain⟨xs,rfl,h3⟩:=hasW_list h1;obtain⟨ns,rfl⟩:=items_int h3;have hlen:ns.length<=n:=by
  unfold OpenLaw.pre at hc;have h4:(WTm.not (.lt (.lit (.int (n:Int))) (.len (.arg 0)))).holds [] { args:=[.list (ns.map .int)] }=true:=by
   have h4:=(holds_andW hc).1;rw[hn]at h4;exact h4
  have h5:=condW_of h4 (w_not (w_lt w_lit (w_len_list (w_arg rfl))));rw[NR]at h5;refine Nat.le_of_not_lt fun q=>?_;have q':(n:Int)<((ns.length:Nat):Int):=by omega
  first
   | (rw[decide_eq_true q']at h5;exact absurd h5 (by decide))
   | (simp at h5;omega)
 cases hwl with
 |cons w1 w2 =>
  cases w2
  cases w1 with
  |list ho hall=>exact⟨_,_,ns,rfl,rfl,ho,sj ns _ hall,hlen⟩
theorem Ha(l:OpenLaw)(args:List WData):l.row.toRowW.claim.post args (.bool true) args=true :=
 postW_of (r:=l.row.toRowW) (X:=(true == true))
  (show WShape.has [] (.bool true) .bool=true by first | rfl | decide | simp[WShape.has,WShape.arms,WShape.armsAll])
  (show(WTm.eq .res (.lit (.bool true))).value [] { args:=args,res:=some (.bool true),after:=args }=some (.bool (true == true)) from w_eq_bool (w_res rfl) w_lit) rfl
theorem attach_call{l:OpenLaw}{n:Nat}{q:Program}{loose:List Str}{XP:(Str->Option Value)->Heap->Prop}{YP:World->Heap->Prop}{d:DefRec}
  (hn:l.most=some n) (hdf:d.params.defaults = [])
  (call:∀(w:World)(s₀ s₁:Shared)(mg mb:Str->Option Value)(fa:Addr)(o:Obj)(pm cd doc:Value)(a:Addr)(vs:List Value)(ns:List Int),
   Ground q loose [] XP w s₀ mg mb s₁.heap->YP w s₁.heap ->
   s₁.heap.get? fa=some o->o.data=.func (docDef d.name d.params d.body d.scope pm cd doc)->s₁.heap.CodeRec cd d.name->mg d.name=some (.ref fa) ->
   s₁.heap.get? a=some { cls:=.type "list",data:=.seq vs.toArray }->IntsAre vs ns->ns.length<=n->s₁.gens=#[] ->
   codeAny (model l.prog w) callerA (.call (.ref fa) ⟨[.ref a],[]⟩) (fun r s'=>r=.ok (.ret (.bool true))/\OldK s₁.heap s'.heap/\s'.os=s₁.os/\AllBare s'.gens) s₁) :
  WalkO q loose XP YP l.row.toRowW d [] (fun f vs=>PySem.call f vs):=by
 intro w s₀ s₁ mg mb G Y fa o pm cd doc dV kV ho hd hcd hD hmg hg args vals as hpre hlay hrd hwl hlo;obtain rfl:dV=.none:=Dflts.none hD hdf;obtain rfl:kV=.none:=Dflts.noKw hD;obtain⟨a,vs,ns,rfl,rfl,hobj,hints,hlen⟩:=GV hn hpre hwl;refine enter_call (codeAny_mono (call w s₀ s₁ mg mb fa o pm cd doc a vs ns G Y ho (fd_plain hd) hcd hmg hobj hints hlen hg) fun r s' hq=>?_);obtain⟨rfl,h2,h3,h4⟩:=hq;exact⟨.inl ⟨.bool true,.bool true,[],rfl,fun _=>rfl,.bool true,Ha l _,fun _=>⟨Q4,fun _ hm=>(nomatch hm)⟩⟩,h2,h3,h4⟩
section
variable{prog:Program}{w:World}{A:Around}{E:Value->Shared->Prop}{s:Shared}{K:Frag}
end
end Att
namespace L2
open PySem PySem.Spec PyProof.Rows
theorem xZ:∀{vs:List Value}{ns:List Int},IntsAre vs ns->Vals (ns.map V.int) vs
 |_,_,.nil=>.nil
 |_,_,.cons n t h=>.cons ⟨t,rfl⟩ (xZ h)
def ow(s:Stmt)(j:Nat):Stmt:=match s with
 |.ClassDef _ _ _ body _ _ _ _ _ _ _=>body.getD j (.Pass ⟨0,0,0,0⟩)
 |_=>.Pass ⟨0,0,0,0⟩
def aC(s:Stmt):Arguments:=match s with
 |.FunctionDef _ a _ _ _ _ _ _ _ _=>a
 |_=>{ posonlyargs:=[],args:=[],vararg:=none,kwonlyargs:=[],kw_defaults:=[],kwarg:=none,defaults:=[] }
def ay(s:Stmt):List Stmt:=match s with
 |.FunctionDef _ _ b _ _ _ _ _ _ _=>b
 |_=>[]
def ah(s:Stmt):Scope:=match s with
 |.FunctionDef _ _ _ _ _ _ sc _ _ _=>sc
 |_=>{ kind:=.function,names:=[],isGenerator:=false,isCoroutine:=false }
abbrev CX0:CXT:=fun _ _ _ _ _ _=>False
abbrev E0:XK:=fun _ _ _=>False
theorem bb{X:Cx}:pI CX0 X E0:=fun _ _ _ _ _ _ _ h=>h.elim
structure Fun(K:NS)(x qual:Str)(st:Stmt)(f:Addr)(fd:FuncData):Prop where
 ex:∃(oc:Value)(od:Option Addr)(kV doc pm:Value)(an:Option Addr)(cdv ct:Value)(osl:Array (Option Value)),
  fd=Oq x qual (aC st) (ay st) (ah st) .none kV doc pm an cdv ct/\K.lookup f=some ⟨oc,od,.func fd,osl⟩/\Oj K cdv qual=true
 kp:Oc K (.ref f)=true
section
variable{P:Program}{w:World}{K:NS}{mg:Str->Option Value}{base:Heap}
theorem Fun.ok{x qual:Str}{st:Stmt}{f:Addr}{fd:FuncData}{N ps:List Str}{k:Nat}{sp:Sp}(F:Fun K x qual st f fd)(S:aA N ps (ah st))(len:∀ vs H Q E,sp vs H Q E->vs.length=ps.length)
  (hbody:∀(cdv:Value)(A:Around)(outer:List Env)(s:Shared)(H:Hp)(vs:List V)(Q:VK)(E:XK),Room k (A.deeper (envOfC qual (ah st) s.heap.objs.size f cdv))->sp vs H Q E ->
   ∃ t,PSs (cxOf CX0 P w K mg base N qual (ah st) f cdv A outer s H E).nox (ay st) t/\t { nx:=fun _ H'=>Q .non H',rt:=Q } (start N vs) H):FnOk P w K mg base CX0 (k+1) f fd ps sp:=by
 obtain⟨oc,od,kV,doc,pm,an,cdv,ct,osl,rfl,lk,hcd⟩:=F.ex;refine K1 lk hcd S len fun A outer s H vs Q E hr hsp=>?_;obtain⟨t,h,q⟩:=hbody cdv A outer s H vs Q E hr hsp;exact⟨t,h.nox,q⟩
theorem Fun.binds{x qual:Str}{st:Stmt}{f:Addr}{fd:FuncData}{ps:List Str}(F:Fun K x qual st f fd)
  (h:∀(kV doc pm:Value)(an:Option Addr)(cdv ct:Value)(us:List Value),us.length=ps.length->bindArgs (Oq x qual (aC st) (ay st) (ah st) .none kV doc pm an cdv ct) ⟨us,[]⟩=pure (ps.zip us)):jg K fd ps []:=by
 obtain⟨oc,od,kV,doc,pm,an,cdv,ct,osl,rfl,lk,hcd⟩:=F.ex;exact .all (h kV doc pm an cdv ct)
theorem aQ{x qual:Str}{st:Stmt}{f:Addr}{oc:Value}{od an:Option Addr}{osl:Array (Option Value)}{kV doc pm cdv ct:Value}(l:K.lookup f=some ⟨oc,od,.func (Oq x qual (aC st) (ay st) (ah st) .none kV doc pm an cdv ct),osl⟩)
  (c:Oj K cdv qual=true) (k:Oc K (.ref f)=true):Fun K x qual st f (Oq x qual (aC st) (ay st) (ah st) .none kV doc pm an cdv ct):=⟨⟨oc,od,kV,doc,pm,an,cdv,ct,osl,rfl,l,c⟩,k⟩
end
theorem FH{A:Around}{k:Nat}(hr:Room k A):A.units+1<cLine:=PU (Nat.add_le_add_left (by decide:1<=64) _) hr.units
theorem au{n:Nat}(h:n<=1000):n<sizeLine:=PU h (by decide)
section
variable{X:Cx}
theorem pv(i:Nat){x:Str}{pos:Pos}(hN:X.N[i]?=some x:=by rfl)(hv:Vis X.env.scope x:=by first | exact Or.inl rfl | exact Or.inr (Or.inl rfl) | exact Or.inr (Or.inr rfl)) (hd:(x == ("__debug__" : Str))=false:=by decide)
  (hcd:(x == ("__classdict__" : Str))=false:=by decide):PE X (.Name x pos) (tVar i):=pe_var hN hv hd hcd
end
theorem iteF{A B:Prop}(h:B):if false=true then A else B:=by
 rw[if_neg Ox];exact h
theorem iteT{A B:Prop}(h:A):if true=true then A else B:=by
 rw[if_pos rfl];exact h
theorem ite2{c A B:Prop} [Decidable c] (h1:c->A) (h2:¬ c->B):if c then A else B:=by
 by_cases h:c
 ·rw[if_pos h];exact h1 h
 ·rw[if_neg h];exact h2 h
theorem iteNS{c A B:Prop} [Decidable c] (hc:c) (h:B):if(!decide c)=true then A else B:=by
 rw[decide_eq_true hc];exact iteF h
def Same(H H':Hp):Prop:=∀ b o,H b=some o->H' b=some o
theorem Same.trans{H H1 H2:Hp}(a:Same H H1)(b:Same H1 H2):Same H H2:=fun c o h=>b c o (a c o h)
theorem Same.seq{K:NS}{H H':Hp}{a:Addr}{xs:List V}(e:Same H H')(h:SqL K H a xs):SqL K H' a xs:=by
 rcases h with(h | ⟨o,h⟩) | h
 ·exact .inl (.inl (e _ _ h))
 ·exact .inl (.inr ⟨o,e _ _ h⟩)
 ·exact .inr h
end L2
set_option maxRecDepth 100000
set_option maxHeartbeats 4000000
namespace L2
open PySem PySem.Spec PyProof.Rows
section
variable(P:Program)(w:World)
end
section
variable{P:Program}{w:World}{H H':Hp}{h h':Heap}{a:Addr}{o:HO}
end
section
variable{P:Program}{w:World}{H:Hp}{h h':Heap}{x e:Addr}{o':HO}
end
section
variable{fs fs' ex ex':List Addr}{H H1 H2:Hp}{h h1 h2 h':Heap}{a x e:Addr}{o:HO}
end
section
variable{X:Cx}{pins:List (Addr×Obj)}{σ:List (Option V)}{H H':Hp}{s:Shared}{h':Heap}
end
section
variable{X:Cx}
variable{a b:Expr}{ta tb:TE}{pos:Pos}
variable{tA tB':TT}{rest:List Expr}
end
section
variable{X:Cx}{pins:List (Addr×Obj)}{σ:St}{H:Hp}{s:Shared}{a:Addr}{xs ys:List V}
end
section
variable{X:Cx}{pins:List (Addr×Obj)}{σ:St}{H:Hp}{s:Shared}{E:Value->Shared->Prop}
end
section
variable{X:Cx}{st:Stmt}{rest:List Stmt}{t u:TS}{e:Expr}{te:TE}{pos:Pos}
end
section
variable{X:Cx}{pos:Pos}
end
section
variable{X:Cx}{tg:Expr}
end
section
variable{X:Cx}{a b c:Expr}{ta tb tc:TE}{pos:Pos}
end
section
variable{prog:Program}{w:World}{A:Around}{E:Value->Shared->Prop}{s:Shared}{K:NS}{x dx C f:Addr}{mA:Str->Option Value}{name:Str}{v:Value}
end
section
variable{P:Program}{w:World}{H H':Hp}{h h':Heap}{a C dx:Addr}{fs fs':List (Str×V)}
end
section
variable{X:Cx}{pins:List (Addr×Obj)}{σ:St}{H:Hp}{s:Shared}{a C dx:Addr}{fs:List (Str×V)}{f:Str}{v:V}{A:Around}{E:Value->Shared->Prop}
end
section
variable{X:Cx}{o e value:Expr}{f:Str}{pos pos' tpos:Pos}{ta tv:TE}
end
section
variable{X:Cx}{pins:List (Addr×Obj)}{σ:St}{H:Hp}{s:Shared}{A:Around}{E:Value->Shared->Prop}{Q:Value->Shared->Prop}{c:Value}{b:Bool}
end
section
variable{X:Cx}{e:Expr}{es:List Expr}{te:TE}{t:TA}{pos:Pos}
end
section
variable{X:Cx}{pins:List (Addr×Obj)}{σ:St}{H:Hp}{s s':Shared}
end
section
variable{X:Cx}{CX:CXT}{k:Nat}{f C:Addr}{fd:FuncData}{ps:List Str}{sp:Sp}{dvs:List V}{ds:List Value}{E:XK}{x m:Str}{p pos apos:Pos}{e o:Expr}{es:List Expr}{ta:TE}{t:TA}
end
section
variable{X:Cx}{CX:CXT}{k:Nat}{f C:Addr}{fd:FuncData}{ps ks:List Str}{sp:Sp}{E:XK}{x m:Str}{p pos apos kpos:Pos}{e o:Expr}{es:List Expr}{kws:List Keyword}{te ta:TE}{t tk:TA}{nm:Option Str}
variable{g:List Value->List Value->List Value}{gV:List V->List V->List V}
end
section
variable{X:Cx}{x:Str}{p pos:Pos}{e:Expr}{es:List Expr}{t:TA}{id T:String}{r:List V->Hp->VK->Prop}
end
section
variable{κ:Type} [DecidableEq κ]
def valV(kvs:List (κ×V))(k:κ):Option V:=(kvs.find? fun kv=>decide (kv.1=k)).map (·.2)
def putK(kvs:List (κ×V))(k:κ)(v:V):List (κ×V) :=
 if(kvs.any fun kv=>decide (kv.1=k))=true then kvs.map (fun kv=>if kv.1=k then(kv.1,v) else kv) else kvs++[(k,v)]
theorem c8{p:κ×V}{r:List (κ×V)}{k:κ}(e:p.1=k):valV (p::r) k=some p.2:=by simp[valV,Qn,e]
theorem c9{p:κ×V}{r:List (κ×V)}{k:κ}(e:¬ p.1=k):valV (p::r) k=valV r k:=by simp[valV,Qn,e]
theorem j8(k:κ):∀ kvs:List (κ×V),(kvs.any fun kv=>decide (kv.1=k))=(valV kvs k).isSome
 |[]=>rfl
 |p::r=>by
  rw[Qz];by_cases e:p.1=k
  ·simp only[c8 e,decide_eq_true e,Bool.true_or,Option.isSome_some]
  ·rw[c9 e,decide_eq_false e,Bool.false_or];exact j8 k r
theorem DO(k j:κ)(y:V):∀ kvs:List (κ×V),valV (kvs.map fun kv=>if kv.1=k then(kv.1,y) else kv) j=(valV kvs j).map fun x=>if j=k then y else x
 |[]=>rfl
 |p::r=>by
  have ih:=DO k j y r;rw[OW];by_cases h:p.1=k
  ·rw[if_pos h];by_cases e:p.1=j
   ·rw[c8 (p:=(p.1,y)) e,c8 e,Ra,if_pos (e.symm.trans h)]
   ·rw[c9 (p:=(p.1,y)) e,c9 e,ih]
  ·rw[if_neg h];by_cases e:p.1=j
   ·rw[c8 (p:=p) e,c8 e,Ra,if_neg (fun z=>h (e.trans z))]
   ·rw[c9 (p:=p) e,c9 e,ih]
theorem x8(k j:κ)(y:V):∀ kvs:List (κ×V),valV kvs k=none->valV (kvs++[(k,y)]) j=if j=k then some y else valV kvs j
 |[],_=>by
  by_cases e:k=j
  ·rw[if_pos e.symm];exact c8 (p:=(k,y)) e
  ·rw[if_neg (fun z=>e z.symm)];exact c9 (p:=(k,y)) e
 |p::r,hn=>by
  rw[PY];have hk:¬ p.1=k:=fun z=>by rw[c8 z]at hn;cases hn
  rw[c9 hk]at hn;have ih:=x8 k j y r hn;by_cases e:p.1=j
  ·rw[c8 e,c8 e,if_neg (fun z=>hk (e.trans z))]
  ·rw[c9 e,c9 e,ih]
theorem vj(kvs:List (κ×V))(k j:κ)(y:V):valV (putK kvs k y) j=if j=k then some y else valV kvs j:=by
 unfold putK;by_cases a:(kvs.any fun kv=>decide (kv.1=k))=true
 ·rw[if_pos a,DO];rw[j8]at a;by_cases e:j=k
  ·obtain⟨x,hx⟩:=Sb.mp a;rw[if_pos e,e,hx,Ra,if_pos rfl]
  ·rw[if_neg e]
   cases valV kvs j with
   |none=>rfl
   |some x=>rw[Ra,if_neg e]
 ·rw[if_neg a];refine x8 k j y kvs ?_;rw[j8]at a
  cases q:valV kvs k with
  |none=>rfl
  |some x=>rw[q]at a;exact(a rfl).elim
theorem fH(kvs:List (κ×V))(k:κ)(v:V):(putK kvs k v).length<=kvs.length+1:=by
 unfold putK;split
 ·rw[NR];omega
 ·rw[NT,OJ,Qb];omega
theorem JG{kvs:List (κ×V)}{k:κ}(v:V)(h:valV kvs k=none):putK kvs k v=kvs++[(k,v)]:=by
 unfold putK;rw[j8,h];exact if_neg (by decide)
theorem RelO.isSome_eq{o:Option V}{u:Option Value}(r:RelO o u):o.isSome=u.isSome:=by
 cases o with
 |none=>cases u with
  |none=>rfl
  |some _=>exact(show False from r).elim
 |some _=>cases u with
  |none=>exact(show False from r).elim
  |some _=>rfl
theorem KV.val{kvs:List (κ×V)}{vs:List (κ×Value)}(r:KV kvs vs)(k:κ):RelO (valV kvs k) (valueAt vs k):=by
 unfold KV at r;induction r with
 |nil=>exact True.intro
 | @cons p q ps qs h t ih =>
  obtain⟨h1,h2⟩:=h;by_cases e:p.1=k
  ·have e':q.1=k:=h1.symm.trans e
   have b:valueAt (q::qs) k=some q.2:=by simp[valueAt,Qn,e']
   rw[c8 e,b];exact h2
  ·have e':¬ q.1=k:=fun z=>e (h1.trans z)
   have b:valueAt (q::qs) k=valueAt qs k:=by simp[valueAt,Qn,e']
   rw[c9 e,b];exact ih
theorem KV.any{kvs:List (κ×V)}{vs:List (κ×Value)}(r:KV kvs vs)(k:κ):(kvs.any fun kv=>decide (kv.1=k))=vs.any fun kv=>decide (kv.1=k):=by
 unfold KV at r;induction r with
 |nil=>rfl
 |cons h t ih=>rw[Qz,Qz,ih,h.1]
theorem KV.repl{kvs:List (κ×V)}{vs:List (κ×Value)}(r:KV kvs vs)(k:κ){y:V}{u:Value}(ry:RelV y u) :
  KV (kvs.map fun kv=>if kv.1=k then(kv.1,y) else kv) (vs.map fun kv=>if kv.1=k then(kv.1,u) else kv):=by
 unfold KV at r ⊢;induction r with
 |nil=>exact .nil
 | @cons p q ps qs h t ih =>
  rw[OW,OW];refine .cons ?_ ih;obtain⟨h1,h2⟩:=h;by_cases e:p.1=k
  ·rw[if_pos e,if_pos (h1.symm.trans e)];exact⟨h1,ry⟩
  ·rw[if_neg e,if_neg (fun z=>e (h1.trans z))];exact⟨h1,h2⟩
theorem KV.put{kvs:List (κ×V)}{vs:List (κ×Value)}(r:KV kvs vs)(k:κ){y:V}{u:Value}(ry:RelV y u):KV (putK kvs k y) (stored vs k u):=by
 unfold putK stored;rw[r.any k];by_cases e:(vs.any fun kv=>decide (kv.1=k))=true
 ·rw[if_pos e,if_pos e];exact r.repl k ry
 ·rw[if_neg e,if_neg e];exact Paired.snoc r ⟨rfl,ry⟩
theorem KV.length{kvs:List (κ×V)}{vs:List (κ×Value)}(r:KV kvs vs):kvs.length=vs.length:=Paired.length r
end
theorem FF{P:Program}{w:World}{k:Key}{u:Value}(r:RelV (kV k) u):(cj P w).is k u=true:=by
 cases k with
 |inl i=>obtain⟨t,e⟩:=(show ∃ t,u=Value.int i t from r);subst e;exact B7 P w i t
 |inr x=>obtain⟨t,e⟩:=(show ∃ t,u=Value.str x t from r);subst e;exact B6 P w x t
theorem zI{P:Program}{w:World}:∀{ks:List Key}{us:List Value},Vals (ks.map kV) us->ItemsAre (cj P w) ks us
 |[],_,r=>by rw[List.map_nil]at r;cases r;exact .nil
 |k::ks,_,r=>by
  rw[OW]at r
  cases r with
  |cons h t=>exact .cons (FF h) (zI t)
abbrev KT(H:Hp):List (List Key×V)->List (List Key×Addr×Value)->Prop:=Paired fun p q=>p.1=q.1/\H q.2.1=some (.tup (p.1.map kV))/\RelV p.2 q.2.2
theorem KT.val{H:Hp}{kvs:List (List Key×V)}{xs:List (List Key×Addr×Value)}(r:KT H kvs xs)(k:List Key):RelO (valV kvs k) ((atKey xs k).map (·.2)):=by
 induction r with
 |nil=>exact True.intro
 | @cons p q ps qs h t ih =>
  obtain⟨h1,_,h2⟩:=h;by_cases e:p.1=k
  ·have e':q.1=k:=h1.symm.trans e
   have b:atKey (q::qs) k=some q.2:=by simp[atKey,Qn,e']
   rw[c8 e,b];exact h2
  ·have e':¬ q.1=k:=fun z=>e (h1.trans z)
   have b:atKey (q::qs) k=atKey qs k:=by simp[atKey,Qn,e']
   rw[c9 e,b];exact ih
theorem KT.repl{H:Hp}{kvs:List (List Key×V)}{xs:List (List Key×Addr×Value)}(r:KT H kvs xs)(k:List Key){y:V}{u:Value}(ry:RelV y u) :
  KT H (kvs.map fun kv=>if kv.1=k then(kv.1,y) else kv) (xs.map (putAt k u)):=by
 induction r with
 |nil=>exact .nil
 | @cons p q ps qs h t ih =>
  rw[OW,OW];refine .cons ?_ ih;obtain⟨h1,h2,h3⟩:=h;unfold putAt;by_cases e:p.1=k
  ·rw[if_pos e,if_pos (h1.symm.trans e)];exact⟨h1,h2,ry⟩
  ·rw[if_neg e,if_neg (fun z=>e (h1.trans z))];exact⟨h1,h2,h3⟩
theorem KT.put{H:Hp}{kvs:List (List Key×V)}{xs:List (List Key×Addr×Value)}(r:KT H kvs xs)(k:List Key){b:Addr}{y:V}{u:Value}(hb:H b=some (.tup (k.map kV)))(ry:RelV y u) :
  KT H (putK kvs k y) (storedH xs k b u):=by
 have e:(kvs.any fun kv=>decide (kv.1=k))=(atKey xs k).isSome:=by
  rw[j8,(r.val k).isSome_eq,RH]
 unfold putK storedH;rw[e];by_cases q:(atKey xs k).isSome=true
 ·rw[if_pos q,if_pos q];exact r.repl k ry
 ·rw[if_neg q,if_neg q];exact Paired.snoc r ⟨rfl,hb,ry⟩
theorem KT.keeps{H H':Hp}{kvs:List (List Key×V)}{xs:List (List Key×Addr×Value)}(r:KT H kvs xs)(ht:∀ b ys,H b=some (.tup ys)->H' b=some (.tup ys)):KT H' kvs xs :=
 Paired.mapP r fun _ _ z=>⟨z.1,ht _ _ z.2.1,z.2.2⟩
section
variable{P:Program}{w:World}{H:Hp}{h:Heap}{a:Addr}
theorem rd_of{u:HO}(ok:HOk P w H h)(e:Rd H a u):bN P w H h a u:=e.ok ok
theorem FL{kvs:List (Key×V)}(ok:HOk P w H h)(e:Rd H a (.dK kvs)):kvs.length<=sizeLine/\(a == sysModules)=false/\∃ vs,KV kvs vs/\h.DictOf (cj P w) a vs :=
 show bN P w H h a (.dK kvs) from rd_of ok e
theorem dk_of{kvs:List (Key×V)}(ok:HOk P w H h)(e:H a=some (.dK kvs)):kvs.length<=sizeLine/\(a == sysModules)=false/\∃ vs,KV kvs vs/\h.DictOf (cj P w) a vs:=FL ok (.inl e)
theorem zx{ks:List Key}(ok:HOk P w H h)(e:H a=some (.tup (ks.map kV))):(tupleKind (cj P w)).is h ks a:=by
 obtain⟨_,its,r,o,h1,h2,n,h3⟩:=(show bN P w H h a (.tup (ks.map kV)) from ok a _ e);exact⟨o,its.toArray,n,h1,h2,h3,by simpa using zI r⟩
theorem Iv{kvs:List (List Key×V)}(ok:HOk P w H h)(e:Rd H a (.dT kvs)):kvs.length<=sizeLine/\(a == sysModules)=false /\
  ∃ xs,KT H kvs xs/\h.DictOfH (tupleKind (cj P w)) a xs:=by
 obtain⟨z,y,xs,r,o,es,ep,h1,h2,h3,h4,h5⟩:=(show bN P w H h a (.dT kvs) from rd_of ok e);refine⟨z,y,xs,r,o,es,ep,h1,h2,h3,h4,fun x hx=>?_,h5⟩;have all:∀{l:List (List Key×V)}{m:List (List Key×Addr×Value)},KT H l m->∀ x∈m,(tupleKind (cj P w)).is h x.1 x.2.1:=by
  intro l m q;induction q with
  |nil=>intro x hx;exact nomatch hx
  | @cons p q ps qs hq t ih =>
   intro x hx;rcases NU.mp hx with e | hx
   ·subst e;exact zx ok (by rw[← hq.1];exact hq.2.1)
   ·exact ih x hx
 exact all r x hx
theorem dt_of{kvs:List (List Key×V)}(ok:HOk P w H h)(e:H a=some (.dT kvs)):kvs.length<=sizeLine/\(a == sysModules)=false /\
  ∃ xs,KT H kvs xs/\h.DictOfH (tupleKind (cj P w)) a xs:=Iv ok (.inl e)
end
def DGet(H:Hp)(a:Addr)(y:V)(r:Option V):Prop :=
 (∃ kvs k,Rd H a (.dK kvs)/\y=kV k/\r=valV kvs k)∨∃ kvs k b,Rd H a (.dT kvs)/\y=.ref b/\H b=some (.tup (k.map kV))/\r=valV kvs k
def DPut(H:Hp)(a:Addr)(y v:V)(H':Hp):Prop :=
 (∃ kvs k,H a=some (.dK kvs)/\y=kV k/\kvs.length<sizeLine/\H'=upd H a (.dK (putK kvs k v))) ∨
 ∃ kvs k b,H a=some (.dT kvs)/\y=.ref b/\H b=some (.tup (k.map kV))/\kvs.length<sizeLine/\H'=upd H a (.dT (putK kvs k v))
theorem DGet.k{H:Hp}{a:Addr}{kvs:List (Key×V)}{k:Key}(e:H a=some (.dK kvs)):DGet H a (kV k) (valV kvs k):=.inl ⟨kvs,k,.inl e,rfl,rfl⟩
theorem DPut.k{H:Hp}{a:Addr}{kvs:List (Key×V)}{k:Key}{v:V}(e:H a=some (.dK kvs))(hl:kvs.length<sizeLine):DPut H a (kV k) v (upd H a (.dK (putK kvs k v))):=.inl ⟨kvs,k,e,rfl,hl,rfl⟩
section
variable{X:Cx}{pins:List (Addr×Obj)}{σ:St}{H:Hp}{s:Shared}{a:Addr}{y v:V}{u r:Value}{o:Option V}{A:Around}{E:Value->Shared->Prop}
theorem Inv.big(I:Inv X pins σ H s):sysModules<s.heap.objs.size:=by
 have h:mainGlobals<s.heap.objs.size:=(I.mod.glob.keeps I.bk).lt;exact Qe (by decide) h
theorem ID{Q:Value->Shared->Prop}(hu:A.units+1<cLine)(I:Inv X pins σ H s)(g:DGet H a y (some v))(ry:RelV y u)(h:∀ w' s',Inv X pins σ H s'->RelV v w'->Q w' s') :
  wpAny (model X.prog X.w) A (getItem (.ref a) u) Q E s:=by
 rcases g with⟨kvs,k,e,ey,l⟩ | ⟨kvs,k,b,e,ey,eb,l⟩
 ·subst ey;obtain⟨z,hd,vs,rel,dd⟩:=FL I.hok e;obtain⟨w',hw,rw'⟩:=RelO.some_of (v:=v) (o:=valueAt vs k) (by rw[l];exact rel.val k)
  exact wpAny_getItem_of (FF ry) dd.mapOf hw (h w' _ (I.tok _) rw')
 ·subst ey
  cases (show u=Value.ref b from ry)
  obtain⟨z,hd,xs,rel,dd⟩:=Iv I.hok e;obtain⟨w',hw,rw'⟩:=RelO.some_of (v:=v) (o:=(atKey xs k).map (·.2)) (by rw[l];exact rel.val k)
  obtain⟨p,hp,hp2⟩:=O0.mp hw;refine wpAny_getItem_heap (tupleKind_room_in1 hu) (zx I.hok eb) dd hp ?_;rw[hp2];exact h w' _ (I.tok _) rw'
theorem d_in{Q:Value->Shared->Prop}(hu:A.units+1<cLine)(I:Inv X pins σ H s)(g:DGet H a y o)(ry:RelV y u)(h:∀ s',Inv X pins σ H s'->Q (.bool o.isSome) s') :
  wpAny (model X.prog X.w) A (compareOp .In u (.ref a)) Q E s:=by
 rcases g with⟨kvs,k,e,ey,l⟩ | ⟨kvs,k,b,e,ey,eb,l⟩
 ·subst ey;obtain⟨z,hd,vs,rel,dd⟩:=FL I.hok e;refine wpAny_in_of (FF ry) hd dd.mapOf ?_;rw[← (rel.val k).isSome_eq,← l];exact h _ (I.tok _)
 ·subst ey
  cases (show u=Value.ref b from ry)
  obtain⟨z,hd,xs,rel,dd⟩:=Iv I.hok e;refine wpAny_in_heap (tupleKind_room_in1 hu) (zx I.hok eb) hd dd ?_;have q:=(rel.val k).isSome_eq;rw[RH]at q;rw[← q,← l];exact h _ (I.tok _)
theorem Nw{Q:Value->Shared->Prop}(hu:A.units+1<cLine)(I:Inv X pins σ H s)(g:DGet H a y o)(ry:RelV y u)(h:∀ s',Inv X pins σ H s'->Q (.bool (!o.isSome)) s') :
  wpAny (model X.prog X.w) A (compareOp .NotIn u (.ref a)) Q E s:=by
 rcases g with⟨kvs,k,e,ey,l⟩ | ⟨kvs,k,b,e,ey,eb,l⟩
 ·subst ey;obtain⟨z,hd,vs,rel,dd⟩:=FL I.hok e;refine wpAny_notIn_of (FF ry) hd dd.mapOf ?_;rw[← (rel.val k).isSome_eq,← l];exact h _ (I.tok _)
 ·subst ey
  cases (show u=Value.ref b from ry)
  obtain⟨z,hd,xs,rel,dd⟩:=Iv I.hok e;refine wpAny_notIn_heap (tupleKind_room_in1 hu) (zx I.hok eb) hd dd ?_;have q:=(rel.val k).isSome_eq;rw[RH]at q;rw[← q,← l];exact h _ (I.tok _)
theorem CS{h':Heap}{t':Nat}{ob:HO}(I:Inv X pins σ H s)(mu:Mut (H a))(hs:Heap.SameBut a s.heap h')(he:∃ q,h'.get? a=some q)(new:bN X.prog X.w (upd H a ob) h' a ob) :
  Inv X pins σ (upd H a ob) { s with heap:=h',toks:=t' } :=
 I.write (x:=a) (e:=a) mu (.inl rfl) (fun b q hb z=>(hs.2 b hb).trans z) he new
theorem LX{P:Program}{w:World}{H':Hp}{h':Heap}{kvs:List (Key×V)}{vs:List (Key×Value)}(z:kvs.length<=sizeLine)(hd:(a == sysModules)=false)(rel:KV kvs vs)(dd:h'.DictOf (cj P w) a vs) :
  bN P w H' h' a (.dK kvs):=⟨z,hd,vs,rel,dd⟩
theorem IC{H':Hp}{Q:Unit->Shared->Prop}(hu:A.units+1<cLine)(I:Inv X pins σ H s)(g:DPut H a y v H')(ry:RelV y u)(rv:RelV v r)(h:∀ s',Inv X pins σ H' s'->Q () s') :
  wpAny (model X.prog X.w) A (setItem (.ref a) u r) Q E s:=by
 rcases g with⟨kvs,k,e,ey,l,eH⟩ | ⟨kvs,k,b,e,ey,eb,l,eH⟩
 ·subst ey eH;obtain⟨z,hd,vs,rel,dd⟩:=dk_of I.hok e;have hz:vs.length<=sizeLine:=by rw[← rel.length];exact z
  have hl:(putK kvs k v).length<=sizeLine:=by have:=fH kvs k v;omega
  refine wpAny_setItem_pairs (hsz:=hz) (FF ry) dd fun h' dd' hs=>h _ ?_;have he:∃ q,h'.get? a=some q:=let ⟨q,_,_,hq,_⟩:=dd';⟨q,hq⟩;exact CS I (by rw[e];exact True.intro) hs he (LX hl hd (rel.put k rv) dd')
 ·subst ey eH
  cases (show u=Value.ref b from ry)
  obtain⟨z,hd,xs,rel,dd⟩:=dt_of I.hok e;have hz:xs.length<=sizeLine:=by rw[← Paired.length rel];exact z
  have hl:(putK kvs k v).length<=sizeLine:=by have:=fH kvs k v;omega
  refine wpAny_setItem_heap (hsz:=hz) (tupleKind_room_in1 hu) (zx I.hok eb) dd fun h' dd' hs=>h _ ?_;obtain⟨q,es,ep,hq,h2,h3,h4,_,h5⟩:=dd';refine CS I (by rw[e];exact True.intro) hs ⟨q,hq⟩ ⟨hl,hd,_,(rel.put k eb rv).keeps fun c ys ec=>?_,q,es,ep,hq,h2,h3,h4,h5⟩
  rw[ak (ne_of ec e (fun z=>nomatch z))];exact ec
end
section
variable{X:Cx}{pins:List (Addr×Obj)}{σ:St}{H:Hp}{s:Shared}{a:Addr}{kvs:List (Key×V)}{k:Key}{u:Value}{A:Around}{E:Value->Shared->Prop}
end
def NoSl(i:Expr):Prop:=∀ ov iv,subscripted i false ov iv=operate [ov,iv] (getItem ov iv)
theorem Mq{prog:Program}{w:World}{A:Around}{E:Value->Shared->Prop}{s:Shared}{env:Env}{value slice:Expr}{pos:Pos}{T id:String}{Q:Value->Shared->Prop}
  (hl:typeLookup (.type T) "__getitem__" = pure (some (.builtin id))) (hs:NoSl slice)
  (h:wpAny (model prog w) A (eval value env) (fun o s₁=>wpAny (model prog w) A (eval slice env) (fun i s₂=>s₂.TypeIs o T/\wpAny (model prog w) A (getItem o i) Q E s₂) E s₁) E s) :
  wpAny (model prog w) A (eval (.Subscript value slice pos) env) Q E s:=by
 refine Subscript_ (wpAny_mono h (fun o s₁ h₁=>wpAny_mono h₁ (fun i s₂ h₂=>?_) fun _ _ x=>x) fun _ _ x=>x);obtain⟨hT,h₂⟩:=h₂;unfold subscriptTail;refine wpAny_bind ?_;rw[getitemInPython_of_ne hT.not_modules];refine wpAny_bind (wpAny_specialOf hT hl ?_);have fin:wpAny (model prog w) A (subscripted slice false o i) (fun r s₃=>wpAny (model prog w) A (letTemporaryGo value o r >>= fun _=>pure r) Q E s₃) E s₂:=by
  rw[hs o i];exact wpAny_operating (wpAny_mono h₂ (fun r s₃ h₃=>wpAny_bind (wpAny_letTemporaryGo (wpAny_pure h₃))) fun _ _ x=>x)
 first
  |exact wpAny_pure (wpAny_bind fin)
  |exact wpAny_bind (wpAny_pure (wpAny_bind fin))
  |exact wpAny_bind fin
theorem CJ{X:Cx}{pins:List (Addr×Obj)}{σ:St}{H:Hp}{s:Shared}{a:Addr}{y:V}{o:Option V}(I:Inv X pins σ H s)(g:DGet H a y o):s.TypeIs (.ref a) "dict":=by
 rcases g with⟨kvs,k,e,_,_⟩ | ⟨kvs,k,b,e,_,_,_⟩
 ·obtain⟨_,_,vs,_,dd⟩:=FL I.hok e;exact dd.typeIs
 ·obtain⟨_,_,xs,_,dd⟩:=Iv I.hok e;exact dd.typeIs
def tDGet(td ty:TE):TE:=fun σ H Q=>td σ H fun x H1=>ty σ H1 fun y H2=>∃ a v,x=.ref a/\DGet H2 a y (some v)/\Q v H2
def tDIn(ty td:TE):TE:=fun σ H Q=>ty σ H fun y H1=>td σ H1 fun x H2=>∃ a o,x=.ref a/\DGet H2 a y o/\Q (.bl o.isSome) H2
def Mp(ty td:TE):TE:=fun σ H Q=>ty σ H fun y H1=>td σ H1 fun x H2=>∃ a o,x=.ref a/\DGet H2 a y o/\Q (.bl (!o.isSome)) H2
def sDPut(td ty tv:TE):TS:=fun D σ H=>tv σ H fun v H1=>td σ H1 fun x H2=>ty σ H2 fun y H3=>∃ a H4,x=.ref a/\DPut H3 a y v H4/\D.nx σ H4
section
variable{X:Cx}{o i e value:Expr}{pos pos' tpos:Pos}{td ty tv:TE}
theorem BK(hu:X.A.units+1<cLine)(ho:PE X o td)(hi:PE X i ty)(hs:NoSl i):PE X (.Subscript o i pos) (tDGet td ty):=by
 intro pins s σ H Q I h;refine Mq PySem.F.slot_dict_getitem.lookup hs (thn (ho pins s σ H _ I h) fun u s1 ⟨x,H1,I1,rx,q1⟩=>thn (hi pins s1 σ H1 _ I1 q1) fun iv s2 ⟨y,H2,I2,ry,a,v,ex,g,q2⟩=>?_);subst ex;obtain rfl:u=Value.ref a:=rx;exact⟨CJ I2 g,ID hu I2 g ry fun w' s3 I3 rw'=>⟨v,H2,I3,rw',q2⟩⟩
theorem pc_din(hu:X.A.units+1<cLine)(hi:PE X i ty)(ho:PE X o td):PC X .In i o (tDIn ty td):=by
 intro pins s σ H Q I h;refine thn (hi pins s σ H _ I h) fun iv s1 ⟨y,H1,I1,ry,q1⟩=>thn (ho pins s1 σ H1 _ I1 q1) fun u s2 ⟨x,H2,I2,rx,a,ov,ex,g,q2⟩=>?_;subst ex;obtain rfl:u=Value.ref a:=rx;exact d_in hu I2 g ry fun s3 I3=>⟨.bl ov.isSome,H2,I3,rfl,q2⟩
theorem yQ(hu:X.A.units+1<cLine)(hi:PE X i ty)(ho:PE X o td):PC X .NotIn i o (Mp ty td):=by
 intro pins s σ H Q I h;refine thn (hi pins s σ H _ I h) fun iv s1 ⟨y,H1,I1,ry,q1⟩=>thn (ho pins s1 σ H1 _ I1 q1) fun u s2 ⟨x,H2,I2,rx,a,ov,ex,g,q2⟩=>?_;subst ex;obtain rfl:u=Value.ref a:=rx;exact Nw hu I2 g ry fun s3 I3=>⟨.bl (!ov.isSome),H2,I3,rfl,q2⟩
theorem Bx(hu:X.A.units+1<cLine)(ho:PE X o td)(hi:PE X i ty)(hv:PE X value tv)(hs:swapsWith value (some (.Subscript o i pos')) pos.line X.env=pure false) :
  PS X (.Assign [.Subscript o i pos'] value pos) (sDPut td ty tv):=by
 intro pins s σ H D I h;refine wpAny_Assign_Subscript (thn (hv pins s σ H _ I h) fun r s1 ⟨v,H1,I1,rv,q1⟩=>thn (ho pins s1 σ H1 _ I1 q1) fun u s2 ⟨x,H2,I2,rx,q2⟩=>thn (hi pins s2 σ H2 _ I2 q2) fun iv s3 ⟨y,H3,I3,ry,a,H4,ex,g,q3⟩=>?_) hs;subst ex;obtain rfl:u=Value.ref a:=rx;exact IC hu I3 g ry rv fun s4 I4=>⟨σ,H4,I4,q3⟩
end
theorem Er{P:Program}{w:World}{H:Hp}(h:Heap)(hb:sysModules<h.objs.size):bN P w H (h.push { cls:=.type "dict",data:=.dict #[] }) h.objs.size (.dK []) :=
 ⟨O5 _,beq_eq_false_iff_ne.mpr (Ne.symm (Ot hb)),[],.nil,Heap.DictOf.new h⟩
def tDNewK:TE:=fun _ H Q=>∀ p,H p=none->Q (.ref p) (upd H p (.dK []))
section
variable{X:Cx}{pos:Pos}
theorem D3:PE X (.Dict [] [] pos) tDNewK:=fun pins s σ H Q I h =>
 wpAny_Dict_empty ⟨.ref s.heap.objs.size,_,I.laid (a:=s.heap.objs.size) (o:=.dK []) (t':=s.toks) (fun _ _ q=>Heap.get?_push_of_some _ q) (NY _) (Er s.heap I.big),rfl,h _ (I.hok.fresh (NY _))⟩
end
def GA:List (TE×TE)->St->Hp->(List (V×V)->Hp->Prop)->Prop
 |[],_,H,Q=>Q [] H
 | (tk,tv)::r,σ,H,Q=>tk σ H fun x H1=>tv σ H1 fun y H2=>GA r σ H2 fun ps H3=>Q ((x,y)::ps) H3
abbrev VV:List (V×V)->List (Value×Value)->Prop:=Paired fun p q=>RelV p.1 q.1/\RelV p.2 q.2
def PPs(X:Cx)(pos:Pos)(keys:List (Option Expr))(values:List Expr)(trs:List (TE×TE)):Prop :=
 ∀(pins:List (Addr×Obj))(s:Shared)(σ:St)(H:Hp)(Q:List (V×V)->Hp->Prop),Inv X pins σ H s->GA trs σ H Q ->
  wpAny (model X.prog X.w) X.A (evalPairs (pairTrees keys values X.env pos)) (fun vs s'=>∃ ps H',Inv X pins σ H' s'/\VV ps vs/\Q ps H') X.xe s
theorem MF{X:Cx}{pos:Pos}:PPs X pos [] [] []:=fun pins s σ H Q I h=>pairTrees_nil_walk ⟨[],H,I,.nil,h⟩
theorem JK{X:Cx}{pos:Pos}{k v:Expr}{ks:List (Option Expr)}{vs:List Expr}{tk tv:TE}{trs:List (TE×TE)}(hk:PE X k tk)(hv:PE X v tv)(hr:PPs X pos ks vs trs) :
  PPs X pos (some k::ks) (v::vs) ((tk,tv)::trs):=fun pins s σ H Q I h =>
 pairTrees_cons_walk (thn (hk pins s σ H _ I h) fun u s1 ⟨x,H1,I1,rx,q1⟩=>thn (hv pins s1 σ H1 _ I1 q1) fun w2 s2 ⟨y,H2,I2,ry,q2⟩ =>
  thn (hr pins s2 σ H2 _ I2 q2) fun ws s3 ⟨ps,H3,I3,rel,q3⟩=>⟨(x,y)::ps,H3,I3,.cons ⟨rx,ry⟩ rel,q3⟩)
def pd(kvs more:List (Key×V)):List (Key×V):=more.foldl (fun acc kv=>putK acc kv.1 kv.2) kvs
theorem KV.merge:∀{more:List (Key×V)}{rs:List (Key×Value)}{kvs:List (Key×V)}{vs:List (Key×Value)},KV more rs->KV kvs vs->KV (pd kvs more) (merged vs rs):=by
 intro more rs kvs vs r;unfold KV at r;induction r generalizing kvs vs with
 |nil=>intro q;exact q
 | @cons p q ps qs h t ih =>
  intro r0;have e:KV (putK kvs p.1 p.2) (stored vs q.1 q.2):=by
   have:=r0.put p.1 h.2;rw[← h.1];exact this
  exact ih e
theorem mU:∀(more kvs:List (Key×V)),(pd kvs more).length<=kvs.length+more.length
 |[],kvs=>by show kvs.length<=kvs.length+0;omega
 |p::r,kvs=>by
  have h1:=mU r (putK kvs p.1 p.2);have h2:=fH kvs p.1 p.2;show(pd (putK kvs p.1 p.2) r).length<=_;rw[OJ];omega
theorem uX{P:Program}{w:World}:∀{kvs:List (Key×V)}{ws:List (Value×Value)},VV (kvs.map fun kv=>(kV kv.1,kv.2)) ws->∃ rs,Carries (cj P w) ws rs/\KV kvs rs
 |[],_,r=>by rw[List.map_nil]at r;cases r;exact⟨[],True.intro,.nil⟩
 |p::kvs,_,r=>by
  rw[OW]at r
  cases r with
  | @cons a b as bs h t =>
   obtain⟨rs,c,q⟩:=uX (P:=P) (w:=w) t;obtain⟨b1,b2⟩:=b;exact⟨(p.1,b2)::rs,⟨FF h.1,rfl,c⟩,.cons ⟨rfl,h.2⟩ q⟩
def tDisp(trs:List (TE×TE)):TE:=fun σ H Q=>∀ p,H p=none->GA trs σ (upd H p (.dK [])) fun ps H2=>H2 p=some (.dK [])/\∃ kvs:List (Key×V),ps=kvs.map (fun kv=>(kV kv.1,kv.2))/\kvs.length<=15/\Q (.ref p) (upd H2 p (.dK (pd [] kvs)))
theorem MH{X:Cx}{pos:Pos}{keys:List (Option Expr)}{values:List Expr}{trs:List (TE×TE)}(h:PPs X pos keys values trs)(hall:keys.all (·.isSome)=true)(hl:keys.length=values.length)(h0:keys≠[])
  (h15:keys.length<=15):PE X (.Dict keys values pos) (tDisp trs):=by
 intro pins s σ H Q I q;have hn:=I.hok.fresh (NY s.heap.objs.size);have I1:=I.laid (a:=s.heap.objs.size) (o:=.dK []) (h':=s.heap.push { cls:=.type "dict",data:=.dict #[] }) (t':=s.toks) (fun _ _ q=>Heap.get?_push_of_some _ q) (NY _) (Er s.heap I.big);refine wpAny_Dict_walk (knd:=cj X.prog X.w) hall hl h0 h15 (thn (h pins _ σ _ _ I1 (q _ hn)) fun ws s2 ⟨ps,H2,I2,rel,e,kvs,ep,lk,q2⟩=>?_);subst ep;obtain⟨rs,c,rk⟩:=uX (P:=X.prog) (w:=X.w) rel;obtain⟨z,hd,vs0,r0,dd⟩:=dk_of I2.hok e
 cases r0
 refine⟨rs,c,dd,fun h' dd' hs=>⟨.ref s.heap.objs.size,_,?_,rfl,q2⟩⟩;have hz:(pd [] kvs).length<=sizeLine:=by
  have h1:=mU kvs [];rw[Qb]at h1;rw[sizeLine_eq];omega
 have he:∃ q,h'.get? s.heap.objs.size=some q:=let ⟨q,_,_,hq,_⟩:=dd';⟨q,hq⟩;exact CS I2 (by rw[e];exact True.intro) hs he (LX hz hd (rk.merge .nil) dd')
section
variable{X:Cx}{pins:List (Addr×Obj)}{σ:St}{H:Hp}{s:Shared}{a:Addr}{y d:V}{u r:Value}{o:Option V}{A:Around}{E:Value->Shared->Prop}
end
section
variable{X:Cx}{o e f:Expr}{apos cpos:Pos}{td ty tx:TE}
end
section
variable{X:Cx}{pins:List (Addr×Obj)}{σ:St}{H:Hp}{s:Shared}{a:Addr}{kvs:List (Key×V)}{A:Around}{E:Value->Shared->Prop}
end
section
variable{X:Cx}{pins:List (Addr×Obj)}{σ:St}{H:Hp}{s:Shared}{a:Addr}{y:V}{u:Value}{A:Around}{E:Value->Shared->Prop}
end
end L2
namespace L2
open PySem PySem.Spec PyProof.Rows
section
variable{P:Program}{w:World}{K:NS}{mg:Str->Option Value}{base:Heap}
end
section
variable{X:Cx}
end
section
variable{κ:Type} [DecidableEq κ]
end
def clOf(env:Env)(fr:List (Str×Nat)):List (Str×Addr):=fr.map fun p=>(p.1,(env.cells.lookup p.1).getD 0)
def frOf(fr:List (Str×Nat))(σ:St):St:=fr.map fun p=>(σ[p.2]?).join
def eU(X:Cx)(scope:Scope)(fr:List (Str×Nat))(x:Str)(C:Addr)(ex:List Addr)(s:Shared)(H:Hp):Cx where
 prog:=X.prog
 w:=X.w
 K:=X.K
 mg:=X.mg
 base:=X.base
 A:=X.A
 N:=x::fr.map (·.1)
 s₀:=s
 H₀:=H
 env:=compEnvC scope (clOf X.env fr) C X.env
 outer:=X.stack
 stack:=X.stack
 ex:=ex
 fn:=fun _=>false
 calm:=X.calm
 pn:=[]
 xe:=fun _ _=>False
structure bF(X:Cx)(scope:Scope)(fr:List (Str×Nat))(x:Str):Prop where
 clos:closureFor scope X.env=pure (clOf X.env fr)
 cell:∀ y∈scope.names,y.2≠.cell
 kind:scope.kind=.function
 names:∀ y∈scope.names,y.2=.local->scope.names.lookup y.1=some .local
 xl:scope.names.lookup x=some .local
 nd:(x::fr.map (·.1)).Nodup
 slot:∀ p∈fr,X.N[p.2]?=some p.1/\X.env.kindOf p.1=some .cell
 has:∀ y∈(relabel scope X.env).names,(y.2=.cell∨y.2=.free)->y.1∈fr.map (·.1)
 frk:∀ p∈fr,(relabel scope X.env).names.lookup p.1=some .cell
theorem bF.plain{X:Cx}{scope:Scope}{x:Str}(clos:closureFor scope X.env=pure [])(cell:∀ y∈scope.names,y.2≠.cell)(kind:scope.kind=.function)(names:∀ y∈scope.names,y.2=.local->scope.names.lookup y.1=some .local)
  (hx:scope.names.lookup x=some .local) (nf:∀ y∈scope.names,y.2≠.free):bF X scope [] x where
 clos:=clos
 cell:=cell
 kind:=kind
 names:=names
 xl:=hx
 nd:=by simp
 slot:=fun p hp=>nomatch hp
 has:=fun y hy hk=>by
  obtain⟨⟨n,k⟩,hz,e⟩:=OL.mp (show y∈scope.names.map _ from hy);have h1:=nf _ hz;have h2:=cell _ hz;dsimp only at e h1 h2;have hf:(k == NameKind.free)=false:=by simpa using h1
  rw[hf]at e;simp only[Rw,O2,if_false]at e;subst e;exact(hk.elim h2 h1).elim
 frk:=fun p hp=>nomatch hp
theorem bF.one{X:Cx}{scope:Scope}{x y:Str}{j:Nat}(clos:closureFor scope X.env=pure (clOf X.env [(y,j)]))(cell:∀ y∈scope.names,y.2≠.cell)(kind:scope.kind=.function)(names:∀ y∈scope.names,y.2=.local->scope.names.lookup y.1=some .local)
  (hx:scope.names.lookup x=some .local) (nd:([x,y]:List Str).Nodup) (hN:X.N[j]?=some y) (hk:X.env.kindOf y=some .cell) (nf:∀ z∈scope.names,z.2=.free->z.1=y) (hr:(relabel scope X.env).names.lookup y=some .cell):bF X scope [(y,j)] x where
 clos:=clos
 cell:=cell
 kind:=kind
 names:=names
 xl:=hx
 nd:=nd
 slot:=fun p hp=>by
  have e:p=(y,j):=by simpa using hp
  subst e;exact⟨hN,hk⟩
 has:=fun z hz hk=>by
  obtain⟨⟨n,k⟩,hm,e⟩:=OL.mp (show z∈scope.names.map _ from hz);have h2:=cell _ hm;dsimp only at e h2;have hn:z.1=n:=by rw[← e];split<;>rfl
  have hf:k=.free:=by
   by_cases q:k=.free
   ·exact q
   ·have hb:(k == NameKind.free)=false:=by simpa using q
    rw[hb]at e;simp only[Rw,O2,if_false]at e;subst e;exact(hk.elim h2 q).elim
  have:=nf _ hm hf;rw[hn];simp[← this]
 frk:=fun p hp=>by
  have e:p=(y,j):=by simpa using hp
  subst e;exact hr
theorem gX{env:Env}:∀{fr:List (Str×Nat)}{y:Str}{c:Addr},(clOf env fr).lookup y=some c->y∈fr.map (·.1)/\c=(env.cells.lookup y).getD 0
 |[],_,_,h=>by cases h
 |p::r,y,c,h=>by
  unfold clOf at h;rw[OW,List.lookup_cons]at h
  cases e:y == p.1 with
  |true =>
   rw[e]at h;have ey:y=p.1:=eq_of_beq e
   cases h
   exact⟨by rw[ey];exact Og,by rw[ey]⟩
  |false =>
   rw[e]at h;obtain⟨a,b⟩:=gX (env:=env) (fr:=r) h;exact⟨Oe _ a,b⟩
theorem ck{env:Env}:∀{fr:List (Str×Nat)}{y:Str},y∈fr.map (·.1)->(clOf env fr).lookup y=some ((env.cells.lookup y).getD 0)
 |[],_,h=>by cases h
 |p::r,y,h=>by
  unfold clOf;rw[OW,List.lookup_cons]
  cases e:y == p.1 with
  |true =>
   have ey:y=p.1:=eq_of_beq e;rw[ey]
  |false =>
   have ny:y≠p.1:=fun z=>by rw[z]at e;simp at e
   rcases NU.mp h with z | z
   ·exact absurd z ny
   ·exact ck (env:=env) (fr:=r) z
section
variable{X:Cx}{pins:List (Addr×Obj)}{σ:St}{H:Hp}{s:Shared}{scope:Scope}{fr:List (Str×Nat)}{x:Str}
theorem bF.cells(O:bF X scope fr x)(I:Inv X pins σ H s){y:Str}{c:Addr}(h:(clOf X.env fr).lookup y=some c):X.env.cells.lookup y=some c:=by
 obtain⟨hm,e⟩:=gX h;obtain⟨p,hp,ep⟩:=OL.mp hm;have k:=(O.slot p hp).2;rw[ep]at k;obtain⟨c',e'⟩:=I.ok.has y (.inl k);rw[e']at e;rw[e',e];rfl
theorem KS{fp:List Addr}(O:bF X scope fr x)(I:Inv X pins σ H s)(hf:∀ b∈fp,FpOk X pins H b)(hfs:∀ b∈fp,b<s.heap.objs.size){g h':Heap}{tk:Nat}(hg:g=s.heap.push (LCg.lst []))
  (hk:∀ b o,g.get? b=some o->h'.get? b=some o) (hC:h'.Ns g.objs.size fun _=>none) :
  Inv (eU X scope fr x g.objs.size (s.heap.objs.size::fp) { s with heap:=g } H) (X.pn++pins++[(s.heap.objs.size,LCg.lst [])]) (none::frOf fr σ) H { s with heap:=h',toks:=tk }:=by
 have hsz:g.objs.size=s.heap.objs.size+1:=by rw[hg,Heap.size_push]
 have kp:∀ b o,s.heap.get? b=some o->g.get? b=some o:=fun b o e=>by rw[hg];exact Heap.get?_push_of_some _ e
 have hk0:∀ b o,s.heap.get? b=some o->h'.get? b=some o:=fun b o e=>hk b o (kp b o e);have hDo:h'.get? s.heap.objs.size=some (LCg.lst []):=hk _ _ (by rw[hg];exact Heap.get?_push_size _ rfl)
 have neC:∀ b,b<s.heap.objs.size->b≠g.objs.size:=fun b e=>by rw[hsz];exact Ot (PD e)
 have hDC:s.heap.objs.size≠g.objs.size:=by rw[hsz];exact Ot (O3 _)
 have hfr:H g.objs.size=none:=I.hok.fresh (by rw[hsz];exact Ql _)
 have hfD:H s.heap.objs.size=none:=I.hok.fresh (NY _);have cne:∀ y c,X.env.cells.lookup y=some c->c<s.heap.objs.size:=fun y c e=>by
  obtain⟨v,q⟩:=I.cell y c e;exact q.lt
 have nst:∀ b,b≠X.env.locals->b∉X.fs->b∉frs X.stack:=fun b h1 h2 z=>(NU.mp (I.stkSub b z)).elim h1 h2;have nstD:s.heap.objs.size∉frs X.stack:=nst _ (PR I.lt) (I.nofs (NY _));refine⟨⟨I.ok.mod,O.kind,I.ok.glob,I.ok.blt,NY _,?_,?_,fun _ _ z _=>(by cases z),I.ok.hd,I.ok.frames,.inl rfl,?_,?_,?_,?_,?_,?_,I.stkFree⟩,rfl,I.bare,Un.kept hk,?_,?_,hfr,?_,?_,I.hok.kept hk0,?_⟩
 ·intro y z c h1 h2;exact I.ok.inj y z c (O.cells I h1) (O.cells I h2)
 ·intro y hy;have hm:y∈fr.map (·.1):=by
   rcases hy with hy | hy
   ·exact O.has (y,_) (Pz hy) (.inl rfl)
   ·exact O.has (y,_) (Pz hy) (.inr rfl)
  exact⟨_,ck hm⟩
 ·intro b hb;rcases NU.mp hb with rfl | hb
  ·exact⟨hDC,fun y c e=>Ot (cne y c (O.cells I e))⟩
  ·exact⟨neC b (hfs b hb),fun y c e=>(hf b hb).2.2.2.2.1 y c (O.cells I e)⟩
 ·intro b o e;exact⟨kp b o (I.bs b o e).1,(I.bs b o e).2⟩
 ·show X.base.objs.size<=g.objs.size;rw[hsz];exact Nat.le_succ_of_le (O6 I.ok.bsz I.sz)
 ·intro b o e hb;rcases NU.mp hb with z | hb
  ·have:=Heap.lt_size (I.bs b o e).1
   rw[z]at this;exact Pg _ this
  ·rcases(hf b hb).2.2.2.1 with z | z
   ·exact I.ok.noex b o e z
   ·exact absurd (OO (Heap.lt_size (I.ok.bs b o e).1) z) (Pg _)
 ·intro b hb;rcases NU.mp hb with z | hb
  ·rw[z];exact nstD
  ·exact nst b (hf b hb).2.1 (hf b hb).2.2.1
 ·exact(I.kept (h':=g) (t':=s.toks) kp).stack
 ·refine⟨_,hC,fun i y v e1 e2 e3=>?_⟩
  cases i with
  |zero=>cases e2
  |succ k =>
   have e1':(fr.map (·.1))[k]?=some y:=e1;have e2':(frOf fr σ)[k]?=some (some v):=e2;unfold frOf at e2';rw[NZ]at e1' e2'
   cases q:fr[k]? with
   |none=>rw[q]at e1';cases e1'
   |some p =>
    rw[q]at e1' e2';have ey:p.1=y:=Ov e1';have ev:(σ[p.2]?).join=some v:=Ov e2';have hp:p∈fr:=NV q;obtain⟨hN,hK⟩:=O.slot p hp;have hkk:=O.frk p hp;rw[ey]at hN hK hkk;have ev':σ[p.2]?=some (some v):=by
     cases q2:σ[p.2]? with
     |none=>rw[q2]at ev;cases ev
     |some w=>rw[q2]at ev;exact congrArg some ev
    obtain⟨m,hn,hl⟩:=I.loc;obtain⟨u,r,l⟩:=hl p.2 y v hN ev' (.inr (.inl hK));refine⟨u,r,?_⟩;rcases l with⟨k1,_⟩ | ⟨_,c,ec,z⟩
    ·rw[hK]at k1;cases k1
    ·have hm:y∈fr.map (·.1):=by rw[← ey];exact OL.mpr ⟨p,hp,rfl⟩
     have el:=ck (env:=X.env) hm;rw[ec]at el;exact .inr ⟨.inl hkk,c,el,by obtain⟨o,ho,hd⟩:=z;exact⟨o,hk0 _ _ ho,hd⟩⟩
 ·intro y c e;obtain⟨v,o,ho,hd⟩:=I.cell y c (O.cells I e);exact⟨v,o,hk0 _ _ ho,hd⟩
 ·intro y c e;exact I.freeC y c (O.cells I e)
 ·intro p hp;rcases N0.mp hp with hp | hp
  ·cases hp
  ·rcases N0.mp hp with hp | hp
   ·obtain⟨e,n,ne,nf,d⟩:=I.pin p hp;exact⟨hk0 _ _ e,n,neC _ (Heap.lt_size e),nst _ ne nf,d⟩
   ·have ep:p=(s.heap.objs.size,LCg.lst []):=by simpa using hp
    subst ep;exact⟨hDo,hfD,hDC,nstD,fun v z=>by cases z⟩
 ·show(none::frOf fr σ).length=(x::fr.map (·.1)).length;unfold frOf;simp
theorem zJ{fp:List Addr}{g:Heap}{s':Shared}{H':Hp}{σ':St}{ys:List V}{us:List Value}(I:Inv X pins σ H s)(hf:∀ b∈fp,FpOk X pins H b)(hg:g=s.heap.push (LCg.lst []))
  (J:Inv (eU X scope fr x g.objs.size (s.heap.objs.size::fp) { s with heap:=g } H) (X.pn++pins++[(s.heap.objs.size,LCg.lst us)]) σ' H' s') (hv:Vals ys us) (hl:ys.length<=sizeLine) :
  Inv X pins σ (upd H' s.heap.objs.size (.lst ys)) s'/\H' s.heap.objs.size=none/\FpOk X pins (upd H' s.heap.objs.size (.lst ys)) g.objs.size/\∃ m,s'.heap.Ns g.objs.size m:=by
 have hsz:g.objs.size=s.heap.objs.size+1:=by rw[hg,Heap.size_push]
 have kp:∀ b o,s.heap.get? b=some o->g.get? b=some o:=fun b o e=>by rw[hg];exact Heap.get?_push_of_some _ e
 obtain⟨eD,nD,_,_,_⟩:=J.pin (s.heap.objs.size,LCg.lst us) (by simp)
 have hDC:g.objs.size≠s.heap.objs.size:=by rw[hsz];exact PR (O3 _)
 have nD':∀ b u,H' b=some u->b≠s.heap.objs.size:=fun b u e z=>by rw[z]at e;rw[e]at nD;cases nD
 have hx:∀ b o,s.heap.get? b=some o->b∉fp->b∉s.heap.objs.size::fp:=fun b o e hb z=>by
  rcases NU.mp z with z | z
  ·have:=Heap.lt_size e
   rw[z]at this;exact Pg _ this
  ·exact hb z
 have bU:Un (frs X.stack) (s.heap.objs.size::fp) H H' g s'.heap:=J.base;have ltD:∀ b o,s.heap.get? b=some o->b≠s.heap.objs.size:=fun b o e=>Ot (Heap.lt_size e);have un:Un (frs X.stack) fp H (upd H' s.heap.objs.size (.lst ys)) s.heap s'.heap:=by
  refine⟨fun b o e n hb he=>bU.keep b o (kp b o e) n hb (hx b o e he),fun b o e n hb he=>bU.slot b o (kp b o e) n hb (hx b o e he),fun b o e n he=>?_,fun b o e he=>bU.there b o (kp b o e) (hx b o e he),fun b xs e=>?_,fun b o u e=>?_,fun b ps e=>?_⟩
  ·rw[ak (ltD b o e)];exact bU.free b o (kp b o e) n (hx b o e he)
  ·have q:=bU.tups b xs e
   rw[ak (nD' b _ q)];exact q
  ·have q:=bU.frzs b o u e
   rw[ak (nD' b _ q)];exact q
  ·obtain⟨more,q⟩:=bU.tbls b ps e;exact⟨more,by rw[ak (nD' b _ q)];exact q⟩
 have hok:HOk X.prog X.w (upd H' s.heap.objs.size (.lst ys)) s'.heap:=fun b u e=>by
  by_cases hb:b=s.heap.objs.size
  ·rw[hb,ae]at e
   cases e
   rw[hb];exact⟨hl,us,us.length,hv,eD⟩
  ·rw[ak hb]at e;exact(J.hok b u e).stay (fun c v _ q=>q) (fun c q=>by rw[ak (nD' c _ q)];exact q) fun c xs q=>by rw[ak (nD' c _ q)];exact q
 have os:s'.os=s.os:=J.os;refine⟨I.call' os un hok J.bare fun b hb=>⟨(hf b hb).2.2.2.1,(hf b hb).2.1,(hf b hb).2.2.2.2⟩,nD,?_,?_⟩
 ·refine I.fpOk (H':=upd H' s.heap.objs.size (.lst ys)) (b:=g.objs.size) (by rw[hsz];exact Ql _) ?_
  rw[ak hDC];exact J.free
 ·obtain⟨m,hn,_⟩:=J.loc;exact⟨m,hn⟩
end
def ya(te:TE)(fv:St)(J:It)(H1:Hp)(QQ:List V->Hp->Prop):Prop :=
 ∃ W:Nat->Nat->List V->Hp->Prop,(∃ m,W 0 m [] H1)/\∀ i m ys H,W i m ys H->ys.length<=sizeLine /\
  ((J.stop i H/\QQ ys H)∨(J.go i H/\∃ N:V->Hp->Prop,(∀ y H2,N y H2->∃ m',m'<m/\W (i+1) m' (ys++[y]) H2)/\∀ x H',J.yld i H x H'->te (some x::fv) H' N))
section
variable{X:Cx}{scope:Scope}{fr:List (Str×Nat)}{x:Str}{elt iter:Expr}{px pos:Pos}{te:TE}{wi:TI}
theorem Af{pins:List (Addr×Obj)}{σ:St}{H:Hp}{s:Shared}{E:Value->Shared->Prop}{it:Addr}{fp:List Addr}{tn:Nat->Heap->Prop}{J:It}{RR:Value->Addr->Result->Shared->Prop}{QQ:List V->Hp->Prop}(hc:X.calm=true)(O:bF X scope fr x)
  (he:∀ C ex s H,PE (eU X scope fr x C ex s H) elt te) (I:Inv X pins σ H s) (T:Turn X.prog X.w X.K (.Name x px) J fp it tn) (st:tn 0 s.heap) (hf:∀ b∈fp,FpOk X pins H b) (hq:ya te (frOf fr σ) J H QQ)
  (fin:∀ D C H4 ys s4 m,Inv X pins σ (upd H4 D (.lst ys)) s4->H4 D=none->FpOk X pins (upd H4 D (.lst ys)) C->s4.heap.Ns C m->QQ ys H4->RR (.ref D) C (.ok .next) s4) :
  wpAny (model X.prog X.w) X.A (newList []) (fun acc s₃=>wpAny (model X.prog X.w) X.A (newFunctionEnv scope X.env.globals (clOf X.env fr) [] X.env.qual none .none (some X.env)) (fun cenv s₄ =>
   codeAny (model X.prog X.w) X.A (.compStart (.ListComp elt [⟨.Name x px,iter,[],0⟩] scope pos) 0 (.ref it) acc { cenv with scope:=relabel scope X.env }) (RR acc cenv.locals) s₄) E s₃) E s:=by
 obtain⟨W,⟨m0,w0⟩,turn⟩:=hq;have hfs:∀ b∈fp,b<s.heap.objs.size:=fun b hb=>by
  obtain⟨o,e,_⟩:=T.obj 0 s.heap st b hb;exact Heap.lt_size e
 refine wpAny_newObj_type (wpAny_newFunctionEnv O.cell (by intro y hy;simp at hy) (fun h₁ hns₁ hsb₁=>?_) O.kind)
 dsimp only at hns₁ hsb₁ ⊢;generalize hH2:s.heap.push { cls:=.type "list",dict:=none,data:=.seq ([]:List Value).toArray }=g at hns₁ hsb₁ ⊢;have hg:g=s.heap.push (LCg.lst []):=hH2.symm;have hsz:g.objs.size=s.heap.objs.size+1:=by rw[hg,Heap.size_push]
 have hk:∀ b o,g.get? b=some o->h₁.get? b=some o:=fun b o e=>hsb₁.extBut b o (Ot (Heap.lt_size e)) (Heap.get?_push_of_some _ e);have kp:∀ b o,s.heap.get? b=some o->h₁.get? b=some o:=fun b o e=>hk b o (by rw[hg];exact Heap.get?_push_of_some _ e)
 have J0:=KS (h':=h₁) (tk:=s.toks+([]:List (Str×Value)).length) O I hf hfs hg hk hns₁;have stat:∀{H':Hp}{us:List Value},(∀ b∈fp,H' b=none)->∀ b∈fp,FpOk (eU X scope fr x g.objs.size (s.heap.objs.size::fp) { s with heap:=g } H) (X.pn++pins++[(s.heap.objs.size,LCg.lst us)]) H' b:=fun{H' us} hn b hb=>by
  obtain⟨_,f1,f2,f3,f4,f5⟩:=hf b hb;refine⟨hn b hb,?_,fun z=>(NU.mp (I.stkSub b z)).elim f1 f2,.inl (Oe _ hb),fun y c e=>f4 y c (O.cells I e),fun p hp=>?_⟩
  ·show b≠g.objs.size;rw[hsz];exact Ot (PD (hfs b hb))
  ·rcases N0.mp hp with hp | hp
   ·cases hp
   ·rcases N0.mp hp with hp | hp
    ·exact f5 p hp
    ·have ep:p=(s.heap.objs.size,LCg.lst us):=by simpa using hp
     rw[ep];exact PR (hfs b hb)
 have loop:codeAny (model X.prog X.w) X.A (.compLoop (.ListComp elt [⟨.Name x px,iter,[],0⟩] scope pos) 0 (.ref it) (.ref s.heap.objs.size) (compEnvC scope (clOf X.env fr) g.objs.size X.env))
   (RR (.ref s.heap.objs.size) g.objs.size) { s with heap:=h₁,toks:=s.toks+([]:List (Str×Value)).length }:=by
  refine codeAny_compLoop_tests (fun n s'=>∃ i ys us H',Inv (eU X scope fr x g.objs.size (s.heap.objs.size::fp) { s with heap:=g } H) (X.pn++pins++[(s.heap.objs.size,LCg.lst us)]) (none::frOf fr σ) H' s'/\Vals ys us/\tn i s'.heap/\(∀ b∈fp,H' b=none)/\W i n ys H') ?_ m0
   ⟨0,[],[],H,J0,.nil,T.keep 0 s.heap h₁ st fun b _ o e=>kp b o e,fun b hb=>(hf b hb).1,w0⟩
  rintro n s3 ⟨i,ys,us,H3,J3,hv,st3,fr3,w3⟩;obtain⟨hlen,hh⟩:=turn i n ys H3 w3;have none_err:∀{α:Type}{t:Sem α}{Q:α->Shared->Prop}{E':Value->Shared->Prop}{s:Shared},wpAny (model X.prog X.w) X.A t Q (fun _ _=>False) s->wpAny (model X.prog X.w) X.A t Q E' s:=fun h=>wpAny_mono h (fun _ _ q=>q) fun _ _ z=>z.elim;rcases hh with⟨stop,qn⟩ | ⟨go,N,hN,step⟩
  ·refine none_err (thn (T.done (eU X scope fr x g.objs.size (s.heap.objs.size::fp) { s with heap:=g } H) rfl rfl rfl hc i _ s3 _ H3 _ J3 (stat fr3) st3 stop) fun r s4 ⟨hr,J4⟩=>?_);subst hr;obtain⟨I4,nD,fC,m,hn⟩:=zJ I hf hg J4 hv hlen;exact fin _ _ H3 ys s4 m I4 nD fC hn qn
  ·refine none_err (thn (T.item (eU X scope fr x g.objs.size (s.heap.objs.size::fp) { s with heap:=g } H) rfl rfl rfl hc i _ s3 _ H3 _ J3 (stat fr3) st3 go) fun r s4 ⟨u,hr,h4⟩=>?_);subst hr
   have h4':=wpAny_bind (f:=fun _=>assign (.Name x px) (compEnvC scope (clOf X.env fr) g.objs.size X.env) u) (thn h4 (Q':=fun _ s5=>wpAny (model X.prog X.w) X.A (assign (.Name x px) (compEnvC scope (clOf X.env fr) g.objs.size X.env) u) (fun _ s6=>∃(σ6:St)(H6:Hp)(v:V)(s5':Shared)(H5:Hp),Inv (eU X scope fr x g.objs.size (s.heap.objs.size::fp) { s with heap:=g } H) (X.pn++pins++[(s.heap.objs.size,LCg.lst us)]++yN fp s5'.heap) σ6 H6 s6/\σ6=some v::frOf fr σ/\H6=H5/\J.yld i H3 v H5/\tn (i+1) s5'.heap) (fun _ _=>False) s5) fun _ s5 ⟨v,H5,J5,r5,y5,st5,fr5⟩=>by
    have J5':=J5.pinned (stat fr5) (T.obj _ _ st5);have hNd:(eU X scope fr x g.objs.size (s.heap.objs.size::fp) { s with heap:=g } H).N.Nodup:=O.nd;have hxl:(eU X scope fr x g.objs.size (s.heap.objs.size::fp) { s with heap:=g } H).env.scope.names.lookup x=some .local:=lookup_relabel_local O.xl
    exact thn (aX (X:=eU X scope fr x g.objs.size (s.heap.objs.size::fp) { s with heap:=g } H) (i:=0) hNd rfl (.inl hxl) (.inr hxl) _ s5 _ H5 v u (fun σ6 H6=>σ6=some v::frOf fr σ/\H6=H5) J5' r5 ⟨rfl,rfl⟩) fun _ s6 ⟨σ6,H6,J6,e6,e7⟩=>⟨σ6,H6,v,s5,H5,J6,e6,e7,y5,st5⟩)
   refine none_err (thn h4' fun _ s6 ⟨σ6,H6,v,s5,H5,J6,e6,e7,y5,st5⟩=>?_);subst e6 e7;refine wpAny_tests_nil ?_;rw[if_pos rfl];refine none_err (thn (he _ _ _ _ _ s6 _ H6 _ J6 (step v H6 y5)) fun u7 s7 ⟨v7,H7,J7,r7,q7⟩=>?_);obtain⟨m',hm,w7⟩:=hN v7 H7 q7;obtain⟨eD,nD,dC,dF,dd⟩:=J7.pin (s.heap.objs.size,LCg.lst us) (Oi _ (OH _ (Oi _ (by simp))))
   have hvl:=hv.length;refine append_at (hsz:=by show us.toArray.size<=sizeLine;rw[OC,← hvl];exact hlen) eD fun h8 hs8 hD8=>?_
   have pinD:∀ p∈X.pn++pins,p.1≠s.heap.objs.size:=fun p hp z=>by
    have:=Heap.lt_size (I.pin p hp).1;rw[z]at this;exact Pg _ this
   have J7a:Inv (eU X scope fr x g.objs.size (s.heap.objs.size::fp) { s with heap:=g } H) (X.pn++pins) _ H7 s7:=J7.pins_of fun p hp=>J7.pin p (Oi _ (OH _ (OH _ hp)))
   have J8:Inv (eU X scope fr x g.objs.size (s.heap.objs.size::fp) { s with heap:=g } H) (X.pn++pins) _ H7 { s7 with heap:=h8 }:=J7a.turned (t':=s7.toks) (fun b o hb e=>(hs8.2 b hb).trans e) nD dC (.inl Og) (fun y c e z=>by
    obtain⟨w',q⟩:=I.cell y c (O.cells I e);have:=q.lt;rw[z]at this
    exact Pg _ this) (fun p hp=>(N0.mp hp).elim (fun z=>by cases z) (pinD p))
   have J9:Inv (eU X scope fr x g.objs.size (s.heap.objs.size::fp) { s with heap:=g } H) (X.pn++pins++[(s.heap.objs.size,LCg.lst (us++[u7]))]) _ H7 { s7 with heap:=h8 }:=J8.pins_of fun p hp=>by
    rcases N0.mp hp with hp | hp
    ·exact J8.pin p (Oi _ hp)
    ·have ep:p=(s.heap.objs.size,LCg.lst (us++[u7])):=by simpa using hp
     subst ep;exact⟨hD8.trans (congrArg some (LCg.lst_snoc us u7)),nD,dC,dF,fun v z=>by cases z⟩
   have J10:=J9.weak (σ':=none::frOf fr σ) rfl fun i v e=>by
    cases i with
    |zero=>cases e
    |succ k=>exact e
   have pinF:∀ b∈fp,∀ o,s5.heap.get? b=some o->s7.heap.get? b=some o/\H7 b=none:=fun b hb o e=>by
    obtain⟨q1,q2,_⟩:=J7.pin (b,o) (Oi _ (Oi _ (iu hb e)));exact⟨q1,q2⟩
   refine⟨m',hm,i+1,ys++[v7],us++[u7],H7,J10,hv.append (.cons r7 .nil),T.keep _ _ _ st5 fun b hb o e=>(hs8.2 b (Ot (hfs b hb))).trans (pinF b hb o e).1,fun b hb=>?_,w7⟩;obtain⟨o,e,_⟩:=T.obj _ _ st5 b hb;exact(pinF b hb o e).2
 exact codeAny_compStart_list loop (T.self X.A 0 _ _ _ (T.keep 0 s.heap h₁ st fun b _ o e=>kp b o e) loop)
def tComp(wi:TI)(te:TE)(fr:List (Str×Nat)):TE:=fun σ H Q=>wi σ H fun J H1=>ya te (frOf fr σ) J H1 fun ys H2=>∀ D,H2 D=none->Q (.ref D) (upd H2 D (.lst ys))
theorem dj(hc:X.calm=true)(O:bF X scope fr x)(hi:PI X (.Name x px) iter wi)(he:∀ C ex s H,PE (eU X scope fr x C ex s H) elt te)(hs:∀ x,foldedSetIterable iter X.env x=pure x:=by intro _;rfl) :
  PE X (.ListComp elt [⟨.Name x px,iter,[],0⟩] scope pos) (tComp wi te fr):=by
 intro pins s σ H Q I h;rw[eval_ListComp];refine wpAny_comprehension_free (use:=none) rfl hs O.clos O.kind O.names (thn (hi pins s σ H _ I h) fun xv s1 h1=>thn h1 fun itv s2 h2=>?_);obtain⟨it,fp,tn,J,H2,e,I2,T,st2,f2,q2⟩:=h2;subst e;refine Af (RR:=fun acc C=>compPost (model X.prog X.w) X.A X.xe none (EP X pins σ Q) acc C) hc O he I2 T st2 f2 q2 ?_;intro D C H4 ys s4 m I4 nD fC hn q4;refine⟨m,hn,fun h' hs'=>?_⟩;obtain⟨g0,g1,g2,g3,g4,g5⟩:=fC;exact⟨.ref D,_,I4.turned (t':=s4.toks) (fun b o hb e=>(hs'.2 b hb).trans e) g0 g1 g3 g4 g5,rfl,q4 D nD⟩
def Jr(i:Nat)(wi:TI)(te:TE)(fr:List (Str×Nat)):TS:=fun D σ H=>wi σ H fun J H1=>ya te (frOf fr σ) J H1 fun ys H2=>∀ a,H2 a=none->D.nx (σ.set i (some (.ref a))) (upd H2 a (.lst ys))
theorem ir{i:Nat}{y:Str}{py spos:Pos}(hc:X.calm=true)(hN:X.N.Nodup)(hi':X.N[i]?=some y)(hy:X.env.scope.names.lookup y=some .local)(O:bF X scope fr x)(hi:PI X (.Name x px) iter wi)(he:∀ C ex s H,PE (eU X scope fr x C ex s H) elt te)
  (hsw:swapsWith (.ListComp elt [⟨.Name x px,iter,[],0⟩] scope pos) (some (.Name y py)) spos.line X.env=pure true:=by rfl) (hs:∀ x,foldedSetIterable iter X.env x=pure x:=by intro _;rfl) :
  PS X (.Assign [.Name y py] (.ListComp elt [⟨.Name x px,iter,[],0⟩] scope pos) spos) (Jr i wi te fr):=by
 intro pins s σ H D I h;rw[exec_Assign_Name_used _ _ _ _ hsw];refine wpAny_bind (wpAny_standAt (wpAny_bind ?_));show wpAny _ X.A (do let _ ← comprehension (.ListComp elt [⟨.Name x px,iter,[],0⟩] scope pos) scope X.env _ (newList []) false (eval iter X.env) (some (assign (.Name y py) X.env))) _ _ s
 refine wpAny_bind (thn (wpAny_comprehension_free (use:=some (assign (.Name y py) X.env)) (Q:=fun _ s'=>SP X pins D .next s') rfl hs O.clos O.kind O.names (thn (hi pins s σ H _ I h) fun xv s1 h1=>thn h1 fun itv s2 h2=>?_)) fun _ s' hq=>wpAny_pure (wpAny_pure hq));obtain⟨it,fp,tn,J,H2,e,I2,T,st2,f2,q2⟩:=h2;subst e;refine Af (RR:=fun acc C=>compPost (model X.prog X.w) X.A X.xe (some (assign (.Name y py) X.env)) (fun _ s'=>SP X pins D .next s') acc C) hc O he I2 T st2 f2 q2 ?_;intro a C H4 ys s4 m I4 nD fC hn q4;obtain⟨g0,g1,g2,g3,g4,g5⟩:=fC;obtain⟨oC,eC,hoC⟩:=LCg.ns_obj hn;have I5:Inv X (pins++[(C,oC)]) σ (upd H4 a (.lst ys)) s4:=I4.pins_of fun p hp=>by
  rcases N0.mp hp with hp | hp
  ·exact I4.pin p (Oi _ hp)
  ·have ep:p=(C,oC):=by simpa using hp
   subst ep;obtain⟨es,epp,hd,_⟩:=hoC;exact⟨eC,g0,g1,g2,fun v z=>by rw[hd]at z;cases z⟩
 show wpAny _ X.A (assign (.Name y py) X.env (.ref a)) _ _ _;refine wpAny_assign_Name (mI I5 hN hi' (.inl hy) (v:=.ref a) rfl (fun s6 I6=>?_) (.inr hy));obtain⟨e6,_⟩:=I6.pin (C,oC) (Oi _ (Oi _ (by simp)))
 refine⟨m,hoC.ns e6,fun h' hs'=>?_⟩;exact⟨_,_,I6.unpinned.turned (t':=s6.toks) (fun b o hb e=>(hs'.2 b hb).trans e) g0 g1 g3 g4 g5,q4 a nD⟩
end
theorem bM{K:NS}{a:Addr}{xs:List V}{te:TE}{fv:St}{H1:Hp}{QQ:List V->Hp->Prop}(Pv:Nat->List V->Hp->Prop)(hz:xs.length<=sizeLine)(h0:Pv 0 [] H1)(hl:∀ i ys H,i<=xs.length->Pv i ys H->SqL K H a xs)
  (hs:∀ i x ys H,xs[i]?=some x->Pv i ys H->te (some x::fv) H fun y H2=>Pv (i+1) (ys++[y]) H2) (hd:∀ ys H,ys.length=xs.length->Pv xs.length ys H->QQ ys H)
  : ya te fv (Itl K a) H1 QQ:=by
 refine⟨fun i m ys H=>m=xs.length-i/\i<=xs.length/\ys.length=i/\Pv i ys H,⟨xs.length,by simp,O5 _,rfl,h0⟩,?_⟩
 rintro i m ys H ⟨rfl,hi,hy,p⟩;have q:=hl i ys H hi p;refine⟨by omega,?_⟩
 by_cases hlt:i<xs.length
 ·refine .inr ⟨⟨xs,xs[i],q,by simp[hlt]⟩,fun y H2=>Pv (i+1) (ys++[y]) H2,fun y H2 p2=>⟨xs.length-(i+1),by omega,rfl,hlt,by rw[NT,hy];rfl,p2⟩,fun x H' y=>?_⟩
  obtain⟨e,y⟩:=y;subst e;exact hs i x ys _ (y xs q) p
 ·have e:i=xs.length:=by omega
  subst e;exact .inl ⟨⟨xs,q,NY _⟩,hd ys H hy p⟩
theorem fB{lo:Int}{n:Nat}{te:TE}{fv:St}{H1:Hp}{QQ:List V->Hp->Prop}(Pv:Nat->List V->Hp->Prop)(hz:n<=sizeLine)(h0:Pv 0 [] H1)
  (hs:∀ i ys H,i<n->Pv i ys H->te (some (.int (lo+i))::fv) H fun y H2=>Pv (i+1) (ys++[y]) H2) (hd:∀ ys H,ys.length=n->Pv n ys H->QQ ys H)
  : ya te fv (Itr lo n) H1 QQ:=by
 refine⟨fun i m ys H=>m=n-i/\i<=n/\ys.length=i/\Pv i ys H,⟨n,by simp,O5 _,rfl,h0⟩,?_⟩
 rintro i m ys H ⟨rfl,hi,hy,p⟩;refine⟨by omega,?_⟩
 by_cases hlt:i<n
 ·refine .inr ⟨hlt,fun y H2=>Pv (i+1) (ys++[y]) H2,fun y H2 p2=>⟨n-(i+1),by omega,rfl,hlt,by rw[NT,hy];rfl,p2⟩,fun x H' y=>?_⟩
  obtain⟨e,y⟩:=y;subst e y;exact hs i ys _ hlt p
 ·have e:i=n:=by omega
  subst e;exact .inl ⟨NY _,hd ys H hy p⟩
theorem bt_int:bootBuiltins "int" = some (.type "int"):=by decide
theorem NC:bootBuiltins "bool" = some (.type "bool"):=by decide
theorem i5:bootBuiltins "list" = some (.type "list"):=by decide
theorem bo:bootBuiltins "len" = some (.builtin "len"):=by decide
theorem bT:bootBuiltins "isinstance" = some (.builtin "isinstance"):=by decide
theorem nH:bootBuiltins "sorted" = some (.builtin "sorted"):=by decide
theorem Dk:bootBuiltins "reversed" = some (.type "reversed"):=by decide
theorem Ak:bootBuiltins "enumerate" = some (.type "enumerate"):=by decide
structure Cal(P:Program)(w:World)(K:NS)(mg:Str->Option Value)(base:Heap)(k:Nat)(x:Str)(ps:List Str)(sp:Sp)(f:Addr)(fd:FuncData):Prop where
 ok:FnOk P w K mg base CX0 k f fd ps sp
 bn:jg K fd ps []
 mg:mg x=some (.ref f)
 kp:Oc K (.ref f)=true
structure Mak(P:Program)(w:World)(K:NS)(mg:Str->Option Value)(base:Heap)(k:Nat)(x:Str)(ps:List Str)(sp:Sp)(C f:Addr)(fd:FuncData):Prop where
 mkc:Mk K C f
 ok:FnOk P w K mg base CX0 k f fd ps sp
 bn:jg K fd ps []
 mg:mg x=some (.ref C)
structure Met(P:Program)(w:World)(K:NS)(mg:Str->Option Value)(base:Heap)(k:Nat)(C:Addr)(m:Str)(ps:List Str)(sp:Sp)(f:Addr)(fd:FuncData):Prop where
 me:Meth K C m f
 ok:FnOk P w K mg base CX0 k f fd ps sp
 bn:jg K fd ps []
theorem rh{X:Cx}{sts:List Stmt}{t t2:TS}(h:PSs X sts t)(i:∀ D σ H,t2 D σ H->t D σ H):PSs X sts t2:=fun pins s σ H D I q=>h pins s σ H D I (i D σ H q)
section
variable{X:Cx}
def rIsi(K:NS):List V->Hp->VK->Prop:=fun xs H Q=>∃ x c t b u,xs = [x,c]/\TyOf K H x t/\((∃ n,c=.ty n/\u=Value.type n)∨∃ a,c=.ref a/\u=Value.ref a)/\Pt K t u=some b/\Q (.bl b) H
theorem xM:jf X (.builtin "isinstance") (rIsi X.K):=by
 intro pins s σ H xs us Q I r h;obtain⟨x,c,t,b,u,rfl,ty,hu,e,q⟩:=h;obtain⟨v1,v2,rfl,r1,r2⟩:=EG r;have e2:v2=u:=by
  rcases hu with⟨n,rfl,rfl⟩ | ⟨a,rfl,rfl⟩
  ·exact r2
  ·exact r2
 subst e2;exact HY I r1 ty e fun tk=>⟨.bl b,H,I.tok tk,rfl,q⟩
theorem kit_ii(K:NS):Pt K (.type "int") (.type "int")=some true:=by with_unfolding_all rfl
theorem kit_ib(K:NS):Pt K (.type "int") (.type "bool")=some false:=by with_unfolding_all rfl
theorem kit_ll(K:NS):Pt K (.type "list") (.type "list")=some true:=by with_unfolding_all rfl
end
inductive RdD(K:NS)(H:Hp):V->PyData->Prop where
 |non:RdD K H .non .none
 |bl (b:Bool):RdD K H (.bl b) (.bool b)
 |int (i:Int):RdD K H (.int i) (.int i)
 |lst {a:Addr} {xs:List V} {ds:List PyData} (h:SqL K H a xs) (hl:xs.length=ds.length) (r:∀(i:Nat)(x:V)(d:PyData),xs[i]?=some x->ds[i]?=some d->RdD K H x d):RdD K H (.ref a) (.list ds)
 |tup {a:Addr} {xs:List V} {ds:List PyData} (h:SqT K H a xs) (hl:xs.length=ds.length) (r:∀(i:Nat)(x:V)(d:PyData),xs[i]?=some x->ds[i]?=some d->RdD K H x d):RdD K H (.ref a) (.tuple ds)
theorem lh{h:Heap}:∀{xs:List V}{us:List Value}{ds:List PyData},Vals xs us->xs.length=ds.length->(∀(i:Nat) x d,xs[i]?=some x->ds[i]?=some d->∀ u,RelV x u->∃ as,Reads h u d as)->∃ as,ReadsAll h us ds as
 |_,_,[],.nil,_,_=>⟨_,.nil⟩
 |_,_,_::_,.nil,e,_=>by cases e
 |_,_,[],.cons _ _,e,_=>by cases e
 |_,_,d::ds,.cons r rr,e,k=>by
  obtain⟨a1,q1⟩:=k 0 _ d rfl rfl _ r;obtain⟨a2,q2⟩:=lh rr (Rf e) fun i x d' e1 e2=>k (i+1) x d' e1 e2;exact⟨_,.cons q1 q2⟩
section
variable{X:Cx}
theorem RdD.reads{pins:List (Addr×Obj)}{σ:St}{H:Hp}{s:Shared}(I:Inv X pins σ H s){x:V}{d:PyData}(r:RdD X.K H x d):∀ u,RelV x u->∃ as,Reads s.heap u d as:=by
 induction r with
 |non=>intro u hu;cases hu;exact⟨_,.none⟩
 |bl b=>intro u hu;cases hu;exact⟨_,.bool b⟩
 |int i=>intro u hu;obtain⟨t,rfl⟩:=hu;exact⟨_,.int i t⟩
 |lst h hl r ih =>
  intro u hu
  cases hu
  obtain⟨its,rv,p,_⟩:=I.list h;obtain⟨as,q⟩:=lh (h:=s.heap) rv hl ih;obtain⟨o,n,e,c,_,d⟩:=p;exact⟨_,.list e c d (by simpa using q)⟩
 |tup h hl r ih =>
  intro u hu
  cases hu
  obtain⟨its,rv,p,_⟩:=I.tuple h;obtain⟨as,q⟩:=lh (h:=s.heap) rv hl ih;obtain⟨o,e,c,n,d⟩:=p;exact⟨_,.tuple e c d (by simpa using q)⟩
def rSame(b:Bool)(K:NS):R2:=fun x y H Q=>∃ d,RdD K H x d/\RdD K H y d/\SeqAt.shaped d=true/\Q (.bl b) H
theorem yS(hu:X.A.units+64<cLine):OpR X (compareOp .Eq) (rSame true X.K):=by
 intro pins s σ H x y v u Q I rx ry h;obtain⟨d,r1,r2,hs,q⟩:=h;obtain⟨as,q1⟩:=r1.reads I v rx;obtain⟨bs,q2⟩:=r2.reads I u ry;refine eq_dataH q1 q2 hs hs hu ?_;rw[SeqAt.eqv_refl d (SeqAt.canLay_of_shaped hs)];exact⟨.bl true,H,I,rfl,q⟩
theorem op_neD(hu:X.A.units+64<cLine):OpR X (compareOp .NotEq) (rSame false X.K):=by
 intro pins s σ H x y v u Q I rx ry h;obtain⟨d,r1,r2,hs,q⟩:=h;obtain⟨as,q1⟩:=r1.reads I v rx;obtain⟨bs,q2⟩:=r2.reads I u ry;refine ne_dataH q1 q2 hs hs hu ?_;rw[SeqAt.eqv_refl d (SeqAt.canLay_of_shaped hs)];exact⟨.bl false,H,I,rfl,q⟩
end
section
variable{X:Cx}{tg:Expr}
end
section
variable{P:Program}{w:World}{H:Hp}{h:Heap}{a:Addr}{o:HO}
theorem bN.get(x:bN P w H h a o):∃ ob,h.get? a=some ob:=by
 cases o with
 |lst xs=>obtain⟨_,_,_,_,e⟩:=x;exact⟨_,e⟩
 |tup xs=>obtain⟨_,_,_,ob,e,_⟩:=x;exact⟨_,e⟩
 |dK kvs=>obtain⟨_,_,_,_,o,_,_,e,_⟩:=x;exact⟨_,e⟩
 |dT kvs=>obtain⟨_,_,_,_,o,_,_,e,_⟩:=x;exact⟨_,e⟩
 |set S n=>obtain⟨o,_,_,_,e,_⟩:=x;exact⟨_,e⟩
 |ins C dx fs=>obtain⟨_,_,_,e,_⟩:=x;exact⟨_,e⟩
 |own y=>exact x
 |xd fs=>obtain⟨_,⟨_,_,_,e,_⟩,_⟩:=x;exact⟨_,e⟩
 |rng lo hi=>obtain⟨_,_,_,e⟩:=x;exact⟨_,e⟩
 |frz ob u=>exact⟨_,x.1⟩
 |tbl ps=>exact⟨_,(show h.get? a=some _ from x)⟩
 |met f y=>exact⟨_,(show h.get? a=some _ from x)⟩
 |ext φ=>exact x.2.1
theorem HOk.none_of(x:HOk P w H h)(e:h.get? a=none):H a=none:=by
 cases q:H a with
 |none=>rfl
 |some u =>
  obtain⟨ob,z⟩:=(x a u q).get;rw[e]at z
  cases z
end
structure XOk(X:Cx)(pins:List (Addr×Obj))(H:Hp)(b:Addr):Prop where
 old:X.s₀.heap.get? b=none
 trk:H b=none
 nl:b≠X.env.locals
 nc:∀ x c,X.env.cells.lookup x=some c->c≠b
 np:∀ p∈X.pn++pins,p.1≠b
section
variable{X:Cx}{pins:List (Addr×Obj)}{σ:St}{H H':Hp}{s s':Shared}{b:Addr}
theorem Inv.xok(I:Inv X pins σ H s)(hx:X.ex = [])(e:s.heap.get? b=none)(n:H' b=none):XOk X pins H' b:=by
 refine⟨?_,n,fun z=>?_,fun x c q z=>?_,fun p hp z=>?_⟩
 ·cases q:X.s₀.heap.get? b with
  |none=>rfl
  |some o =>
   obtain⟨o',e'⟩:=I.base.there b o q (by rw[hx];simp)
   rw[e]at e'
   cases e'
 ·obtain⟨m,⟨o,_,_,ho,_⟩,_⟩:=I.loc;rw[z,ho]at e
  cases e
 ·obtain⟨v,o,ho,_⟩:=I.cell x c q;rw[z,e]at ho
  cases ho
 ·have:=(I.pin p hp).1
  rw[z,e]at this
  cases this
theorem Inv.xstep{h':Heap}{ch:List Addr}(I:Inv X pins σ H s)(hch:∀ b∈ch,XOk X pins H b)
  (keep:∀ b o,s.heap.get? b=some o->b∉ch->b∉frs X.stack->h'.get? b=some o)
  (slot:∀ b o,s.heap.get? b=some o->b∉ch->b∈frs X.stack->∃ sl,h'.get? b=some { o with slots:=sl }):Inv X pins σ H { s with heap:=h' }:=by
 have any:∀ b o,s.heap.get? b=some o->b∉ch->∃ sl,h'.get? b=some { o with slots:=sl }:=fun b o e hc=>by
  by_cases hb:b∈frs X.stack
  ·exact slot b o e hc hb
  ·exact⟨o.slots,keep b o e hc hb⟩
 have fsub:∀ b,b∈frs X.stack->b≠X.env.locals->b∈X.fs:=fun b hb n=>(NU.mp (I.stkSub b hb)).elim (fun z=>absurd z n) fun z=>z;have neL:∀ b o,X.s₀.heap.get? b=some o->b≠X.env.locals:=fun b o e=>Ot (OO (Heap.lt_size e) I.ok.above);have neC:∀ b o,X.s₀.heap.get? b=some o->b∉ch:=fun b o e hb=>by
  have:=(hch b hb).old;rw[e]at this
  cases this
 have cellK:∀ x c,X.env.cells.lookup x=some c->∀ v,s.heap.IsCell c v->h'.IsCell c v:=fun x c e v ⟨o,ho,hd⟩=>by
  obtain⟨sl,q⟩:=any c o ho fun z=>(hch c z).nc x c e rfl;exact⟨_,q,hd⟩
 refine⟨I.ok,I.os,I.bare,⟨fun b o e n hb hx=>?_,fun b o e n hb hx=>?_,I.base.free,fun b o e hx=>?_,I.base.tups,I.base.frzs,I.base.tbls⟩,?_,fun x c e=>?_,I.free,I.freeC,fun p hp=>?_,fun b u e=>?_,I.len⟩
 ·exact keep b o (I.base.keep b o e n hb hx) (neC b o e) fun z=>hb (fsub b z (neL b o e))
 ·obtain⟨sl,e1⟩:=I.base.slot b o e n hb hx;obtain⟨sl',e2⟩:=any b _ e1 (neC b o e);exact⟨sl',e2⟩
 ·obtain⟨o',e1⟩:=I.base.there b o e hx;obtain⟨sl,e2⟩:=any b _ e1 (neC b o e);exact⟨_,e2⟩
 ·obtain⟨m,⟨o,es,ep,ho,r⟩,hl⟩:=I.loc;obtain⟨sl,e2⟩:=any _ o ho fun z=>(hch _ z).nl rfl;refine⟨m,⟨_,es,ep,e2,r⟩,fun i x v e1 e2 e3=>?_⟩;obtain⟨u,r,l⟩:=hl i x v e1 e2 e3;refine⟨u,r,?_⟩;rcases l with l | ⟨k,c,e,z⟩
  ·exact .inl l
  ·exact .inr ⟨k,c,e,cellK x c e _ z⟩
 ·obtain⟨v,z⟩:=I.cell x c e;exact⟨v,cellK x c e v z⟩
 ·obtain⟨e,n,ne,nf,d⟩:=I.pin p hp;exact⟨keep p.1 p.2 e (fun z=>(hch p.1 z).np p hp rfl) fun z=>nf (fsub p.1 z ne),n,ne,nf,d⟩
 ·have nof:∀ c u',H c=some u'->c∉ch/\c∉frs X.stack:=fun c u' q=>⟨fun z=>(by rw[(hch c z).trk]at q;exact nomatch q),fun z=>(by rw[I.stkFree c z]at q;exact nomatch q)⟩
  refine(I.hok b u e).stay (fun c v hc q=>?_) (fun _ q=>q) fun _ _ q=>q;rcases hc with z | z
  ·rw[z]at q ⊢;exact keep b v q (nof b u e).1 (nof b u e).2
  ·exact keep c v q (nof c _ z).1 (nof c _ z).2
theorem Inv.xtrack{a:Addr}{o:HO}(I:Inv X pins σ H s)(f:XOk X pins H a)(new:bN X.prog X.w (upd H a o) s.heap a o):Inv X pins σ (upd H a o) s:=by
 have ne:∀ b u,H b=some u->b≠a:=fun b u e=>ax e f.trk;have nb:∀ b u,s.heap.get? b=some u->b≠a->H b=none->upd H a o b=none:=fun b u _ n q=>by rw[ak n];exact q
 refine⟨I.ok,I.os,I.bare,⟨I.base.keep,I.base.slot,fun b ob e n hx=>?_,I.base.there,fun b xs e=>?_,fun b ob xs e=>?_,fun b ps e=>?_⟩,I.loc,I.cell,?_,fun x c e=>?_,fun p hp=>?_,fun b u e=>?_,I.len⟩
 ·rw[ak (fun z=>by rw[z,f.old]at e;cases e)]
  exact I.base.free b ob e n hx
 ·have:=I.base.tups b xs e
  rw[ak (ne _ _ this)];exact this
 ·have:=I.base.frzs b ob xs e
  rw[ak (ne _ _ this)];exact this
 ·obtain⟨m,q⟩:=I.base.tbls b ps e;exact⟨m,by rw[ak (ne _ _ q)];exact q⟩
 ·rw[ak (Ne.symm f.nl)];exact I.free
 ·rw[ak (f.nc x c e)];exact I.freeC x c e
 ·obtain⟨e,n,r⟩:=I.pin p hp;exact⟨e,by rw[ak (f.np p hp)];exact n,r⟩
 ·by_cases hb:b=a
  ·rw[hb,ae]at e
   cases e
   rw[hb];exact new
  ·rw[ak hb]at e;exact(I.hok b u e).stay (fun c v _ q=>q) (fun c q=>by rw[ak (ne c _ q)];exact q) fun c xs q=>by rw[ak (ne c _ q)];exact q
end
def Trc(h:Heap)(x:Addr)(C:Value)(T:Addr):Prop :=
 ∃ oe vs a0 oT ts,h.get? x=some oe/\oe.cls=C/\vs[0]?=some a0/\oe.data=.fields vs/\vs[1]?=some (.ref T)/\T≠x/\h.get? T=some oT/\oT.data=.fields ts/\ts[3]?=some .none
def Xnw(h:Heap)(x:Addr)(C:Value):Prop:=∃ oe vs a0,h.get? x=some oe/\oe.cls=C/\oe.data=.fields vs/\vs[0]?=some a0/\vs[1]?=some .none
def XA(X:Cx)(pins:List (Addr×Obj))(H:Hp)(s:Shared)(x:Addr)(C:Value):Prop:=XOk X pins H x/\(Xnw s.heap x C∨∃ T,XOk X pins H T/\Trc s.heap x C T)
def CXr(P:Program)(w:World):CXT:=fun outer H s E e s'=>∃(x:Addr)(C:Value)(T:Addr)(H':Hp),e=.ref x/\s'.os=s.os/\AllBare s'.gens/\Un (frs outer) [] H H' s.heap s'.heap/\HOk P w H' s'.heap /\
 s.heap.get? x=none/\s.heap.get? T=none/\H' x=none/\H' T=none/\Trc s'.heap x C T/\E C none H'
section
variable{X:Cx}{pins:List (Addr×Obj)}{σ:St}{H:Hp}{s:Shared}{x:Addr}{C:Value}{E:Value->Shared->Prop}
abbrev hidX(X:Cx)(h:Heap)(ch:List Addr):Heap:=PySem.W.hideAll h (ch++frs X.stack)
theorem Inv.hidF(I:Inv X pins σ H s)(ch:List Addr):s.heap.FunFrames (hidX X s.heap ch) X.stack :=
 PySem.W.funFrames_hide I.stack fun env he a hf=>Oi _ (RD.mpr ⟨env,he,hf⟩)
theorem Il(ch:List Addr)(h:Heap):(hidX X h ch).StaysIn h:=fun _ _ e=>PySem.W.of_hideAll _ e
theorem m9{ch:List Addr}{h:Heap}{b:Addr}(hb:b∈ch):(hidX X h ch).get? b=none:=PySem.W.hideAll_none _ (OH _ hb)
theorem Inv.left{h':Heap}{ch:List Addr}{a0:Value}(I:Inv X pins σ H s)(hx:X.ex = [])(hch:∀ b∈ch,XOk X pins H b)(k:(hidX X s.heap ch).StaysIn h')(t:h'.TracedW (hidX X s.heap ch) x C a0)(u:s.heap.UpToSlots h') :
  Inv X pins σ H { s with heap:=h' }/\∃ T,XOk X pins H T/\Trc h' x C T:=by
 have fr:∀ b o,s.heap.get? b=some o->b∈frs X.stack->∃ sl,h'.get? b=some { o with slots:=sl }:=fun b o e hb=>by
  obtain⟨_,o',ho,hd⟩:=I.stack.mem hb;rw[e]at ho
  cases ho
  exact u b o e hd
 refine⟨I.xstep hch (fun b o e n1 n2=>k b o (Ry _ e fun z=>(N0.mp z).elim n1 n2)) fun b o e _ hb=>fr b o e hb,?_⟩;obtain⟨oe,vs,T,oT,ts,he,⟨hcls,h0⟩,hd,h1,hnT,hTe,hT,hdT,h3⟩:=t;refine⟨T,?_,oe,vs,a0,oT,ts,he,hcls,h0,hd,h1,hTe,hT,hdT,h3⟩
 cases q:s.heap.get? T with
 |none=>exact I.xok hx q (I.hok.none_of q)
 |some o =>
  by_cases z:T∈ch
  ·exact hch T z
  ·by_cases z2:T∈frs X.stack
   ·obtain⟨_,o',ho,hd'⟩:=I.stack.mem z2;obtain⟨sl,e⟩:=fr T o q z2;rw[hT]at e
    cases e
    rw[q]at ho
    cases ho
    exact absurd hdT (hd' ts)
   ·have:=Ry (ch++frs X.stack) q fun z3=>(N0.mp z3).elim z z2
    rw[hnT]at this
    cases this
theorem Inv.leave{Q:Unit->Shared->Prop}(I:Inv X pins σ H s)(hx:X.ex = [])(hst:X.stack=X.env::X.outer)(hfr:X.env.frame=some X.env.locals)(xa:XA X pins H s x C)
  (h:∀ h' T,Inv X pins σ H { s with heap:=h' }->XOk X pins H x->XOk X pins H T->Trc h' x C T->Q () { s with heap:=h' }):wpAny (model X.prog X.w) X.A (leaving X.env (.ref x)) Q E s:=by
 obtain⟨x1,x2⟩:=xa;have frm:X.A.frames=some (X.env::X.outer):=by rw[← hst];exact I.ok.frames
 rcases x2 with⟨oe,vs,a0,he,hc,hd,h0,h1⟩ | ⟨T,xT,oe,vs,a0,oT,ts,he,hc,h0,hd,h1,hTe,hT,hdT,h3⟩
 ·have hch:∀ b∈[x],XOk X pins H b:=fun b hb=>by
   have e:b=x:=by simpa using hb
   rw[e];exact x1
  refine wpAny_leaving_firstW (base:=hidX X s.heap [x]) frm (hst▸I.hidF [x]) hfr he (Il _ _) (m9 (by simp)) hd h1 h0 fun h' L=>?_
  obtain⟨k1,_,k3,k4⟩:=L;obtain⟨I',T,xT,tr⟩:=I.left hx hch k1 k3 k4;rw[hc]at tr;exact h h' T I' x1 xT tr
 ·have hch:∀ b∈[x,T],XOk X pins H b:=fun b hb=>by
   rcases NU.mp hb with e | hb
   ·rw[e];exact x1
   ·have e:b=T:=by simpa using hb
    rw[e];exact xT
  refine wpAny_leaving_nextW (base:=hidX X s.heap [x,T]) frm (hst▸I.hidF [x,T]) hfr ⟨oe,vs,T,oT,ts,he,⟨hc,h0⟩,hd,h1,m9 (by simp),hTe,hT,hdT,h3⟩ (Il _ _) (m9 (by simp)) fun h' L=>?_
  obtain⟨k1,_,k3,k4⟩:=L;obtain⟨I',T',xT',tr⟩:=I.left hx hch k1 k3 k4;exact h h' T' I' x1 xT' tr
end
abbrev WK:=Value->St->Hp->Prop
def Wsh(X:Cx)(W:WK):Prop:=∀(pins:List (Addr×Obj))(σ:St)(H:Hp)(s:Shared)(x:Addr)(C:Value),Inv X pins σ H s->XA X pins H s x C->W C σ H->X.xe (.ref x) s
theorem mG{P:Program}{w:World}{K:NS}{mg:Str->Option Value}{base:Heap}{N:List Str}{qual:Str}{scope:Scope}{f:Addr}{cd:Value}{A:Around}{outer:List Env}{s₀:Shared}{H₀:Hp}{E:XK} :
  Wsh (cxOf (CXr P w) P w K mg base N qual scope f cd A outer s₀ H₀ E) (fun C _ H=>E C none H):=fun pins σ H s x C I xa hE=>by
 show wpAny (model P w) (A.deeper (envOfC qual scope s₀.heap.objs.size f cd)) (leaving (envOfC qual scope s₀.heap.objs.size f cd) (.ref x)) _ _ s;refine Inv.leave I rfl rfl rfl xa fun h' T I' x1 xT tr=>?_;exact⟨x,C,T,H,rfl,I'.os,I'.bare,I'.base,I'.hok,x1.old,xT.old,x1.trk,xT.trk,tr,hE⟩
theorem o9{P:Program}{w:World}{X:Cx}:pI (CXr P w) X E0:=fun _ _ _ _ _ _ _ ⟨_,_,_,_,_,_,_,_,_,_,_,_,_,_,z⟩=>z.elim
section
variable{X:Cx}{k:Nat}{f C:Addr}{fd:FuncData}{ps:List Str}{sp:Sp}{dvs:List V}{ds:List Value}{W:WK}{x m:Str}{p pos apos:Pos}{e o:Expr}{es:List Expr}{ta:TE}{t:TA}
theorem Wsh.of{pins:List (Addr×Obj)}{σ:St}{H:Hp}{s s':Shared}{v:Value}(ws:Wsh X W)(hx:X.ex = [])(I:Inv X pins σ H s)(h:CXr X.prog X.w X.stack H s (fun C _ H'=>W C σ H') v s'):X.xe v s':=by
 obtain⟨x,C,T,H',rfl,os,bare,un,hok,nx,nT,tx,tT,tr,q⟩:=h;have I':Inv X pins σ H' s':=I.call' os un hok bare fun b z=>absurd z (by simp)
 exact ws pins σ H' s' x C I' ⟨I.xok hx nx tx,.inr ⟨T,I.xok hx nT tT,tr⟩⟩ q
theorem MA{pins:List (Addr×Obj)}{σ:St}{H:Hp}{s:Shared}{Q:VK}{us:List Value}{vs:List V}(F:FnOk X.prog X.w X.K X.mg X.base (CXr X.prog X.w) k f fd ps sp)(hr:Room k X.A)(hb:jg X.K fd ps ds)(hd:Vals dvs ds)(ws:Wsh X W)(hx:X.ex = [])
  (I:Inv X pins σ H s) (r:Vals vs us) (h:sp (vs++dvs) H Q (fun C _ H'=>W C σ H')):wpAny (model X.prog X.w) X.A (call (.ref f) us) (EP X pins σ Q) X.xe s:=by
 have r2:Vals (vs++dvs) (us++ds):=r.append hd;have hl:(us++ds).length=ps.length:=by rw[← r2.length];exact F.len _ _ _ _ h
 refine wpAny_call (codeAny_mono (F.run X.A X.stack s H ⟨us,[]⟩ (us++ds) (vs++dvs) Q _ hr I.env0 (hb s us I.kIn hl) r2 h) fun r s' hq=>?_)
 cases r with
 |error e=>exact ws.of hx I hq
 |ok fl =>
  cases fl with
  |ret u=>exact I.after hq
  |next=>exact False.elim hq
  |brk=>exact False.elim hq
  |cont=>exact False.elim hq
def Ly(sp:Sp)(dvs:List V)(W:WK)(t:TA):TE:=fun σ H Q=>t σ H fun vs H1=>sp (vs++dvs) H1 Q fun C _ H'=>W C σ H'
theorem gz(F:FnOk X.prog X.w X.K X.mg X.base (CXr X.prog X.w) k f fd ps sp)(hr:Room k X.A)(hg:Gl X x)(hm:X.mg x=some (.ref f))(hk:Oc X.K (.ref f)=true)(hb:jg X.K fd ps ds)(hd:Vals dvs ds)(ws:Wsh X W)(hx:X.ex = [])
  (ha:PA X (e::es) t) (hdb:(x == ("__debug__" : Str))=false:=by decide) (he:starEach (e::es) X.env=(false,eval e X.env)::starEach es X.env:=by rfl) (hpl:(backTo pos (starEach es X.env)).any (·.1)=false:=by rfl) :
  PE X (.Call (.Name x p) (e::es) [] pos) (Ly sp dvs W t):=by
 intro pins s σ H Q I h;refine wpAny_Call_Name_kw (lH I hg hm ?_ hdb);refine Qj (h₀:=X.base) I.ok.mod.kin hk (thn (ha pos pins s σ H _ I h) fun us s1 ⟨vs,H1,I1,r,q⟩=>⟨I1.kIn,?_⟩) he hpl;exact MA F hr hb hd ws hx I1 r q
end
structure CalX(P:Program)(w:World)(K:NS)(mg:Str->Option Value)(base:Heap)(k:Nat)(x:Str)(ps:List Str)(sp:Sp)(f:Addr)(fd:FuncData):Prop where
 ok:FnOk P w K mg base (CXr P w) k f fd ps sp
 bn:jg K fd ps []
 mg:mg x=some (.ref f)
 kp:Oc K (.ref f)=true
theorem Fun.okX{P:Program}{w:World}{K:NS}{mg:Str->Option Value}{base:Heap}{x qual:Str}{st:Stmt}{f:Addr}{fd:FuncData}{N ps:List Str}{k:Nat}{sp:Sp}(F:Fun K x qual st f fd)(S:aA N ps (ah st))(len:∀ vs H Q E,sp vs H Q E->vs.length=ps.length)
  (hbody:∀(cdv:Value)(A:Around)(outer:List Env)(s:Shared)(H:Hp)(vs:List V)(Q:VK)(E:XK),Room k (A.deeper (envOfC qual (ah st) s.heap.objs.size f cdv))->sp vs H Q E ->
   ∃ t,PSs (cxOf (CXr P w) P w K mg base N qual (ah st) f cdv A outer s H E) (ay st) t/\t { nx:=fun _ H'=>Q .non H',rt:=Q } (start N vs) H):FnOk P w K mg base (CXr P w) (k+1) f fd ps sp:=by
 obtain⟨oc,od,kV,doc,pm,an,cdv,ct,osl,rfl,lk,hcd⟩:=F.ex;exact K1 lk hcd S len fun A outer s H vs Q E hr hsp=>hbody cdv A outer s H vs Q E hr hsp
abbrev veM:List Value:=[.type "ValueError",.type "Exception",.type "BaseException",.type "object"]
abbrev ExC(K:NS)(C:Addr):Prop:=RA K C veM "ValueError.__new__" = true
theorem CG{K:NS}{C:Addr}{h:Heap}(e:ExC K C)(X:K.In h):∃ bm N nm qn bs hdct sn sub ab col dd k0 k1 k2 k3 k5 mN,h.get? C=some (excClassObj nm qn C N bs bm hdct sn sub ab col dd k0 k1 k2 k3 k5 "ValueError.__new__")/\h.Ns N mN/\mN "__init__" = none/\OwnTail h veM bm/\∀ B b,PZ K C B=some b->(Value.ref C::bm).contains B=b:=by
 have z:=e;unfold ExC RA at z;split at z
 ·rename_i ddx cdx slx hobj;split at z
  ·rename_i Cx bmx y0 y1 y2 y3 nx y5 hmro hslots;have zz:=z;simp only[QH,beq_iff_eq,Qd]at zz;obtain⟨⟨⟨⟨⟨eC,eN⟩,edel⟩,etail⟩,ens⟩,einit⟩:=zz;subst eC;subst eN;obtain⟨l⟩:=slx;have hl:l = [y0,y1,y2,y3,some (.builtin "ValueError.__new__"),y5]:=hslots;subst hl;obtain⟨nm,bs,mro,ns,qn,hd,sn,sub,ab,col,del⟩:=cdx;have hmro':mro=.ref Cx::bmx:=hmro;have hdel':del=false:=edel;subst hmro' hdel';refine⟨bmx,ns,nm,qn,bs,hd,sn,sub,ab,col,ddx,y0,y1,y2,y3,y5,_,X _ _ hobj,.of_isNs (PySem.W.isNs_of_in X ens),PySem.W.nsMap_none_of_in X ens einit,PySem.W.tail_of_in X etail,fun B b hB=>?_⟩;unfold PZ Sg at hB;rw[hobj]at hB;simpa using hB
  ·cases z
 ·cases z
def tRaise(C:Addr)(W:WK)(t:TA):TS:=fun _ σ H=>t σ H fun vs H1=>vs.length<=sizeLine/\W (.ref C) σ H1
theorem G9{X:Cx}{x:Str}{C:Addr}{e:Expr}{es:List Expr}{t:TA}{W:WK}{np cpos pos:Pos}(ec:ExC X.K C)(hm:X.mg x=some (.ref C))(hg:Gl X x)(ws:Wsh X W)(hx:X.ex = [])(hc:X.calm=true)(ha:PA X (e::es) t)
  (he:starEach (e::es) X.env=(false,eval e X.env)::starEach es X.env:=by rfl) (hpl:(backTo cpos (starEach es X.env)).any (·.1)=false:=by rfl) (hdb:(x == ("__debug__" : Str))=false:=by decide) :
  PS X (.Raise (some (.Call (.Name x np) (e::es) [] cpos)) none pos) (tRaise C W t):=by
 intro pins s σ H D I h;obtain⟨tl,N,nm,qn,bs,hdct,sn,sub,ab,col,dd,k0,k1,k2,k3,k5,mN,hC,hN,hni,T,_⟩:=CG ec I.ok.mod.kin;have hpl2:(backTo cpos (starEach (e::es) X.env)).any (·.1)=false:=by
  rw[he];show(false||(backTo cpos (starEach es X.env)).any (·.1))=false
  rw[hpl];rfl
 refine wpAny_Raise_call_subT (C:=C) (nm:=nm) (q:=qn) (N:=N) (bs:=bs) (bm:=tl) (hdct:=hdct) (sn:=sn) (sub:=sub) (ab:=ab) (col:=col) (dd:=dd) (k0:=k0) (k1:=k1) (k2:=k2) (k3:=k3) (k5:=k5) PySem.F.excBase_ValueError (mN:=mN) (T.hasType PySem.F.excBase_ValueError.hasBase) (I.ok.hd hc) hpl2 hni (lH I hg hm ⟨rfl,?_⟩ hdb);have z:=ha cpos pins s σ H _ I h;rw[he]at z ⊢;refine Calls.evalArgs_plain (wpAny_mono z (fun us s2 zz=>?_) fun _ _ y=>y);obtain⟨vs,H1,I2,r,hz,q⟩:=zz;refine⟨rfl,by rw[← r.length];exact hz,I2.bk _ _ hC,hN.keeps I2.bk,T.keeps I2.bk,fun h' e' hme=>?_⟩
 obtain⟨t0,ht0,_,_⟩:=hme.there;have I3:Inv X pins σ H1 { s2 with heap:=h' }:=I2.kept (t':=s2.toks) hme.keeps;exact ws pins σ H1 _ e' (.ref C) I3 ⟨I2.xok hx hme.new (I2.hok.none_of hme.new),.inl ⟨_,_,_,ht0,rfl,rfl,rfl,rfl⟩⟩ q
def excO(x C:Addr):HO:=.ext fun h=>∃ o,h.get? x=some o/\o.cls=.ref C
section
variable{X:Cx}{pins:List (Addr×Obj)}{σ:St}{H:Hp}{s:Shared}{x:Addr}{C:Value}
def Cx.marked(X:Cx)(v:Value):Cx:={ X with A:=X.A.mark (some v),calm:=false,xe:=fun _ _=>False }
theorem Inv.marked(I:Inv X pins σ H s)(v:Value):Inv (X.marked v) pins σ H s :=
 ⟨⟨I.ok.mod,I.ok.kind,I.ok.glob,I.ok.blt,I.ok.above,I.ok.inj,I.ok.has,I.ok.cab,fun z=>(by cases z),I.ok.frames,I.ok.stk,I.ok.exf,I.ok.bs,I.ok.bsz,I.ok.noex,I.ok.exfs,I.ok.funs,I.ok.frf⟩,I.os,I.bare,I.base,I.loc,I.cell,I.free,I.freeC,I.pin,I.hok,I.len⟩
theorem Inv.unmarked{hd:X.calm=true->X.A.handled=none}{fr:X.A.frames=some X.stack}{v:Value}(I:Inv (X.marked v) pins σ H s):Inv X pins σ H s :=
 ⟨⟨I.ok.mod,I.ok.kind,I.ok.glob,I.ok.blt,I.ok.above,I.ok.inj,I.ok.has,I.ok.cab,hd,fr,I.ok.stk,I.ok.exf,I.ok.bs,I.ok.bsz,I.ok.noex,I.ok.exfs,I.ok.funs,I.ok.frf⟩,I.os,I.bare,I.base,I.loc,I.cell,I.free,I.freeC,I.pin,I.hok,I.len⟩
theorem Inv.gone{i:Nat}{n:Str}{h':Heap}{tk:Nat}{m:Str->Option Value}{v:Option Value}(I:Inv X pins σ H s)(hN:X.N.Nodup)(hi:X.N[i]?=some n)(hm:s.heap.Ns X.env.locals m/\∀ (i:Nat) (x:Str) (v:V),X.N[i]?=some x->σ[i]?=some (some v)->Vis X.env.scope x->∃ u,RelV v u/\Look X.env s.heap m x u)
  (hn:h'.Ns X.env.locals (fun y=>if y=n then v else m y)) (hs:Heap.SameBut X.env.locals s.heap h'):Inv X pins (σ.set i none) H { s with heap:=h',toks:=tk }:=by
 have lo:∀ b o,X.s₀.heap.get? b=some o->b≠X.env.locals:=fun b o e=>Ot (OO (Heap.lt_size e) I.ok.above);obtain⟨oL,_,_,hoL,_⟩:=id hm.1;refine⟨I.ok,I.os,I.bare,⟨fun b o e n1 hb hx=>(hs.2 b (lo b o e)).trans (I.base.keep b o e n1 hb hx),fun b o e n1 hb hx=>?_,I.base.free,fun b o e hx=>?_,I.base.tups,I.base.frzs,I.base.tbls⟩,⟨_,hn,fun j y w' e1 e2 e3=>?_⟩,fun y c e=>?_,I.free,I.freeC,fun p hp=>?_,fun b u e=>?_,by simpa using I.len⟩
 ·obtain⟨sl,q⟩:=I.base.slot b o e n1 hb hx;exact⟨sl,(hs.2 b (lo b o e)).trans q⟩
 ·obtain⟨o',q⟩:=I.base.there b o e hx;exact⟨o',(hs.2 b (lo b o e)).trans q⟩
 ·by_cases hj:j=i
  ·subst hj;rw[OM]at e2;split at e2
   ·split at e2<;>cases e2
   ·rename_i z;exact absurd rfl z
  ·rw[QJ (Ne.symm hj)]at e2;obtain⟨u',r',l'⟩:=hm.2 j y w' e1 e2 e3;refine⟨u',r',?_⟩;rcases l' with⟨kk,e⟩ | ⟨kk,c,e,z⟩
   ·refine .inl ⟨kk,?_⟩;have ny:y≠n:=fun q=>hj (wC hN e1 (q▸hi));show(if y=n then v else m y)=some u';rw[if_neg ny];exact e
   ·exact .inr ⟨kk,c,e,z.sameBut hs (I.cne y c e)⟩
 ·obtain⟨w2,z⟩:=I.cell y c e;exact⟨w2,z.sameBut hs (I.cne y c e)⟩
 ·obtain⟨e,n1,ne,nf,d⟩:=I.pin p hp;exact⟨(hs.2 p.1 ne).trans e,n1,ne,nf,d⟩
 ·refine(I.hok b u e).stay (fun c v2 hc q=>(hs.2 c fun z=>?_).trans q) (fun _ q=>q) fun _ _ q=>q;have fr:=I.free;rcases hc with y | y
  ·rw[← y,z,fr]at e;cases e
  ·rw[z,fr]at y;cases y
end
section
variable{M:Model}{A:Around}{E:Value->Shared->Prop}{h:Heap}{g:Array GenState}{d:Drawn}{t:Nat}{os:OsState}
theorem exc_up{C D:Addr}{nm qn nm2 qn2:Str}{N N2:Addr}{bs bm bs2 bm2:List Value}{hdct hdct2:Bool}{sn sn2:List Str}{sub sub2:List Value}{ab ab2:Bool}{col col2:Option Bool}{dd dd2:Option Addr}{k0 k1 k2 k3 k5 j0 j1 j2 j3 j5:Option Value}{id1 id2:String}{x:Addr}{ob:Obj}{Q:Bool->Shared->Prop}
  (hC:h.get? C=some (excClassObj nm qn C N bs bm hdct sn sub ab col dd k0 k1 k2 k3 k5 id1)) (hD:h.get? D=some (excClassObj nm2 qn2 D N2 bs2 bm2 hdct2 sn2 sub2 ab2 col2 dd2 j0 j1 j2 j3 j5 id2)) (hob:h.get? x=some ob) (hcl:ob.cls=.ref C)
  (hDB:(Value.ref D::bm2).contains (.type "BaseException")=true) (hCD:(Value.ref C::bm).contains (.ref D)=true) (hq:Q true ⟨h,g,d,t,os⟩):wpAny M A (excMatches (.ref x) (.ref D)) Q E ⟨h,g,d,t,os⟩:=by
 have ntup:=tc_notTuple;unfold excMatches;repeat (first | (with_reducible refine wpAny_loadPart_at hob ?_;rw[hcl]) | with_reducible refine wpAny_loadPart_at hD ?_ | (with_reducible refine wpAny_isSubtype_exc hD ?_;rw[hDB]) | (with_reducible refine wpAny_isSubtype_exc hC ?_;rw[hCD]) | wp_step)
 exact hq
end
def Cx.tried(X:Cx)(pins:List (Addr×Obj))(E:Value->Shared->Prop):Cx:={ X with pn:=X.pn++pins,xe:=E }
section
variable{X:Cx}{pins pins':List (Addr×Obj)}{σ:St}{H:Hp}{s:Shared}{E:Value->Shared->Prop}{b:Addr}
theorem Inv.tried(I:Inv X pins σ H s):Inv (X.tried pins E) [] σ H s :=
 ⟨⟨I.ok.mod,I.ok.kind,I.ok.glob,I.ok.blt,I.ok.above,I.ok.inj,I.ok.has,I.ok.cab,I.ok.hd,I.ok.frames,I.ok.stk,I.ok.exf,I.ok.bs,I.ok.bsz,I.ok.noex,I.ok.exfs,I.ok.funs,I.ok.frf⟩,I.os,I.bare,I.base,I.loc,I.cell,I.free,I.freeC,fun p hp=>I.pin p (by rw[Pa]at hp;exact hp),I.hok,I.len⟩
theorem Inv.untried(I:Inv (X.tried pins E) pins' σ H s):Inv X pins σ H s :=
 ⟨⟨I.ok.mod,I.ok.kind,I.ok.glob,I.ok.blt,I.ok.above,I.ok.inj,I.ok.has,I.ok.cab,I.ok.hd,I.ok.frames,I.ok.stk,I.ok.exf,I.ok.bs,I.ok.bsz,I.ok.noex,I.ok.exfs,I.ok.funs,I.ok.frf⟩,I.os,I.bare,I.base,I.loc,I.cell,I.free,I.freeC,fun p hp=>I.pin p (OH _ hp),I.hok,I.len⟩
theorem XOk.untried(x:XOk (X.tried pins E) pins' H b):XOk X pins H b:=⟨x.old,x.trk,x.nl,x.nc,fun p hp=>x.np p (OH _ hp)⟩
theorem SP.untried{D:Ends}{f:Flow}(h:SP (X.tried pins E) [] D f s):SP X pins D f s:=by
 cases f with
 |next=>obtain⟨σ',H',I,q⟩:=h;exact⟨σ',H',I.untried,q⟩
 |brk=>obtain⟨σ',H',I,q⟩:=h;exact⟨σ',H',I.untried,q⟩
 |cont=>obtain⟨σ',H',I,q⟩:=h;exact⟨σ',H',I.untried,q⟩
 |ret u=>obtain⟨v,σ',H',I,r,q⟩:=h;exact⟨v,σ',H',I.untried,r,q⟩
end
def WshT(X:Cx)(W:WK):Prop:=∀(pins:List (Addr×Obj))(σ:St)(H:Hp)(s:Shared)(x T:Addr)(C:Value),Inv X pins σ H s->XOk X pins H x->XOk X pins H T->Trc s.heap x C T->W C σ H->X.xe (.ref x) s
section
variable{X:Cx}{k:Nat}{f:Addr}{fd:FuncData}{ps:List Str}{sp:Sp}{dvs:List V}{ds:List Value}{W:WK}{x:Str}{p pos:Pos}{e:Expr}{es:List Expr}{t:TA}
theorem JU(F:FnOk X.prog X.w X.K X.mg X.base (CXr X.prog X.w) k f fd ps sp)(hr:Room k X.A)(hg:Gl X x)(hm:X.mg x=some (.ref f))(hk:Oc X.K (.ref f)=true)(hb:jg X.K fd ps ds)(hd:Vals dvs ds)(ws:WshT X W)(hx:X.ex = [])
  (ha:PA X (e::es) t) (hdb:(x == ("__debug__" : Str))=false:=by decide) (he:starEach (e::es) X.env=(false,eval e X.env)::starEach es X.env:=by rfl) (hpl:(backTo pos (starEach es X.env)).any (·.1)=false:=by rfl) :
  PE X (.Call (.Name x p) (e::es) [] pos) (Ly sp dvs W t):=by
 intro pins s σ H Q I h;refine wpAny_Call_Name_kw (lH I hg hm ?_ hdb);refine Qj (h₀:=X.base) I.ok.mod.kin hk (thn (ha pos pins s σ H _ I h) fun us s1 ⟨vs,H1,I1,r,q⟩=>⟨I1.kIn,?_⟩) he hpl;have r2:Vals (vs++dvs) (us++ds):=r.append hd;have hl:(us++ds).length=ps.length:=by rw[← r2.length];exact F.len _ _ _ _ q
 refine wpAny_call (codeAny_mono (F.run X.A X.stack s1 H1 ⟨us,[]⟩ (us++ds) (vs++dvs) Q _ hr I1.env0 (hb s1 us I1.kIn hl) r2 q) fun r s' hq=>?_)
 cases r with
 |error e =>
  obtain⟨x,C,T,H',rfl,os,bare,un,hok,nx,nT,tx,tT,tr,q'⟩:=hq;have I':Inv X pins σ H' s':=I1.call' os un hok bare fun b z=>absurd z (by simp)
  exact ws pins σ H' s' x T C I' (I1.xok hx nx tx) (I1.xok hx nT tT) tr q'
 |ok fl =>
  cases fl with
  |ret u=>exact I1.after hq
  |next=>exact False.elim hq
  |brk=>exact False.elim hq
  |cont=>exact False.elim hq
end
def tTryAs(ie:Nat)(Cs:Addr->Prop)(tb:WK->TS)(ts:TS):TS:=fun Ds σ H=>tb (fun C σ1 H1=>∃ c,C=.ref c/\Cs c/\∀ x,H1 x=none->ts { nx:=fun σ2 H2=>Ds.nx (σ2.set ie none) H2,rt:=fun _ _=>False } (σ1.set ie (some (.ref x))) (upd H1 x (excO x c))) Ds σ H
theorem JI{X:Cx}{body:List Stmt}{b0:Stmt}{suite:List Stmt}{dn en:Str}{np hpos pos:Pos}{D:Addr}{ie:Nat}{Cs:Addr->Prop}{tb:WK->TS}{ts:TS}(hx:X.ex = [])(hst:X.stack=X.env::X.outer)(hfr:X.env.frame=some X.env.locals)(hN:X.N.Nodup)(hi:X.N[ie]?=some en)(hl:X.env.kindOf en=some .local)
  (hgD:Gl X dn) (hmD:X.mg dn=some (.ref D)) (eD:ExC X.K D) (hCs:∀ c,Cs c->ExC X.K c/\PZ X.K c (.ref D)=some true)
  (hb:∀ pins XE W,WshT (X.tried pins XE) W->PSs (X.tried pins XE) body (tb W)) (hs:∀ v,PSs (X.marked v) (b0::suite) ts) (hdb:(dn == ("__debug__" : Str))=false:=by decide) :
  PS X (.Try body [.ExceptHandler (some (.Name dn np)) (some en) (b0::suite) hpos] [] [] pos) (tTryAs ie Cs tb ts):=by
 intro pins s σ H Ds I h;refine wpAny_Try_except ?_;refine wpAny_mono (hb pins (fun e s₁=>wpAny (model X.prog X.w) X.A (noteFrame e X.env) (fun _ s₂=>wpAny (model X.prog X.w) X.A (setFlight e none) (fun _ s₃=>wpAny (model X.prog X.w) X.A (handleBy e X.env [.ExceptHandler (some (.Name dn np)) (some en) (b0::suite) hpos]) (SP X pins Ds) X.xe s₃) X.xe s₂) X.xe s₁) _ ?_ [] s σ H Ds I.tried h) (fun f s1 q=>?_) fun _ _ z=>z
 ·intro pins' σ1 H1 s1 x T C I1 xx xT tr hw;obtain⟨c,rfl,hc,hts⟩:=hw;have I2:Inv X pins σ1 H1 s1:=I1.untried;have x2:XOk X pins H1 x:=xx.untried;have T2:XOk X pins H1 T:=xT.untried;have frm:X.A.frames=some (X.env::X.outer):=by rw[← hst];exact I2.ok.frames
  have fly:∀{h:Heap}{T:Addr},Inv X pins σ1 H1 { s1 with heap:=h }->Trc h x (.ref c) T->∃ a0,Heap.FlyingW (hidX X h [x,T]) (X.env::X.outer) x (.ref c) a0 h:=fun{h T} J tr=>by
   obtain⟨oe,vs,a0,oT,ts,he,hcl,h0,hd,h1,hTe,hT,hdT,h3⟩:=tr;exact⟨a0,Il _ _,m9 (by simp),hst▸J.hidF [x,T],⟨oe,vs,T,oT,ts,he,⟨hcl,h0⟩,hd,h1,m9 (by simp),hTe,hT,hdT,h3⟩⟩
  have two:∀{T:Addr},XOk X pins H1 T->∀ b∈[x,T],XOk X pins H1 b:=fun{T} hT b hb=>by
   rcases NU.mp hb with e | hb
   ·rw[e];exact x2
   ·have e:b=T:=by simpa using hb
    rw[e];exact hT
  obtain⟨a0,fl⟩:=fly (h:=s1.heap) I2 tr;refine wpAny_looks_onW frm hfr fl fun h4 held4 up4=>?_;refine wpAny_landsW held4 fun h5 fl5 up5=>?_;obtain⟨I5,T5,xT5,tr5⟩:=I2.left hx (two T2) fl5.1 fl5.2.2.2 (up4.trans up5);refine wpAny_handleBy_cons (codeAny_handlers_test (Calls.Name_function_global I5.ok.kind hgD (Calls.loadGlobal_global (by rw[I5.ok.glob];exact I5.mod.glob.keeps I5.bk) hmD ?_) hdb)) (by intro q;cases q)
  obtain⟨e1,e2⟩:=hCs c hc;obtain⟨_,_,_,_,_,_,_,_,_,_,_,_,_,_,_,_,_,hC,_,_,_,mC⟩:=CG e1 I5.kIn;obtain⟨_,_,_,_,_,_,_,_,_,_,_,_,_,_,_,_,_,hD,_,_,TD,_⟩:=CG eD I5.kIn;have hDB:=TD.hasType (X:="BaseException") (b:=true) rfl;obtain⟨ob,_,_,_,_,hob,hcl,_⟩:=id tr5;refine exc_up hC hD hob hcl (by rw[List.contains_cons,hDB,Bool.or_true]) (mC _ _ e2) ?_
  refine codeAny_handlers_suite_as ?_;obtain⟨a5,fl5'⟩:=fly I5 tr5;refine lands_againW (s:={ s1 with heap:=h5 }) fl5' fun h6 fl6 up6=>?_;obtain⟨I6,T6,xT6,tr6⟩:=I5.left hx (two xT5) fl6.1 fl6.2.2.2 up6;obtain⟨oe,_,_,_,_,he,hcl6,_⟩:=id tr6;have I7:=I6.xtrack (o:=excO x c) x2 ⟨⟨oe,he,hcl6⟩,⟨oe,he⟩,fun h1 h2 ⟨o,z1,z2⟩ kk=>⟨o,kk o z1,z2⟩⟩;refine mI I7 hN hi (.inl hl) (v:=.ref x) rfl (fun s8 I8=>?_) (.inr hl);refine wpAny_mono (hs (.ref x) pins s8 _ _ _ (I8.marked _) (hts x x2.trk)) (fun f s9 q9=>?_) fun _ _ z=>z.elim
  cases f with
  |next =>
   obtain⟨σ9,H9,I9,q9⟩:=q9;have I9':Inv X pins σ9 H9 s9:=Inv.unmarked (hd:=I2.ok.hd) (fr:=I2.ok.frames) I9;obtain⟨m,hm⟩:=I9'.loc;refine wpAny_nameGoes_keeps hl hm.1 (by rw[I9'.ok.kind];rfl) fun h' v hn hss=>?_
   exact⟨_,_,I9'.gone hN hi hm hn hss,q9⟩
  |brk=>obtain⟨_,_,_,z⟩:=q9;exact z.elim
  |cont=>obtain⟨_,_,_,z⟩:=q9;exact z.elim
  |ret u=>obtain⟨_,_,_,_,_,z⟩:=q9;exact z.elim
 ·have q':=SP.untried q
  cases f with
  |next=>exact wpAny_execs_nil q'
  |brk=>exact q'
  |cont=>exact q'
  |ret u=>exact q'
theorem HZ{K:NS}{x c:Value}{Hh:Heap->Prop}(ty:∀ (M:Model) (h:Heap),Hh h->Q5 M h (typeOf x) c):Answers (fun s=>Hh s.heap) x c true:=by
 intro dep tk prog w A R s hs;obtain⟨h0,g,d,tt,os⟩:=s;obtain⟨p,hq⟩:=hs;have LT:=ty (model prog w) h0 p;unfold Builtin.«isinstance.nested»;refine wpAny_bind (LT.at ?_);rw[if_pos (by simp)]
 first
  |exact wpAny_bind (wpAny_rule (hq tt))
  |exact wpAny_bind (wpAny_rule (wpAny_pure (hq tt)))
  | ((repeat lk);exact hq tt)
theorem IL{X:Cx}:jf X (.builtin "isinstance") (fun xs H Q=>∃ x c,xs = [.ref x,.ref c]/\H x=some (excO x c)/\Q (.bl true) H):=by
 intro pins s σ H xs us Q I r h;obtain⟨x,c,rfl,hx,q⟩:=h;obtain⟨v1,v2,rfl,r1,r2⟩:=EG r
 cases r1
 cases r2
 obtain⟨⟨o,e,hc⟩,_,_⟩:=(show bN X.prog X.w H s.heap x (excO x c) from I.hok x _ hx);have an:=HZ (K:=X.K) (x:=.ref x) (c:=.ref c) (Hh:=fun h=>∃ o,h.get? x=some o/\o.cls=.ref c) fun M h ⟨o,z1,z2⟩=>z2▸(PySem.W.Looks.ld z1).andThen .now;exact call_isinstance (S:=fun _ R s=>(∃ o,s.heap.get? x=some o/\o.cls=.ref c)/\∀ tk,R (.ok (.ret (.bool true))) { s with toks:=tk }) (fun prog w A R s hs=>isinstance_outer (an 0 _ prog w A R s hs) (by intro z;cases z)) ⟨⟨o,e,hc⟩,fun tk=>⟨.bl true,H,I.tok tk,rfl,q⟩⟩
section
variable{prog:Program}{w:World}{A:Around}{E:Value->Shared->Prop}{s:Shared}
theorem HL:typeLookup (.type "list_reverseiterator") "__len__" = pure none:=by rw[typeLookup_type,builtinLookup_eq_fast];kernel_rfl
theorem KD:typeLookup (.type "list_reverseiterator") "__length_hint__" = pure (some (.builtin "list_reverseiterator.__length_hint__")):=by rw[typeLookup_type,builtinLookup_eq_fast];kernel_rfl
theorem KZ{r:Addr}{Q:Bool->Shared->Prop} (hT:s.TypeIs (.ref r) "list_reverseiterator") (h:Q false s):wpAny (model prog w) A (Builtin.List.listLengthHint (.ref r)) Q E s:=by
 unfold Builtin.List.listLengthHint;refine wpAny_bind (wpAny_specialOf hT HL ?_);wp_delta;refine wpAny_ite_split (fun hab=>absurd hab (by decide)) (fun _=>?_)
 refine wpAny_ite_split (fun hab=>absurd hab (by decide)) (fun _=>?_)
 refine wpAny_bind (wpAny_specialOf hT KD ?_);generalize hid:("list_reverseiterator.__length_hint__" : String)=id0;wp_delta;rw[show splitId id0=some ("list_reverseiterator","__length_hint__") from by subst hid;decide]
 subst hid;refine wpAny_bind (wpAny_isInstance (T:="list_reverseiterator") (b:=true) hT (by rw[isSubtype_type];kernel_rfl) ?_)
 refine wpAny_ite_split (fun hab=>absurd hab (by decide)) (fun _=>?_)
 refine wpAny_ite_split (fun _=>?_) (fun hab=>absurd (by decide) hab)
 refine wpAny_ite_split (fun hab=>absurd hab (by decide)) (fun _=>?_)
 exact wpAny_pure h
theorem FJ{R:Result->Shared->Prop}{r l S:Addr}{items:Array Value}(hh:A.handled=none)(hit:s.heap.IsRevIter r l ((items.size:Int)-1))(hl:s.heap.IsList l items)(hSr:S≠r)(hSl:S≠l)(hrl:l≠r)(res:Value)(c0:Nat)
  (hS:s.heap.get? S=some { cls:=.type "list",data:=.seq #[] c0 })
  (hR:∀ h' tk acc' c',(∀ b o,b≠S->b≠r->s.heap.get? b=some o->h'.get? b=some o)->h'.get? S=some { cls:=.type "list",dict:=none,data:=.seq acc' c',slots:=#[] }->ItemsOf (fun i v=>items[items.size-1-i]?=some v) acc' items.size->R (.ok (.ret res)) { s with heap:=h',toks:=tk }) (hn:items.size<=sizeLine) :
  wpAny (model prog w) A.in1 (Builtin.List.listExtendWith (.ref S) (.ref r) res)
   (fun fin s'=>match fin with | .done f=>R (.ok f) s' | .again c'=>c'.quiet=true/\codeAny (model prog w) A c' R s') (fun e s'=>R (.error e) s') s:=by
 have W:=Walks.listRev (prog:=prog) (w:=w) (A:=A.in1) hh r l hrl items;have hSf:S∉[r,l]:=by simp only[NU,O4,or_false,not_or];exact⟨hSr,hSl⟩
 have key:∀(h:Heap)(c1 tk:Nat),(0<=items.size/\h.IsRevIter r l ((items.size:Int)-1-((0:Nat):Int))/\h.IsList l items)->(∀ b o,b≠S->b≠r->s.heap.get? b=some o->h.get? b=some o) ->
   h.get? S=some { cls:=.type "list",data:=.seq #[] c1 }->codeAny (model prog w) A (.builtin "list.extend.loop" ⟨[.ref S,.ref r,res],[]⟩) R { s with heap:=h,toks:=tk }:=by
  intro h c1 tk hst hk hS1;refine codeAny_extend_loopS W.toS hn S hSf res items.size 0 _ #[] c1 rfl (O5 _) hst hS1 (ItemsOf.nil _) fun s' acc' c' hm hS' hacc=>?_;rw[Moved.eq_with hm];refine hR s'.heap s'.toks acc' c' (fun b o hb hbr e=>hm.heap b o (fun hmem=>?_) (hk b o hb hbr e)) hS' hacc;rcases NU.mp hmem with e' | hmem
  ·exact hb e'
  ·exact hbr (Ol.mp hmem)
 have hit0:s.heap.IsRevIter r l ((items.size:Int)-1-((0:Nat):Int)):=by
  have e:(items.size:Int)-1-((0:Nat):Int)=(items.size:Int)-1:=by omega
  rw[e];exact hit
 unfold Builtin.List.listExtendWith;refine wpAny_bind (wpAny_typeOf (T:="list_reverseiterator") hit.typeIs ?_);have h1:Builtin.List.listSameRef (.ref S) (.ref r)=false:=by simp[Builtin.List.listSameRef,hSr]
 have h2:(Value.type "list_reverseiterator" == Value.type "list")=false:=by decide
 have h3:(Value.type "list_reverseiterator" == Value.type "tuple")=false:=by decide
 simp only[h1,h2,h3,Bool.or_false,O2,if_false];refine wpAny_bind (wpAny_pyIter_revIter hit ?_);refine wpAny_bind (wpAny_holding (KZ hit.typeIs ?_));refine wpAny_ite_split (fun _=>?_) (fun _=>wpAny_pure ⟨plainId_quiet Qr _,key _ c0 _ ⟨O5 _,hit0,hl⟩ (fun b o _ _ e=>e) hS⟩);refine wpAny_bind (wpAny_rule ?_);refine wpAny_bind ?_;show wpAny _ _ (updateSeq S (·.push .none) >>= fun _=>updateSeq S (·.pop)) _ _ _;refine wpAny_bind (wpAny_updateSeq hS rfl ?_);have hS2:=Heap.get?_update_self (Obj.mapSeq (·.push Value.none)) hS rfl;refine wpAny_updateSeq (hz:=by seq_fits) hS2 rfl ?_
 have hS3:=Heap.get?_update_self (Obj.mapSeq (·.pop)) hS2 rfl;have oth:∀ b o,b≠S->s.heap.get? b=some o->((s.heap.update S (Obj.mapSeq (·.push Value.none))).update S (Obj.mapSeq (·.pop))).get? b=some o:=fun b o hb e=>(Heap.get?_update_other _ _ (Ne.symm hb)).trans ((Heap.get?_update_other _ _ (Ne.symm hb)).trans e);refine wpAny_pure ⟨plainId_quiet Qr _,key _ _ _ ⟨O5 _,hit0.at fun o e=>oth r o (Ne.symm hSr) e,hl.at fun o e=>oth l o (Ne.symm hSl) e⟩ (fun b o hb _ e=>oth b o hb e) hS3⟩
theorem KU{R:Result->Shared->Prop}{r l S:Addr}{items:Array Value}(hh:A.handled=none)(hit:s.heap.IsRevIter r l ((items.size:Int)-1))(hl:s.heap.IsList l items)(hSr:S≠r)(hSl:S≠l)(hrl:l≠r)
  (hS:s.heap.get? S=some { cls:=.type "list",data:=.seq #[] })
  (hR:∀ h' tk acc' c',(∀ b o,b≠S->b≠r->s.heap.get? b=some o->h'.get? b=some o)->h'.get? S=some { cls:=.type "list",dict:=none,data:=.seq acc' c',slots:=#[] }->ItemsOf (fun i v=>items[items.size-1-i]?=some v) acc' items.size->R (.ok (.ret .none)) { s with heap:=h',toks:=tk }) (hn:items.size<=sizeLine) :
  wpAny (model prog w) A.in1 (Builtin.«list.__init__» ⟨[.ref S,.ref r],[]⟩)
   (fun fin s'=>match fin with | .done f=>R (.ok f) s' | .again c'=>c'.quiet=true/\codeAny (model prog w) A c' R s') (fun e s'=>R (.error e) s') s:=by
 show wpAny _ _ (do let old ← Builtin.List.listItems (.ref S);Builtin.List.listUpdate (.ref S) (fun _=>#[]);letGo old.toList.reverse;Builtin.List.listExtendWith (.ref S) (.ref r) .none) _ _ s
 refine wpAny_bind ?_;unfold Builtin.List.listItems;refine wpAny_bind (wpAny_seqItems hS rfl (wpAny_pure ?_));show wpAny _ _ (updateSeq S (fun _=>#[]) >>= fun _=>letGo (#[]:Array Value).toList.reverse >>= fun _=>Builtin.List.listExtendWith (.ref S) (.ref r) .none) _ _ s;refine wpAny_bind (wpAny_updateSeq hS rfl ?_);have hS2:=Heap.get?_update_self (Obj.mapSeq (fun _=>(#[]:Array Value))) hS rfl;have oth:∀ b o,b≠S->s.heap.get? b=some o->(s.heap.update S (Obj.mapSeq (fun _=>(#[]:Array Value)))).get? b=some o:=fun b o hb e=>(Heap.get?_update_other _ _ (Ne.symm hb)).trans e;refine wpAny_bind (wpAny_letGo ?_);refine FJ hh (hit.at fun o e=>oth r o (Ne.symm hSr) e) (hl.at fun o e=>oth l o (Ne.symm hSl) e) hSr hSl hrl .none _ hS2 (fun h' tk acc' c' hk hS' hacc=>?_) hn;exact hR h' tk acc' c' (fun b o hb hbr e=>hk b o hb hbr (oth b o hb e)) hS' hacc
theorem Cf{r l:Addr}{items:Array Value}{Q:Value->Shared->Prop}(hh:A.handled=none)(hit:s.heap.IsRevIter r l ((items.size:Int)-1))(hl:s.heap.IsList l items)(hrl:l≠r)(hn:items.size<=sizeLine)
  (hQ:∀ h' tk acc' c',(∀ b o,b≠r->s.heap.get? b=some o->h'.get? b=some o)->h'.get? s.heap.objs.size=some { cls:=.type "list",dict:=none,data:=.seq acc' c',slots:=#[] }->ItemsOf (fun i v=>items[items.size-1-i]?=some v) acc' items.size->Q (.ref s.heap.objs.size) { s with heap:=h',toks:=tk }) :
  wpAny (model prog w) A (call (.type "list") [.ref r]) Q E s:=by
 refine callType_codes (Q₁:=fun obj s₁=>obj=.ref s.heap.objs.size/\s₁={ s with heap:=s.heap.push { cls:=.type "list",data:=.seq #[] } }) PySem.F.called_list (PySem.F.typeCall_list_1 _) PySem.F.entry_list_init
  (code_list_new _ ⟨rfl,rfl⟩) fun obj s₁ h₁=>?_
 obtain⟨rfl,rfl⟩:=h₁;have hS:(s.heap.push { cls:=.type "list",data:=.seq #[] }).get? s.heap.objs.size=some { cls:=.type "list",data:=.seq #[] }:=Heap.get?_push_size _ rfl;have hr:r<s.heap.objs.size:=let ⟨_,ho,_⟩:=hit;Heap.lt_size ho;have hl':l<s.heap.objs.size:=let ⟨_,ho,_⟩:=hl;Heap.lt_size ho;refine⟨⟨_,hS,rfl⟩,PySem.F.args_list_init_2 _ _,KU (A:=A.in1) hh (hit.at fun o e=>Heap.get?_push_of_some _ e) (hl.push _) (PR hr) (PR hl') hrl hS (fun h' tk acc' c' hk hS' hacc=>?_) hn⟩;exact⟨rfl,hQ h' tk acc' c' (fun b o hb e=>hk b o (Ot (Heap.lt_size e)) hb (Heap.get?_push_of_some _ e)) hS' hacc⟩
end
section
variable{X:Cx}
theorem Inv.track{pins:List (Addr×Obj)}{σ:St}{H:Hp}{s:Shared}{a:Addr}{o:HO}(I:Inv X pins σ H s)(f:FpOk X pins H a)(new:bN X.prog X.w (upd H a o) s.heap a o):Inv X pins σ (upd H a o) s:=by
 obtain⟨f0,f1,f2,f3,f4,f5⟩:=f;have ne:∀ b u,H b=some u->b≠a:=fun b u e=>ax e f0;refine I.step (g':=s.gens) (t':=s.toks) (d':=s.drawn) (h':=s.heap) (ch:=[a]) (fun b hb=>?_) (fun b o _ _ _ e _=>e) (fun b o _ _ _ e _=>⟨o.slots,e⟩) (fun b o hc e n=>?_) (fun b o _ e=>⟨o,e⟩) (fun b xs e=>by rw[ak (ne b _ e)];exact e) (fun b o u e=>by rw[ak (ne b _ e)];exact e)
  (fun b ps e=>⟨#[],by rw[ak (ne b _ e),e];simp⟩) (fun m hm=>hm) (fun b u e=>?_) I.bare
 ·have eb:b=a:=by simpa using hb
  rw[eb];exact⟨f3,f1,f4,f5⟩
 ·rw[ak (fun z=>hc (by simp[z]))]
  exact n
 ·by_cases hb:b=a
  ·rw[hb,ae]at e
   cases e
   rw[hb];exact new
  ·rw[ak hb]at e;exact(I.hok b u e).stay (fun c v _ q=>q) (fun c q=>by rw[ak (ne c _ q)];exact q) fun c xs q=>by rw[ak (ne c _ q)];exact q
theorem Jl{ys:List V}{its:List Value}{acc:Array Value}(rv:Vals ys its)(h:ItemsOf (fun i v=>its.toArray[its.toArray.size-1-i]?=some v) acc its.toArray.size):Vals ys.reverse acc.toList:=by
 have e:acc.toList=its.reverse:=by
  apply RJ;intro i;by_cases hi:i<its.length
  ·have hacc:i<acc.size:=by rw[h.1];simpa using hi
   have q:=h.2 i acc[i] (Px hacc);rw[Pf,Px hacc,Rj hi,← q];simp
  ·rw[P9 (by rw[OI,h.1];simpa using hi),P9 (by rw[Rz];omega)]
 rw[e];exact rv.reverse
theorem E1{e:Expr}{te:TE}{p p2 pos pos2:Pos}(hc:X.calm=true) (hg:Gl X "list") (hm:X.mg "list" = none) (hg2:Gl X "reversed") (hm2:X.mg "reversed" = none) (he:PE X e te)
  (h1:starEach [.Call (.Name "reversed" p2) [e] [] pos2] X.env = [(false,eval (.Call (.Name "reversed" p2) [e] [] pos2) X.env)]:=by rfl) (h2:starEach [e] X.env=(false,eval e X.env)::starEach [] X.env:=by rfl) :
  PE X (.Call (.Name "list" p) [.Call (.Name "reversed" p2) [e] [] pos2] [] pos) (fun σ H Q=>te σ H fun x H1=>∃ l ys,x=.ref l/\SqL X.K H1 l ys/\∀ q,H1 q=none->Q (.ref q) (upd H1 q (.lst ys.reverse))):=by
 intro pins s σ H Q I h;refine wpAny_Call_Name_kw (mV I hg hm i5 ?_);refine PyProof.Rows.callWith_type1 ?_ h1 rfl;rw[h1];refine Calls.spliced_cons ?_;refine wpAny_Call_Name_kw (mV I hg2 hm2 Dk ?_);refine PyProof.Rows.callWith_type1 ?_ h2 rfl;rw[h2];refine Calls.spliced_cons (thn (he pins s σ H _ I h) fun u s1 ⟨x,H1,I1,r1,q1⟩=>?_);obtain⟨l,ys,rfl,hq,q⟩:=q1
 cases r1
 refine Calls.spliced_nil ?_;obtain⟨its,rv,pl,hz⟩:=I1.list hq;have hn:its.toArray.size=ys.length:=by rw[OC,rv.length]
 refine call_reversed_list pl.isList ?_;refine Calls.spliced_nil ?_;have hlt:l<s1.heap.objs.size:=by
  obtain⟨o,n,e1,_⟩:=pl;exact Heap.lt_size e1
 have I2:Inv X pins σ H1 { s1 with heap:=s1.heap.push (revObj l ((its.toArray.size:Int)-1)) }:=I1.kept (t':=s1.toks) fun b o e=>Heap.get?_push_of_some _ e;have hit:(s1.heap.push (revObj l ((its.toArray.size:Int)-1))).IsRevIter s1.heap.objs.size l ((its.toArray.size:Int)-1):=⟨_,Heap.get?_push_size _ rfl,rfl,rfl⟩;refine Cf (I.ok.hd hc) hit (pl.isList.push _) (Ot hlt) (by rw[hn];exact hz) fun h' tk acc' c' hk hS hacc=>?_
 obtain⟨f0,f1,f2,f3,f4,f5⟩:=I1.fpOk (H':=H1) (NY _) (I1.hok.fresh (NY _));have I3:Inv X pins σ H1 { s1 with heap:=h',toks:=tk }:=I2.turned (t':=tk) (fun b o hb e=>hk b o hb e) f0 f1 f3 f4 f5;have fS:=I2.fpOk (H':=H1) (NY _) (I2.hok.fresh (NY _));have I4:=I3.track (o:=.lst ys.reverse) fS ⟨by rw[Rz];exact hz,acc'.toList,c',Jl rv hacc,by rw[Array.toArray_toList];exact hS⟩
 exact⟨.ref _,_,I4,rfl,q _ fS.1⟩
theorem zw{P:Program}{w:World}:∀{kvs:List (Key×V)}{vs:List (Key×Value)}{us:List Value},KV kvs vs->us.length=vs.length->(∀(j:Nat)(v:Value),us[j]?=some v->∃ k x,vs[j]?=some (k,x)/\(cj P w).is k v=true)->Vals (kvs.map fun q=>kV q.1) us
 |_,_,[],.nil,_,_=>.nil
 |_,_,_::_,.nil,e,_=>by cases e
 |_,_,[],.cons _ _,e,_=>by cases e
 |_,_,u::us,.cons (a:=p) (b:=q) r rr,e,k=>by
  obtain⟨kk,x,e1,e2⟩:=k 0 u rfl;have eq:q=(kk,x):=Ov e1;have hk:p.1=kk:=by rw[r.1,eq]
  refine .cons ?_ (zw rr (Rf e) fun j v ej=>k (j+1) v ej);show RelV (kV p.1) u;rw[hk];rcases bG (show Co kk u=true from e2) with⟨i,t,rfl,rfl⟩ | ⟨z,t,rfl,rfl⟩
  ·exact⟨t,rfl⟩
  ·exact⟨t,rfl⟩
end
theorem Inv.turnedL{X:Cx}{pins:List (Addr×Obj)}{σ:St}{H:Hp}{s:Shared}{h':Heap}{t':Nat}{fp:List Addr}(I:Inv X pins σ H s)(k:∀ b o,b∉fp->s.heap.get? b=some o->h'.get? b=some o)(hf:∀ b∈fp,FpOk X pins H b):Inv X pins σ H { s with heap:=h',toks:=t' }:=by
 have nit:∀ b u,H b=some u->b∉fp:=fun b u e z=>by rw[(hf b z).1]at e;cases e
 refine I.step (g':=s.gens) (d':=s.drawn) (ch:=fp) (fun b hb=>?_) (fun b o _ _ hc e _=>k b o hc e) (fun b o _ _ hc e _=>⟨o.slots,k b o hc e⟩) (fun _ _ _ _ n=>n)
  (fun b o hc e=>⟨o,k b o hc e⟩) (fun _ _ e=>e) (fun _ _ _ e=>e) (fun b ps e=>⟨#[],by rw[e];simp⟩) (fun m hm=>?_) (fun b u e=>?_) I.bare
 ·obtain⟨f0,f1,f2,f3,f4,f5⟩:=hf b hb;exact⟨f3,f1,f4,f5⟩
 ·obtain⟨o,es,ep,ho,r⟩:=hm;exact⟨o,es,ep,k _ o (fun z=>(hf _ z).2.1 rfl) ho,r⟩
 ·refine(I.hok b u e).stay (fun c v hc q=>k c v ?_ q) (fun _ q=>q) fun _ _ q=>q;rcases hc with z | z
  ·rw[z];exact nit b u e
  ·exact nit c _ z
def Ite(K:NS)(a:Addr):It :=
 ⟨fun i H=>∃ xs x,SqL K H a xs/\xs[i]?=some x,fun i H v H'=>∃ T x,H T=none/\v=.ref T/\H'=upd H T (.tup [.int (i:Int),x])/\∀ xs,SqL K H a xs->xs[i]?=some x,fun i H=>∃ xs,SqL K H a xs/\xs.length<=i⟩
theorem Gy{P:Program}{w:World}{K:NS}{es:List Expr}{k:Nat}{pos:Pos}(a e it:Addr)(hei:e≠it):Turn P w K (.Tuple es k pos) (Ite K a) [e,it] e (fun i h=>(∃ old,IsEnum h e it ((i:Nat):Int) old)/\h.IsListIter it a i) where
 mem:=by simp
 obj:=fun i h st b hb=>by
  obtain⟨⟨old,he⟩,o,e2,c,d⟩:=st;rcases NU.mp hb with rfl | hb
  ·exact⟨_,he,fun v z=>by
    have z':Data.fields _=Data.cell v:=z
    cases z'⟩
  ·have e3:b=it:=by simpa using hb
   subst e3;exact⟨o,e2,fun v z=>by rw[d]at z;cases z⟩
 keep:=fun i h h' st kk=>by
  obtain⟨⟨old,he⟩,hit⟩:=st;exact⟨⟨old,kk e (by simp) _ he⟩,hit.at fun o q=>kk it (by simp) o q⟩
 item:=by
  intro X hP hw hK hc i pins s σ H E I hf st hg;subst hP hw hK;obtain⟨xs,x,hq,hx⟩:=hg;obtain⟨its,rv,p,hz⟩:=I.list hq;obtain⟨u,hu,ru⟩:=rv.get hx;obtain⟨⟨old,he⟩,hit⟩:=st;refine wpAny_pyNext_enum_item he hit p.isList (x:=u) (by simpa using hu) hei fun h' ho hit' hT hsz hk=>?_
  refine⟨_,rfl,?_⟩;refine wpAny_letOwnedTupleGo_enum ho fun h2 he2 hs2=>?_;have hs2':Heap.SameBut e h' h2:=hs2;have hel:e<s.heap.objs.size:=Heap.lt_size he;have hil:it<s.heap.objs.size:=by obtain⟨_,q,_⟩:=hit;exact Heap.lt_size q
  have hfr:H s.heap.objs.size=none:=I.hok.fresh (NY _);have I0:Inv X pins σ (upd H s.heap.objs.size (.tup [.int (i:Int),x])) { s with heap:=s.heap.push { cls:=.type "tuple",data:=.seq #[.int (i:Int) s.toks,u] },toks:=s.toks+1 } :=
   I.laid (t':=s.toks+1) (fun b u e=>Heap.get?_push_of_some _ e) (NY _) ⟨by show 2<=sizeLine;decide,[.int (i:Int) s.toks,u],.cons ⟨_,rfl⟩ (.cons ru .nil),⟨_,Heap.get?_push_size _ rfl,rfl,_,rfl⟩⟩
  have hfb:∀ b∈[e,it],b<s.heap.objs.size:=fun b hb=>by
   rcases NU.mp hb with rfl | hb
   ·exact hel
   ·have e3:b=it:=by simpa using hb
    rw[e3];exact hil
  have hn:∀ b∈[e,it],upd H s.heap.objs.size (.tup [.int (i:Int),x]) b=none:=fun b hb=>by
   rw[ak (Ot (hfb b hb))];exact(hf b hb).1
  have I2:Inv X pins σ (upd H s.heap.objs.size (.tup [.int (i:Int),x])) { s with heap:=h2,toks:=s.toks+1 }:=Inv.turnedL (s:={ s with heap:=s.heap.push { cls:=.type "tuple",data:=.seq #[.int (i:Int) s.toks,u] },toks:=s.toks+1 }) (h':=h2) I0 (t':=s.toks+1) (fp:=[e,it]) (fun b o hb q=>by
   have nb:b≠e:=fun z=>hb (by simp[z])
   have nb2:b≠it:=fun z=>hb (by simp[z])
   refine(hs2'.2 b nb).trans ?_;rcases Heap.get?_push_cases q with⟨z1,z2⟩ | q
   ·rw[z1,z2];exact hT
   ·exact hk b o nb nb2 q) fun b hb=>⟨hn b hb,(hf b hb).2⟩
  refine⟨.ref s.heap.objs.size,_,I2,rfl,⟨s.heap.objs.size,x,hfr,rfl,rfl,fun ys hy=>by rw[I.list_inj hy hq];exact hx⟩,?_,hn⟩
  refine⟨⟨u,?_⟩,hit'.at fun o q=>(hs2'.2 it (Ne.symm hei)).trans q⟩;have e4:(((i+1:Nat):Nat):Int)=(i:Int)+1:=by omega
  rw[e4];exact he2
 done:=by
  intro X hP hw hK hc i pins s σ H E I hf st hg;subst hP hw hK;obtain⟨xs,hq,hx⟩:=hg;obtain⟨its,rv,p,hz⟩:=I.list hq;obtain⟨⟨old,he⟩,hit⟩:=st;have hl:=rv.length;obtain⟨f0,f1,f2,f3,f4,f5⟩:=hf it (by simp)
  exact wpAny_pyNext_enum_end (I.ok.hd hc) he hit p.isList (by simp;omega) fun h' eb=>⟨rfl,I.turned (t':=s.toks) (fun b o hb e=>eb b o hb e) f0 f1 f3 f4 f5⟩
 self:=fun _ _ _ _ _ st h=>by
  obtain⟨⟨old,he⟩,_⟩:=st;exact wpAny_pyIter_enum he h
section
variable{X:Cx}
def iEnum(K:NS)(ta:TA):TI:=fun σ H R=>ta σ H fun vs H1=>∃ a,vs = [.ref a]/\(∃ xs,SqL K H1 a xs)/\R (Ite K a) H1
theorem He{l:Expr}{ta:TA}{es:List Expr}{k:Nat}{tp p pos:Pos} (hg:Gl X "enumerate") (hm:X.mg "enumerate" = none) (ha:PA X [l] ta) (hs:starEach [l] X.env = [(false,eval l X.env)]:=by rfl) :
  PI X (.Tuple es k tp) (.Call (.Name "enumerate" p) [l] [] pos) (iEnum X.K ta):=by
 intro pins s σ H R I h;refine Call_ (mV I hg hm Ak (PyProof.Rows.callWith_type1 (thn (ha pos pins s σ H _ I h) fun us s1 ⟨vs,H1,I1,r1,q1⟩=>?_) hs rfl));obtain⟨a,e,⟨xs,hq⟩,q⟩:=q1;subst e;obtain⟨u,rfl,ru⟩:=vi r1
 cases ru
 obtain⟨its,rv,p,hz⟩:=I1.list hq;refine call_enumerate_list p.isList fun h' he hit hsz hk=>?_;refine wpAny_pyIter_enum he ?_;refine⟨s1.heap.objs.size+1,[s1.heap.objs.size+1,s1.heap.objs.size],_,_,H1,rfl,I1.kept (t':=s1.toks) hk,Gy a _ _ (Nat.succ_ne_self _),⟨⟨_,he⟩,hit⟩,fun b hb=>?_,q⟩;have hb':s1.heap.objs.size<=b:=by
  rcases NU.mp hb with rfl | hb
  ·exact Ql _
  ·have e3:b=s1.heap.objs.size:=by simpa using hb
   rw[e3];exact NY _
 exact I1.fpOk hb' (I1.hok.fresh hb')
end
theorem Ek{K:NS}{a:Addr}{xs:List V}{g:TG}{tb:TS}{D:Ends}{σ:St}{H:Hp}(Pv:Nat->St->Hp->Prop)(h0:Pv 0 σ H)(hl:∀ i σ H,i<=xs.length->Pv i σ H->SqL K H a xs)
  (hs:∀ i x σ H T,xs[i]?=some x->Pv i σ H->H T=none->g (.ref T) σ (upd H T (.tup [.int (i:Int),x])) fun σ2 H2=>tb { D with nx:=Pv (i+1),ct:=Pv (i+1),bk:=D.nx } σ2 H2) (hd:∀ σ H,Pv xs.length σ H->D.nx σ H) :
  ∃ W:Nat->Nat->St->Hp->Prop,(∃ m,W 0 m σ H)/\∀ i m σ H,W i m σ H ->
   ((Ite K a).stop i H/\D.nx σ H)∨((Ite K a).go i H/\∃ N:St->Hp->Prop,(∀ σ' H',N σ' H'->∃ m',m'<m/\W (i+1) m' σ' H')/\∀ x H',(Ite K a).yld i H x H'->g x σ H' fun σ2 H2=>tb { D with nx:=N,ct:=N,bk:=D.nx } σ2 H2):=by
 refine⟨fun i m σ H=>m=xs.length-i/\i<=xs.length/\Pv i σ H,⟨xs.length,by simp,O5 _,h0⟩,?_⟩
 rintro i m σ H ⟨rfl,hi,p⟩;have q:=hl i σ H hi p;by_cases hlt:i<xs.length
 ·refine .inr ⟨⟨xs,xs[i],q,by simp[hlt]⟩,Pv (i+1),fun σ' H' p'=>⟨xs.length-(i+1),by omega,rfl,hlt,p'⟩,fun v H' y=>?_⟩
  obtain⟨T,x,hT,rfl,rfl,y⟩:=y;exact hs i x σ _ T (y xs q) p hT
 ·have e:i=xs.length:=by omega
  subst e;exact .inl ⟨⟨xs,q,NY _⟩,hd σ H p⟩
section
variable{X:Cx}
end
theorem sf{n j:Nat}(h:j<n):ixN n (j:Int)=some j:=by
 unfold ixN;rw[if_pos (by omega),if_pos (by omega)]
 rfl
theorem jL:∀{ds:List PyData},(∀ d∈ds,d.canLay0=true)->PyData.canLayAll0 ds=true
 |[],_=>by simp[PyData.canLayAll0]
 |d::ds,h=>by
  rw[PyData.canLayAll0,h d (by simp),jL fun x hx=>h x (by simp[hx])]
  rfl
theorem lV{n:Nat}:∀{ds:List PyData},(∀ d∈ds,d.depth<=n)->PyData.depthAll ds<=n
 |[],_=>by simp[PyData.depthAll]
 |d::ds,h=>by
  have h1:=h d (by simp)
  have h2:=lV (ds:=ds) fun x hx=>h x (Oe _ hx);rw[PyData.depthAll];omega
theorem rf{ds:List PyData}(h:∀ d∈ds,d.canLay0=true/\d.depth<=10):SeqAt.shaped (.list ds)=true:=by
 have h1:=jL fun d hd=>(h d hd).1;have h2:=lV fun d hd=>(h d hd).2;have h3:PyData.depth (.list ds)<=64:=by simp only[PyData.depth];omega
 show(PyData.canLay0 (.list ds)&&decide (PyData.depth (.list ds)<=64))=true;rw[QH];exact⟨by simp only[PyData.canLay0];exact h1,decide_eq_true h3⟩
def cxG(X:Cx)(scope:Scope)(fr:List (Str×Nat))(xs:List Str)(C:Addr)(ex:List Addr)(s:Shared)(H:Hp):Cx where
 prog:=X.prog
 w:=X.w
 K:=X.K
 mg:=X.mg
 base:=X.base
 A:=X.A
 N:=xs++fr.map (·.1)
 s₀:=s
 H₀:=H
 env:=compEnvC scope (clOf X.env fr) C X.env
 outer:=X.stack
 stack:=X.stack
 ex:=ex
 fn:=fun _=>false
 calm:=X.calm
 pn:=[]
 xe:=fun _ _=>False
structure oY(X:Cx)(scope:Scope)(fr:List (Str×Nat))(xs:List Str):Prop where
 clos:closureFor scope X.env=pure (clOf X.env fr)
 cell:∀ y∈scope.names,y.2≠.cell
 kind:scope.kind=.function
 names:∀ y∈scope.names,y.2=.local->scope.names.lookup y.1=some .local
 slot:∀ p∈fr,X.N[p.2]?=some p.1/\X.env.kindOf p.1=some .cell
 has:∀ y∈(relabel scope X.env).names,(y.2=.cell∨y.2=.free)->y.1∈fr.map (·.1)
 frk:∀ p∈fr,(relabel scope X.env).names.lookup p.1=some .cell
theorem oY.of{X:Cx}{scope:Scope}{fr:List (Str×Nat)}{xs:List Str}(clos:closureFor scope X.env=pure (clOf X.env fr))(cell:∀ y∈scope.names,y.2≠.cell)(kind:scope.kind=.function)(names:∀ y∈scope.names,y.2=.local->scope.names.lookup y.1=some .local)
  (slot:∀ p∈fr,X.N[p.2]?=some p.1/\X.env.kindOf p.1=some .cell) (nf:∀ z∈scope.names,z.2=.free->z.1∈fr.map (·.1)) (frk:∀ p∈fr,(relabel scope X.env).names.lookup p.1=some .cell):oY X scope fr xs where
 clos:=clos
 cell:=cell
 kind:=kind
 names:=names
 slot:=slot
 has:=fun z hz hk=>by
  obtain⟨⟨n,k⟩,hm,e⟩:=OL.mp (show z∈scope.names.map _ from hz);have h2:=cell _ hm;dsimp only at e h2;have hn:z.1=n:=by rw[← e];split<;>rfl
  have hf:k=.free:=by
   by_cases q:k=.free
   ·exact q
   ·have hb:(k == NameKind.free)=false:=by simpa using q
    rw[hb]at e;simp only[Rw,O2,if_false]at e;subst e;exact(hk.elim h2 q).elim
  have:=nf _ hm hf;rw[hn];exact this
 frk:=frk
abbrev nons(xs:List Str):St:=PN xs.length none
section
variable{X:Cx}{pins:List (Addr×Obj)}{σ:St}{H:Hp}{s:Shared}{scope:Scope}{fr:List (Str×Nat)}{xs:List Str}
theorem oY.cells(O:oY X scope fr xs)(I:Inv X pins σ H s){y:Str}{c:Addr}(h:(clOf X.env fr).lookup y=some c):X.env.cells.lookup y=some c:=by
 obtain⟨hm,e⟩:=gX h;obtain⟨p,hp,ep⟩:=OL.mp hm;have k:=(O.slot p hp).2;rw[ep]at k;obtain⟨c',e'⟩:=I.ok.has y (.inl k);rw[e']at e;rw[e',e];rfl
theorem Ib{fp:List Addr}(O:oY X scope fr xs)(I:Inv X pins σ H s)(hf:∀ b∈fp,FpOk X pins H b)(hfs:∀ b∈fp,b<s.heap.objs.size){g h':Heap}{tk:Nat}(hg:g=s.heap.push (LCg.lst []))
  (hk:∀ b o,g.get? b=some o->h'.get? b=some o) (hC:h'.Ns g.objs.size fun _=>none) :
  Inv (cxG X scope fr xs g.objs.size (s.heap.objs.size::fp) { s with heap:=g } H) (X.pn++pins++[(s.heap.objs.size,LCg.lst [])]) (nons xs++frOf fr σ) H { s with heap:=h',toks:=tk }:=by
 have hsz:g.objs.size=s.heap.objs.size+1:=by rw[hg,Heap.size_push]
 have kp:∀ b o,s.heap.get? b=some o->g.get? b=some o:=fun b o e=>by rw[hg];exact Heap.get?_push_of_some _ e
 have hk0:∀ b o,s.heap.get? b=some o->h'.get? b=some o:=fun b o e=>hk b o (kp b o e);have hDo:h'.get? s.heap.objs.size=some (LCg.lst []):=hk _ _ (by rw[hg];exact Heap.get?_push_size _ rfl)
 have neC:∀ b,b<s.heap.objs.size->b≠g.objs.size:=fun b e=>by rw[hsz];exact Ot (PD e)
 have hDC:s.heap.objs.size≠g.objs.size:=by rw[hsz];exact Ot (O3 _)
 have hfr:H g.objs.size=none:=I.hok.fresh (by rw[hsz];exact Ql _)
 have hfD:H s.heap.objs.size=none:=I.hok.fresh (NY _);have cne:∀ y c,X.env.cells.lookup y=some c->c<s.heap.objs.size:=fun y c e=>by
  obtain⟨v,q⟩:=I.cell y c e;exact q.lt
 have nst:∀ b,b≠X.env.locals->b∉X.fs->b∉frs X.stack:=fun b h1 h2 z=>(NU.mp (I.stkSub b z)).elim h1 h2;have nstD:s.heap.objs.size∉frs X.stack:=nst _ (PR I.lt) (I.nofs (NY _));refine⟨⟨I.ok.mod,O.kind,I.ok.glob,I.ok.blt,NY _,?_,?_,fun _ _ z _=>(by cases z),I.ok.hd,I.ok.frames,.inl rfl,?_,?_,?_,?_,?_,?_,I.stkFree⟩,rfl,I.bare,Un.kept hk,?_,?_,hfr,?_,?_,I.hok.kept hk0,?_⟩
 ·intro y z c h1 h2;exact I.ok.inj y z c (O.cells I h1) (O.cells I h2)
 ·intro y hy;have hm:y∈fr.map (·.1):=by
   rcases hy with hy | hy
   ·exact O.has (y,_) (Pz hy) (.inl rfl)
   ·exact O.has (y,_) (Pz hy) (.inr rfl)
  exact⟨_,ck hm⟩
 ·intro b hb;rcases NU.mp hb with rfl | hb
  ·exact⟨hDC,fun y c e=>Ot (cne y c (O.cells I e))⟩
  ·exact⟨neC b (hfs b hb),fun y c e=>(hf b hb).2.2.2.2.1 y c (O.cells I e)⟩
 ·intro b o e;exact⟨kp b o (I.bs b o e).1,(I.bs b o e).2⟩
 ·show X.base.objs.size<=g.objs.size;rw[hsz];exact Nat.le_succ_of_le (O6 I.ok.bsz I.sz)
 ·intro b o e hb;rcases NU.mp hb with z | hb
  ·have:=Heap.lt_size (I.bs b o e).1
   rw[z]at this;exact Pg _ this
  ·rcases(hf b hb).2.2.2.1 with z | z
   ·exact I.ok.noex b o e z
   ·exact absurd (OO (Heap.lt_size (I.ok.bs b o e).1) z) (Pg _)
 ·intro b hb;rcases NU.mp hb with z | hb
  ·rw[z];exact nstD
  ·exact nst b (hf b hb).2.1 (hf b hb).2.2.1
 ·exact(I.kept (h':=g) (t':=s.toks) kp).stack
 ·refine⟨_,hC,fun i y v e1 e2 e3=>?_⟩;have e1a:(xs++fr.map (·.1))[i]?=some y:=e1;by_cases hi:i<xs.length
  ·rw[NX (by simpa using hi)]at e2
   rw[Qf,if_pos hi]at e2
   cases e2
  ·have e1':(fr.map (·.1))[i-xs.length]?=some y:=by
    rw[NW (by omega)]at e1a
    exact e1a
   have e2':(frOf fr σ)[i-xs.length]?=some (some v):=by
    rw[NW (by simp;omega)]at e2
    simpa using e2
   generalize i-xs.length=k at e1' e2';unfold frOf at e2';rw[NZ]at e1' e2'
   cases q:fr[k]? with
   |none=>rw[q]at e1';cases e1'
   |some p =>
    rw[q]at e1' e2';have ey:p.1=y:=Ov e1';have ev:(σ[p.2]?).join=some v:=Ov e2';have hp:p∈fr:=NV q;obtain⟨hN,hK⟩:=O.slot p hp;have hkk:=O.frk p hp;rw[ey]at hN hK hkk;have ev':σ[p.2]?=some (some v):=by
     cases q2:σ[p.2]? with
     |none=>rw[q2]at ev;cases ev
     |some w=>rw[q2]at ev;exact congrArg some ev
    obtain⟨m,hn,hl⟩:=I.loc;obtain⟨u,r,l⟩:=hl p.2 y v hN ev' (.inr (.inl hK));refine⟨u,r,?_⟩;rcases l with⟨k1,_⟩ | ⟨_,c,ec,z⟩
    ·rw[hK]at k1;cases k1
    ·have hm:y∈fr.map (·.1):=by rw[← ey];exact OL.mpr ⟨p,hp,rfl⟩
     have el:=ck (env:=X.env) hm;rw[ec]at el;exact .inr ⟨.inl hkk,c,el,by obtain⟨o,ho,hd⟩:=z;exact⟨o,hk0 _ _ ho,hd⟩⟩
 ·intro y c e;obtain⟨v,o,ho,hd⟩:=I.cell y c (O.cells I e);exact⟨v,o,hk0 _ _ ho,hd⟩
 ·intro y c e;exact I.freeC y c (O.cells I e)
 ·intro p hp;rcases N0.mp hp with hp | hp
  ·cases hp
  ·rcases N0.mp hp with hp | hp
   ·obtain⟨e,n,ne,nf,d⟩:=I.pin p hp;exact⟨hk0 _ _ e,n,neC _ (Heap.lt_size e),nst _ ne nf,d⟩
   ·have ep:p=(s.heap.objs.size,LCg.lst []):=by simpa using hp
    subst ep;exact⟨hDo,hfD,hDC,nstD,fun v z=>by cases z⟩
 ·show(nons xs++frOf fr σ).length=(xs++fr.map (·.1)).length;unfold frOf;simp
theorem wZ{fp:List Addr}{g:Heap}{s':Shared}{H':Hp}{σ':St}{ys:List V}{us:List Value}(I:Inv X pins σ H s)(hf:∀ b∈fp,FpOk X pins H b)(hg:g=s.heap.push (LCg.lst []))
  (J:Inv (cxG X scope fr xs g.objs.size (s.heap.objs.size::fp) { s with heap:=g } H) (X.pn++pins++[(s.heap.objs.size,LCg.lst us)]) σ' H' s') (hv:Vals ys us) (hl:ys.length<=sizeLine) :
  Inv X pins σ (upd H' s.heap.objs.size (.lst ys)) s'/\H' s.heap.objs.size=none/\FpOk X pins (upd H' s.heap.objs.size (.lst ys)) g.objs.size/\∃ m,s'.heap.Ns g.objs.size m:=by
 have hsz:g.objs.size=s.heap.objs.size+1:=by rw[hg,Heap.size_push]
 have kp:∀ b o,s.heap.get? b=some o->g.get? b=some o:=fun b o e=>by rw[hg];exact Heap.get?_push_of_some _ e
 obtain⟨eD,nD,_,_,_⟩:=J.pin (s.heap.objs.size,LCg.lst us) (by simp)
 have hDC:g.objs.size≠s.heap.objs.size:=by rw[hsz];exact PR (O3 _)
 have nD':∀ b u,H' b=some u->b≠s.heap.objs.size:=fun b u e z=>by rw[z]at e;rw[e]at nD;cases nD
 have hx:∀ b o,s.heap.get? b=some o->b∉fp->b∉s.heap.objs.size::fp:=fun b o e hb z=>by
  rcases NU.mp z with z | z
  ·have:=Heap.lt_size e
   rw[z]at this;exact Pg _ this
  ·exact hb z
 have bU:Un (frs X.stack) (s.heap.objs.size::fp) H H' g s'.heap:=J.base;have ltD:∀ b o,s.heap.get? b=some o->b≠s.heap.objs.size:=fun b o e=>Ot (Heap.lt_size e);have un:Un (frs X.stack) fp H (upd H' s.heap.objs.size (.lst ys)) s.heap s'.heap:=by
  refine⟨fun b o e n hb he=>bU.keep b o (kp b o e) n hb (hx b o e he),fun b o e n hb he=>bU.slot b o (kp b o e) n hb (hx b o e he),fun b o e n he=>?_,fun b o e he=>bU.there b o (kp b o e) (hx b o e he),fun b xs e=>?_,fun b o u e=>?_,fun b ps e=>?_⟩
  ·rw[ak (ltD b o e)];exact bU.free b o (kp b o e) n (hx b o e he)
  ·have q:=bU.tups b xs e
   rw[ak (nD' b _ q)];exact q
  ·have q:=bU.frzs b o u e
   rw[ak (nD' b _ q)];exact q
  ·obtain⟨more,q⟩:=bU.tbls b ps e;exact⟨more,by rw[ak (nD' b _ q)];exact q⟩
 have hok:HOk X.prog X.w (upd H' s.heap.objs.size (.lst ys)) s'.heap:=fun b u e=>by
  by_cases hb:b=s.heap.objs.size
  ·rw[hb,ae]at e
   cases e
   rw[hb];exact⟨hl,us,us.length,hv,eD⟩
  ·rw[ak hb]at e;exact(J.hok b u e).stay (fun c v _ q=>q) (fun c q=>by rw[ak (nD' c _ q)];exact q) fun c xs q=>by rw[ak (nD' c _ q)];exact q
 have os:s'.os=s.os:=J.os;refine⟨I.call' os un hok J.bare fun b hb=>⟨(hf b hb).2.2.2.1,(hf b hb).2.1,(hf b hb).2.2.2.2⟩,nD,?_,?_⟩
 ·refine I.fpOk (H':=upd H' s.heap.objs.size (.lst ys)) (b:=g.objs.size) (by rw[hsz];exact Ql _) ?_
  rw[ak hDC];exact J.free
 ·obtain⟨m,hn,_⟩:=J.loc;exact⟨m,hn⟩
end
def PTs(X:Cx)(ifs:List Expr)(t:TT):Prop :=
 ∀(pins:List (Addr×Obj))(s:Shared)(σ:St)(H:Hp)(Q:Bool->Hp->Prop),Inv X pins σ H s->t σ H Q ->
  wpAny (model X.prog X.w) X.A (forIn ifs true fun c r=>if r=true then do let ok ← isTrue c X.env (eval c X.env);pure (ForInStep.yield ok) else pure (ForInStep.yield r)) (fun b s'=>∃ H',Inv X pins σ H' s'/\Q b H') X.xe s
def tYes:TT:=fun _ H Q=>Q true H
theorem G7{X:Cx}:PTs X [] tYes:=fun _ _ _ H _ I h=>wpAny_tests_nil ⟨H,I,h⟩
theorem Bv{X:Cx}{c:Expr}{t:TT}(h:PT X c t):PTs X [c] t:=fun pins s σ H Q I q=>wpAny_tests_one (h pins s σ H Q I q)
section
variable{prog:Program}{w:World}{A:Around}{s:Shared}
theorem IF{elt target iter:Expr}{ifs:List Expr}{scope:Scope}{pos:Pos}{it acc:Value}{env:Env}{R:Result->Shared->Prop}(I:Nat->Shared->Prop)
  (turn:∀ n s,I n s->wpAny (model prog w) A (pyNext it) (fun r s₁=>match r with
   |none=>R (.ok .next) s₁
   |some v=>wpAny (model prog w) A (letOwnedTupleGo target it v) (fun _ s₀=>wpAny (model prog w) A (assign target env v) (fun _ s₂ =>
     wpAny (model prog w) A (forIn ifs true fun c r=>if r=true then do let ok ← isTrue c env (eval c env);pure (ForInStep.yield ok) else pure (ForInStep.yield r)) (fun ok s₃=>if ok=true then wpAny (model prog w) A (eval elt env) (fun x s₄ =>
      wpAny (model prog w) A (call (.builtin "list.append") [acc,x]) (fun _ s₅=>∃ m,m<n/\I m s₅) (notedBy (model prog w) A env fun e s'=>R (.error e) s') s₄) (notedBy (model prog w) A env fun e s'=>R (.error e) s') s₃
      else ∃ m,m<n/\I m s₃) (notedBy (model prog w) A env fun e s'=>R (.error e) s') s₂)
     (notedBy (model prog w) A env fun e s'=>R (.error e) s') s₀) (notedBy (model prog w) A env fun e s'=>R (.error e) s') s₁) (notedBy (model prog w) A env fun e s'=>R (.error e) s') s)
  (n:Nat) (h:I n s):codeAny (model prog w) A (.compLoop (.ListComp elt [⟨target,iter,ifs,0⟩] scope pos) 0 it acc env) R s:=by
 refine codeAny_loop rfl I (fun n s hI=>?_) n h;show wpAny _ A ((compTurn (.ListComp elt [⟨target,iter,ifs,0⟩] scope pos) 0 it acc env).onRaise (fun x=>do noteFrame x env;theTreesLotGoes x)) _ _ s
 refine wpAny_noted ?_;rw[compTurn_list];refine wpAny_bind (wpAny_standAt (wpAny_bind (wpAny_mono (turn n s hI) (fun r s₁ h₁=>?_) fun _ _ h'=>h')))
 cases r with
 |none=>exact wpAny_pure h₁
 |some v =>
  refine wpAny_bind (wpAny_mono h₁ (fun _ s₀ h₀'=>?_) fun _ _ h'=>h');refine wpAny_bind (wpAny_mono h₀' (fun _ s₂ h₂=>?_) fun _ _ h'=>h');refine wpAny_bind (wpAny_mono h₂ (fun okb s₃ h₃=>?_) fun _ _ h'=>h')
  cases okb with
  |false=>exact wpAny_pure ⟨rfl,h₃⟩
  |true=>exact wpAny_bind (wpAny_bind (wpAny_mono h₃ (fun x s₄ h₄=>wpAny_bind (wpAny_mono h₄ (fun _ s₅ h₅=>wpAny_pure (wpAny_pure ⟨rfl,h₅⟩)) fun _ _ h'=>h')) fun _ _ h'=>h'))
end
def yb(g:TG)(tt:TT)(te:TE)(n:Nat)(fv:St)(J:It)(H1:Hp)(QQ:List V->Hp->Prop):Prop :=
 ∃ W:Nat->Nat->List V->Hp->Prop,(∃ m,W 0 m [] H1)/\∀ i m ys H,W i m ys H->ys.length<=sizeLine /\
  ((J.stop i H/\QQ ys H)∨(J.go i H/\∃ N:List V->Hp->Prop,(∀ zs H2,N zs H2->∃ m',m'<m/\W (i+1) m' zs H2) /\
   ∀ x H',J.yld i H x H'->g x (PN n none++fv) H' fun σ2 H2=>σ2.drop n=fv/\tt σ2 H2 fun b H3=>if b=true then te σ2 H3 (fun y H4=>N (ys++[y]) H4) else N ys H3))
section
variable{X:Cx}{scope:Scope}{fr:List (Str×Nat)}{xs:List Str}{elt iter tg:Expr}{ifs:List Expr}{pos:Pos}{te:TE}{tt:TT}{tgt:TG}{wi:TI}
theorem uO{pins:List (Addr×Obj)}{σ:St}{H:Hp}{s:Shared}{E:Value->Shared->Prop}{it:Addr}{fp:List Addr}{tn:Nat->Heap->Prop}{J:It}{RR:Value->Addr->Result->Shared->Prop}{QQ:List V->Hp->Prop}(hc:X.calm=true)(O:oY X scope fr xs)
  (hg0:∀ C ex s H,PG (cxG X scope fr xs C ex s H) tg tgt) (ht:∀ C ex s H,PTs (cxG X scope fr xs C ex s H) ifs tt) (he:∀ C ex s H,PE (cxG X scope fr xs C ex s H) elt te) (I:Inv X pins σ H s) (T:Turn X.prog X.w X.K tg J fp it tn) (st:tn 0 s.heap) (hf:∀ b∈fp,FpOk X pins H b) (hq:yb tgt tt te xs.length (frOf fr σ) J H QQ)
  (fin:∀ D C H4 ys s4 m,Inv X pins σ (upd H4 D (.lst ys)) s4->H4 D=none->FpOk X pins (upd H4 D (.lst ys)) C->s4.heap.Ns C m->QQ ys H4->RR (.ref D) C (.ok .next) s4) :
  wpAny (model X.prog X.w) X.A (newList []) (fun acc s₃=>wpAny (model X.prog X.w) X.A (newFunctionEnv scope X.env.globals (clOf X.env fr) [] X.env.qual none .none (some X.env)) (fun cenv s₄ =>
   codeAny (model X.prog X.w) X.A (.compStart (.ListComp elt [⟨tg,iter,ifs,0⟩] scope pos) 0 (.ref it) acc { cenv with scope:=relabel scope X.env }) (RR acc cenv.locals) s₄) E s₃) E s:=by
 obtain⟨W,⟨m0,w0⟩,turn⟩:=hq;have hfs:∀ b∈fp,b<s.heap.objs.size:=fun b hb=>by
  obtain⟨o,e,_⟩:=T.obj 0 s.heap st b hb;exact Heap.lt_size e
 refine wpAny_newObj_type (wpAny_newFunctionEnv O.cell (by intro y hy;simp at hy) (fun h₁ hns₁ hsb₁=>?_) O.kind)
 dsimp only at hns₁ hsb₁ ⊢;generalize hH2:s.heap.push { cls:=.type "list",dict:=none,data:=.seq ([]:List Value).toArray }=g at hns₁ hsb₁ ⊢;have hg:g=s.heap.push (LCg.lst []):=hH2.symm;have hsz:g.objs.size=s.heap.objs.size+1:=by rw[hg,Heap.size_push]
 have hk:∀ b o,g.get? b=some o->h₁.get? b=some o:=fun b o e=>hsb₁.extBut b o (Ot (Heap.lt_size e)) (Heap.get?_push_of_some _ e);have kp:∀ b o,s.heap.get? b=some o->h₁.get? b=some o:=fun b o e=>hk b o (by rw[hg];exact Heap.get?_push_of_some _ e)
 have J0:=Ib (h':=h₁) (tk:=s.toks+([]:List (Str×Value)).length) O I hf hfs hg hk hns₁;have stat:∀{H':Hp}{us:List Value},(∀ b∈fp,H' b=none)->∀ b∈fp,FpOk (cxG X scope fr xs g.objs.size (s.heap.objs.size::fp) { s with heap:=g } H) (X.pn++pins++[(s.heap.objs.size,LCg.lst us)]) H' b:=fun{H' us} hn b hb=>by
  obtain⟨_,f1,f2,f3,f4,f5⟩:=hf b hb;refine⟨hn b hb,?_,fun z=>(NU.mp (I.stkSub b z)).elim f1 f2,.inl (Oe _ hb),fun y c e=>f4 y c (O.cells I e),fun p hp=>?_⟩
  ·show b≠g.objs.size;rw[hsz];exact Ot (PD (hfs b hb))
  ·rcases N0.mp hp with hp | hp
   ·cases hp
   ·rcases N0.mp hp with hp | hp
    ·exact f5 p hp
    ·have ep:p=(s.heap.objs.size,LCg.lst us):=by simpa using hp
     rw[ep];exact PR (hfs b hb)
 have loop:codeAny (model X.prog X.w) X.A (.compLoop (.ListComp elt [⟨tg,iter,ifs,0⟩] scope pos) 0 (.ref it) (.ref s.heap.objs.size) (compEnvC scope (clOf X.env fr) g.objs.size X.env))
   (RR (.ref s.heap.objs.size) g.objs.size) { s with heap:=h₁,toks:=s.toks+([]:List (Str×Value)).length }:=by
  refine IF (fun n s'=>∃ i ys us H',Inv (cxG X scope fr xs g.objs.size (s.heap.objs.size::fp) { s with heap:=g } H) (X.pn++pins++[(s.heap.objs.size,LCg.lst us)]) (nons xs++frOf fr σ) H' s'/\Vals ys us/\tn i s'.heap/\(∀ b∈fp,H' b=none)/\W i n ys H') ?_ m0
   ⟨0,[],[],H,J0,.nil,T.keep 0 s.heap h₁ st fun b _ o e=>kp b o e,fun b hb=>(hf b hb).1,w0⟩
  rintro n s3 ⟨i,ys,us,H3,J3,hv,st3,fr3,w3⟩;obtain⟨hlen,hh⟩:=turn i n ys H3 w3;have none_err:∀{α:Type}{t:Sem α}{Q:α->Shared->Prop}{E':Value->Shared->Prop}{s:Shared},wpAny (model X.prog X.w) X.A t Q (fun _ _=>False) s->wpAny (model X.prog X.w) X.A t Q E' s:=fun h=>wpAny_mono h (fun _ _ q=>q) fun _ _ z=>z.elim;have weakN:∀{σ6:St},σ6.length=(nons xs++frOf fr σ).length->σ6.drop xs.length=frOf fr σ->∀(i:Nat) v,(nons xs++frOf fr σ)[i]?=some (some v)->σ6[i]?=some (some v):=fun{σ6} hl6 e6 i v e=>by
   by_cases hi:i<xs.length
   ·rw[NX (by simpa using hi),Qf,if_pos hi]at e
    cases e
   ·rw[NW (by simp;omega),← e6,PV]at e
    have:xs.length+(i-(nons xs).length)=i:=by simp;omega
    rw[this]at e;exact e
  rcases hh with⟨stop,qn⟩ | ⟨go,N,hN,step⟩
  ·refine none_err (thn (T.done (cxG X scope fr xs g.objs.size (s.heap.objs.size::fp) { s with heap:=g } H) rfl rfl rfl hc i _ s3 _ H3 _ J3 (stat fr3) st3 stop) fun r s4 ⟨hr,J4⟩=>?_);subst hr;obtain⟨I4,nD,fC,m,hn⟩:=wZ I hf hg J4 hv hlen;exact fin _ _ H3 ys s4 m I4 nD fC hn qn
  ·refine none_err (thn (T.item (cxG X scope fr xs g.objs.size (s.heap.objs.size::fp) { s with heap:=g } H) rfl rfl rfl hc i _ s3 _ H3 _ J3 (stat fr3) st3 go) fun r s4 ⟨u,hr,h4⟩=>?_);subst hr;refine none_err (thn h4 fun _ s5 ⟨v,H5,J5,r5,y5,st5,fr5⟩=>?_);have J5':=J5.pinned (stat fr5) (T.obj _ _ st5);refine none_err (thn (hg0 _ _ _ _ _ s5 _ H5 v u _ J5' r5 (step v H5 y5)) fun _ s6 ⟨σ6,H6,J6,e6,q6⟩=>?_);refine none_err (thn (ht _ _ _ _ _ s6 σ6 H6 _ J6 q6) fun b s6' ⟨H6',J6',q6'⟩=>?_);have hl6:σ6.length=(nons xs++frOf fr σ).length:=J6.len.trans J3.len.symm
   cases b with
   |false =>
    rw[if_neg Ox]at q6' ⊢;obtain⟨m',hm,w7⟩:=hN ys H6' q6';have pinF:∀ b∈fp,∀ o,s5.heap.get? b=some o->s6'.heap.get? b=some o/\H6' b=none:=fun b hb o e=>by
     obtain⟨q1,q2,_⟩:=J6'.pin (b,o) (Oi _ (Oi _ (iu hb e)));exact⟨q1,q2⟩
    refine⟨m',hm,i+1,ys,us,H6',J6'.unpinned.weak (σ':=nons xs++frOf fr σ) hl6.symm (weakN hl6 e6),hv,T.keep _ _ _ st5 fun b hb o e=>(pinF b hb o e).1,fun b hb=>?_,w7⟩;obtain⟨o,e,_⟩:=T.obj _ _ st5 b hb;exact(pinF b hb o e).2
   |true =>
    rw[if_pos rfl]at q6' ⊢;refine none_err (thn (he _ _ _ _ _ s6' _ H6' _ J6' q6') fun u7 s7 ⟨v7,H7,J7,r7,q7⟩=>?_);obtain⟨m',hm,w7⟩:=hN _ H7 q7;obtain⟨eD,nD,dC,dF,dd⟩:=J7.pin (s.heap.objs.size,LCg.lst us) (Oi _ (OH _ (Oi _ (by simp))))
    have hvl:=hv.length;refine append_at (hsz:=by show us.toArray.size<=sizeLine;rw[OC,← hvl];exact hlen) eD fun h8 hs8 hD8=>?_
    have pinD:∀ p∈X.pn++pins,p.1≠s.heap.objs.size:=fun p hp z=>by
     have:=Heap.lt_size (I.pin p hp).1;rw[z]at this;exact Pg _ this
    have J7a:Inv (cxG X scope fr xs g.objs.size (s.heap.objs.size::fp) { s with heap:=g } H) (X.pn++pins) _ H7 s7:=J7.pins_of fun p hp=>J7.pin p (Oi _ (OH _ (OH _ hp)))
    have J8:Inv (cxG X scope fr xs g.objs.size (s.heap.objs.size::fp) { s with heap:=g } H) (X.pn++pins) _ H7 { s7 with heap:=h8 }:=J7a.turned (t':=s7.toks) (fun b o hb e=>(hs8.2 b hb).trans e) nD dC (.inl Og) (fun y c e z=>by
     obtain⟨w',q⟩:=I.cell y c (O.cells I e);have:=q.lt;rw[z]at this
     exact Pg _ this) (fun p hp=>(N0.mp hp).elim (fun z=>by cases z) (pinD p))
    have J9:Inv (cxG X scope fr xs g.objs.size (s.heap.objs.size::fp) { s with heap:=g } H) (X.pn++pins++[(s.heap.objs.size,LCg.lst (us++[u7]))]) _ H7 { s7 with heap:=h8 }:=J8.pins_of fun p hp=>by
     rcases N0.mp hp with hp | hp
     ·exact J8.pin p (Oi _ hp)
     ·have ep:p=(s.heap.objs.size,LCg.lst (us++[u7])):=by simpa using hp
      subst ep;exact⟨hD8.trans (congrArg some (LCg.lst_snoc us u7)),nD,dC,dF,fun v z=>by cases z⟩
    have J10:=J9.weak (σ':=nons xs++frOf fr σ) hl6.symm (weakN hl6 e6);have pinF:∀ b∈fp,∀ o,s5.heap.get? b=some o->s7.heap.get? b=some o/\H7 b=none:=fun b hb o e=>by
     obtain⟨q1,q2,_⟩:=J7.pin (b,o) (Oi _ (Oi _ (iu hb e)));exact⟨q1,q2⟩
    refine⟨m',hm,i+1,ys++[v7],us++[u7],H7,J10,hv.append (.cons r7 .nil),T.keep _ _ _ st5 fun b hb o e=>(hs8.2 b (Ot (hfs b hb))).trans (pinF b hb o e).1,fun b hb=>?_,w7⟩;obtain⟨o,e,_⟩:=T.obj _ _ st5 b hb;exact(pinF b hb o e).2
 exact codeAny_compStart_list loop (T.self X.A 0 _ _ _ (T.keep 0 s.heap h₁ st fun b _ o e=>kp b o e) loop)
def tCompE(wi:TI)(g:TG)(tt:TT)(te:TE)(n:Nat)(fr:List (Str×Nat)):TE:=fun σ H Q=>wi σ H fun J H1=>yb g tt te n (frOf fr σ) J H1 fun ys H2=>∀ D,H2 D=none->Q (.ref D) (upd H2 D (.lst ys))
theorem qN(hc:X.calm=true)(O:oY X scope fr xs)(hi:PI X tg iter wi)(hg0:∀ C ex s H,PG (cxG X scope fr xs C ex s H) tg tgt)(ht:∀ C ex s H,PTs (cxG X scope fr xs C ex s H) ifs tt)(he:∀ C ex s H,PE (cxG X scope fr xs C ex s H) elt te)(hs:∀ x,foldedSetIterable iter X.env x=pure x:=by intro _;rfl) :
  PE X (.ListComp elt [⟨tg,iter,ifs,0⟩] scope pos) (tCompE wi tgt tt te xs.length fr):=by
 intro pins s σ H Q I h;rw[eval_ListComp];refine wpAny_comprehension_free (use:=none) rfl hs O.clos O.kind O.names (thn (hi pins s σ H _ I h) fun xv s1 h1=>thn h1 fun itv s2 h2=>?_);obtain⟨it,fp,tn,J,H2,e,I2,T,st2,f2,q2⟩:=h2;subst e;refine uO (RR:=fun acc C=>compPost (model X.prog X.w) X.A X.xe none (EP X pins σ Q) acc C) hc O hg0 ht he I2 T st2 f2 q2 ?_;intro D C H4 ys s4 m I4 nD fC hn q4;refine⟨m,hn,fun h' hs'=>?_⟩;obtain⟨g0,g1,g2,g3,g4,g5⟩:=fC;exact⟨.ref D,_,I4.turned (t':=s4.toks) (fun b o hb e=>(hs'.2 b hb).trans e) g0 g1 g3 g4 g5,rfl,q4 D nD⟩
def GB(i:Nat)(wi:TI)(g:TG)(tt:TT)(te:TE)(n:Nat)(fr:List (Str×Nat)):TS:=fun D σ H=>wi σ H fun J H1=>yb g tt te n (frOf fr σ) J H1 fun ys H2=>∀ a,H2 a=none->D.nx (σ.set i (some (.ref a))) (upd H2 a (.lst ys))
theorem Bw{i:Nat}{y:Str}{py spos:Pos}(hc:X.calm=true)(hN:X.N.Nodup)(hi':X.N[i]?=some y)(hy:X.env.scope.names.lookup y=some .local)(O:oY X scope fr xs)(hi:PI X tg iter wi)(hg0:∀ C ex s H,PG (cxG X scope fr xs C ex s H) tg tgt)(ht:∀ C ex s H,PTs (cxG X scope fr xs C ex s H) ifs tt)(he:∀ C ex s H,PE (cxG X scope fr xs C ex s H) elt te)
  (hsw:swapsWith (.ListComp elt [⟨tg,iter,ifs,0⟩] scope pos) (some (.Name y py)) spos.line X.env=pure true:=by rfl) (hs:∀ x,foldedSetIterable iter X.env x=pure x:=by intro _;rfl) :
  PS X (.Assign [.Name y py] (.ListComp elt [⟨tg,iter,ifs,0⟩] scope pos) spos) (GB i wi tgt tt te xs.length fr):=by
 intro pins s σ H D I h;rw[exec_Assign_Name_used _ _ _ _ hsw];refine wpAny_bind (wpAny_standAt (wpAny_bind ?_));show wpAny _ X.A (do let _ ← comprehension (.ListComp elt [⟨tg,iter,ifs,0⟩] scope pos) scope X.env _ (newList []) false (eval iter X.env) (some (assign (.Name y py) X.env))) _ _ s
 refine wpAny_bind (thn (wpAny_comprehension_free (use:=some (assign (.Name y py) X.env)) (Q:=fun _ s'=>SP X pins D .next s') rfl hs O.clos O.kind O.names (thn (hi pins s σ H _ I h) fun xv s1 h1=>thn h1 fun itv s2 h2=>?_)) fun _ s' hq=>wpAny_pure (wpAny_pure hq));obtain⟨it,fp,tn,J,H2,e,I2,T,st2,f2,q2⟩:=h2;subst e;refine uO (RR:=fun acc C=>compPost (model X.prog X.w) X.A X.xe (some (assign (.Name y py) X.env)) (fun _ s'=>SP X pins D .next s') acc C) hc O hg0 ht he I2 T st2 f2 q2 ?_;intro a C H4 ys s4 m I4 nD fC hn q4;obtain⟨g0,g1,g2,g3,g4,g5⟩:=fC;obtain⟨oC,eC,hoC⟩:=LCg.ns_obj hn;have I5:Inv X (pins++[(C,oC)]) σ (upd H4 a (.lst ys)) s4:=I4.pins_of fun p hp=>by
  rcases N0.mp hp with hp | hp
  ·exact I4.pin p (Oi _ hp)
  ·have ep:p=(C,oC):=by simpa using hp
   subst ep;obtain⟨es,epp,hd,_⟩:=hoC;exact⟨eC,g0,g1,g2,fun v z=>by rw[hd]at z;cases z⟩
 show wpAny _ X.A (assign (.Name y py) X.env (.ref a)) _ _ _;refine wpAny_assign_Name (mI I5 hN hi' (.inl hy) (v:=.ref a) rfl (fun s6 I6=>?_) (.inr hy));obtain⟨e6,_⟩:=I6.pin (C,oC) (Oi _ (Oi _ (by simp)))
 refine⟨m,hoC.ns e6,fun h' hs'=>?_⟩;exact⟨_,_,I6.unpinned.turned (t':=s6.toks) (fun b o hb e=>(hs'.2 b hb).trans e) g0 g1 g3 g4 g5,q4 a nD⟩
end
theorem uP{K:NS}{a:Addr}{xs:List V}{g:TG}{tt:TT}{te:TE}{n:Nat}{fv:St}{H1:Hp}{QQ:List V->Hp->Prop}(Pv:Nat->List V->Hp->Prop)(hz:xs.length<=sizeLine)(h0:Pv 0 [] H1)(hl:∀ i ys H,i<=xs.length->Pv i ys H->SqL K H a xs)
  (hs:∀ i x ys H,xs[i]?=some x->Pv i ys H->g x (PN n none++fv) H fun σ2 H2=>σ2.drop n=fv/\tt σ2 H2 fun b H3=>if b=true then te σ2 H3 (fun y H4=>Pv (i+1) (ys++[y]) H4) else Pv (i+1) ys H3) (hd:∀ ys H,Pv xs.length ys H->QQ ys H) (hy:∀ i ys H,Pv i ys H->ys.length<=i)
  : yb g tt te n fv (Itl K a) H1 QQ:=by
 refine⟨fun i m ys H=>m=xs.length-i/\i<=xs.length/\Pv i ys H,⟨xs.length,by simp,O5 _,h0⟩,?_⟩
 rintro i m ys H ⟨rfl,hi,p⟩;have q:=hl i ys H hi p;have hyl:=hy i ys H p;refine⟨by omega,?_⟩
 by_cases hlt:i<xs.length
 ·refine .inr ⟨⟨xs,xs[i],q,by simp[hlt]⟩,fun zs H2=>Pv (i+1) zs H2,fun zs H2 p2=>⟨xs.length-(i+1),by omega,rfl,hlt,p2⟩,fun x H' y=>?_⟩
  obtain⟨e,y⟩:=y;subst e;exact hs i x ys _ (y xs q) p
 ·have e:i=xs.length:=by omega
  subst e;exact .inl ⟨⟨xs,q,NY _⟩,hd ys H p⟩
theorem lW{lo:Int}{k:Nat}{g:TG}{tt:TT}{te:TE}{n:Nat}{fv:St}{H1:Hp}{QQ:List V->Hp->Prop}(Pv:Nat->List V->Hp->Prop)(hz:k<=sizeLine)(h0:Pv 0 [] H1)
  (hs:∀ i ys H,i<k->Pv i ys H->g (.int (lo+i)) (PN n none++fv) H fun σ2 H2=>σ2.drop n=fv/\tt σ2 H2 fun b H3=>if b=true then te σ2 H3 (fun y H4=>Pv (i+1) (ys++[y]) H4) else Pv (i+1) ys H3) (hd:∀ ys H,Pv k ys H->QQ ys H) (hy:∀ i ys H,Pv i ys H->ys.length<=i)
  : yb g tt te n fv (Itr lo k) H1 QQ:=by
 refine⟨fun i m ys H=>m=k-i/\i<=k/\Pv i ys H,⟨k,by simp,O5 _,h0⟩,?_⟩
 rintro i m ys H ⟨rfl,hi,p⟩;have hyl:=hy i ys H p;refine⟨by omega,?_⟩
 by_cases hlt:i<k
 ·refine .inr ⟨hlt,fun zs H2=>Pv (i+1) zs H2,fun zs H2 p2=>⟨k-(i+1),by omega,rfl,hlt,p2⟩,fun x H' y=>?_⟩
  obtain⟨e,y⟩:=y;subst e y;exact hs i ys _ hlt p
 ·have e:i=k:=by omega
  subst e;exact .inl ⟨NY _,hd ys H p⟩
section
variable{X:Cx}{K:NS}{pos:Pos}
theorem kr(h:X.K=K):IxR X (rIxL K):=h▸aH
theorem Ng(h:X.K=K):IxR X (rIxT K):=h▸bD
theorem oG(h:X.K=K):jf X (.type "list") (fun xs H Q=>∃ p ys,xs = [.ref p]/\(SqL K H p ys∨SqT K H p ys)/\∀ l,H l=none->Q (.ref l) (upd H l (.lst ys))):=h▸gP
theorem jq{e:Expr}{f:Str}{ta:TE}(h:X.K=K)(he:PE X e ta)(hb:attributeBase e f X.env (eval e X.env)=eval e X.env):PE X (.Attribute e f pos) (tFld K ta f):=h▸cY he hb
end
section
variable{X:Cx}
def MC:V->List V->Hp->VK->Prop:=fun x vs H Q=>∃ l xs k y,x=.ref l/\vs = [.int k,y]/\H l=some (.lst xs)/\0<=k/\k<=xs.length/\xs.length<sizeLine/\Q .non (upd H l (.lst (xs.take k.toNat++y::xs.drop k.toNat)))
theorem zk:MtM X "list.insert" MC:=by
 intro pins s σ H x vs v us Q I rx rv h;obtain⟨l,xs,k,y,rfl,rfl,hH,h0,hk,hz,q⟩:=h
 cases rx
 obtain⟨u1,u2,rfl,r1,r2⟩:=rv.two;obtain⟨t,rfl⟩:=r1;obtain⟨z,its,n,r,hl,e⟩:=I.lstM hH;have hn:=rN;have hfit:¬ (!Builtin.List.listFitsIndex k)=true:=by
  rw[fitsIndex_both (by omega) (by omega)]
  exact Ox
 refine call_meets F.slot_list_insert ⟨_,e,rfl⟩ F.entry_list_insert (F.args_list_insert_3 _ _ _) (AutoListH.list_insert_list_int_val_1 l its.toArray n k t u2 hfit (by rw[OC];omega)) ⟨e,?_⟩
 refine⟨.non,_,I.lset (its':=its.take k.toNat++u2::its.drop k.toNat) hH e ?_ ((r.take _).append (.cons r2 (r.drop _))) ?_,rfl,q⟩
 ·dsimp only;rw[if_neg (by omega),OC,PH (by omega)]
  simp;exact OV (by rw[OX];omega)
 ·rw[NT,OJ,Ou,OX];omega
theorem ku:∀{ns:List Int}{us:List Value},Vals (ns.map V.int) us->IntsAre us ns
 |[],_,.nil=>.nil
 |n::ns,_,.cons r rr=>by
  obtain⟨t,rfl⟩:=r;exact .cons n t (ku rr)
theorem EA(hc:X.calm=true):jf X (.builtin "sum") (fun xs H Q=>∃(p:Addr)(ns:List Int),xs = [.ref p]/\SqL X.K H p (ns.map V.int)/\Q (.int ns.sum) H):=by
 intro pins s σ H xs us Q I r h;obtain⟨p,ns,rfl,hq,q⟩:=h;obtain⟨u,rfl,ru⟩:=vi r
 cases ru
 obtain⟨its,rv,pl,hz⟩:=I.list hq;have hi:=ku rv;obtain⟨zs,e⟩:=hi.allInts.items;have hns:(numsOf its)=ns:=hi.numsOf;have hl:s.heap.IsList p (intItems zs):=by rw[← e];exact pl.isList
 refine sum_intListG (I.ok.hd hc) hl fun h' tk t' hk=>⟨.int ns.sum,H,I.kept (t':=tk) hk,⟨t',?_⟩,q⟩;have h2:numsOf (intItems zs).toList=ns:=by rw[← e];exact hns
 rw[nums_intItems]at h2;rw[preSum_eq,OV (by simp),← h2]
end
theorem qW:∀{ps:List Nat},(∀ p∈ps,p<1000)->PyData.weightAll ((ps.map fun(p:Nat)=>((p:Nat):Int)).map PyData.int)<=12*ps.length
 |[],_=>by simp[PyData.weightAll]
 |p::ps,h=>by
  have ih:=qW (ps:=ps) fun x hx=>h x (Oe _ hx);have hp:=h p (by simp)
  have hw:PyData.weight (.int (p:Int))<=11:=by
   rw[PyData.weight];split
   ·exact O5 _
   ·rename_i z;have z':p≠0:=fun e=>z (by rw[e];rfl)
    have e:((p:Int)).natAbs=p:=rfl;rw[e];have:=(Nat.log2_lt z').mpr (show p<2^10 by omega)
    omega
  rw[OW,OW,PyData.weightAll,OJ];omega
theorem KG{ps:List Nat}(h:∀ p∈ps,p<1000)(hl:ps.length<=1000):PyData.layable0 (.list ((ps.map fun(p:Nat)=>((p:Nat):Int)).map PyData.int))=true:=by
 have h1:=PySem.W.shaped_ints (ps.map fun(p:Nat)=>((p:Nat):Int));have h2:=qW h;have h3:PyData.weight (.list ((ps.map fun(p:Nat)=>((p:Nat):Int)).map PyData.int))<=2^20:=by
  rw[PyData.weight];omega
 unfold PyData.layable0;unfold SeqAt.shaped at h1;rw[h1,decide_eq_true h3];rfl
section
variable{X:Cx}
def rIndex(K:NS):V->List V->Hp->VK->Prop:=fun x vs H Q=>∃(l:Addr)(ps:List Nat)(k:Nat),x=.ref l/\vs = [.int (k:Int)]/\SqL K H l (ps.map fun(p:Nat)=>V.int (p:Int))/\(∀ p∈ps,p<1000)/\ps.length<=1000/\k∈ps/\Q (.int ((ps.idxOf k:Nat):Int)) H
theorem KW{ps:List Nat}{k:Nat}:(ps.map fun(p:Nat)=>((p:Nat):Int)).idxOf (k:Int)=ps.idxOf k:=by
 induction ps with
 |nil=>rfl
 |cons p ps ih =>
  rw[OW,List.idxOf_cons,List.idxOf_cons,ih];have e:(((p:Nat):Int) == (k:Int))=(p == k):=by
   by_cases h:p=k
   ·subst h;simp
   ·have h2:¬ (p:Int)=(k:Int):=fun z=>h (by omega)
    rw[beq_eq_false_iff_ne.mpr h,beq_eq_false_iff_ne.mpr h2]
  rw[e]
theorem Eb:MtM X "list.index" (rIndex X.K):=by
 intro pins s σ H x vs v us Q I rx rv h;obtain⟨l,ps,k,rfl,rfl,hq,hs,hl,hk,q⟩:=h
 cases rx
 obtain⟨u,rfl,ru⟩:=rv.one;obtain⟨t,rfl⟩:=ru;have e:(ps.map fun(p:Nat)=>V.int (p:Int))=(ps.map fun(p:Nat)=>((p:Nat):Int)).map V.int:=by rw[Qm];rfl
 rw[e]at hq;obtain⟨its,r,pl,hz⟩:=I.list hq;refine index_list_ints pl.isList (ku r) (KG hs hl) (OL.mpr ⟨k,hk,rfl⟩) ?_;rw[KW];exact⟨.int _,H,I.tok _,⟨_,rfl⟩,q⟩
theorem op_eqG(hu:X.A.units+64<cLine):OpR X (compareOp .Eq) (fun x y H Q=>∃ d1 d2,RdD X.K H x d1/\RdD X.K H y d2/\SeqAt.shaped d1=true/\SeqAt.shaped d2=true/\Q (.bl (PyData.eqv d1 d2)) H):=by
 intro pins s σ H x y v u Q I rx ry h;obtain⟨d1,d2,r1,r2,h1,h2,q⟩:=h;obtain⟨as,q1⟩:=r1.reads I v rx;obtain⟨bs,q2⟩:=r2.reads I u ry;exact eq_dataH q1 q2 h1 h2 hu ⟨.bl _,H,I,rfl,q⟩
end
theorem vh:∀{us:List Value}{ns:List Int},IntsAre us ns->Vals (ns.map V.int) us
 |_,_,.nil=>.nil
 |_,_,.cons _ t r=>.cons ⟨t,rfl⟩ (vh r)
section
variable{X:Cx}
def G3(K:NS):List V->Hp->VK->Prop:=fun xs H Q=>∃(p:Addr)(ns:List Int),xs = [.ref p]/\SqL K H p (ns.map V.int)/\ns.length<64/\∀(l:Addr)(out:List Int),H l=none->out.Perm ns->out.Pairwise (·<=·)->Q (.ref l) (upd H l (.lst (out.map V.int)))
theorem De:jf X (.builtin "sorted") (G3 X.K):=by
 intro pins s σ H xs us Q I r h;obtain⟨p,ns,rfl,hq,h64,q⟩:=h;obtain⟨u,rfl,ru⟩:=vi r
 cases ru
 obtain⟨its,rv,pl,hz⟩:=I.list hq;have hi:=ku rv;have hl:=rv.length;rw[NR]at hl;refine sorted_ints pl.isList hi (by omega) fun out ns' a1 a2 a3=>?_
 obtain⟨e,he⟩:=sortedAll_at s.heap its out;refine⟨.ref (s.heap.objs.size+1),_,I.laid (t':=s.toks) (fun _ _=>sortedAll_old) (Ql _) (show bN X.prog X.w _ _ _ (.lst (ns'.map V.int)) from⟨?_,out.toList,e,vh a1,?_⟩),rfl,q _ ns' (I.hok.fresh (Ql _)) a2 a3⟩
 ·rw[NR,a2.length_eq];exact OG (au (by omega))
 ·exact he
theorem Aj{K:NS}(h:X.K=K):jf X (.builtin "sorted") (G3 K):=h▸De
end
section
variable{X:Cx}{tg:Expr}
end
theorem IQ:bootBuiltins "max" = some (.builtin "max"):=by decide
section
variable{X:Cx}
def rCatS(K:NS):R2:=fun x y H Q=>∃ l b xs zs,x=.ref l/\y=.ref b/\SqL K H l xs/\SqL K H b zs/\xs.length+zs.length<=sizeLine/\∀ p,H p=none->Q (.ref p) (upd H p (.lst (xs++zs)))
theorem lx:OpR X (binaryOp .Add) (rCatS X.K):=by
 intro pins s σ H x y v u Q I rx ry h;obtain⟨l,b,xs,zs,rfl,rfl,hH,hB,hz,q⟩:=h
 cases rx
 cases ry
 obtain⟨its,r,pl,_⟩:=I.list hH;obtain⟨its2,r2,pl2,_⟩:=I.list hB;obtain⟨⟨cls,dd,data,sl⟩,ho,hc,n,hd⟩:=pl.isList;obtain⟨⟨cls2,dd2,data2,sl2⟩,ho2,hc2,n2,hd2⟩:=pl2.isList;simp only at hc hd hc2 hd2;subst hc hd hc2 hd2;have ea:its.toArray++its2.toArray=(its++its2).toArray:=by simp
 have e1:=r.length;have e2:=r2.length;refine concat_meets ⟨_,ho,rfl⟩ ⟨_,ho2,rfl⟩ noFill_list_add seq_list_add PySem.F.slot_list_add PySem.F.entry_list_add (PySem.F.args_list_add_2 _ _) (list_addW l b its.toArray its2.toArray n n2 dd dd2 sl sl2 (by rw[OC,OC];omega)) ⟨ho,ho2,?_⟩
 rw[ea];exact⟨.ref _,_,I.lnew (t':=s.toks) (r.append r2) (by rw[NT];omega),rfl,q _ I.fresh⟩
end
theorem yesT{σ:St}{H:Hp}{A B:Hp->Prop}(h:A H):tYes σ H fun b H3=>if b=true then A H3 else B H3 :=
 show(if true=true then A H else B H) from iteT (B:=B H) h
section
variable{X:Cx}
end
theorem Gu:∀{ys:List V}{us:List Value},ys.length=us.length->(∀(i:Nat)(y:V)(u:Value),ys[i]?=some y->us[i]?=some u->RelV y u)->Vals ys us
 |[],[],_,_=>.nil
 |[],_::_,e,_=>by cases e
 |_::_,[],e,_=>by cases e
 |y::ys,u::us,e,h=>.cons (h 0 y u rfl rfl) (Gu (Rf e) fun i y u a b=>h (i+1) y u a b)
section
variable{X:Cx}
theorem op_neG(hu:X.A.units+64<cLine):OpR X (compareOp .NotEq) (fun x y H Q=>∃ d1 d2,RdD X.K H x d1/\RdD X.K H y d2/\SeqAt.shaped d1=true/\SeqAt.shaped d2=true/\Q (.bl (!PyData.eqv d1 d2)) H):=by
 intro pins s σ H x y v u Q I rx ry h;obtain⟨d1,d2,r1,r2,h1,h2,q⟩:=h;obtain⟨as,q1⟩:=r1.reads I v rx;obtain⟨bs,q2⟩:=r2.reads I u ry;exact ne_dataH q1 q2 h1 h2 hu ⟨.bl _,H,I,rfl,q⟩
theorem su:∀(a b:List Int),PyData.eqvAll (a.map PyData.int) (b.map PyData.int)=decide (a=b)
 |[],[]=>by simp[PyData.eqvAll]
 |[],y::b=>by simp[PyData.eqvAll]
 |x::a,[]=>by simp[PyData.eqvAll]
 |x::a,y::b=>by
  rw[OW,OW];simp only[PyData.eqvAll,PyData.eqv,su a b];by_cases h:x=y
  ·by_cases h2:a=b
   ·simp[h,h2]
   ·simp[h,h2]
  ·simp[h]
theorem Eo(a b:List Int):PyData.eqv (.list (a.map PyData.int)) (.list (b.map PyData.int))=decide (a=b):=by
 rw[← su];simp only[PyData.eqv]
end
section
variable{X:Cx}{tg:Expr}
end
section
variable{P:Program}{w:World}{K:NS}{mg:Str->Option Value}{base:Heap}
end
end L2
namespace PyProof.Rows
open PySem
local macro_rules | `(tactic| walk_at "gallop") => do
 let n:=Lean.mkIdent (Lean.mkPrivateNameCore `PySem.Builtin.List.W1All `PySem.Builtin.gallop)
 `(tactic| delta $n)
local macro_rules | `(tactic| walk_at "st") => `(tactic| try dsimp -zeta -zetaHave only)
local macro_rules | `(tactic| walk_at "l4") => `(tactic| (extract_lets -underBinder +onlyGivenNames a b; subst a b))
abbrev Ir:Bool->Keyed->Array Keyed->Nat->Nat->Nat->StateT SortSt Sem (Option Nat):=sortPriv% PySem.Builtin.gallop
def IntP(p:Keyed):Prop:=∃ n t,p.1=.int n t
def ky(p:Keyed):Int:=numOf p.1
theorem aL{σ α:Type}{M:Model}{A:Around}{E:Value->Shared->Prop}{s:Shared}{c:Prop} [Decidable c] {a b:StateT σ Sem α} {Q:α->σ->Prop} {st:σ} (h:c) (q:wpS M A E s a Q st):wpS M A E s (if c then a else b) Q st:=by rw[if_pos h];exact q
theorem aJ{σ α:Type}{M:Model}{A:Around}{E:Value->Shared->Prop}{s:Shared}{c:Prop} [Decidable c] {a b:StateT σ Sem α} {Q:α->σ->Prop} {st:σ} (h:¬ c) (q:wpS M A E s b Q st):wpS M A E s (if c then a else b) Q st:=by rw[if_neg h];exact q
variable{prog:Program}{w:World}{A:Around}{E:Value->Shared->Prop}{s:Shared}
theorem vg{st:SortSt}{x y:Keyed}{Q:Option Bool->SortSt->Prop}(hk:kindOf st=oneType')(hx:IntP x)(hy:IntP y)(h:Q (some (decide (ky x<ky y))) st):wpS (model prog w) A E s ((sortPriv% PySem.Builtin.lt) x y) Q st:=by
 show wpS (model prog w) A E s (lt' x y) Q st;obtain⟨n,t,hx⟩:=hx;obtain⟨m,u,hy⟩:=hy;rw[lt'_eq];refine wpS_bind (wpS_get ?_);unfold ky at h;rw[hx,hy]at h;rw[hk,keyLt'_oneType,hx,hy];refine wpS_bind (wpS_lift (wpAny_attempt (oneLt_int ⟨rfl,?_⟩)));exact wpS_pure h
theorem aU{st:SortSt}{arr:Array Keyed}{i:Nat}{p:Keyed}{Q:Keyed->SortSt->Prop}(hi:arr[i]?=some p)(h:Q p st):wpS (model prog w) A E s ((sortPriv% PySem.Builtin.elem) arr i) Q st:=by
 show wpS (model prog w) A E s (elem' arr i) Q st;rw[elem'_eq,hi];exact wpS_pure h
theorem j7{st:SortSt}{left:Bool}{key:Keyed}{arr:Array Keyed}{base n hint:Nat}{Q:Option Nat->SortSt->Prop}(f:Nat->Bool)(hk:kindOf st=oneType')(hkey:IntP key)(hin:∀ i,i<n->∃ p,arr[base+i]?=some p/\IntP p/\f i=if left then decide (ky p<ky key) else !decide (ky key<ky p))
  (mono:∀ i j,i<=j->j<n->f j=true->f i=true) (hh:hint<n) (h:∀ k,k<=n->(∀ i,i<k->f i=true)->(∀ i,k<=i->i<n->f i=false)->Q (some k) st) :
  wpS (model prog w) A E s (Ir left key arr base n hint) Q st:=by
 unfold Ir;walk_at "gallop";extract_lets -underBinder +onlyGivenNames beyond;clear_value (eb:beyond=_);have hb:∀(i:Nat)(Q':Option Bool->SortSt->Prop),i<n->Q' (some (f i)) st->wpS (model prog w) A E s (beyond i) Q' st:=by
  intro i Q' hi q;obtain⟨p,hp,ip,ef⟩:=hin i hi;rw[eb];refine wpS_bind (aU hp ?_);rw[ef]at q
  cases left with
  |true=>exact vg hk ip hkey q
  |false=>exact wpS_bind (vg hk hkey ip (wpS_pure q))
 clear eb;walk_at "l4";refine wpS_bind (hb hint _ hh ?_);walk_at "st";have nmono:∀ i j,i<=j->j<n->f i=false->f j=false:=fun i j hij hj e=>by
  cases z:f j with
  |false=>rfl
  |true=>rw[mono i j hij hj z]at e;cases e
 extract_lets -underBinder +onlyGivenNames jp;clear_value (ej:jp=_);have hj:∀(u:Unit)(a0 a1 lo hi:Nat),lo<=hi->hi<=n->(∀ i,i<lo->f i=true)->(∀ i,hi<=i->i<n->f i=false)->wpS (model prog w) A E s (jp u a0 a1 lo hi) Q st:=by
  intro u a0 a1 lo hi h1 h2 h3 h4;rw[ej];dsimp only
  refine wpS_bind (wpS_mono (wpS_forRange (I:=fun x c st'=>st'=st/\∃ l r,c=(none,l,r)/\l<=r/\r<=n/\r-l<=n-x/\(∀ i,i<l->f i=true)/\(∀ i,r<=i->i<n->f i=false))
   (Q:=fun c st'=>st'=st/\∃ l,c=(none,l,l)/\l<=n/\(∀ i,i<l->f i=true)/\(∀ i,l<=i->i<n->f i=false)) ?step ?fin ⟨rfl,lo,hi,rfl,h1,h2,by omega,h3,h4⟩) ?post)
  case post =>
   rintro c st' ⟨rfl,l,rfl,g1,g2,g3⟩;exact wpS_pure (h l g1 g2 g3)
  case fin =>
   rintro c st' ⟨rfl,l,r,rfl,g1,g2,g3,g4,g5⟩;have:l=r:=by omega
   subst this;exact⟨rfl,l,rfl,g2,g4,g5⟩
  case step =>
   rintro x c st' _ hx ⟨rfl,l,r,rfl,g1,g2,g3,g4,g5⟩;dsimp only;by_cases z:l ≥ r
   ·refine aL z ?_;have:l=r:=by omega
    subst this;exact wpS_pure ⟨rfl,l,rfl,g2,g4,g5⟩
   ·refine aJ z ?_;refine wpS_bind (hb _ _ (by omega) ?_)
    cases e:f (l+(r-l)/2) with
    |true=>exact wpS_pure ⟨rfl,_,r,rfl,by omega,g2,by omega,fun i hi=>mono i _ (by omega) (by omega) e,g5⟩
    |false=>exact wpS_pure ⟨rfl,l,_,rfl,by omega,by omega,by omega,g4,fun i h1 h2=>nmono _ i h1 h2 e⟩
 clear ej
 cases er:f hint with
 |true =>
  refine aL rfl ?_;dsimp only
  refine wpS_bind (wpS_mono (wpS_forRange (I:=fun x c st'=>st'=st/\∃ l o,c=(none,l,o)/\l<o/\x+1<=o/\hint+l<n/\f (hint+l)=true)
   (Q:=fun c st'=>st'=st/\∃ l o,c=(none,l,o)/\l<o/\hint+l<n/\f (hint+l)=true/\(n-hint<=o∨f (hint+o)=false)) ?step ?fin ⟨rfl,0,1,rfl,by omega,by omega,by omega,er⟩) ?post)
  case post =>
   rintro c st' ⟨rfl,l,o,rfl,g1,g2,g3,g4⟩;dsimp only;refine hj _ _ _ _ _ (by omega) (by omega) (fun i hi=>mono i _ (by omega) g2 g3) fun i h1 h2=>?_
   rcases g4 with g4 | g4
   ·omega
   ·exact nmono (hint+o) i (by omega) h2 g4
  case fin =>
   rintro c st' ⟨rfl,l,o,rfl,g1,g2,g3,g4⟩;exact⟨rfl,l,o,rfl,g1,g3,g4,.inl (by omega)⟩
  case step =>
   rintro x c st' _ hx ⟨rfl,l,o,rfl,g1,g2,g3,g4⟩;dsimp only;by_cases z:o ≥ n-hint
   ·refine aL z ?_;exact wpS_pure ⟨rfl,l,o,rfl,g1,g3,g4,.inl z⟩
   ·refine aJ z ?_;refine wpS_bind (hb _ _ (by omega) ?_)
    cases e:f (hint+o) with
    |true=>exact wpS_pure ⟨rfl,_,_,rfl,by omega,by omega,by omega,e⟩
    |false=>exact wpS_pure ⟨rfl,l,o,rfl,g1,g3,g4,.inr e⟩
 |false =>
  refine aJ Ox ?_;dsimp only
  refine wpS_bind (wpS_mono (wpS_forRange (I:=fun x c st'=>st'=st/\∃ l o,c=(none,l,o)/\l<o/\x+1<=o/\l<=hint/\f (hint-l)=false)
   (Q:=fun c st'=>st'=st/\∃ l o,c=(none,l,o)/\l<o/\l<=hint/\f (hint-l)=false/\(hint+1<=o∨f (hint-o)=true)) ?step ?fin ⟨rfl,0,1,rfl,by omega,by omega,by omega,er⟩) ?post)
  case post =>
   rintro c st' ⟨rfl,l,o,rfl,g1,g2,g3,g4⟩;dsimp only;refine hj _ _ _ _ _ (by omega) (by omega) (fun i hi=>?_) fun i h1 h2=>nmono _ i h1 h2 g3
   rcases g4 with g4 | g4
   ·omega
   ·exact mono i (hint-o) (by omega) (by omega) g4
  case fin =>
   rintro c st' ⟨rfl,l,o,rfl,g1,g2,g3,g4⟩;exact⟨rfl,l,o,rfl,g1,g3,g4,.inl (by omega)⟩
  case step =>
   rintro x c st' _ hx ⟨rfl,l,o,rfl,g1,g2,g3,g4⟩;dsimp only;by_cases z:o ≥ hint+1
   ·refine aL z ?_;exact wpS_pure ⟨rfl,l,o,rfl,g1,g3,g4,.inl z⟩
   ·refine aJ z ?_;refine wpS_bind (hb _ _ (by omega) ?_)
    cases e:f (hint-o) with
    |true=>exact wpS_pure ⟨rfl,l,o,rfl,g1,g3,g4,.inr e⟩
    |false=>exact wpS_pure ⟨rfl,_,_,rfl,by omega,by omega,by omega,e⟩
def Upl(l:List Keyed):Prop:=l.Pairwise fun x y=>ky x<=ky y
structure LM(P R o:List Keyed)(i j:Nat):Prop where
 pm:o.Perm (P.take i++R.take j)
 up:Upl o
 la:∀ x∈o,∀ y∈P.drop i,ky x<=ky y
 lb:∀ x∈o,∀ y∈R.drop j,ky x<=ky y
theorem LM.swap{P R o:List Keyed}{i j:Nat}(h:LM P R o i j):LM R P o j i:=⟨h.pm.trans OZ,h.up,h.lb,h.la⟩
theorem LM.a{P R o:List Keyed}{i j:Nat}(h:LM P R o i j)(u:Upl P)(k:Nat)(c:∀ x∈(P.drop i).take k,∀ y∈R.drop j,ky x<=ky y):LM P R (o++(P.drop i).take k) (i+k) j where
 pm:=by
  rw[QL,ON];refine(h.pm.append_right _).trans ?_;rw[ON];exact PF _ OZ
 up:=O8.mpr ⟨h.up,(u.drop).take,fun x hx y hy=>h.la x hx y (Pm hy)⟩
 la:=fun x hx y hy=>by
  rw[← Qh]at hy;rcases N0.mp hx with hx | hx
  ·exact h.la x hx y (Pn hy)
  ·have z:Upl ((P.drop i).take k++(P.drop i).drop k):=by rw[OF];exact u.drop
   exact(O8.mp z).2.2 x hx y hy
 lb:=fun x hx y hy=>by
  rcases N0.mp hx with hx | hx
  ·exact h.lb x hx y hy
  ·exact c x hx y hy
theorem LM.fin{P R o:List Keyed}{i j:Nat}(h:LM P R o i j)(u:Upl P)(v:Upl R)(c:∀ x∈P.drop i,∀ y∈R.drop j,ky x<=ky y):(o++P.drop i++R.drop j).Perm (P++R)/\Upl (o++P.drop i++R.drop j):=by
 constructor
 ·refine((h.pm.append_right _).append_right _).trans ?_;have e:P++R=(P.take i++P.drop i)++(R.take j++R.drop j):=by rw[OF,OF]
  rw[e,← ON];refine List.Perm.append_right _ ?_;rw[ON,ON];exact PF _ OZ
 ·refine O8.mpr ⟨O8.mpr ⟨h.up,u.drop,h.la⟩,v.drop,fun x hx y hy=>?_⟩;rcases N0.mp hx with hx | hx
  ·exact h.lb x hx y hy
  ·exact c x hx y hy
end PyProof.Rows
namespace PyProof.Rows
open PySem
local macro_rules | `(tactic| walk_at "setG") => do
 let n:=Lean.mkIdent (Lean.mkPrivateNameCore `PySem.Builtin.List.W1All `PySem.Builtin.setMinGallop)
 `(tactic| delta $n)
local macro_rules | `(tactic| walk_at "mergeLo") => do
 let n:=Lean.mkIdent (Lean.mkPrivateNameCore `PySem.Builtin.List.W1All `PySem.Builtin.mergeLo)
 `(tactic| delta $n)
local macro_rules | `(tactic| walk_at "st") => `(tactic| try dsimp -zeta -zetaHave only)
local macro_rules | `(tactic| walk_at "l3") => `(tactic| (extract_lets -underBinder +onlyGivenNames a b c; subst a b c))
local macro_rules | `(tactic| walk_at "l11") => `(tactic| (extract_lets -underBinder +onlyGivenNames a b c d e f g h i j k; subst a b c d e f g h i j k; dsimp -zeta -zetaHave only))
variable{prog:Program}{w:World}{A:Around}{E:Value->Shared->Prop}{s:Shared}
structure SmG(st st':SortSt):Prop where
 k:kindOf st'=kindOf st
 a:arrOf st'=arrOf st
 p:pendingOf st'=pendingOf st
 f:failedOf st'=failedOf st
theorem SmG.rfl'(st:SortSt):SmG st st:=⟨rfl,rfl,rfl,rfl⟩
theorem SmG.trans{a b c:SortSt}(h:SmG a b)(g:SmG b c):SmG a c:=⟨g.k.trans h.k,g.a.trans h.a,g.p.trans h.p,g.f.trans h.f⟩
theorem qL{st:SortSt}{g:Nat}{Q:Unit->SortSt->Prop}(h:∀ st',SmG st st'->Q () st'):wpS (model prog w) A E s ((sortPriv% PySem.Builtin.setMinGallop) g) Q st:=by
 walk_at "setG";exact wpS_modify (h _ ⟨rfl,rfl,rfl,rfl⟩)
theorem jH(a:Array Keyed)(i:Nat):(a.extract i).toList=a.toList.drop i:=by
 rw[QK,Qs];exact OV (by rw[OX];exact NY _)
theorem qS(a:Array Keyed)(i k:Nat):(a.extract i (i+k)).toList=(a.toList.drop i).take k:=by
 rw[QK,Qs];congr 1;omega
theorem h7{P:List Keyed}{i:Nat}{x:Keyed}(h:P[i]?=some x):(P.drop i).take 1 = [x]:=by
 have hi:=(NP.mp h).1;rw[Pw hi];rw[NQ hi]at h
 cases h
 rfl
theorem LM.a1{P R o:List Keyed}{i j:Nat}{x:Keyed}(h:LM P R o i j)(u:Upl P)(hx:P[i]?=some x)(c:∀ y∈R.drop j,ky x<=ky y):LM P R (o++[x]) (i+1) j:=by
 have:=h.a u 1 (by rw[h7 hx];intro z hz;rw[Ol.mp hz];exact c)
 rwa[h7 hx]at this
theorem kZ{P:List Keyed}{i:Nat}{x:Keyed}(u:Upl P)(hx:P[i]?=some x):∀ y∈P.drop i,ky x<=ky y:=by
 have hi:=(NP.mp hx).1;have z:Upl (P.drop i):=u.drop;rw[Pw hi]at z ⊢;rw[NQ hi]at hx
 cases hx
 intro y hy;rcases NU.mp hy with rfl | hy
 ·exact Pr _
 ·exact(QV.mp z).1 y hy
theorem HB{P:List Keyed}{i k:Nat}{x:Keyed}(h:x∈(P.drop i).take k):∃ m,m<k/\P[i+m]?=some x:=by
 obtain⟨m,hm,e⟩:=P6 h;rw[Ou,OX]at hm;refine⟨m,by omega,?_⟩
 rw[Q3,RI]at e;rw[NQ (by omega),e]
theorem Gv{P:List Keyed}{i j:Nat}{x y:Keyed}(u:Upl P)(hx:P[i]?=some x)(hy:P[j]?=some y)(h:i<=j):ky x<=ky y:=kZ u hx y (by
 have hj:=(NP.mp hy).1;refine NV (i:=j-i) ?_
 rw[PV,show i+(j-i)=j by omega,hy])
theorem HD{P:List Keyed}{i:Nat}{x:Keyed}(h:x∈P.drop i):∃ m,P[i+m]?=some x:=by
 obtain⟨m,hm⟩:=Rq h;exact⟨m,by rw[← hm,PV]⟩
def fR(P:List Keyed)(i:Nat)(v:Keyed)(m:Nat):Bool:=match P[i+m]? with | some p=>!decide (ky v<ky p) | none=>false
def fL(P:List Keyed)(i:Nat)(v:Keyed)(m:Nat):Bool:=match P[i+m]? with | some p=>decide (ky p<ky v) | none=>false
theorem so{P:List Keyed}{i m:Nat}{v p:Keyed}(h:P[i+m]?=some p):fR P i v m = !decide (ky v<ky p):=by unfold fR;rw[h]
theorem uu{P:List Keyed}{i m:Nat}{v p:Keyed}(h:P[i+m]?=some p):fL P i v m=decide (ky p<ky v):=by unfold fL;rw[h]
theorem Np{P:List Keyed}{i:Nat}{v:Keyed}(u:Upl P){n:Nat}(hn:i+n<=P.length):∀ x y,x<=y->y<n->fR P i v y=true->fR P i v x=true:=fun x y hxy hy e=>by
 have hx:P[i+x]?=some P[i+x]:=NQ (by omega)
 have hy':P[i+y]?=some P[i+y]:=NQ (by omega)
 rw[so hy']at e;rw[so hx];have:=Gv u hx hy' (by omega)
 simp only[Qd,decide_eq_false_iff_not]at e ⊢;omega
theorem Nr{P:List Keyed}{i:Nat}{v:Keyed}(u:Upl P){n:Nat}(hn:i+n<=P.length):∀ x y,x<=y->y<n->fL P i v y=true->fL P i v x=true:=fun x y hxy hy e=>by
 have hx:P[i+x]?=some P[i+x]:=NQ (by omega)
 have hy':P[i+y]?=some P[i+y]:=NQ (by omega)
 rw[uu hy']at e;rw[uu hx];have:=Gv u hx hy' (by omega)
 simp only[decide_eq_true_eq]at e ⊢;omega
theorem Nq{P:List Keyed}{i k:Nat}{v:Keyed}(h:∀ m,m<k->fR P i v m=true):∀ x∈(P.drop i).take k,ky x<=ky v:=fun x hx=>by
 obtain⟨m,hm,e⟩:=HB hx;have:=h m hm;rw[so e]at this;simp only[Qd,decide_eq_false_iff_not]at this;omega
theorem Nt{P:List Keyed}{i k:Nat}{v:Keyed}(h:∀ m,m<k->fL P i v m=true):∀ x∈(P.drop i).take k,ky x<ky v:=fun x hx=>by
 obtain⟨m,hm,e⟩:=HB hx;have:=h m hm;rw[uu e]at this;simpa using this
theorem fR_hi{P:List Keyed}{i k n:Nat}{v:Keyed}(hn:P.length<=i+n)(h:∀ m,k<=m->m<n->fR P i v m=false):∀ y∈P.drop (i+k),ky v<ky y:=fun y hy=>by
 obtain⟨m,e⟩:=HD hy;have hl:=(NP.mp e).1;have:=h (k+m) (by omega) (by omega)
 rw[so (show P[i+(k+m)]?=some y by rw[← Nat.add_assoc];exact e)]at this
 simpa using this
theorem fL_hi{P:List Keyed}{i k n:Nat}{v:Keyed}(hn:P.length<=i+n)(h:∀ m,k<=m->m<n->fL P i v m=false):∀ y∈P.drop (i+k),ky v<=ky y:=fun y hy=>by
 obtain⟨m,e⟩:=HD hy;have hl:=(NP.mp e).1;have:=h (k+m) (by omega) (by omega)
 rw[uu (show P[i+(k+m)]?=some y by rw[← Nat.add_assoc];exact e)]at this
 simp only[decide_eq_false_iff_not]at this;omega
theorem DL{st:SortSt}{key:Keyed}{arr:Array Keyed}{base n hint:Nat}{Q:Option Nat->SortSt->Prop}(hk:kindOf st=oneType')(hkey:IntP key)(u:Upl arr.toList)(ip:∀ x∈arr.toList,IntP x)(hn:base+n<=arr.size)(hh:hint<n)
  (h:∀ k,k<=n->(∀ i,i<k->fR arr.toList base key i=true)->(∀ i,k<=i->i<n->fR arr.toList base key i=false)->Q (some k) st):wpS (model prog w) A E s ((sortPriv% PySem.Builtin.gallop) false key arr base n hint) Q st :=
 have la:arr.toList.length=arr.size:=by simp
 j7 (fR arr.toList base key) hk hkey (fun i hi=>by
  have hx:arr.toList[base+i]?=some arr.toList[base+i]:=NQ (by omega)
  exact⟨_,by rw[← hx];simp,ip _ (Pj _),by rw[so hx];rfl⟩) (Np u (by omega)) hh h
theorem DM{st:SortSt}{key:Keyed}{arr:Array Keyed}{base n hint:Nat}{Q:Option Nat->SortSt->Prop}(hk:kindOf st=oneType')(hkey:IntP key)(u:Upl arr.toList)(ip:∀ x∈arr.toList,IntP x)(hn:base+n<=arr.size)(hh:hint<n)
  (h:∀ k,k<=n->(∀ i,i<k->fL arr.toList base key i=true)->(∀ i,k<=i->i<n->fL arr.toList base key i=false)->Q (some k) st):wpS (model prog w) A E s ((sortPriv% PySem.Builtin.gallop) true key arr base n hint) Q st :=
 have la:arr.toList.length=arr.size:=by simp
 j7 (fL arr.toList base key) hk hkey (fun i hi=>by
  have hx:arr.toList[base+i]?=some arr.toList[base+i]:=NQ (by omega)
  exact⟨_,by rw[← hx];simp,ip _ (Pj _),by rw[uu hx];rfl⟩) (Nr u (by omega)) hh h
theorem LR{σ α β:Type}{M:Model}{c:Prop} [Decidable c] {F:α->StateT σ Sem β} {x y:α} {Q:β->σ->Prop} {st:σ} (h:∀ z,wpS M A E s (F z) Q st):wpS M A E s (if c then F x else F y) Q st:=by
 split<;>exact h _
theorem AW{σ α:Type}{M:Model}{m:StateT σ Sem α}{Q:α->σ->Prop}{st:σ}(h:∀ R:α->σ->Prop,(∀ a st',Q a st'->R a st')->wpS M A E s m R st):wpS M A E s m Q st:=h Q fun _ _ q=>q
def Ec:Array Keyed->Array Keyed->StateT SortSt Sem (Array Keyed):=sortPriv% PySem.Builtin.mergeLo
theorem at_l{a:Array Keyed}{i:Nat}{x:Keyed}(h:a.toList[i]?=some x):a[i]?=some x:=by rw[← h];simp
theorem AS{st:SortSt}{a b:Array Keyed}{Q:Array Keyed->SortSt->Prop}(hk:kindOf st=oneType')(ua:Upl a.toList)(ub:Upl b.toList)(ia:∀ x∈a.toList,IntP x)(ib:∀ x∈b.toList,IntP x)(a1:1<=a.size)(b1:1<=b.size)
  (h0:∀ x y:Keyed,b.toList[0]?=some x->y∈a.toList->ky x<=ky y) (hst:∀ x y:Keyed,x∈b.toList->a.toList[a.size-1]?=some y->ky x<ky y)
  (h:∀ R st',SmG st st'->R.toList.Perm (a.toList++b.toList)->Upl R.toList->Q R st'):wpS (model prog w) A E s (Ec a b) Q st:=by
 unfold Ec;walk_at "mergeLo";have la:a.toList.length=a.size:=by simp
 have lb:b.toList.length=b.size:=by simp
 have atA:∀ i,i<a.size->∃ x,a.toList[i]?=some x/\IntP x:=fun i hi=>⟨_,NQ (by omega),ia _ (Pj _)⟩
 have atB:∀ i,i<b.size->∃ x,b.toList[i]?=some x/\IntP x:=fun i hi=>⟨_,NQ (by omega),ib _ (Pj _)⟩
 have dn:∀(o:Array Keyed)(i j:Nat)(st':SortSt),SmG st st'->LM a.toList b.toList o.toList i j->j=b.size->Q (o++a.extract i++b.extract j) st':=by
  intro o i j st' sg lm e;have nb:b.toList.drop j = []:=Q8 (by omega)
  obtain⟨g1,g2⟩:=lm.fin ua ub (by rw[nb];intro x _ y hy;cases hy)
  refine h _ st' sg ?_ ?_
  ·rw[OU,OU,jH,jH];exact g1
  ·rw[OU,OU,jH,jH];exact g2
 have ls:∀(o:Array Keyed)(i j:Nat)(st':SortSt),SmG st st'->LM a.toList b.toList o.toList i j->i+1=a.size->Q (o++b.extract j++a.extract i) st':=by
  intro o i j st' sg lm e;obtain⟨z,hz,_⟩:=atA i (by omega)
  have na:a.toList.drop i = [z]:=by
   rw[← h7 hz];exact(OV (by rw[OX];omega)).symm
  obtain⟨g1,g2⟩:=lm.swap.fin ub ua (by
   rw[na];intro x hx y hy;rw[Ol.mp hy]
   exact PJ (hst x z (Pn hx) (by rw[← e];exact hz)))
  refine h _ st' sg ?_ ?_
  ·rw[OU,OU,jH,jH];exact g1.trans OZ
  ·rw[OU,OU,jH,jH];exact g2
 refine wpS_bind (wpS_lift (wpAny_rule ⟨rfl,?_⟩));obtain⟨y0,hy0,iy0⟩:=atB 0 (by omega)
 walk_at "l3";refine wpS_bind (aU (at_l hy0) ?_)
 have m0:LM a.toList b.toList [y0] 0 1:=⟨by rw[List.take_zero,Rh,← h7 hy0];exact R7 _,Qu ..,fun x hx y hy=>by rw[Ol.mp hx];exact h0 y0 y hy0 hy,fun x hx y hy=>by
  rw[Ol.mp hx]
  exact kZ ub hy0 y (Pn hy)⟩
 by_cases c1:(1 == b.size)=true
 ·refine aL c1 ?_;exact wpS_pure (dn _ _ _ _ (SmG.rfl' _) m0 (by simpa using c1))
 refine aJ c1 ?_;have c1':1≠b.size:=by simpa using c1
 by_cases c2:(0+1 == a.size)=true
 ·refine aL c2 ?_;exact wpS_pure (ls _ _ _ _ (SmG.rfl' _) m0 (by simpa using c2))
 refine aJ c2 ?_;have c2':0+1≠a.size:=by simpa using c2
 refine wpS_bind (wpS_get ?_)
 refine wpS_bind (wpS_mono (wpS_forRange (I:=fun x c st'=>SmG st st'/\∃(o:Array Keyed)(i j g:Nat),c=(none,o,i,j,g)/\LM a.toList b.toList o.toList i j/\i+1<a.size/\j<b.size/\x+1<=i+j)
  (Q:=fun c st'=>∃(r:Array Keyed)(z:Array Keyed×Nat×Nat×Nat),c=(some r,z)/\Q r st') ?step ?fin ⟨SmG.rfl' _,_,_,_,_,rfl,m0,by omega,by omega,by omega⟩) ?post)
 case post =>
  rintro c st' ⟨r,z,rfl,q⟩;exact wpS_pure q
 case fin =>
  rintro c st' ⟨sg,o,i,j,g,rfl,lm,g1,g2,g3⟩;omega
 case step =>
  rintro x c st1 _ hx ⟨sg1,o,i,j,g,rfl,lm,g1,g2,g3⟩
  refine wpS_bind (wpS_mono (wpS_forRange (I:=fun y c st'=>SmG st st'/\∃(o:Array Keyed)(i j ac bc:Nat),c=(none,o,i,j,ac,bc)/\LM a.toList b.toList o.toList i j/\i+1<a.size/\j<b.size/\x+1+y<=i+j)
   (Q:=fun c st'=>(∃(r:Array Keyed)(z:Array Keyed×Nat×Nat×Nat×Nat),c=(some r,z)/\Q r st')∨SmG st st'/\∃(o:Array Keyed)(i j ac bc:Nat),c=(none,o,i,j,ac,bc)/\LM a.toList b.toList o.toList i j/\i+1<a.size/\j<b.size/\x+2<=i+j) ?istep ?ifin ⟨sg1,o,i,j,0,0,rfl,lm,g1,g2,by omega⟩) ?ipost)
  case ifin =>
   rintro c st' ⟨sg,o,i,j,ac,bc,rfl,lm,g1,g2,g3⟩;exact .inr ⟨sg,o,i,j,ac,bc,rfl,lm,g1,g2,by omega⟩
  case istep =>
   rintro y c st2 _ hy ⟨sg2,o,i,j,ac,bc,rfl,lm,g1,g2,g3⟩;obtain⟨vb,hvb,ivb⟩:=atB j g2;obtain⟨va,hva,iva⟩:=atA i (by omega)
   dsimp only;refine wpS_bind (aU (at_l hvb) (wpS_bind (aU (at_l hva) (wpS_bind (vg (sg2.k.trans hk) ivb iva ?_)))));by_cases c:ky vb<ky va
   ·rw[decide_eq_true c];dsimp only;refine aL rfl ?_;refine wpS_bind (aU (at_l hvb) ?_);have m2:LM a.toList b.toList (o.push vb).toList i (j+1):=by
     rw[P4];exact(lm.swap.a1 ub hvb fun z hz=>by have:=kZ ua hva z hz;omega).swap
    by_cases d1:(j+1 == b.size)=true
    ·refine aL d1 ?_;exact wpS_pure (.inl ⟨_,_,rfl,dn _ _ _ _ sg2 m2 (by simpa using d1)⟩)
    ·refine aJ d1 ?_;have d1':j+1≠b.size:=by simpa using d1
     split
     ·exact wpS_pure (.inr ⟨sg2,_,_,_,_,_,rfl,m2,g1,by omega,by omega⟩)
     ·exact wpS_pure ⟨sg2,_,_,_,_,_,rfl,m2,g1,by omega,by omega⟩
   ·rw[decide_eq_false c];dsimp only;refine aJ Ox ?_;refine wpS_bind (aU (at_l hva) ?_);have m2:LM a.toList b.toList (o.push va).toList (i+1) j:=by
     rw[P4];exact lm.a1 ua hva fun z hz=>by have:=kZ ub hvb z hz;omega
    by_cases d1:(i+1+1 == a.size)=true
    ·refine aL d1 ?_;exact wpS_pure (.inl ⟨_,_,rfl,ls _ _ _ _ sg2 m2 (by simpa using d1)⟩)
    ·refine aJ d1 ?_;have d1':i+1+1≠a.size:=by simpa using d1
     split
     ·exact wpS_pure (.inr ⟨sg2,_,_,_,_,_,rfl,m2,by omega,g2,by omega⟩)
     ·exact wpS_pure ⟨sg2,_,_,_,_,_,rfl,m2,by omega,g2,by omega⟩
  case ipost =>
   rintro c st2 (⟨r,z,rfl,q⟩ | ⟨sg2,o,i,j,ac,bc,rfl,lm,g1,g2,g3⟩)
   ·exact wpS_pure ⟨_,_,rfl,q⟩
   dsimp -zeta -zetaHave only;refine wpS_bind (wpS_lift (wpAny_rule ⟨rfl,?_⟩))
   refine wpS_bind (wpS_mono (wpS_forRange (I:=fun y c st'=>SmG st st'/\∃(o:Array Keyed)(i j g ac bc:Nat),c=(none,o,i,j,g,ac,bc)/\LM a.toList b.toList o.toList i j/\i+1<a.size/\j<b.size/\x+2<=i+j)
    (Q:=fun c st'=>(∃(r:Array Keyed)(z:Array Keyed×Nat×Nat×Nat×Nat×Nat),c=(some r,z)/\Q r st')∨SmG st st'/\∃(o:Array Keyed)(i j g ac bc:Nat),c=(none,o,i,j,g,ac,bc)/\LM a.toList b.toList o.toList i j/\i+1<a.size/\j<b.size/\x+2<=i+j) ?jstep ?jfin ⟨sg2,o,i,j,_,ac,bc,rfl,lm,g1,g2,g3⟩) ?jpost)
   case jfin=>exact fun c st' q=>.inr q
   case jpost =>
    rintro c st3 (⟨r,z,rfl,q⟩ | ⟨sg3,o,i,j,g,ac,bc,rfl,lm,g1,g2,g3⟩)
    ·exact wpS_pure ⟨_,_,rfl,q⟩
    dsimp only;exact wpS_bind (qL fun st4 sg4=>wpS_pure ⟨sg3.trans sg4,_,_,_,_,rfl,lm,g1,g2,by omega⟩)
   case jstep =>
    rintro y c st3 _ hy ⟨sg3,o,i,j,g,ac,bc,rfl,lm,g1,g2,g3⟩;walk_at "st";walk_at "l11";extract_lets -underBinder +onlyGivenNames jp;clear_value (ej:jp=_);refine AW fun R hR=>?_;refine LR (F:=fun z=>jp () z) fun g'=>?_;rw[ej];clear ej jp;walk_at "st";refine wpS_bind (qL fun st4 sg4=>?_);have sg34:=sg3.trans sg4;have k4:=sg34.k.trans hk;obtain⟨vb,hvb,ivb⟩:=atB j g2;refine wpS_bind (aU (at_l hvb) ?_);refine wpS_bind (DL k4 ivb ua ia (by omega) (by omega) fun k kn kt kf=>?_)
    walk_at "st";extract_lets -underBinder +onlyGivenNames ac jp;subst ac;clear_value (ej:jp=_);have vbl:=kZ ub hvb;have hlo:=Nq kt;have hhi:=fR_hi (by omega) kf
    have hj:∀(o':Array Keyed)(i':Nat),LM a.toList b.toList o'.toList i' j->i'+1<a.size->(∀ y∈a.toList.drop i',ky vb<=ky y)->x+2<=i'+j->wpS (model prog w) A E s (jp () o' i') R st4:=by
     intro o' i' lm' g1' gv g3';rw[ej];clear ej jp;walk_at "st";refine wpS_bind (aU (at_l hvb) ?_);have m2:LM a.toList b.toList (o'.push vb).toList i' (j+1):=by
      rw[P4];exact(lm'.swap.a1 ub hvb gv).swap
     by_cases d1:(j+1 == b.size)=true
     ·refine aL d1 ?_;exact wpS_pure (hR _ _ (.inl ⟨_,_,rfl,dn _ _ _ _ sg34 m2 (by simpa using d1)⟩))
     refine aJ d1 ?_;have d1':j+1≠b.size:=by simpa using d1
     obtain⟨va,hva,iva⟩:=atA i' (by omega)
     have val:=kZ ua hva;refine wpS_bind (aU (at_l hva) ?_);refine wpS_bind (DM k4 iva ub ib (by omega) (by omega) fun k2 kn2 kt2 kf2=>?_)
     walk_at "st";extract_lets -underBinder +onlyGivenNames ac jp;subst ac;clear_value (ej:jp=_);have hlo2:=Nt kt2;have hhi2:=fL_hi (by omega) kf2
     have hj:∀(o':Array Keyed)(j':Nat),LM a.toList b.toList o'.toList i' j'->j'<b.size->(∀ y∈b.toList.drop j',ky va<=ky y)->x+2<=i'+j'->wpS (model prog w) A E s (jp () o' j') R st4:=by
      intro o' j' lm2 g2' gv' g3'';rw[ej];clear ej jp;walk_at "st";refine wpS_bind (aU (at_l hva) ?_);have m3:LM a.toList b.toList (o'.push va).toList (i'+1) j':=by
       rw[P4];exact lm2.a1 ua hva gv'
      by_cases d2:(i'+1+1 == a.size)=true
      ·refine aL d2 ?_;exact wpS_pure (hR _ _ (.inl ⟨_,_,rfl,ls _ _ _ _ sg34 m3 (by simpa using d2)⟩))
      refine aJ d2 ?_;have d2':i'+1+1≠a.size:=by simpa using d2
      split
      ·exact wpS_pure (hR _ _ (.inr ⟨sg34,_,_,_,_,_,_,rfl,m3,by omega,g2',by omega⟩))
      ·exact wpS_pure (hR _ _ ⟨sg34,_,_,_,_,_,_,rfl,m3,by omega,g2',by omega⟩)
     clear ej;by_cases z2:k2 > 0
     ·refine aL z2 ?_;have m3:LM a.toList b.toList (o'.push vb++b.extract (j+1) (j+1+k2)).toList i' (j+1+k2):=by
       rw[OU,qS];exact(m2.swap.a ub k2 fun x hx y hy=>by have:=hlo2 x hx;have:=val y hy;omega).swap
      by_cases d2:(j+1+k2 == b.size)=true
      ·refine aL d2 ?_;exact wpS_pure (hR _ _ (.inl ⟨_,_,rfl,dn _ _ _ _ sg34 m3 (by simpa using d2)⟩))
      refine aJ d2 ?_;have d2':j+1+k2≠b.size:=by simpa using d2
      exact hj _ _ m3 (by omega) hhi2 (by omega)
     ·refine aJ z2 ?_;have:k2=0:=by omega
      subst this;exact hj _ _ m2 (by omega) hhi2 (by omega)
    clear ej;by_cases z:k > 0
    ·refine aL z ?_;have m2:LM a.toList b.toList (o++a.extract i (i+k)).toList (i+k) j:=by
      rw[OU,qS];exact lm.a ua k fun x hx y hy=>by have:=hlo x hx;have:=vbl y hy;omega
     by_cases d1:(i+k+1 == a.size)=true
     ·refine aL d1 ?_;exact wpS_pure (hR _ _ (.inl ⟨_,_,rfl,ls _ _ _ _ sg34 m2 (by simpa using d1)⟩))
     refine aJ d1 ?_;have d1':i+k+1≠a.size:=by simpa using d1
     by_cases d2:(i+k == a.size)=true
     ·exfalso;have d2':i+k=a.size:=by simpa using d2
      obtain⟨vl,hvl,_⟩:=atA (a.size-1) (by omega)
      have h1:=kt (a.size-1-i) (by omega)
      rw[so (show a.toList[i+(a.size-1-i)]?=some vl by rw[show i+(a.size-1-i)=a.size-1 by omega];exact hvl)]at h1
      have h2:=hst vb vl (NV hvb) hvl;simp only[Qd,decide_eq_false_iff_not]at h1;omega
     refine aJ d2 ?_;have d2':i+k≠a.size:=by simpa using d2
     exact hj _ _ m2 (by omega) (fun y hy=>PJ (hhi y hy)) (by omega)
    ·refine aJ z ?_;have:k=0:=by omega
     subst this;exact hj _ _ lm g1 (fun y hy=>PJ (hhi y hy)) (by omega)
local macro_rules | `(tactic| walk_at "mergeHi") => do
 let n:=Lean.mkIdent (Lean.mkPrivateNameCore `PySem.Builtin.List.W1All `PySem.Builtin.mergeHi)
 `(tactic| delta $n)
structure LH(P R o:List Keyed)(i j:Nat):Prop where
 pm:o.Perm (P.drop i++R.drop j)
 up:Upl o
 la:∀ x∈P.take i,∀ y∈o,ky x<=ky y
 lb:∀ x∈R.take j,∀ y∈o,ky x<=ky y
theorem LH.swap{P R o:List Keyed}{i j:Nat}(h:LH P R o i j):LH R P o j i:=⟨h.pm.trans OZ,h.up,h.lb,h.la⟩
theorem K4(P:List Keyed){i i':Nat}(h:i'<=i)(hi:i<=P.length):P.drop i'=(P.take i).drop i'++P.drop i:=by
 have e:=congrArg (List.drop i') (OF i P);rw[RQ,Ou,show i'-min i P.length=0 by omega,QC]at e
 exact e.symm
theorem LH.a{P R o:List Keyed}{i j:Nat}(h:LH P R o i j)(u:Upl P){i':Nat}(hi':i'<=i)(hi:i<=P.length)(c:∀ x∈R.take j,∀ y∈(P.take i).drop i',ky x<=ky y):LH P R ((P.take i).drop i'++o) i' j where
 pm:=by
  rw[K4 P hi' hi,ON];exact PF _ h.pm
 up:=O8.mpr ⟨(u.take).drop,h.up,fun x hx y hy=>h.la x (Pn hx) y hy⟩
 la:=fun x hx y hy=>by
  have e:P.take i'=(P.take i).take i':=by rw[QX,PH hi']
  rw[e]at hx;rcases N0.mp hy with hy | hy
  ·have z:Upl ((P.take i).take i'++(P.take i).drop i'):=by rw[OF];exact u.take
   exact(O8.mp z).2.2 x hx y hy
  ·exact h.la x (Pm hx) y hy
 lb:=fun x hx y hy=>by
  rcases N0.mp hy with hy | hy
  ·exact c x hx y hy
  ·exact h.lb x hx y hy
theorem wG{P:List Keyed}{i:Nat}{x:Keyed}(h:P[i]?=some x):(P.take (i+1)).drop i = [x]:=by
 have hi:=(NP.mp h).1;rw[QD,show i+1-i=1 by omega]
 exact h7 h
theorem LH.a1{P R o:List Keyed}{i j:Nat}{x:Keyed}(h:LH P R o (i+1) j)(u:Upl P)(hx:P[i]?=some x)(c:∀ y∈R.take j,ky y<=ky x):LH P R (x::o) i j:=by
 have hi:=(NP.mp hx).1;have:=h.a u (i':=i) (by omega) (by omega) (by rw[wG hx];intro y hy z hz;rw[Ol.mp hz];exact c y hy)
 rwa[wG hx]at this
theorem LH.fin{P R o:List Keyed}{i j:Nat}(h:LH P R o i j)(u:Upl P)(v:Upl R)(c:∀ x∈P.take i,∀ y∈R.take j,ky x<=ky y):(P.take i++R.take j++o).Perm (P++R)/\Upl (P.take i++R.take j++o):=by
 constructor
 ·refine(PF _ h.pm).trans ?_;have e:P++R=(P.take i++P.drop i)++(R.take j++R.drop j):=by rw[OF,OF]
  rw[e,← ON,← ON];refine List.Perm.append_right _ ?_;rw[ON,ON];exact PF _ OZ
 ·refine O8.mpr ⟨O8.mpr ⟨u.take,v.take,c⟩,h.up,fun x hx y hy=>?_⟩;rcases N0.mp hx with hx | hx
  ·exact h.la x hx y hy
  ·exact h.lb x hx y hy
theorem nN{P:List Keyed}{i:Nat}{x:Keyed}(u:Upl P)(hx:P[i]?=some x):∀ y∈P.take (i+1),ky y<=ky x:=fun y hy=>by
 obtain⟨m,hm,e⟩:=P6 hy;rw[Ou]at hm;rw[Q3]at e;exact Gv u (i:=m) (by rw[NQ (by omega),e]) hx (by omega)
theorem fR_lo'{P:List Keyed}{k:Nat}{v:Keyed}(h:∀ m,m<k->fR P 0 v m=true):∀ x∈P.take k,ky x<=ky v:=Nq (P:=P) (i:=0) h
theorem fL_lo'{P:List Keyed}{k:Nat}{v:Keyed}(h:∀ m,m<k->fL P 0 v m=true):∀ x∈P.take k,ky x<ky v:=Nt (P:=P) (i:=0) h
theorem Ef{P:List Keyed}{i k:Nat}{y:Keyed}(h:y∈(P.take i).drop k):∃ m,k<=m/\m<i/\P[m]?=some y:=by
 rw[QD]at h;obtain⟨m,hm,e⟩:=HB h;exact⟨k+m,by omega,by omega,e⟩
theorem fR_hi'{P:List Keyed}{k n:Nat}{v:Keyed}(h:∀ m,k<=m->m<n->fR P 0 v m=false):∀ y∈(P.take n).drop k,ky v<ky y:=fun y hy=>by
 obtain⟨m,h1,h2,e⟩:=Ef hy;have:=h m h1 h2;rw[so (show P[0+m]?=some y by rw[Nat.zero_add];exact e)]at this
 simpa using this
theorem fL_hi'{P:List Keyed}{k n:Nat}{v:Keyed}(h:∀ m,k<=m->m<n->fL P 0 v m=false):∀ y∈(P.take n).drop k,ky v<=ky y:=fun y hy=>by
 obtain⟨m,h1,h2,e⟩:=Ef hy;have:=h m h1 h2;rw[uu (show P[0+m]?=some y by rw[Nat.zero_add];exact e)]at this
 simp only[decide_eq_false_iff_not]at this;omega
theorem pj(a:Array Keyed)(i:Nat):(a.extract 0 i).toList=a.toList.take i:=by
 rw[QK,Qs];rfl
theorem xp(a:Array Keyed)(i k:Nat):(a.extract k i).toList=(a.toList.take i).drop k:=by
 rw[QK,Qs,QD]
def rv(o:Array Keyed):List Keyed:=o.toList.reverse
theorem vM(o:Array Keyed)(x:Keyed):rv (o.push x)=x::rv o:=by unfold rv;rw[P4,List.reverse_append];rfl
theorem LC(o p:Array Keyed):rv (o++p.reverse)=p.toList++rv o:=by unfold rv;rw[OU,List.reverse_append,Qq,List.reverse_reverse]
def Ed:Array Keyed->Array Keyed->StateT SortSt Sem (Array Keyed):=sortPriv% PySem.Builtin.mergeHi
theorem AU{st:SortSt}{a b:Array Keyed}{Q:Array Keyed->SortSt->Prop}(hk:kindOf st=oneType')(ua:Upl a.toList)(ub:Upl b.toList)(ia:∀ x∈a.toList,IntP x)(ib:∀ x∈b.toList,IntP x)(a1:1<=a.size)(b1:1<=b.size)
  (h0:∀ x y:Keyed,b.toList[0]?=some x->y∈a.toList->ky x<ky y) (hst:∀ x y:Keyed,x∈b.toList->a.toList[a.size-1]?=some y->ky x<ky y)
  (h:∀ R st',SmG st st'->R.toList.Perm (a.toList++b.toList)->Upl R.toList->Q R st'):wpS (model prog w) A E s (Ed a b) Q st:=by
 unfold Ed;walk_at "mergeHi";have la:a.toList.length=a.size:=by simp
 have lb:b.toList.length=b.size:=by simp
 have atA:∀ i,i<a.size->∃ x,a.toList[i]?=some x/\IntP x:=fun i hi=>⟨_,NQ (by omega),ia _ (Pj _)⟩
 have atB:∀ i,i<b.size->∃ x,b.toList[i]?=some x/\IntP x:=fun i hi=>⟨_,NQ (by omega),ib _ (Pj _)⟩
 have dn:∀(o:Array Keyed)(i j:Nat)(st':SortSt),SmG st st'->LH a.toList b.toList (rv o) i j->i=0∨j=0->Q (a.extract 0 i++b.extract 0 j++o.reverse) st':=by
  intro o i j st' sg lm e
  obtain⟨g1,g2⟩:=lm.fin ua ub (by
   rcases e with e | e
   ·subst e;intro x hx;cases hx
   ·subst e;intro x _ y hy;cases hy)
  refine h _ st' sg ?_ ?_
  ·rw[OU,OU,pj,pj,Qq];exact g1
  ·rw[OU,OU,pj,pj,Qq];exact g2
 have ls:∀(o:Array Keyed)(i j:Nat)(st':SortSt),SmG st st'->LH a.toList b.toList (rv o) i j->j=1->Q (b.extract 0 j++a.extract 0 i++o.reverse) st':=by
  intro o i j st' sg lm e;subst e;obtain⟨z,hz,_⟩:=atB 0 (by omega)
  have nb:b.toList.take 1 = [z]:=h7 (P:=b.toList) (i:=0) hz
  obtain⟨g1,g2⟩:=lm.swap.fin ub ua (by
   rw[nb];intro x hx y hy;rw[Ol.mp hx]
   exact PJ (h0 z y hz (Pm hy)))
  refine h _ st' sg ?_ ?_
  ·rw[OU,OU,pj,pj,Qq];exact g1.trans OZ
  ·rw[OU,OU,pj,pj,Qq];exact g2
 refine wpS_bind (wpS_lift (wpAny_rule ⟨rfl,?_⟩));obtain⟨y0,hy0,iy0⟩:=atA (a.size-1) (by omega)
 walk_at "l3";refine wpS_bind (aU (at_l hy0) ?_)
 have m0:LH a.toList b.toList (rv #[y0]) (a.size-1) b.size:=⟨by
   show[y0].Perm _;rw[Q8 (show b.toList.length<=b.size by omega),Pa]
   have e:=wG hy0;rw[show a.size-1+1=a.size by omega,OV (by omega)]at e
   rw[e],Qu ..,fun x hx y hy=>by
   have:y=y0:=Ol.mp hy;rw[this];refine nN ua hy0 x ?_;rw[show a.size-1+1=a.size by omega,OV (by omega)]
   exact Pm hx,fun x hx y hy=>by
   have:y=y0:=Ol.mp hy;rw[this]
   exact PJ (hst x y0 (Pm hx) hy0)⟩
 by_cases c1:(a.size-1 == 0)=true
 ·refine aL c1 ?_;exact wpS_pure (dn _ _ _ _ (SmG.rfl' _) m0 (.inl (by simpa using c1)))
 refine aJ c1 ?_;have c1':a.size-1≠0:=by simpa using c1
 by_cases c2:(b.size == 1)=true
 ·refine aL c2 ?_;exact wpS_pure (ls _ _ _ _ (SmG.rfl' _) m0 (by simpa using c2))
 refine aJ c2 ?_;have c2':b.size≠1:=by simpa using c2
 refine wpS_bind (wpS_get ?_)
 refine wpS_bind (wpS_mono (wpS_forRange (I:=fun x c st'=>SmG st st'/\∃(o:Array Keyed)(i j g:Nat),c=(none,i,j,o,g)/\LH a.toList b.toList (rv o) i j/\1<=i/\i<=a.size/\2<=j/\j<=b.size/\x+1+(i+j)<=a.size+b.size)
  (Q:=fun c st'=>∃(r:Array Keyed)(z:Nat×Nat×Array Keyed×Nat),c=(some r,z)/\Q r st') ?step ?fin ⟨SmG.rfl' _,_,_,_,_,rfl,m0,by omega,by omega,by omega,by omega,by omega⟩) ?post)
 case post =>
  rintro c st' ⟨r,z,rfl,q⟩;exact wpS_pure q
 case fin =>
  rintro c st' ⟨sg,o,i,j,g,rfl,lm,g1,g1',g2,g2',g3⟩;omega
 case step =>
  rintro x c st1 _ hx ⟨sg1,o,i,j,g,rfl,lm,g1,g1',g2,g2',g3⟩
  refine wpS_bind (wpS_mono (wpS_forRange (I:=fun y c st'=>SmG st st'/\∃(o:Array Keyed)(i j ac bc:Nat),c=(none,i,j,o,ac,bc)/\LH a.toList b.toList (rv o) i j/\1<=i/\i<=a.size/\2<=j/\j<=b.size/\x+1+y+(i+j)<=a.size+b.size)
   (Q:=fun c st'=>(∃(r:Array Keyed)(z:Nat×Nat×Array Keyed×Nat×Nat),c=(some r,z)/\Q r st')∨SmG st st'/\∃(o:Array Keyed)(i j ac bc:Nat),c=(none,i,j,o,ac,bc)/\LH a.toList b.toList (rv o) i j/\1<=i/\i<=a.size/\2<=j/\j<=b.size/\x+2+(i+j)<=a.size+b.size) ?istep ?ifin ⟨sg1,o,i,j,0,0,rfl,lm,g1,g1',g2,g2',by omega⟩) ?ipost)
  case ifin =>
   rintro c st' ⟨sg,o,i,j,ac,bc,rfl,lm,g1,g1',g2,g2',g3⟩;exact .inr ⟨sg,o,i,j,ac,bc,rfl,lm,g1,g1',g2,g2',by omega⟩
  case istep =>
   rintro y c st2 _ hy ⟨sg2,o,i,j,ac,bc,rfl,lm,g1,g1',g2,g2',g3⟩;obtain⟨vb,hvb,ivb⟩:=atB (j-1) (by omega)
   obtain⟨va,hva,iva⟩:=atA (i-1) (by omega)
   have ei:i-1+1=i:=by omega
   have ej:j-1+1=j:=by omega
   dsimp only;refine wpS_bind (aU (at_l hvb) (wpS_bind (aU (at_l hva) (wpS_bind (vg (sg2.k.trans hk) ivb iva ?_)))));by_cases c:ky vb<ky va
   ·rw[decide_eq_true c];dsimp only;refine aL rfl ?_;refine wpS_bind (aU (at_l hva) ?_);have m2:LH a.toList b.toList (rv (o.push va)) (i-1) j:=by
     rw[vM];exact LH.a1 (by rw[ei];exact lm) ua hva fun z hz=>by
      have:=nN ub hvb z (by rw[ej];exact hz)
      omega
    by_cases d1:(i-1 == 0)=true
    ·refine aL d1 ?_;exact wpS_pure (.inl ⟨_,_,rfl,dn _ _ _ _ sg2 m2 (.inl (by simpa using d1))⟩)
    ·refine aJ d1 ?_;have d1':i-1≠0:=by simpa using d1
     split
     ·exact wpS_pure (.inr ⟨sg2,_,_,_,_,_,rfl,m2,by omega,by omega,g2,g2',by omega⟩)
     ·exact wpS_pure ⟨sg2,_,_,_,_,_,rfl,m2,by omega,by omega,g2,g2',by omega⟩
   ·rw[decide_eq_false c];dsimp only;refine aJ Ox ?_;refine wpS_bind (aU (at_l hvb) ?_);have m2:LH a.toList b.toList (rv (o.push vb)) i (j-1):=by
     rw[vM]
     exact(LH.a1 (by rw[ej];exact lm.swap) ub hvb fun z hz=>by
      have:=nN ua hva z (by rw[ei];exact hz)
      omega).swap
    by_cases d1:(j-1 == 1)=true
    ·refine aL d1 ?_;exact wpS_pure (.inl ⟨_,_,rfl,ls _ _ _ _ sg2 m2 (by simpa using d1)⟩)
    ·refine aJ d1 ?_;have d1':j-1≠1:=by simpa using d1
     split
     ·exact wpS_pure (.inr ⟨sg2,_,_,_,_,_,rfl,m2,g1,g1',by omega,by omega,by omega⟩)
     ·exact wpS_pure ⟨sg2,_,_,_,_,_,rfl,m2,g1,g1',by omega,by omega,by omega⟩
  case ipost =>
   rintro c st2 (⟨r,z,rfl,q⟩ | ⟨sg2,o,i,j,ac,bc,rfl,lm,g1,g1',g2,g2',g3⟩)
   ·exact wpS_pure ⟨_,_,rfl,q⟩
   dsimp -zeta -zetaHave only;refine wpS_bind (wpS_lift (wpAny_rule ⟨rfl,?_⟩))
   refine wpS_bind (wpS_mono (wpS_forRange (I:=fun y c st'=>SmG st st'/\∃(o:Array Keyed)(i j g ac bc:Nat),c=(none,i,j,o,g,ac,bc)/\LH a.toList b.toList (rv o) i j/\1<=i/\i<=a.size/\2<=j/\j<=b.size/\x+2+(i+j)<=a.size+b.size)
    (Q:=fun c st'=>(∃(r:Array Keyed)(z:Nat×Nat×Array Keyed×Nat×Nat×Nat),c=(some r,z)/\Q r st')∨SmG st st'/\∃(o:Array Keyed)(i j g ac bc:Nat),c=(none,i,j,o,g,ac,bc)/\LH a.toList b.toList (rv o) i j/\1<=i/\i<=a.size/\2<=j/\j<=b.size/\x+2+(i+j)<=a.size+b.size) ?jstep ?jfin ⟨sg2,o,i,j,_,ac,bc,rfl,lm,g1,g1',g2,g2',g3⟩) ?jpost)
   case jfin=>exact fun c st' q=>.inr q
   case jpost =>
    rintro c st3 (⟨r,z,rfl,q⟩ | ⟨sg3,o,i,j,g,ac,bc,rfl,lm,g1,g1',g2,g2',g3⟩)
    ·exact wpS_pure ⟨_,_,rfl,q⟩
    dsimp only;exact wpS_bind (qL fun st4 sg4=>wpS_pure ⟨sg3.trans sg4,_,_,_,_,rfl,lm,g1,g1',g2,g2',by omega⟩)
   case jstep =>
    rintro y c st3 _ hy ⟨sg3,o,i,j,g,ac,bc,rfl,lm,g1,g1',g2,g2',g3⟩;walk_at "st";walk_at "l11";extract_lets -underBinder +onlyGivenNames jp;clear_value (ej:jp=_);refine AW fun R hR=>?_;refine LR (F:=fun z=>jp () z) fun g'=>?_;rw[ej];clear ej jp;walk_at "st";refine wpS_bind (qL fun st4 sg4=>?_);have sg34:=sg3.trans sg4;have k4:=sg34.k.trans hk;have ej1:j-1+1=j:=by omega
    obtain⟨vb,hvb,ivb⟩:=atB (j-1) (by omega)
    refine wpS_bind (aU (at_l hvb) ?_);refine wpS_bind (DL k4 ivb ua ia (by omega) (by omega) fun k kn kt kf=>?_)
    walk_at "st";extract_lets -underBinder +onlyGivenNames kk ac jp;subst kk ac;clear_value (ej:jp=_);have vbl:=nN ub hvb;rw[ej1]at vbl;have hlo:=fR_lo' kt;have hhi:=fR_hi' kf;have hj:∀(i':Nat)(o':Array Keyed),LH a.toList b.toList (rv o') i' j->1<=i'->i'<=a.size->(∀ y∈a.toList.take i',ky y<=ky vb)->x+2+(i'+j)<=a.size+b.size->wpS (model prog w) A E s (jp () i' o') R st4:=by
     intro i' o' lm' q1 q1' gv g3';rw[ej];clear ej jp;walk_at "st";refine wpS_bind (aU (at_l hvb) ?_);have m2:LH a.toList b.toList (rv (o'.push vb)) i' (j-1):=by
      rw[vM];exact(LH.a1 (by rw[ej1];exact lm'.swap) ub hvb gv).swap
     by_cases d1:(j-1 == 1)=true
     ·refine aL d1 ?_;exact wpS_pure (hR _ _ (.inl ⟨_,_,rfl,ls _ _ _ _ sg34 m2 (by simpa using d1)⟩))
     refine aJ d1 ?_;have d1':j-1≠1:=by simpa using d1
     have ei1:i'-1+1=i':=by omega
     obtain⟨va,hva,iva⟩:=atA (i'-1) (by omega)
     have val:=nN ua hva;rw[ei1]at val;refine wpS_bind (aU (at_l hva) ?_);refine wpS_bind (DM k4 iva ub ib (by omega) (by omega) fun k2 kn2 kt2 kf2=>?_)
     walk_at "st";extract_lets -underBinder +onlyGivenNames kk ac jp;subst kk ac;clear_value (ej:jp=_);have hlo2:=fL_lo' kt2;have hhi2:=fL_hi' kf2;have hj:∀(j':Nat)(o':Array Keyed),LH a.toList b.toList (rv o') i' j'->2<=j'->j'<=b.size->(∀ y∈b.toList.take j',ky y<=ky va)->x+2+(i'+j')<=a.size+b.size->wpS (model prog w) A E s (jp () j' o') R st4:=by
      intro j' o' lm2 q2 q2' gv' g3'';rw[ej];clear ej jp;walk_at "st";refine wpS_bind (aU (at_l hva) ?_);have m3:LH a.toList b.toList (rv (o'.push va)) (i'-1) j':=by
       rw[vM];exact LH.a1 (by rw[ei1];exact lm2) ua hva gv'
      by_cases d2:(i'-1 == 0)=true
      ·refine aL d2 ?_;exact wpS_pure (hR _ _ (.inl ⟨_,_,rfl,dn _ _ _ _ sg34 m3 (.inl (by simpa using d2))⟩))
      refine aJ d2 ?_;have d2':i'-1≠0:=by simpa using d2
      split
      ·exact wpS_pure (hR _ _ (.inr ⟨sg34,_,_,_,_,_,_,rfl,m3,by omega,by omega,q2,q2',by omega⟩))
      ·exact wpS_pure (hR _ _ ⟨sg34,_,_,_,_,_,_,rfl,m3,by omega,by omega,q2,q2',by omega⟩)
     clear ej;by_cases z2:j-1-k2 > 0
     ·refine aL z2 ?_;have m3:LH a.toList b.toList (rv (o'.push vb++(b.extract k2 (j-1)).reverse)) i' k2:=by
       rw[LC,xp];exact(m2.swap.a ub (by omega) (by omega) fun x hx y hy=>by have:=hhi2 y hy;have:=val x hx;omega).swap
      by_cases d2:(k2 == 1)=true
      ·refine aL d2 ?_;exact wpS_pure (hR _ _ (.inl ⟨_,_,rfl,ls _ _ _ _ sg34 m3 (by simpa using d2)⟩))
      refine aJ d2 ?_;have d2':k2≠1:=by simpa using d2
      by_cases d3:(k2 == 0)=true
      ·refine aL d3 ?_;exact wpS_pure (hR _ _ (.inl ⟨_,_,rfl,dn _ _ _ _ sg34 m3 (.inr (by simpa using d3))⟩))
      refine aJ d3 ?_;have d3':k2≠0:=by simpa using d3
      exact hj _ _ m3 (by omega) (by omega) (fun y hy=>PJ (hlo2 y hy)) (by omega)
     ·refine aJ z2 ?_;have:k2=j-1:=by omega
      subst this;exact hj _ _ m2 (by omega) (by omega) (fun y hy=>PJ (hlo2 y hy)) (by omega)
    clear ej;by_cases z:i-k > 0
    ·refine aL z ?_;have m2:LH a.toList b.toList (rv (o++(a.extract k i).reverse)) k j:=by
      rw[LC,xp];exact lm.a ua (by omega) (by omega) fun x hx y hy=>by have:=hhi y hy;have:=vbl x hx;omega
     by_cases d1:(k == 0)=true
     ·refine aL d1 ?_;exact wpS_pure (hR _ _ (.inl ⟨_,_,rfl,dn _ _ _ _ sg34 m2 (.inl (by simpa using d1))⟩))
     refine aJ d1 ?_;have d1':k≠0:=by simpa using d1
     exact hj _ _ m2 (by omega) (by omega) hlo (by omega)
    ·refine aJ z ?_;have:k=i:=by omega
     subst this;exact hj _ _ lm g1 g1' hlo (by omega)
local macro_rules | `(tactic| walk_at "countRun") => do
 let n:=Lean.mkIdent (Lean.mkPrivateNameCore `PySem.Builtin.List.W1All `PySem.Builtin.countRun)
 `(tactic| delta $n)
local macro_rules | `(tactic| walk_at "binarySort") => do
 let n:=Lean.mkIdent (Lean.mkPrivateNameCore `PySem.Builtin.List.W1All `PySem.Builtin.binarySort)
 `(tactic| delta $n)
local macro_rules | `(tactic| walk_at "l1") => `(tactic| (extract_lets -underBinder +onlyGivenNames a; subst a; try dsimp -zeta -zetaHave only))
local macro_rules | `(tactic| walk_at "l2") => `(tactic| (extract_lets -underBinder +onlyGivenNames a b; subst a b; try dsimp -zeta -zetaHave only))
local macro_rules | `(tactic| walk_at "l4") => `(tactic| (extract_lets -underBinder +onlyGivenNames a b c d; subst a b c d; try dsimp -zeta -zetaHave only))
structure SB(lo:Nat)(st0 st:SortSt):Prop where
 perm:(arrOf st).Perm (arrOf st0)
 kind:kindOf st=oneType'
 failed:failedOf st=failedOf st0
 pend:pendingOf st=pendingOf st0
 low:∀ i,i<lo->(arrOf st)[i]?=(arrOf st0)[i]?
theorem SB.set{lo:Nat}{st0 st:SortSt}(h:SB lo st0 st){xs:Array Keyed}(hp:xs.Perm (arrOf st))(hl:∀ i,i<lo->xs[i]?=(arrOf st)[i]?):SB lo st0 (setArr st xs) :=
 ⟨hp.trans h.perm,h.kind,h.failed,h.pend,fun i hi=>(hl i hi).trans (h.low i hi)⟩
theorem SB.size{lo:Nat}{st0 st:SortSt}(h:SB lo st0 st):(arrOf st).size=(arrOf st0).size:=h.perm.size_eq
def Sin(xs:Array Keyed)(lo n:Nat):Prop:=∀ i j,lo<=i->i<=j->j<lo+n->K xs i<=K xs j
def Nin(xs:Array Keyed)(lo n:Nat):Prop:=∀ i j,lo<=i->i<=j->j<lo+n->K xs j<=K xs i
theorem nM{lo:Nat}{st0 st:SortSt}{i j:Nat}{Q:Option Bool->SortSt->Prop}(hB:SB lo st0 st)(h0:IntKeys (arrOf st0))(hi:i<(arrOf st0).size)(hj:j<(arrOf st0).size)
  (h:Q (some (decide (K (arrOf st) i<K (arrOf st) j))) st):wpS (model prog w) A E s ((sortPriv% PySem.Builtin.ltAt) i j) Q st:=by
 have at':∀ i,i<(arrOf st0).size->∃ t q,(arrOf st)[i]?=some (.int (K (arrOf st) i) t,q):=fun i hi=>by
  have hi':i<(arrOf st).size:=by rw[hB.size];exact hi
  obtain⟨n,t,hn⟩:=h0 (arrOf st)[i] ((QU.mp hB.perm).mem_iff.mp (by simp))
  have e:(arrOf st)[i]?=some (arrOf st)[i]:=getElem?_pos _ i hi';refine⟨t,(arrOf st)[i].2,?_⟩;unfold K;rw[e];show some (arrOf st)[i]=some (.int (numOf (arrOf st)[i].1) t,(arrOf st)[i].2);rw[hn];exact congrArg some (Prod.ext hn rfl)
 obtain⟨t,p,e1⟩:=at' i hi;obtain⟨u,q,e2⟩:=at' j hj;exact wpS_ltAt hB.kind e1 e2 h
theorem qM{lo:Nat}{st0 st:SortSt}{i j:Nat}{Q:Unit->SortSt->Prop}(hB:SB lo st0 st)(hl:lo<=i)(hj:j<=(arrOf st0).size)(h:∀ st',SB lo st0 st'->(∀ k,K (arrOf st') k=if i<=k/\k<j then K (arrOf st) (i+j-1-k) else K (arrOf st) k)->Q () st') :
  wpS (model prog w) A E s ((sortPriv% PySem.Builtin.reverseSlice) i j) Q st:=by
 have hj':j<=(arrOf st).size:=by rw[hB.size];exact hj
 refine wpS_reverse (h _ (hB.set (mirror_perm _ _ _ _) fun k hk=>?_) fun k=>K_mirror hj' k);rw[getElem?_mirror_all hj',if_neg (by omega)]
theorem My(xs:Array Keyed)(lo:Nat):Sin xs lo 1:=fun i j h1 h2 h3=>by
 have:i=j:=by omega
 rw[this];exact Pr _
theorem LA{xs:Array Keyed}{lo n:Nat}(h:Sin xs lo n)(n1:1<=n)(c:¬ K xs (lo+n)<K xs (lo+n-1)):Sin xs lo (n+1):=fun i j h1 h2 h3=>by
 by_cases z:j<lo+n
 ·exact h i j h1 h2 z
 ·have ej:j=lo+n:=by omega
  by_cases zi:i=j
  ·rw[zi];exact Pr _
  ·have:=h i (lo+n-1) h1 (by omega) (by omega)
   rw[ej];omega
theorem D9{xs:Array Keyed}{lo n:Nat}(h:Nin xs lo n)(n1:1<=n)(c:K xs (lo+n)<=K xs (lo+n-1)):Nin xs lo (n+1):=fun i j h1 h2 h3=>by
 by_cases z:j<lo+n
 ·exact h i j h1 h2 z
 ·have ej:j=lo+n:=by omega
  by_cases zi:i=j
  ·rw[zi];exact Pr _
  ·have:=h i (lo+n-1) h1 (by omega) (by omega)
   rw[ej];omega
def Ae:Nat->Nat->StateT SortSt Sem (Option Nat):=sortPriv% PySem.Builtin.countRun
theorem EF{st0:SortSt}{lo nrem:Nat}{Q:Option Nat->SortSt->Prop}(hk:kindOf st0=oneType')(h0:IntKeys (arrOf st0))(hn:lo+nrem<=(arrOf st0).size)(n1:1<=nrem)
  (h:∀ m st',SB lo st0 st'->1<=m->m<=nrem->Sin (arrOf st') lo m->Q (some m) st'):wpS (model prog w) A E s (Ae lo nrem) Q st0:=by
 have hB:SB lo st0 st0:=⟨Array.Perm.refl _,hk,rfl,rfl,fun _ _=>rfl⟩;unfold Ae;walk_at "countRun"
 refine wpS_bind (wpS_mono (wpS_forRange (I:=fun x c st'=>st'=st0/\c=(none,x)/\Sin (arrOf st0) lo x)
  (Q:=fun c st'=>st'=st0/\∃ n,c=(none,n)/\1<=n/\n<=nrem/\Sin (arrOf st0) lo n/\(n=nrem∨K (arrOf st0) (lo+n)<K (arrOf st0) (lo+n-1))) ?step ?fin ⟨rfl,rfl,My _ _⟩) ?post)
 case fin =>
  rintro c st' ⟨rfl,rfl,hs⟩;rw[show max 1 nrem=nrem by omega]at hs ⊢
  exact⟨rfl,nrem,rfl,n1,NY _,hs,.inl rfl⟩
 case step =>
  rintro x c st' h1 h2 ⟨rfl,rfl,hs⟩;dsimp only;refine wpS_bind (nM hB h0 (by omega) (by omega) ?_)
  by_cases z:K (arrOf st') (lo+x)<K (arrOf st') (lo+x-1)
  ·simp only[z,decide_true,if_true];exact wpS_pure ⟨rfl,x,rfl,h1,by omega,hs,.inr z⟩
  ·simp only[z,decide_false,O2,if_false];exact wpS_pure ⟨rfl,rfl,LA hs h1 z⟩
 case post =>
  rintro c st' ⟨rfl,n,rfl,g1,g2,hs,hor⟩;walk_at "st";walk_at "l2";by_cases z:(n == nrem)=true
  ·refine aL z ?_;exact wpS_pure (h n st' hB g1 g2 hs)
  refine aJ z ?_;have z':n≠nrem:=by simpa using z
  have hlt:=hor.resolve_left z';extract_lets -underBinder +onlyGivenNames jp;clear_value (ej:jp=_);have hj:∀ st1,SB lo st' st1->Nin (arrOf st1) lo (n+1)->wpS (model prog w) A E s (jp ()) Q st1:=by
   intro st1 hB1 hs1;rw[ej];clear ej jp;walk_at "st";refine wpS_bind (wpS_lift (wpAny_rule ⟨rfl,?_⟩))
   refine wpS_bind (wpS_mono (wpS_forRange (I:=fun x c st2=>SB lo st' st2/\∃ neq,c=(none,x,neq)/\Nin (arrOf st2) lo x/\neq+1<=x/\(∀ i,lo+x-(neq+1)<=i->i<lo+x->K (arrOf st2) i=K (arrOf st2) (lo+x-1)))
    (Q:=fun c st2=>SB lo st' st2/\∃ m neq,c=(none,m,neq)/\1<=m/\m<=nrem/\Nin (arrOf st2) lo m/\neq+1<=m/\(∀ i,lo+m-(neq+1)<=i->i<lo+m->K (arrOf st2) i=K (arrOf st2) (lo+m-1))) ?dstep ?dfin ⟨hB1,0,rfl,hs1,by omega,fun i h1 h2=>by congr 1;omega⟩) ?dpost)
   case dfin =>
    rintro c st2 ⟨hB2,neq,rfl,hs2,q1,q2⟩;rw[show max (n+1) nrem=nrem by omega]at hs2 q1 q2 ⊢
    exact⟨hB2,nrem,neq,rfl,by omega,NY _,hs2,q1,q2⟩
   case dstep =>
    rintro x c st2 h1 h2 ⟨hB2,neq,rfl,hs2,q1,q2⟩;dsimp only;refine wpS_bind (nM hB2 h0 (by omega) (by omega) ?_)
    by_cases z:K (arrOf st2) (lo+x)<K (arrOf st2) (lo+x-1)
    ·simp only[z,decide_true,if_true];have nx:=D9 hs2 (by omega) (PJ z)
     by_cases y:neq > 0
     ·refine aL y ?_;refine wpS_bind (qM hB2 (by omega) (by omega) fun st3 hB3 e3=>?_)
      have e3':∀ k,K (arrOf st3) k=K (arrOf st2) k:=fun k=>by
       rw[e3];split
       ·rename_i hk;rw[q2 _ (by omega) (by omega),q2 k (by omega) (by omega)]
       ·rfl
      refine wpS_pure ⟨hB3,0,rfl,fun i j a1 a2 a3=>?_,by omega,fun i h1 h2=>by congr 1;omega⟩
      rw[e3',e3'];exact nx i j a1 a2 a3
     ·refine aJ y ?_;exact wpS_pure ⟨hB2,0,rfl,nx,by omega,fun i h1 h2=>by congr 1;omega⟩
    ·simp only[z,decide_false,O2,if_false];refine wpS_bind (nM hB2 h0 (by omega) (by omega) ?_)
     by_cases y:K (arrOf st2) (lo+x-1)<K (arrOf st2) (lo+x)
     ·simp only[y,decide_true,if_true];exact wpS_pure ⟨hB2,x,neq,rfl,by omega,by omega,hs2,q1,q2⟩
     ·simp only[y,decide_false,O2,if_false];have eq:K (arrOf st2) (lo+x)=K (arrOf st2) (lo+x-1):=by omega
      refine wpS_pure ⟨hB2,neq+1,rfl,D9 hs2 (by omega) (by omega),by omega,fun i a1 a2=>?_⟩
      rw[show lo+(x+1)-1=lo+x by omega]
      by_cases ix:i=lo+x
      ·rw[ix]
      ·rw[eq];exact q2 i (by omega) (by omega)
   case dpost =>
    rintro c st2 ⟨hB2,m,neq,rfl,m1,m2,hs2,q1,q2⟩;walk_at "st";walk_at "l4";extract_lets -underBinder +onlyGivenNames jp;clear_value (ej:jp=_);have hj:∀ st3,SB lo st' st3->Nin (arrOf st3) lo m->wpS (model prog w) A E s (jp ()) Q st3:=by
     intro st3 hB3 hs3;rw[ej];clear ej jp;walk_at "st";refine wpS_bind (qM hB3 (NY _) (by omega) fun st4 hB4 e4=>?_)
     have hs4:Sin (arrOf st4) lo m:=fun i j a1 a2 a3=>by
      rw[e4,e4,if_pos (by omega),if_pos (by omega)]
      exact hs3 _ _ (by omega) (by omega) (by omega)
     refine wpS_bind (wpS_mono (wpS_forRange (I:=fun x c st'=>st'=st4/\c=(none,x)/\Sin (arrOf st4) lo x) (Q:=fun c st'=>st'=st4/\∃ n,c=(none,n)/\1<=n/\n<=nrem/\Sin (arrOf st4) lo n) ?ustep ?ufin ⟨rfl,rfl,hs4⟩) ?upost)
     case ufin =>
      rintro c st5 ⟨rfl,rfl,hs5⟩;rw[show max m nrem=nrem by omega]at hs5 ⊢
      exact⟨rfl,nrem,rfl,n1,NY _,hs5⟩
     case ustep =>
      rintro x c st5 h1 h2 ⟨rfl,rfl,hs5⟩;dsimp only;refine wpS_bind (nM hB4 h0 (by omega) (by omega) ?_)
      by_cases z:K (arrOf st5) (lo+x)<K (arrOf st5) (lo+x-1)
      ·simp only[z,decide_true,if_true];exact wpS_pure ⟨rfl,x,rfl,by omega,by omega,hs5⟩
      ·simp only[z,decide_false,O2,if_false];exact wpS_pure ⟨rfl,rfl,LA hs5 (by omega) z⟩
     case upost =>
      rintro c st5 ⟨rfl,k,rfl,k1,k2,hs5⟩;exact wpS_pure (h k st5 hB4 k1 k2 hs5)
    by_cases y:neq > 0
    ·refine aL y ?_;refine wpS_bind (qM hB2 (by omega) (by omega) fun st3 hB3 e3=>hj st3 hB3 fun i j a1 a2 a3=>?_)
     have e3':∀ k,K (arrOf st3) k=K (arrOf st2) k:=fun k=>by
      rw[e3];split
      ·rename_i hk;rw[q2 _ (by omega) (by omega),q2 k (by omega) (by omega)]
      ·rfl
     rw[e3',e3'];exact hs2 i j a1 a2 a3
    ·refine aJ y ?_;exact hj st2 hB2 hs2
  by_cases y:n > 1
  ·refine aL y ?_;refine wpS_bind (nM hB h0 (by omega) (by omega) ?_)
   by_cases r:K (arrOf st') lo<K (arrOf st') (lo+n-1)
   ·simp only[r,decide_true,if_true];exact wpS_pure (h n st' hB g1 g2 hs)
   ·simp only[r,decide_false,O2,if_false];have all:∀ k,lo<=k->k<lo+n->K (arrOf st') k=K (arrOf st') (lo+n-1):=fun k a1 a2=>by
     have b1:=hs lo k (NY _) a1 a2;have b2:=hs k (lo+n-1) a1 (by omega) (by omega)
     omega
    refine wpS_bind (qM hB (NY _) (by omega) fun st1 hB1 e1=>hj st1 hB1 ?_)
    have e1':∀ k,K (arrOf st1) k=K (arrOf st') k:=fun k=>by
     rw[e1];split
     ·rename_i hk;rw[all _ (by omega) (by omega),all k (by omega) (by omega)]
     ·rfl
    refine D9 (fun i j a1 a2 a3=>?_) (by omega) ?_
    ·rw[e1',e1',all i a1 (by omega),all j (by omega) a3]
     exact Pr _
    ·rw[e1',e1'];exact PJ hlt
  ·refine aJ y ?_;have:n=1:=by omega
   subst this;refine hj st' hB (D9 (fun i j a1 a2 a3=>?_) (by omega) (PJ hlt))
   have:i=j:=by omega
   rw[this];exact Pr _
def tq:Nat->Nat->Nat->StateT SortSt Sem Bool:=sortPriv% PySem.Builtin.binarySort
theorem Jk{st0 st:SortSt}{lo n m:Nat}{Q:Bool->SortSt->Prop}(h0:IntKeys (arrOf st0))(hn:lo+n<=(arrOf st0).size)(hm:m<=n)(hB:SB lo st0 st)(hs:Sin (arrOf st) lo m)
  (h:∀ st',SB lo st0 st'->Sin (arrOf st') lo n->Q true st'):wpS (model prog w) A E s (tq lo n m) Q st:=by
 unfold tq;walk_at "binarySort"
 refine wpS_bind (wpS_mono (wpS_forRange (I:=fun k c st'=>c=(none,())/\SB lo st0 st'/\Sin (arrOf st') lo (min k n))
  (Q:=fun c st'=>c=(none,())/\SB lo st0 st'/\Sin (arrOf st') lo n) ?step ?fin ?init) ?post)
 case post =>
  rintro c st' ⟨rfl,hB',hs'⟩;exact wpS_pure (h st' hB' hs')
 case init =>
  refine⟨rfl,hB,fun i j h1 h2 h3=>?_⟩;by_cases z:m=0
  ·have:i=j:=by omega
   rw[this];exact Pr _
  ·exact hs i j h1 h2 (by omega)
 case fin =>
  rintro c st' ⟨hc,hB',hs'⟩;refine⟨hc,hB',?_⟩;rwa[show min (max (max m 1) n) n=n by omega]at hs'
 case step =>
  rintro k c st' hak hkn ⟨rfl,hB',hs'⟩;rw[show min k n=k by omega]at hs'
  dsimp only
  refine wpS_bind (wpS_mono (wpS_forRange (I:=fun x c st''=>st''=st'/\∃ l r,c=(none,l,r)/\l<=r/\r<=k/\r-l<=k-x /\
    (∀ i,lo<=i->i<lo+l->K (arrOf st') i<=K (arrOf st') (lo+k))/\(∀ i,lo+r<=i->i<lo+k->K (arrOf st') (lo+k)<K (arrOf st') i))
   (Q:=fun c st''=>st''=st'/\∃ l,c=(none,l,l)/\l<=k /\
    (∀ i,lo<=i->i<lo+l->K (arrOf st') i<=K (arrOf st') (lo+k))/\(∀ i,lo+l<=i->i<lo+k->K (arrOf st') (lo+k)<K (arrOf st') i)) ?istep ?ifin ⟨rfl,0,k,rfl,by omega,by omega,by omega,fun i h1 h2=>by omega,fun i h1 h2=>by omega⟩) ?ipost)
  case ifin =>
   rintro c st'' ⟨rfl,l,r,rfl,q1,q2,q3,q4,q5⟩;have:l=r:=by omega
   subst this;exact⟨rfl,l,rfl,q2,q4,q5⟩
  case istep =>
   rintro x c st'' _ hxk ⟨rfl,l,r,rfl,q1,q2,q3,q4,q5⟩;dsimp only;by_cases z:l ≥ r
   ·refine aL z ?_;have:l=r:=by omega
    subst this;exact wpS_pure ⟨rfl,l,rfl,q2,q4,q5⟩
   ·refine aJ z ?_;refine wpS_bind (nM hB' h0 (by omega) (by omega) ?_)
    by_cases y:K (arrOf st'') (lo+k)<K (arrOf st'') (lo+(l+r)/2)
    ·simp only[y,decide_true,if_true];refine wpS_pure ⟨rfl,l,(l+r)/2,rfl,by omega,by omega,by omega,q4,fun i h1 h2=>?_⟩
     have:=hs' (lo+(l+r)/2) i (by omega) h1 h2
     omega
    ·simp only[y,decide_false,O2,if_false];refine wpS_pure ⟨rfl,(l+r)/2+1,r,rfl,by omega,by omega,by omega,fun i h1 h2=>?_,q5⟩
     have:=hs' i (lo+(l+r)/2) h1 (by omega) (by omega)
     omega
  case ipost =>
   rintro c st'' ⟨rfl,l,rfl,q1,q2,q3⟩;dsimp only;have hks:lo+k<(arrOf st'').size:=by rw[hB'.size];omega
   have el:lo+k-(lo+k-(lo+l))=lo+l:=by omega
   refine wpS_bind ?_;show wpS _ _ _ _ (moveDown' (lo+k) (lo+l)) _ _;rw[moveDown'_eq];refine wpS_modify (wpS_pure ⟨rfl,hB'.set (bubble_perm _ _ _) fun i hi=>?_,?_⟩)
   ·rw[getElem?_bubble hks _ (by omega),el,if_neg (by omega),if_neg (by omega)]
   ·rw[show min (k+1) n=k+1 by omega]
    intro i j h1 h2 h3;show K (bubble (arrOf st'') (lo+k) (lo+k-(lo+l))) i<=K (bubble (arrOf st'') (lo+k) (lo+k-(lo+l))) j;rw[K_bubble hks (by omega),K_bubble hks (by omega),el]
    repeat' split
    all_goals first
     | (exfalso;omega)
     |exact Pr _
     |exact q2 _ (by omega) (by omega)
     |exact PJ (q3 _ (by omega) (by omega))
     |exact hs' _ _ (by omega) (by omega) (by omega)
local macro_rules | `(tactic| walk_at "mergeAt") => do
 let n:=Lean.mkIdent (Lean.mkPrivateNameCore `PySem.Builtin.List.W1All `PySem.Builtin.mergeAt)
 `(tactic| delta $n)
theorem yu{P:List Keyed}{i n m:Nat}(hm:m<n):((P.drop i).take n)[m]?=P[i+m]?:=by
 rw[Pd,if_pos hm,PV]
theorem LB{P:List Keyed}{i n x y:Nat}{p q:Keyed}(u:Upl ((P.drop i).take n))(hp:P[i+x]?=some p)(hq:P[i+y]?=some q)(h:x<=y)(hy:y<n):ky p<=ky q :=
 Gv u (i:=x) (j:=y) (by rw[yu (by omega)];exact hp) (by rw[yu hy];exact hq) h
theorem Gq{st:SortSt}{key:Keyed}{arr:Array Keyed}{base n hint:Nat}{Q:Option Nat->SortSt->Prop}(hk:kindOf st=oneType')(hkey:IntP key)(u:Upl ((arr.toList.drop base).take n))(ip:∀ x∈arr.toList,IntP x)(hn:base+n<=arr.size)(hh:hint<n)
  (h:∀ k,k<=n->(∀ i,i<k->fR arr.toList base key i=true)->(∀ i,k<=i->i<n->fR arr.toList base key i=false)->Q (some k) st):wpS (model prog w) A E s ((sortPriv% PySem.Builtin.gallop) false key arr base n hint) Q st:=by
 have la:arr.toList.length=arr.size:=by simp
 refine j7 (fR arr.toList base key) hk hkey (fun i hi=>?_) (fun x y hxy hy e=>?_) hh h
 ·have hx:arr.toList[base+i]?=some arr.toList[base+i]:=NQ (by omega)
  exact⟨_,by rw[← hx];simp,ip _ (Pj _),by rw[so hx];rfl⟩
 ·have hx:arr.toList[base+x]?=some arr.toList[base+x]:=NQ (by omega)
  have hy':arr.toList[base+y]?=some arr.toList[base+y]:=NQ (by omega)
  rw[so hy']at e;rw[so hx];have:=LB u hx hy' hxy hy;simp only[Qd,decide_eq_false_iff_not]at e ⊢;omega
theorem Gs{st:SortSt}{key:Keyed}{arr:Array Keyed}{base n hint:Nat}{Q:Option Nat->SortSt->Prop}(hk:kindOf st=oneType')(hkey:IntP key)(u:Upl ((arr.toList.drop base).take n))(ip:∀ x∈arr.toList,IntP x)(hn:base+n<=arr.size)(hh:hint<n)
  (h:∀ k,k<=n->(∀ i,i<k->fL arr.toList base key i=true)->(∀ i,k<=i->i<n->fL arr.toList base key i=false)->Q (some k) st):wpS (model prog w) A E s ((sortPriv% PySem.Builtin.gallop) true key arr base n hint) Q st:=by
 have la:arr.toList.length=arr.size:=by simp
 refine j7 (fL arr.toList base key) hk hkey (fun i hi=>?_) (fun x y hxy hy e=>?_) hh h
 ·have hx:arr.toList[base+i]?=some arr.toList[base+i]:=NQ (by omega)
  exact⟨_,by rw[← hx];simp,ip _ (Pj _),by rw[uu hx];rfl⟩
 ·have hx:arr.toList[base+x]?=some arr.toList[base+x]:=NQ (by omega)
  have hy':arr.toList[base+y]?=some arr.toList[base+y]:=NQ (by omega)
  rw[uu hy']at e;rw[uu hx];have:=LB u hx hy' hxy hy;simp only[decide_eq_true_eq]at e ⊢;omega
theorem HC{P:List Keyed}{i n k:Nat}{y:Keyed}(h:y∈((P.drop i).take n).drop k):∃ m,k<=m/\m<n/\P[i+m]?=some y:=by
 obtain⟨m,e⟩:=HD h;have hl:=(NP.mp e).1;rw[Ou]at hl;rw[yu (by omega)]at e
 exact⟨k+m,by omega,by omega,e⟩
theorem fR_sh{P:List Keyed}{i n k:Nat}{v:Keyed}(h:∀ m,k<=m->m<n->fR P i v m=false):∀ y∈((P.drop i).take n).drop k,ky v<ky y:=fun y hy=>by
 obtain⟨m,h1,h2,e⟩:=HC hy;have:=h m h1 h2;rw[so e]at this;simpa using this
theorem fL_sh{P:List Keyed}{i n k:Nat}{v:Keyed}(h:∀ m,k<=m->m<n->fL P i v m=false):∀ y∈((P.drop i).take n).drop k,ky v<=ky y:=fun y hy=>by
 obtain⟨m,h1,h2,e⟩:=HC hy;have:=h m h1 h2;rw[uu e]at this;simp only[decide_eq_false_iff_not]at this;omega
theorem El(c:Nat):∀(l:List Keyed)(n:Nat)(xs:Array Keyed),c+n+l.length<=xs.size->((l.zipIdx n).foldl (fun a x=>match x with | (p,j)=>a.setIfInBounds (c+j) p) xs).toList=xs.toList.take (c+n)++l++xs.toList.drop (c+n+l.length)
 |[],n,xs,_=>by
  show xs.toList=_;rw[Pa,Qb,Nat.add_zero,OF]
 |p::l,n,xs,h=>by
  have ll:xs.toList.length=xs.size:=by simp
  rw[OJ]at h ⊢;rw[List.zipIdx_cons,RZ];show((l.zipIdx (n+1)).foldl _ (xs.setIfInBounds (c+n) p)).toList=_;rw[El c l (n+1) _ (by rw[Sf];omega),R5,List.drop_set_of_lt (by omega),show c+(n+1)=c+n+1 by omega,show c+n+1+l.length=c+n+(l.length+1) by omega]
  have e:(xs.toList.set (c+n) p).take (c+n+1)=xs.toList.take (c+n)++[p]:=by
   rw[O7,List.take_set_of_le (NY _),QA (by omega)]
   rfl
  rw[e,ON (xs.toList.take (c+n)) [p] l];rfl
theorem DP{P R:List Keyed}(u:Upl P)(v:Upl R)(c:∀ x∈P,∀ y∈R,ky x<=ky y):Upl (P++R):=O8.mpr ⟨u,v,c⟩
theorem Mh{σ:Type}{M:Model}{x st:σ}{Q:PUnit->σ->Prop}(h:Q ⟨⟩ x):wpS M A E s (set x:StateT σ Sem PUnit) Q st:=by
 unfold wpS;rw[StateT.run_set];exact wpAny_pure ⟨rfl,h⟩
def Ee:Nat->StateT SortSt Sem Bool:=sortPriv% PySem.Builtin.mergeAt
theorem AV{st:SortSt}{i sa na pa sb nb pb:Nat}{Q:Bool->SortSt->Prop}(hk:kindOf st=oneType')(hf:failedOf st=none)(h0:IntKeys (arrOf st))(p1:(pendingOf st)[i]?=some (sa,na,pa))(p2:(pendingOf st)[i+1]?=some (sb,nb,pb))(es:sb=sa+na)(a1:1<=na)(b1:1<=nb)(le:sb+nb<=(arrOf st).size)
  (s1:Upl (((arrOf st).toList.drop sa).take na)) (s2:Upl (((arrOf st).toList.drop sb).take nb))
  (h:∀(st':SortSt)(M:List Keyed),kindOf st'=oneType'->failedOf st'=none->pendingOf st'=((pendingOf st).setIfInBounds i (sa,na+nb,pa)).eraseIdxIfInBounds (i+1)->(arrOf st').toList=(arrOf st).toList.take sa++M++(arrOf st).toList.drop (sb+nb)->M.Perm (((arrOf st).toList.drop sa).take na++((arrOf st).toList.drop sb).take nb)->Upl M->Q true st') :
  wpS (model prog w) A E s (Ee i) Q st:=by
 unfold Ee;walk_at "mergeAt";refine wpS_bind (wpS_get ?_);rw[show((sortPriv% PySem.Builtin.SortState.pending) st)[i]?=some (sa,na,pa) from p1,show((sortPriv% PySem.Builtin.SortState.pending) st)[i+1]?=some (sb,nb,pb) from p2];dsimp -zeta -zetaHave only;refine wpS_bind (Mh ?_);obtain⟨xs,exs⟩:∃ xs,arrOf st=xs:=⟨_,rfl⟩;obtain⟨st1,est1⟩:∃ st1:SortSt,SortSt.mk' (kindOf st) (arrOf st) (((pendingOf st).setIfInBounds i (sa,na+nb,pa)).eraseIdxIfInBounds (i+1)) (gallopOf st) (failedOf st)=st1:=⟨_,rfl⟩;have k1:kindOf st1=oneType':=by rw[← est1];exact hk
 have f1:failedOf st1=none:=by rw[← est1];exact hf
 have e1:arrOf st1=xs:=by rw[← est1,← exs]
 have q1:pendingOf st1=((pendingOf st).setIfInBounds i (sa,na+nb,pa)).eraseIdxIfInBounds (i+1):=by rw[← est1]
 show wpS (model prog w) A E s _ Q (SortSt.mk' (kindOf st) (arrOf st) (((pendingOf st).setIfInBounds i (sa,na+nb,pa)).eraseIdxIfInBounds (i+1)) (gallopOf st) (failedOf st));rw[est1];clear est1;rw[show(sortPriv% PySem.Builtin.SortState.a) st=xs from exs];rw[exs]at h0 le s1 s2 h;clear exs p1 p2 hf hk;have ll:xs.toList.length=xs.size:=by simp
 have ip:∀ x∈xs.toList,IntP x:=fun x hx=>h0 x hx;have at':∀ i,i<xs.size->∃ x,xs.toList[i]?=some x/\IntP x:=fun i hi=>⟨_,NQ (by omega),ip _ (Pj _)⟩
 obtain⟨b0,hb0,ib0⟩:=at' sb (by omega)
 refine wpS_bind (aU (at_l hb0) ?_);refine wpS_bind (Gq k1 ib0 s1 ip (by omega) (by omega) fun k kn kt kf=>?_)
 dsimp -zeta -zetaHave only;obtain⟨S1,eS1⟩:∃ S1,(xs.toList.drop sa).take na=S1:=⟨_,rfl⟩;obtain⟨S2,eS2⟩:∃ S2,(xs.toList.drop sb).take nb=S2:=⟨_,rfl⟩;have l1:S1.length=na:=by rw[← eS1,Ou,OX];omega
 have l2:S2.length=nb:=by rw[← eS2,Ou,OX];omega
 have tk1:S1.take k=(xs.toList.drop sa).take k:=by rw[← eS1,QX,PH kn]
 have lo1:∀ x∈S1.take k,ky x<=ky b0:=by rw[tk1];exact Nq kt
 have hi1:∀ y∈S1.drop k,ky b0<ky y:=by rw[← eS1];exact fR_sh kf
 have bS:S2[0]?=some b0:=by rw[← eS2,yu (by omega)];exact hb0
 rw[eS1]at s1;rw[eS2]at s2;have b0l:∀ y∈S2,ky b0<=ky y:=kZ (i:=0) s2 bS
 have whole:Upl (S1++S2)->Q true st1:=fun u=>h st1 (S1++S2) k1 f1 q1 (by
  rw[e1,← eS1,← eS2,← ON,es,← QL,← QL,← es,OF]) (by rw[eS1,eS2]) u
 by_cases z:(na-k == 0)=true
 ·refine aL z ?_;have z':na-k=0:=by simpa using z
  refine wpS_pure (whole (DP s1 s2 fun x hx y hy=>?_));have:=lo1 x (by rw[OV (by omega)];exact hx)
  have:=b0l y hy;omega
 refine aJ z ?_;have z':na-k≠0:=by simpa using z
 obtain⟨al,hal,ial⟩:=at' (sa+k+(na-k)-1) (by omega)
 have aS:S1[na-1]?=some al:=by rw[← eS1,yu (by omega),← hal];congr 1;omega
 refine wpS_bind (aU (at_l hal) ?_);refine wpS_bind (Gs k1 ial (by rw[eS2];exact s2) ip (by omega) (by omega) fun m mn mt mf=>?_)
 dsimp -zeta -zetaHave only;have tk2:S2.take m=(xs.toList.drop sb).take m:=by rw[← eS2,QX,PH mn]
 have lo2:∀ x∈S2.take m,ky x<ky al:=by rw[tk2];exact Nt mt
 have hi2:∀ y∈S2.drop m,ky al<=ky y:=by rw[← eS2];exact fL_sh mf
 have all:∀ x∈S1,ky x<=ky al:=fun x hx=>nN s1 aS x (by rw[OV (by omega)];exact hx)
 by_cases y:(m == 0)=true
 ·refine aL y ?_;have y':m=0:=by simpa using y
  subst y';exact wpS_pure (whole (DP s1 s2 fun x hx y hy=>RK (all x hx) (hi2 y hy)))
 refine aJ y ?_;have y':m≠0:=by simpa using y
 walk_at "st";extract_lets -underBinder +onlyGivenNames xx yy jp;subst xx yy;clear_value (ej:jp=_);have ea:(xs.extract (sa+k) sb).toList=S1.drop k:=by
  rw[xp,← eS1,QD,QD,Qh];congr 1;omega
 have eb:(xs.extract sb (sb+m)).toList=S2.take m:=by rw[qS,tk2]
 have za:(xs.extract (sa+k) sb).size=na-k:=by rw[← OI,ea,OX,l1]
 have zb:(xs.extract sb (sb+m)).size=m:=by rw[← OI,eb,Ou];omega
 have ipa:∀ x∈(xs.extract (sa+k) sb).toList,IntP x:=fun x hx=>by
  rw[xp]at hx;exact ip x (Pm (Pn hx))
 have ipb:∀ x∈(xs.extract sb (sb+m)).toList,IntP x:=fun x hx=>by
  rw[qS]at hx;exact ip x (Pn (Pm hx))
 have ua:Upl (xs.extract (sa+k) sb).toList:=by rw[ea];exact s1.drop
 have ub:Upl (xs.extract sb (sb+m)).toList:=by rw[eb];exact s2.take
 have c0:∀ x y:Keyed,(xs.extract sb (sb+m)).toList[0]?=some x->y∈(xs.extract (sa+k) sb).toList->ky x<ky y:=fun x y hx hy=>by
  rw[eb,Pd,if_pos (by omega),bS]at hx
  cases hx
  rw[ea]at hy;exact hi1 y hy
 have cl:∀ x y:Keyed,x∈(xs.extract sb (sb+m)).toList->(xs.extract (sa+k) sb).toList[(xs.extract (sa+k) sb).size-1]?=some y->ky x<ky y:=fun x y hx hy=>by
  rw[za,ea,PV,show k+(na-k-1)=na-1 by omega,aS]at hy
  cases hy
  rw[eb]at hx;exact lo2 x hx
 have hj:∀(R:Array Keyed)(st2:SortSt),SmG st1 st2->R.toList.Perm ((xs.extract (sa+k) sb).toList++(xs.extract sb (sb+m)).toList)->Upl R.toList->wpS (model prog w) A E s (jp R) Q st2:=by
  intro R st2 sg pm up;rw[ej];clear ej jp;walk_at "st";rw[ea,eb]at pm;have rl:R.toList.length=na-k+m:=by rw[pm.length_eq,NT,OX,Ou,l1,l2];omega
  refine wpS_bind (wpS_modify ?_);refine wpS_bind (wpS_get ?_);have ff:(sortPriv% PySem.Builtin.SortState.failed) st2=none:=sg.f.trans f1;show wpS (model prog w) A E s (pure ((sortPriv% PySem.Builtin.SortState.failed) st2).isNone) Q _;rw[ff];have tk:∀ x∈S1.take k,∀ y∈S1.drop k,ky x<=ky y:=by
   have:Upl (S1.take k++S1.drop k):=by rw[OF];exact s1
   exact(O8.mp this).2.2
  have tk':∀ x∈S2.take m,∀ y∈S2.drop m,ky x<=ky y:=by
   have:Upl (S2.take m++S2.drop m):=by rw[OF];exact s2
   exact(O8.mp this).2.2
  refine wpS_pure (h _ (S1.take k++R.toList++S2.drop m) (sg.k.trans k1) rfl (sg.p.trans q1) ?_ ?_ ?_)
  ·show(R.toList.zipIdx.foldl (fun a x=>match x with | (p,j)=>a.setIfInBounds (sa+k+j) p) (arrOf st2)).toList=_
   rw[sg.a,e1,El (sa+k) R.toList 0 xs (by omega),Nat.add_zero,rl,show sa+k+(na-k+m)=sb+m by omega,QL,← tk1]
   have ed:xs.toList.drop (sb+m)=S2.drop m++xs.toList.drop (sb+nb):=by
    rw[← Qh,← eS2];have e:=congrArg (List.drop m) (OF nb (xs.toList.drop sb));rw[RQ,Ou,OX,show m-min nb (xs.toList.length-sb)=0 by omega,QC,Qh]at e
    exact e.symm
   rw[ed];simp only[ON]
  ·rw[eS1,eS2];have e:S1++S2=S1.take k++(S1.drop k++S2.take m)++S2.drop m:=by
    rw[ON,ON,OF,← ON,OF]
   rw[e];exact(PF _ pm).append_right _
  ·refine DP (DP s1.take up fun x hx y hy=>?_) s2.drop fun x hx y hy=>?_
   ·rcases N0.mp (pm.mem_iff.mp hy)with hy | hy
    ·exact tk x hx y hy
    ·have:=lo1 x hx
     have:=b0l y (Pm hy);omega
   ·rcases N0.mp hx with hx | hx
    ·have:=lo1 x hx
     have:=b0l y (Pn hy);omega
    ·rcases N0.mp (pm.mem_iff.mp hx)with hx | hx
     ·exact RK (all x (Pn hx)) (hi2 y hy)
     ·exact tk' x hx y hy
 clear ej;by_cases c:na-k<=m
 ·refine aL c ?_;exact wpS_bind (AS k1 ua ub ipa ipb (by omega) (by omega) (fun x y a b=>PJ (c0 x y a b)) cl fun R st2 sg pm up=>hj R st2 sg pm up)
 ·refine aJ c ?_;exact wpS_bind (AU k1 ua ub ipa ipb (by omega) (by omega) c0 cl fun R st2 sg pm up=>hj R st2 sg pm up)
local macro_rules | `(tactic| walk_at "sortRuns") => do
 let n:=Lean.mkIdent (Lean.mkPrivateNameCore `PySem.Builtin.List.W1All `PySem.Builtin.sortRuns)
 `(tactic| delta $n)
def Rn(L:List Keyed):List (Nat×Nat×Nat)->Nat->Nat->Prop
 |[],c,e=>c=e
 |p::t,c,e=>p.1=c/\1<=p.2.1/\Upl ((L.drop p.1).take p.2.1)/\Rn L t (c+p.2.1) e
theorem Rn.le{L:List Keyed}:∀{T:List (Nat×Nat×Nat)}{c e:Nat},Rn L T c e->c+T.length<=e
 |[],c,e,h=>by cases h;exact NY _
 |p::t,c,e,⟨_,h1,_,h⟩=>by
  have:=Rn.le h;rw[OJ];omega
theorem Rn.app{L:List Keyed}:∀{T1 T2:List (Nat×Nat×Nat)}{c e:Nat},Rn L (T1++T2) c e↔∃ m,Rn L T1 c m/\Rn L T2 m e
 |[],T2,c,e=>⟨fun h=>⟨c,rfl,h⟩,fun⟨m,h1,h2⟩=>by cases h1;exact h2⟩
 |p::t,T2,c,e=>by
  constructor
  ·rintro⟨h1,h2,h3,h4⟩;obtain⟨m,g1,g2⟩:=Rn.app.mp h4;exact⟨m,⟨h1,h2,h3,g1⟩,g2⟩
  ·rintro⟨m,⟨h1,h2,h3,g1⟩,g2⟩;exact⟨h1,h2,h3,Rn.app.mpr ⟨m,g1,g2⟩⟩
theorem Rn.lo{L L':List Keyed}{m:Nat}(hm:L.take m=L'.take m):∀{T:List (Nat×Nat×Nat)}{c e:Nat},Rn L T c e->e<=m->Rn L' T c e
 |[],c,e,h,_=>h
 |p::t,c,e,⟨h1,h2,h3,h4⟩,he=>by
  have hl:=h4.le;refine⟨h1,h2,?_,Rn.lo hm h4 he⟩;have cut:∀ Z:List Keyed,(Z.drop p.1).take p.2.1=((Z.take m).drop p.1).take p.2.1:=fun Z=>by
   rw[QD,QX,PH (by omega)]
  rw[cut L',← hm,← cut L];exact h3
theorem Rn.hi{L L':List Keyed}{m:Nat}(hm:L.drop m=L'.drop m):∀{T:List (Nat×Nat×Nat)}{c e:Nat},Rn L T c e->m<=c->Rn L' T c e
 |[],c,e,h,_=>h
 |p::t,c,e,⟨h1,h2,h3,h4⟩,he=>by
  refine⟨h1,h2,?_,Rn.hi hm h4 (by omega)⟩
  have cut:∀ Z:List Keyed,Z.drop p.1=(Z.drop m).drop (p.1-m):=fun Z=>by rw[Qh];congr 1;omega
  rw[cut L',← hm,← cut L];exact h3
theorem Rn.like{L:List Keyed}:∀{T T':List (Nat×Nat×Nat)}{c e:Nat},T.map (fun p=>(p.1,p.2.1))=T'.map (fun p=>(p.1,p.2.1))->Rn L T c e->Rn L T' c e
 |[],[],c,e,_,h=>h
 |p::t,q::t',c,e,hm,⟨h1,h2,h3,h4⟩=>by
  rw[OW,OW]at hm;injection hm with a b;injection a with a1 a2;refine⟨by rw[← a1];exact h1,by rw[← a2];exact h2,by rw[← a1,← a2];exact h3,?_⟩
  rw[← a2];exact Rn.like b h4
 |[],q::t',c,e,hm,h=>by cases hm
 |p::t,[],c,e,hm,h=>by cases hm
structure SI(a₀:Array Keyed)(lo:Nat)(st:SortSt):Prop where
 perm:(arrOf st).Perm a₀
 kind:kindOf st=oneType'
 failed:failedOf st=none
 rn:Rn (arrOf st).toList (pendingOf st).toList 0 lo
 le:lo<=a₀.size
theorem SI.size{a₀:Array Keyed}{lo:Nat}{st:SortSt}(h:SI a₀ lo st):(arrOf st).size=a₀.size:=h.perm.size_eq
theorem SI.keys{a₀:Array Keyed}{lo:Nat}{st:SortSt}(h:SI a₀ lo st)(h0:IntKeys a₀):IntKeys (arrOf st):=fun p hp=>h0 p ((QU.mp h.perm).mem_iff.mp hp)
theorem qV{a₀:Array Keyed}{lo i:Nat}{st:SortSt}{Q:Bool->SortSt->Prop}(h0:IntKeys a₀)(hS:SI a₀ lo st)(hi:i+1<(pendingOf st).size)(h:∀ st',SI a₀ lo st'->(pendingOf st').size+1=(pendingOf st).size->(arrOf st').toList.drop lo=(arrOf st).toList.drop lo->Q true st') :
  wpS (model prog w) A E s ((sortPriv% PySem.Builtin.mergeAt) i) Q st:=by
 have tl:(pendingOf st).toList.length=(pendingOf st).size:=by simp
 obtain⟨T,eT⟩:∃ T,(pendingOf st).toList=T:=⟨_,rfl⟩;rw[eT]at tl;have g1:(pendingOf st)[i]?=some T[i]:=by rw[← NQ,← eT];simp
 have g2:(pendingOf st)[i+1]?=some T[i+1]:=by rw[← NQ,← eT];simp
 have sp:T=T.take i++T[i]::T[i+1]::T.drop (i+2):=by
  rw[← Pw,← Pw,OF]
 obtain⟨T1,eT1⟩:∃ T1,T.take i=T1:=⟨_,rfl⟩;obtain⟨T2,eT2⟩:∃ T2,T.drop (i+2)=T2:=⟨_,rfl⟩;obtain⟨⟨sa,na,pa⟩,ep⟩:∃ p,T[i]=p:=⟨_,rfl⟩;obtain⟨⟨sb,nb,pb⟩,eq⟩:∃ p,T[i+1]=p:=⟨_,rfl⟩;have t1l:T1.length=i:=by rw[← eT1,Ou];omega
 rw[ep]at g1;rw[eq]at g2;rw[eT1,eT2,ep,eq]at sp;have rn:=hS.rn;rw[eT,sp]at rn;obtain⟨m,r1,⟨x1,x2,x3,⟨y1,y2,y3,r2⟩⟩⟩:=Rn.app.mp rn;dsimp only at x1 x2 x3 y1 y2 y3 r2;have le2:=r2.le;have le:=hS.le;have sz:=hS.size;have ll:(arrOf st).toList.length=(arrOf st).size:=by simp
 refine AV hS.kind hS.failed (hS.keys h0) g1 g2 (by omega) x2 y2 (by omega) x3 y3 fun st' M k' f' p' e' pm up=>?_
 have Ml:M.length=na+nb:=by
  rw[pm.length_eq,NT,Ou,Ou,OX,OX];omega
 have hpp:(pendingOf st').toList=T1++(sa,na+nb,pa)::T2:=by
  rw[p'];have:(((pendingOf st).setIfInBounds i (sa,na+nb,pa)).eraseIdxIfInBounds (i+1)).toList=(T.set i (sa,na+nb,pa)).eraseIdx (i+1):=by
   unfold Array.eraseIdxIfInBounds;rw[dif_pos (by rw[Sf];exact hi),Array.toList_eraseIdx,R5,eT]
  rw[this,sp,← t1l,QE _ _ (NY _),OA,List.set_cons_zero,List.eraseIdx_append_of_length_le (by omega),show T1.length+1-T1.length=1 by omega]
  rfl
 have ptl:(pendingOf st').size+1=(pendingOf st).size:=by
  have a:=congrArg RY hpp;have b:=congrArg RY sp;simp only[NT,OJ,OI]at a b;omega
 have es:sb=sa+na:=by omega
 have lt:((arrOf st).toList.take sa).length=sa:=by rw[Ou];omega
 have tke:(arrOf st).toList.take m=(arrOf st').toList.take m:=by
  rw[e',ON,RM (by omega),QX,x1,Nat.min_self]
 have dre:(arrOf st).toList.drop (sb+nb)=(arrOf st').toList.drop (sb+nb):=by
  rw[e',List.drop_left' (by rw[NT,lt,Ml];omega)]
 refine h st' ⟨?_,k',f',?_,le⟩ ptl (by
  have e:=congrArg (List.drop (lo-(sb+nb))) dre;rw[Qh,Qh,show sb+nb+(lo-(sb+nb))=lo by omega]at e
  exact e.symm)
 ·refine Array.Perm.trans (QU.mpr ?_) hS.perm;rw[e'];have e2:(arrOf st).toList=(arrOf st).toList.take sa++(((arrOf st).toList.drop sa).take na++((arrOf st).toList.drop sb).take nb)++(arrOf st).toList.drop (sb+nb):=by
   have es:sb=sa+na:=by omega
   rw[← ON,es,← QL,← QL,OF]
  exact((PF _ pm).append_right _).trans (List.Perm.of_eq e2.symm)
 ·rw[hpp];refine Rn.app.mpr ⟨m,r1.lo tke (NY _),x1,by show 1<=na+nb;omega,?_,?_⟩
  ·show Upl (((arrOf st').toList.drop sa).take (na+nb));have:((arrOf st').toList.drop sa).take (na+nb)=M:=by
    rw[e',ON,RQ,lt,OA,QC,Q8 (by omega),Rh,RM (by omega),OV (by omega)]
   rw[this];exact up
  ·show Rn _ T2 (m+(na+nb)) lo;have:=r2.hi dre (by omega)
   rw[show m+(na+nb)=m+na+nb by omega]
   exact this
theorem Mx{xs:Array Keyed}{lo n:Nat}(h:Sin xs lo n)(hn:lo+n<=xs.size):Upl ((xs.toList.drop lo).take n):=by
 have ll:xs.toList.length=xs.size:=by simp
 refine O9.mpr fun i j hi hj hij=>?_;rw[Ou,OX]at hj;rw[Q3,RI,Q3,RI];have z:=h (lo+i) (lo+j) (by omega) (by omega) (by omega)
 rw[K_eq (by omega),K_eq (by omega)]at z
 simpa[ky] using z
theorem SB.si{a₀:Array Keyed}{lo:Nat}{st0 st:SortSt}(h:SB lo st0 st)(hS:SI a₀ lo st0):SI a₀ lo st:=by
 refine⟨h.perm.trans hS.perm,h.kind,h.failed.trans hS.failed,?_,hS.le⟩;rw[h.pend];refine hS.rn.lo (RJ fun i=>?_) (NY _);rw[Pd,Pd];split
 ·rename_i hi;have:=h.low i hi;rw[← Pf,← Pf]at this;exact this.symm
 ·rfl
theorem ite_lt(c:Bool){n:Nat}(h:¬ n<=1):(if c=true then n-2-1 else n-2)+1<n:=by split<;>omega
def yf:StateT SortSt Sem Unit:=sortPriv% PySem.Builtin.sortRuns
theorem AR{a₀:Array Keyed}{st:SortSt}{Q:Unit->SortSt->Prop}(h0:IntKeys a₀)(hS:SI a₀ 0 st)(h:∀ st',(arrOf st').Perm a₀->failedOf st'=none->Upl (arrOf st').toList->Q () st'):wpS (model prog w) A E s yf Q st:=by
 unfold yf;walk_at "sortRuns";refine wpS_bind (wpS_get ?_);rw[show((sortPriv% PySem.Builtin.SortState.a) st).size=a₀.size from hS.size];walk_at "st";walk_at "l3";generalize (sortPriv% PySem.Builtin.minRun) a₀.size a₀.size 0=mr;refine wpS_bind (wpS_mono (wpS_forRange (I:=fun x c st'=>∃ lo,c=(none,lo)/\SI a₀ lo st'/\(lo=a₀.size∨x<=lo)) (Q:=fun c st'=>c=(none,a₀.size)/\SI a₀ a₀.size st') ?step ?fin ⟨0,rfl,hS,.inr (NY _)⟩) ?post)
 case fin =>
  rintro c st' ⟨lo,rfl,hS',g⟩;have:=hS'.le;have:lo=a₀.size:=by omega
  subst this;exact⟨rfl,hS'⟩
 case step =>
  rintro x c st' _ hx ⟨lo,rfl,hS',g⟩;have le:=hS'.le;have sz:=hS'.size;by_cases z:lo ≥ a₀.size
  ·refine aL z ?_;have:lo=a₀.size:=by omega
   subst this;exact wpS_pure ⟨rfl,hS'⟩
  refine aJ z ?_;refine AW fun R hR=>?_;refine wpS_bind (EF hS'.kind (hS'.keys h0) (by omega) (by omega) fun m st1 hB1 m1 m2 hs1=>?_)
  walk_at "st";extract_lets -underBinder +onlyGivenNames nn jp;subst nn;clear_value (ej:jp=_);have hj:∀(n:Nat)(st2:SortSt),SB lo st' st2->1<=n->lo+n<=a₀.size->Sin (arrOf st2) lo n->wpS (model prog w) A E s (jp () n) R st2:=by
   intro n st2 hB2 n1 n2 hs2;rw[ej];clear ej jp;walk_at "st";have S2:=hB2.si hS';have u2:=Mx hs2 (by rw[S2.size];exact n2)
   refine wpS_bind (wpS_get ?_);walk_at "st";extract_lets -underBinder +onlyGivenNames jp;clear_value (ej:jp=_);have hj:∀ st3:SortSt,SI a₀ lo st3->(arrOf st3).toList.drop lo=(arrOf st2).toList.drop lo->wpS (model prog w) A E s (jp ()) R st3:=by
    intro st3 S3 e3;rw[ej];clear ej jp;walk_at "st";refine wpS_bind (wpS_modify (wpS_pure (hR _ _ ⟨lo+n,rfl,⟨S3.perm,S3.kind,S3.failed,?_,n2⟩,?_⟩)))
    ·show Rn (arrOf st3).toList ((pendingOf st3).push (lo,n,0)).toList 0 (lo+n);rw[P4];refine Rn.app.mpr ⟨lo,S3.rn,rfl,n1,?_,rfl⟩;show Upl (((arrOf st3).toList.drop lo).take n);rw[e3];exact u2
    ·rcases g with g | g
     ·exact absurd g (by omega)
     ·exact .inr (by omega)
   clear ej
   cases eb:((sortPriv% PySem.Builtin.SortState.pending) st2).back? with
   |none=>exact hj st2 S2 rfl
   |some p =>
    obtain⟨s1,n1',p1⟩:=p;walk_at "st";extract_lets -underBinder +onlyGivenNames pw;clear_value pw;refine wpS_bind (wpS_mono (wpS_forRange (I:=fun _ c st3=>c=(none,())/\SI a₀ lo st3/\(arrOf st3).toList.drop lo=(arrOf st2).toList.drop lo) (Q:=fun c st3=>c=(none,())/\SI a₀ lo st3/\(arrOf st3).toList.drop lo=(arrOf st2).toList.drop lo) ?pstep (fun c st3 q=>q) ⟨rfl,S2,rfl⟩) ?ppost)
    case pstep =>
     rintro y c st3 _ hy ⟨rfl,S3,e3⟩;refine wpS_bind (wpS_get ?_);walk_at "st";walk_at "l1";by_cases big:((sortPriv% PySem.Builtin.SortState.pending) st3).size > 1
     ·rw[if_pos big];obtain⟨⟨q1,q2,q3⟩,eq⟩:∃ p,((sortPriv% PySem.Builtin.SortState.pending) st3)[((sortPriv% PySem.Builtin.SortState.pending) st3).size-2]?=some p:=⟨_,getElem?_pos _ _ (by omega)⟩
      rw[eq];dsimp -zeta -zetaHave only;split
      ·exact wpS_pure ⟨rfl,S3,e3⟩
      ·exact wpS_bind (qV h0 S3 (show(pendingOf st3).size-2+1<(pendingOf st3).size from by have:(pendingOf st3).size > 1:=big;omega) fun st4 S4 _ e4=>wpS_pure ⟨rfl,S4,e4.trans e3⟩)
     ·rw[if_neg big];exact wpS_pure ⟨rfl,S3,e3⟩
    case ppost =>
     rintro c st3 ⟨rfl,S3,e3⟩;walk_at "st";walk_at "l1";refine wpS_bind (wpS_modify (hj _ ⟨S3.perm,S3.kind,S3.failed,?_,S3.le⟩ e3));refine Rn.like ?_ S3.rn;show _=QW _ ((pendingOf st3).modify _ _).toList;rw[Array.toList_modify];refine RJ fun i=>?_;rw[NZ,NZ,List.getElem?_modify]
     cases (pendingOf st3).toList[i]? with
     |none=>rfl
     |some p =>
      show some (p.1,p.2.1)=some ((if _=i then _ else p).1,(if _=i then _ else p).2.1);split<;>rfl
  clear ej;by_cases c:m<mr
  ·refine aL c ?_;refine wpS_bind (wpS_lift (wpAny_rule ⟨rfl,?_⟩));refine wpS_bind (Jk (hS'.keys h0) (by rw[sz];omega) (by omega) hB1 hs1 fun st2 hB2 hs2=>?_)
   exact hj _ st2 hB2 (by omega) (by omega) hs2
  ·refine aJ c ?_;exact hj m st1 hB1 m1 (by omega) hs1
 case post =>
  rintro c st' ⟨rfl,hS'⟩;walk_at "st";walk_at "l1";have pl:(pendingOf st').size<=a₀.size:=by
   have:=hS'.rn.le;rw[OI]at this;omega
  refine wpS_bind (wpS_mono (wpS_forRange (I:=fun x c st3=>c=(none,())/\SI a₀ a₀.size st3/\((pendingOf st3).size<=1∨(pendingOf st3).size+x<=a₀.size)) (Q:=fun c st3=>c=(none,())/\SI a₀ a₀.size st3/\(pendingOf st3).size<=1) ?fstep ?ffin ⟨rfl,hS',.inr pl⟩) ?fpost)
  case ffin =>
   rintro c st3 ⟨rfl,S3,g⟩;exact⟨rfl,S3,by omega⟩
  case fpost =>
   rintro c st3 ⟨rfl,S3,g⟩;refine wpS_pure (h st3 S3.perm S3.failed ?_);have rn:=S3.rn;have sz:=S3.size;have ll:(arrOf st3).toList.length=(arrOf st3).size:=by simp
   have tl:(pendingOf st3).toList.length=(pendingOf st3).size:=by simp
   match e:(pendingOf st3).toList with
   |[] =>
    rw[e]at rn;have rn':0=a₀.size:=rn;rw[RP (show(arrOf st3).toList.length=0 by omega)]
    exact Q4
   |[p] =>
    rw[e]at rn;obtain⟨r1,_,r3,r4⟩:=rn;have r4':0+p.2.1=a₀.size:=r4;rw[r1,QC,OV (by omega)]at r3
    exact r3
   |p::q::t =>
    rw[e]at tl;simp only[OJ]at tl;omega
  case fstep =>
   rintro x c st3 _ hx ⟨rfl,S3,g⟩;refine wpS_bind (wpS_get ?_);by_cases z:((sortPriv% PySem.Builtin.SortState.pending) st3).size<=1
   ·refine aL z ?_;exact wpS_pure ⟨rfl,S3,z⟩
   refine aJ z ?_;refine wpS_bind (qV h0 S3 (ite_lt _ z) fun st4 S4 p4 _=>wpS_pure ⟨rfl,S4,?_⟩);have z':¬ (pendingOf st3).size<=1:=z;omega
theorem upl_to{xs:Array Keyed}(u:Upl xs.toList):SortedTo xs xs.size:=fun i j hij hj=>by
 have ll:xs.toList.length=xs.size:=by simp
 have hi':i<xs.size:=by omega
 rw[K_eq hi',K_eq hj];have:=Gv u (i:=i) (j:=j) (NQ (by omega)) (NQ (by omega)) hij
 simpa[ky] using this
theorem DU{a:Addr}{vs:List Value}{ns:List Int}{n:Nat}{P:Fin->Shared->Prop} (ho:s.heap.get? a=some (seqObj "list" vs.toArray n)) (hI:IntsAre vs ns) (hz:vs.length<=sizeLine)
  (h:∀(out:Array Value)(ns':List Int),IntsAre out.toList ns'->ns'.Perm ns->ns'.Pairwise (·<=·)->P (.done (.ret .none)) { s with heap:=sortedHeap s.heap a vs out }) :
  wpAny (model prog w) A (Builtin.«list.sort» ⟨[.ref a],[]⟩) P E s:=by
 by_cases h64:vs.length<64
 ·exact list_sort_tree ho hI h64 h
 obtain⟨v₁,v₂,rest,e⟩:∃ v₁ v₂ rest,vs=v₁::v₂::rest:=by
  match vs,h64 with
  |[],h64=>exact absurd (by decide) h64
  |[_],h64=>exact absurd (by show 1<64;decide) h64
  |v₁::v₂::rest,_=>exact⟨v₁,v₂,rest,rfl⟩
 have sz:vs.toArray.size=vs.length:=by simp
 have ha:a<s.heap.objs.size:=Heap.lt_size ho;rw[list_sort_plain];refine wpAny_bind (listItems_at ho rfl (wpAny_bind (listUpdate_at ho rfl ?_)));obtain⟨e1,ho1⟩:∃ e1,(s.heap.update a (Obj.mapSeq fun _=>#[])).get? a=some (seqObj "list" #[] e1):=⟨_,get?_update_seq ho (fun _=>#[])⟩;refine wpAny_bind (seqEpoch_at ho1 rfl (wpAny_bind (wpAny_newTuple (wpAny_bind (wpAny_newList (wpAny_holding ?_))))));have ho6:(((s.heap.update a (Obj.mapSeq fun _=>#[])).push (seqObj "tuple" vs.toArray 0)).push (seqObj "list" #[] 0)).get? a=some (seqObj "list" #[] e1):=by
  rw[Heap.get?_push_ne _ _ _ (by rw[size_push',Heap.size_update];exact Ot (PD ha)),Heap.get?_push_ne _ _ _ (by rw[Heap.size_update];exact Ot ha)]
  exact ho1
 show wpAny (model prog w) A _ P E { s with heap:=((s.heap.update a (Obj.mapSeq fun _=>#[])).push (seqObj "tuple" vs.toArray 0)).push (seqObj "list" #[] 0) };have n2:¬ vs.toArray.size<2:=by omega
 dsimp only;rw[if_neg n2,if_neg n2];have kk:keyKind' vs.toArray=pure oneType':=by subst e;exact keyKind_ints hI
 rw[kk];refine wpAny_bind (wpAny_pure ?_);have run:=AR (prog:=prog) (w:=w) (A:=A) (E:=E) (s:={ s with heap:=((s.heap.update a (Obj.mapSeq fun _=>#[])).push (seqObj "tuple" vs.toArray 0)).push (seqObj "list" #[] 0) }) (a₀:=pairsOf vs) (st:=SortSt.mk' oneType' (vs.toArray.zip vs.toArray) #[] 7 none)
  (Q:=fun _ st'=>(arrOf st').Perm (pairsOf vs)/\failedOf st'=none/\Upl (arrOf st').toList) hI.intKeys ⟨Array.Perm.refl _,rfl,rfl,rfl,O5 _⟩ fun st' q1 q2 q3=>⟨q1,q2,q3⟩
 refine wpAny_bind (wpAny_mono run ?_ fun _ _ e=>e);rintro⟨⟨⟩,st'⟩ s' ⟨rfl,hp,hf,hu⟩;dsimp only;refine wpAny_bind (seqEpoch_at ho6 rfl ?_);refine wpAny_bind (listUpdate_at ho6 rfl ?_ (hsz2:=by refine O6 (Nat.le_of_eq ((Array.size_map ..).trans (hp.size_eq.trans (pairsOf_size _)))) ?_;omega))
 rw[hf];simp only[bne_self_eq_false,O2,if_false];obtain⟨ns',h1,h2,h3⟩:=sorted_out hI hp (by rw[← hp.size_eq];exact upl_to hu)
 exact wpAny_pure (h _ ns' h1 h2 h3)
end PyProof.Rows
namespace L2
open PySem PySem.Spec PyProof.Rows
section
variable{X:Cx}
end
section
variable{prog:Program}{w:World}{A:Around}{E:Value->Shared->Prop}{s:Shared}{z TI TO i1 i2 l1 l2:Addr}{f0:Value}{f1:Bool}
end
section
variable{X:Cx}
theorem bt_all:bootBuiltins "all" = some (.builtin "all"):=by decide
end
section
variable{prog:Program}{w:World}{A:Around}{E:Value->Shared->Prop}{s:Shared}{d:Addr}
end
section
variable{X:Cx}{pins:List (Addr×Obj)}{σ:St}{H:Hp}{s:Shared}{d:Addr}{u:HO}{o:Obj}
end
section
variable{X:Cx}
end
section
open PySem.W
end
section
open PySem.W
variable{prog:Program}{w:World}{A:Around}{E:Value->Shared->Prop}{s:Shared}
end
section
variable{X:Cx}
def rAllB(K:NS):List V->Hp->VK->Prop:=fun xs H Q=>∃(p:Addr)(bs:List Bool),xs = [.ref p]/\SqL K H p (bs.map V.bl)/\Q (.bl (bs.all id)) H
theorem IM(hc:X.calm=true):jf X (.builtin "all") (rAllB X.K):=by
 intro pins s σ H xs us Q I r h;obtain⟨p,bs,rfl,hq,q⟩:=h;obtain⟨u,rfl,ru⟩:=vi r
 cases ru
 obtain⟨its,rv,pl,hz⟩:=I.list hq;have hln:=rv.length;rw[NR]at hln;have hlt:p<s.heap.objs.size:=by obtain⟨_,_,q,_⟩:=pl;exact Heap.lt_size q
 refine call_all_walk (wpAny_pyIter_list pl.isList ?_);refine⟨s.heap.objs.size,[s.heap.objs.size,p],[s.heap.objs.size],its.toArray.size,_,_,fun i=>bs.getD i true,rfl,Walks.list (A:=X.A.in1) (I.ok.hd hc) _ p (Ot hlt) its.toArray,⟨⟨_,Heap.get?_push_size _ rfl,rfl,rfl⟩,pl.isList.push _⟩,fun i v s' Q' E' hP hQ=>?_,fun h' tk hk=>?_⟩
 ·have hv:its[i]?=some v:=by simpa using hP
  have hi:i<bs.length:=by have:=(NP.mp hv).1;omega
  obtain⟨w,hw,rw'⟩:=rv.get (i:=i) (x:=.bl bs[i]) (by rw[NZ,NQ hi];rfl)
  rw[hv]at hw
  cases hw
  cases rw'
  replace hQ:Q' (bs.getD i true) s':=hQ;rw[show bs.getD i true=bs[i] by rw[OB,NQ hi];rfl]at hQ
  exact wpAny_truthy_bool hQ
 ·have ea:((Oz its.toArray.size).all fun i=>bs.getD i true)=bs.all id:=by
   rw[OC,← hln,QS,QG,QG];constructor
   ·intro h b hb;obtain⟨i,hi,rfl⟩:=P6 hb;have:=h i (P0.mpr hi);rw[OB,NQ hi]at this;exact this
   ·intro h i hi;have hi':=P0.mp hi;rw[OB,NQ hi'];exact h _ (Pj hi')
  rw[ea];refine⟨.bl _,H,I.kept (t':=tk) (fun b o e=>hk b o (fun hm=>?_) (Heap.get?_push_of_some _ e)),rfl,q⟩;rw[Ol.mp hm]at e;exact Pg _ (Heap.lt_size e)
end
section
variable{prog:Program}{w:World}{K:Type} [DecidableEq K] {knd:KeyKind prog w K} {A:Around} {E:Value->Shared->Prop} {s:Shared}
end
section
variable{X:Cx}{o e f:Expr}{apos cpos:Pos}{td ty tx:TE}
end
section
variable{X:Cx}
end
section
variable{prog:Program}{w:World}{A:Around}{E:Value->Shared->Prop}{s:Shared}{T:String}{r d:Addr}{n:Nat}{P:Nat->Value->Prop}{OK:Heap->Prop}
theorem Dc{Q:List Value->Shared->Prop}(K:PySem.W.KdlSrc prog w T r d n P OK)(hh:A.handled=none)(hok:OK s.heap)(hn:n<=sizeLine)
  (h:∀ h' tk acc',(∀ b o,s.heap.get? b=some o->h'.get? b=some o)->s.heap.objs.size<h'.objs.size->ItemsOf P acc' n->Q acc'.toList { s with heap:=h',toks:=tk }):wpAny (model prog w) A (collect (.ref r)) Q E s:=by
 unfold collect;refine wpAny_bind (wpAny_runValue (codeAny_builtin entry_proto_collect' ?_));show wpAny _ _ (do again (.builtin "list.__iadd__" ⟨[← newList [],.ref r],[]⟩)) _ _ s
 refine wpAny_bind (wpAny_newList (wpAny_pure ⟨Code.quiet_builtin _ (by decide),codeAny_builtin entry_list_iadd' ?_⟩))
 rw[Around.under_plainId Sj _];show wpAny _ A.in1 (Builtin.List.listExtendWith (.ref s.heap.objs.size) (.ref r) (.ref s.heap.objs.size)) _ _ { s with heap:=s.heap.push (seqObj "list" #[] 0) };have hlt:=K.there _ hok;have G:=PySem.W.kdl_extend (A:=A) (R:=fun r s'=>∃ h' tk acc' c',r=.ok (.ret (.ref s.heap.objs.size))/\s'={ s with heap:=h',toks:=tk }/\(∀ b o,b≠s.heap.objs.size->(s.heap.push (seqObj "list" #[] 0)).get? b=some o->h'.get? b=some o)/\h'.get? s.heap.objs.size=some { cls:=.type "list",dict:=none,data:=.seq acc' c',slots:=#[] }/\ItemsOf P acc' n)
  (s:={ s with heap:=s.heap.push (seqObj "list" #[] 0) }) K hh (K.keep _ _ hok fun b _ o e=>Heap.get?_push_of_some _ e) _ (PR hlt.1) (PR hlt.2) (.ref s.heap.objs.size) 0 (Heap.get?_push_size _ rfl) (fun h' tk acc' c' hk hS hacc=>⟨h',tk,acc',c',rfl,rfl,hk,hS,hacc⟩) hn
 have fin:∀(r:Result)(s':Shared),(∃ h' tk acc' c',r=.ok (.ret (.ref s.heap.objs.size))/\s'={ s with heap:=h',toks:=tk }/\(∀ b o,b≠s.heap.objs.size->(s.heap.push (seqObj "list" #[] 0)).get? b=some o->h'.get? b=some o)/\h'.get? s.heap.objs.size=some { cls:=.type "list",dict:=none,data:=.seq acc' c',slots:=#[] }/\ItemsOf P acc' n)->∃ v,r=.ok (.ret v)/\v=.ref s.heap.objs.size/\wpAny (model prog w) A (do
   let o ← load s.heap.objs.size
   match o.data with
   |.seq xs _=>pure xs.toList
   |_=>unsupported "internal:collect") Q E s':=fun r s' ⟨h',tk,acc',c',e1,e2,hk,hS,hacc⟩=>⟨_,e1,rfl,by
  subst e2;refine wpAny_bind (wpAny_load hS ?_)
  exact wpAny_pure (h h' tk acc' (fun b o e=>hk b o (Ot (Heap.lt_size e)) (Heap.get?_push_of_some _ e)) (Heap.lt_size hS) hacc)⟩
 refine wpAny_mono G (fun fn s' q=>?_) (fun e s' q=>?_)
 ·cases fn with
  |done f =>
   obtain⟨v,e1,e2,z⟩:=fin _ _ q
   cases e1
   cases e2
   exact z
  |again c =>
   refine⟨q.1,codeAny_mono q.2 fun r s'' q'=>?_⟩;obtain⟨v,e1,e2,z⟩:=fin _ _ q'
   cases e1
   cases e2
   exact z
 ·obtain⟨v,e1,_⟩:=fin _ _ q
  cases e1
end
section
variable{X:Cx}
def rSortD:List V->Hp->VK->Prop:=fun xs H Q=>∃(d:Addr)(kvs:List (Key×V))(ns:List Int),xs = [.ref d]/\Rd H d (.dK kvs)/\kvs.map (·.1)=ns.map Sum.inl/\∀(l:Addr)(out:List Int),H l=none->out.Perm ns->out.Pairwise (·<=·)->Q (.ref l) (upd H l (.lst (out.map V.int)))
theorem uY(hc:X.calm=true):jf X (.builtin "sorted") rSortD:=by
 intro pins s σ H xs us Q I r h;obtain⟨d,kvs,ns,rfl,hd,ek,q⟩:=h;obtain⟨u,rfl,ru⟩:=vi r
 cases ru
 obtain⟨hz,lo,vs,rk,hm⟩:=FL I.hok hd;obtain⟨ep,hat⟩:=hm.dictAt;have hl:kvs.length=vs.length:=Paired.length rk;refine Calls.call_function_entry kind_sorted plain_sorted entry_sorted (args_sorted1 _) ?_;unfold Builtin.«sorted»;refine wpAny_bind (m:=checkCount "sorted" 1 1 _) (wpAny_pure ?_);refine wpAny_bind (Dc (PySem.W.kdl_dict (knd:=cj X.prog X.w) (kvs:=vs) (ep:=ep) lo) (I.ok.hd hc) hat (by rw[← hl];exact hz) fun h' tk acc' hk hlt hacc=>?_)
 have hvs:Vals (kvs.map fun q=>kV q.1) acc'.toList:=zw (P:=X.prog) (w:=X.w) rk (by rw[OI];exact hacc.1) fun j v ej=>hacc.2 j v (by rw[← Pf];exact ej)
 have eks:(kvs.map fun q=>kV q.1)=ns.map V.int:=by
  have:(kvs.map fun q=>kV q.1)=(kvs.map (·.1)).map kV:=by rw[Qm];rfl
  rw[this,ek,Qm];rfl
 rw[eks]at hvs;have hi:=ku hvs;have hlen:acc'.toList.length<=sizeLine:=by
  rw[OI,hacc.1,← hl];exact hz
 refine wpAny_bind (wpAny_newList ?_ hlen);have hoL:(h'.push (seqObj "list" acc'.toList.toArray 0)).get? h'.objs.size=some (seqObj "list" acc'.toList.toArray 0):=Heap.get?_push_size _ rfl;show wpAny _ _ _ _ _ { s with heap:=h'.push (seqObj "list" acc'.toList.toArray 0),toks:=tk };have keepH:∀(out:Array Value)(b:Addr)(o:Obj),s.heap.get? b=some o->(sortedHeap (h'.push (seqObj "list" acc'.toList.toArray 0)) h'.objs.size acc'.toList out).get? b=some o:=fun out b o e=>by
  have e2:=hk b o e;rw[sortedHeap_old (Ot (Heap.lt_size e2)) (by rw[Heap.size_push];exact PD (Heap.lt_size e2))]
  exact Heap.get?_push_of_some _ e2
 have hsz:s.heap.objs.size<=h'.objs.size:=OG hlt;refine wpAny_bind (wpAny_holding (wpAny_call_entry slot_list_sort ⟨_,hoL,rfl⟩ entry_list_sort (DU hoL hi hlen fun out ns' a1 a2 a3=>⟨_,rfl,?_⟩) (args_list_sort _)));obtain⟨e,he⟩:=sortedHeap_at (out:=out) hoL;refine wpAny_pure ⟨_,rfl,?_⟩;refine⟨.ref h'.objs.size,_,I.laid (t':=tk) (keepH out) hsz (show bN X.prog X.w _ _ _ (.lst (ns'.map V.int)) from⟨?_,out.toList,e,vh a1,?_⟩),rfl,q _ ns' (I.hok.fresh hsz) a2 a3⟩
 ·have e1:kvs.length=ns.length:=by
   have:=congrArg RY ek;rwa[NR,NR]at this
  rw[NR,a2.length_eq,← e1];exact hz
 ·exact he
end
section
variable{prog:Program}{w:World}{A:Around}{E:Value->Shared->Prop}{s:Shared}
end
section
variable{X:Cx}
end
section
variable{prog:Program}{w:World}{A:Around}{E:Value->Shared->Prop}{s:Shared}
abbrev Kp(h h':Heap):Prop:=∀ b o,h.get? b=some o->h'.get? b=some o
end
section
variable{X:Cx}{pins:List (Addr×Obj)}{σ:St}{H:Hp}{s:Shared}{h':Heap}{T:Addr}{ps more:Array Value}{t':Nat}
theorem Inv.tab(I:Inv X pins σ H s)(e:H T=some (.tbl ps))(hx:∀ b o,b≠T->s.heap.get? b=some o->h'.get? b=some o)(hT:h'.get? T=some { cls:=.none,data:=.fields (ps++more) }) :
  Inv X pins σ (upd H T (.tbl (ps++more))) { s with heap:=h',toks:=t' }:=by
 have ne:∀{b:Addr}{o:Option HO},H b=o->o≠some (.tbl ps)->b≠T:=fun q n z=>n (by rw[← q,z,e])
 refine I.un ⟨fun b o g n _ _=>hx b o (ne n (by simp)) g,fun b o g n _ _=>⟨o.slots,hx b o (ne n (by simp)) g⟩,fun b o g n _=>?_,fun b o g _=>?_,fun b xs q=>?_,fun b o u q=>?_,fun b p q=>?_⟩ fun b u q=>?_
 ·rw[ak (ne n (by simp))]
  exact n
 ·by_cases z:b=T
  ·rw[z];exact⟨_,hT⟩
  ·exact⟨o,hx b o z g⟩
 ·rw[ak (ne q (by simp))]
  exact q
 ·rw[ak (ne q (by simp))]
  exact q
 ·by_cases z:b=T
  ·subst z;rw[e]at q
   cases q
   exact⟨more,ae⟩
  ·exact⟨#[],by rw[ak z,q];simp⟩
 ·by_cases z:b=T
  ·subst z;rw[ae]at q
   cases q
   exact hT
  ·rw[ak z]at q;refine(I.hok b u q).stay (fun c o hc g=>hx c o (fun y=>?_) g) (fun c g=>?_) fun c o g=>?_
   ·rcases hc with y2 | y2
    ·exact z (y2▸y)
    ·rw[y,e]at y2;cases y2
   ·rw[ak (ne g (by simp))];exact g
   ·rw[ak (ne g (by simp))];exact g
end
def codO(c:Addr)(q:Str):HO:=.ext fun h=>h.CodeRec (.ref c) q
def Tb(q:Str)(lp:Pos)(T:Addr)(H:Hp):Prop:=H T=some (.tbl #[])∨∃ c,H T=some (.tbl #[rawInt lp.line,rawInt lp.col,.ref c])/\H c=some (codO c q)
def TbS(T:Addr)(H H':Hp):Prop:=∀ b o,b≠T->H b=some o->H' b=some o
abbrev Bm(mg:Str->Option Value)(h:Heap):Prop:=∃ bm o,mg "__builtins__" = some (.ref bm)/\bm≠builtinsNs/\h.get? bm=some o/\o.cls=.type "module"/\o.dict=some builtinsNs/\o.data=.plain
structure LamC(X:Cx)(c T:Addr)(lq:Str)(sc:Scope)(cl:List (Str×Addr)):Prop where
 code:X.env.code=.ref c
 hd:Pu X.base c T
 bm:Bm X.mg X.base
 cl:closureFor sc X.env=pure cl
 q:X.env.qual++"<lambda>" = lq
def tLam(lq:Str)(lp:Pos)(T:Addr)(prm:Arguments)(bd:Expr)(sc:Scope)(cl:List (Str×Addr)):TE:=fun _ H Q=>Tb lq lp T H /\
 ∀(f c':Addr)(pm ctv:Value)(H':Hp),H f=none->TbS T H H'->Tb lq lp T H'->H' c'=some (codO c' lq)->H' f=some (.frz (Pp "<lambda>" lq prm bd sc cl pm c' ctv) (.own f))->Q (.ref f) H'
theorem LJ{X:Cx}{c T:Addr}{lq:Str}{lp:Pos}{prm:Arguments}{bd:Expr}{sc:Scope}{cl:List (Str×Addr)}(L:LamC X c T lq sc cl)(hx:X.ex = [])(hdef:defaultsOf prm X.env=([],[]):=by rfl) :
  PE X (.Lambda prm bd sc lp) (tLam lq lp T prm bd sc cl):=by
 intro pins s1 σ H1 Q I1 h;obtain⟨tb,q⟩:=h;refine PySem.W.kla_eval hdef ?_;rw[L.q];have bat:s1.heap.BuiltinsAt X.mg T:=by
  obtain⟨bm,o,b1,b2,b3,b4,b5,b6⟩:=L.bm;obtain⟨o1,es1,ep1,g1,g2,_⟩:=id I1.mod.glob;have hT:H1 T≠none:=by
   rcases tb with z | ⟨_,z,_⟩<;>rw[z]<;>simp
  refine⟨bm,o,b1,b2,fun z=>?_,fun z=>?_,I1.bk _ _ b3,b4,b5,b6⟩
  ·rw[z,g1]at b3;cases b3;rw[g2]at b6;cases b6
  ·rw[z]at b3;exact hT (I1.bs _ _ b3).2
 have neT:mainGlobals≠T:=fun z=>by
  obtain⟨o1,es1,ep1,g1,g2,_⟩:=id I1.mod.glob;have:=(I1.bs _ _ g1).2;rw[z]at this;rcases tb with y | ⟨_,y,_⟩<;>rw[y]at this<;>cases this
 have nsg:=I1.mod.glob.keeps I1.bk;rcases tb with hT | ⟨c',hT,hco⟩
 ·have gT:s1.heap.get? T=some (Rr #[]):=I1.hok T _ hT
  refine PySem.W.kla_makeFunction (mg:=X.mg) L.cl I1.ok.glob nsg L.code (L.hd.keeps I1.bk) gT trivial rfl neT bat fun c' ctv h' tk hxt hge hlt hrec htb=>?_;have cT:c'≠T:=fun z=>by
   have:=Heap.lt_size gT;rw[← z]at this;exact absurd this (QF hge)
  have I2:=I1.tab (more:=#[rawInt lp.line,rawInt lp.col,.ref c']) (t':=tk) hT (fun b o n e=>hxt b o n e) (by simpa using htb)
  have e0:(#[]:Array Value)++#[rawInt lp.line,rawInt lp.col,.ref c']=#[rawInt lp.line,rawInt lp.col,.ref c']:=by simp
  rw[e0]at I2;have fr:s1.heap.get? c'=none:=Heap.get?_none_of_le hge;have H1c:H1 c'=none:=I1.hok.none_of fr;obtain⟨c3,oc,vs3,t3,ec,g1,g2,g3⟩:=id hrec
  cases ec
  have I3:=I2.xtrack (a:=c') (o:=codO c' lq) (I1.xok hx fr (by rw[ak cT];exact H1c)) ⟨hrec,⟨oc,g1⟩,fun h1 h2 ⟨c4,o4,v4,t4,z1,z2,z3,z4⟩ kk=>by cases z1;exact⟨_,o4,v4,t4,rfl,kk o4 z2,z3,z4⟩⟩
  have kpsh:Kp h' (h'.push (Pp "<lambda>" lq prm bd sc cl ((X.mg "__name__").getD .none) c' ctv)):=fun b o e=>Heap.get?_push_of_some _ e;have gf:(h'.push (Pp "<lambda>" lq prm bd sc cl ((X.mg "__name__").getD .none) c' ctv)).get? h'.objs.size=some (Pp "<lambda>" lq prm bd sc cl ((X.mg "__name__").getD .none) c' ctv):=Heap.get?_push_size _ rfl;have I4:=I3.laid (a:=h'.objs.size) (o:=.frz (Pp "<lambda>" lq prm bd sc cl ((X.mg "__name__").getD .none) c' ctv) (.own h'.objs.size)) (t':=tk) kpsh (NY _) ⟨gf,⟨_,gf⟩⟩;have Hf:H1 h'.objs.size=none:=I1.hok.fresh (O6 hge (OG hlt));have fc:h'.objs.size≠c':=Ne.symm (Ot hlt);have fT:h'.objs.size≠T:=fun z=>by rw[z,hT]at Hf;cases Hf
  refine⟨.ref h'.objs.size,_,I4,rfl,q _ c' _ ctv _ Hf (fun b o n e=>?_) (.inr ⟨c',?_,?_⟩) ?_ ae⟩
  ·rw[ak (fun z=>by rw[z,Hf]at e;cases e),ak (fun z=>by rw[z,H1c]at e;cases e),ak n]
   exact e
  ·rw[ak (Ne.symm fT),ak (Ne.symm cT)];exact ae
  ·rw[ak (Ne.symm fc)];exact ae
  ·rw[ak (Ne.symm fc)];exact ae
 ·have gT:s1.heap.get? T=some (Rr #[rawInt lp.line,rawInt lp.col,.ref c']):=I1.hok T _ hT
  obtain⟨hrec,_,_⟩:=(show bN X.prog X.w H1 s1.heap c' (codO c' lq) from I1.hok c' _ hco);refine PySem.W.kla_makeFunctionHit (mg:=X.mg) (cv:=.ref c') L.cl I1.ok.glob nsg L.code (L.hd.keeps I1.bk) gT trivial (by simp[codeAmong,rawInt]) bat fun ctv h' tk kk sz=>?_
  have kpsh:Kp s1.heap (h'.push (Pp "<lambda>" lq prm bd sc cl ((X.mg "__name__").getD .none) c' ctv)):=fun b o e=>Heap.get?_push_of_some _ (kk b o e);have gf:(h'.push (Pp "<lambda>" lq prm bd sc cl ((X.mg "__name__").getD .none) c' ctv)).get? h'.objs.size=some (Pp "<lambda>" lq prm bd sc cl ((X.mg "__name__").getD .none) c' ctv):=Heap.get?_push_size _ rfl;have szl:s1.heap.objs.size<=h'.objs.size:=sz;have I4:=I1.laid (a:=h'.objs.size) (o:=.frz (Pp "<lambda>" lq prm bd sc cl ((X.mg "__name__").getD .none) c' ctv) (.own h'.objs.size)) (t':=tk) kpsh szl ⟨gf,⟨_,gf⟩⟩;have Hf:H1 h'.objs.size=none:=I1.hok.fresh szl;have ne:∀{b:Addr}{o:HO},H1 b=some o->b≠h'.objs.size:=fun e z=>by rw[z,Hf]at e;cases e
  refine⟨.ref h'.objs.size,_,I4,rfl,q _ c' _ ctv _ Hf (fun b o n e=>?_) (.inr ⟨c',?_,?_⟩) ?_ ae⟩
  ·rw[ak (ne e)];exact e
  ·rw[ak (ne hT)];exact hT
  ·rw[ak (ne hco)];exact hco
  ·rw[ak (ne hco)];exact hco
def frzH(cl:List (Str×Addr))(os:Addr->Obj)(H:Hp):Hp:=fun b=>if b∈cl.map (·.2) then some (.frz (os b) (.own b)) else H b
def cutH(cl:List (Str×Addr))(H:Hp):Hp:=fun b=>if b∈cl.map (·.2) then none else H b
theorem lU{cl:List (Str×Addr)}{os:Addr->Obj}{H:Hp}{b:Addr}(h:b∈cl.map (·.2)):frzH cl os H b=some (.frz (os b) (.own b)):=if_pos h
theorem cb{cl:List (Str×Addr)}{os:Addr->Obj}{H:Hp}{b:Addr}(h:b∉cl.map (·.2)):frzH cl os H b=H b:=if_neg h
theorem dE{cl:List (Str×Addr)}{H:Hp}{b:Addr}(h:b∉cl.map (·.2)):cutH cl H b=H b:=if_neg h
def tCallC(N:List Str)(sp:Sp)(dvs:List V)(E:XK)(cl:List (Str×Addr))(t:TA):TE:=fun σ H Q=>t σ H fun vs H1=>∀ os:Addr->Obj,
 (∀ p∈cl,H1 p.2=none/\∃ ov,(os p.2).data=.cell ov/\∀(i:Nat)(v:V),N[i]?=some p.1->σ[i]?=some (some v)->∃ u,ov=some u/\RelV v u)->sp (vs++dvs) (frzH cl os H1) (fun v H'=>Q v (cutH cl H')) E
theorem MB{X:Cx}{k:Nat}{f:Addr}{fd:FuncData}{ps:List Str}{sp:Sp}{dvs:List V}{ds:List Value}{E:XK}{cl:List (Str×Addr)}{pins:List (Addr×Obj)}{σ:St}{H:Hp}{s:Shared}{Q:VK}{us:List Value}{vs:List V}(F:FnOk X.prog X.w X.K X.mg X.base CX0 k f fd ps sp)(hr:Room k X.A)(hb:jg X.K fd ps ds)(hd:Vals dvs ds)
  (hcl:∀ p∈cl,X.env.cells.lookup p.1=some p.2/\X.fn p.1=true/\X.env.kindOf p.1=some .cell/\Vis X.env.scope p.1) (I:Inv X pins σ H s) (r:Vals vs us)
  (h:∀ os:Addr->Obj,(∀ p∈cl,H p.2=none/\∃ ov,(os p.2).data=.cell ov/\∀(i:Nat)(v:V),X.N[i]?=some p.1->σ[i]?=some (some v)->∃ u,ov=some u/\RelV v u)->sp (vs++dvs) (frzH cl os H) (fun v H'=>Q v (cutH cl H')) E) :
  wpAny (model X.prog X.w) X.A (call (.ref f) us) (EP X pins σ Q) X.xe s:=by
 obtain⟨os,hos⟩:∃ os:Addr->Obj,∀ b o,s.heap.get? b=some o->os b=o:=⟨fun b=>(s.heap.get? b).getD { cls:=.none,data:=.plain },fun b o e=>by show(s.heap.get? b).getD _=o;rw[e];rfl⟩
 have inC:∀ b,b∈cl.map (·.2)->∃ p∈cl,p.2=b:=fun b hb=>by
  obtain⟨p,m,e⟩:=OL.mp hb;exact⟨p,m,e⟩
 have hg:∀ b,b∈cl.map (·.2)->s.heap.get? b=some (os b)/\H b=none/\∃ ov,(os b).data=.cell ov:=fun b hb=>by
  obtain⟨p,m,rfl⟩:=inC b hb;obtain⟨v,o,e1,e2⟩:=I.cell p.1 p.2 (hcl p m).1;rw[hos _ _ e1];exact⟨e1,I.freeC p.1 p.2 (hcl p m).1,v,e2⟩
 have base_out:∀ b o,X.base.get? b=some o->b∉cl.map (·.2):=fun b o e hb=>by
  obtain⟨p,m,rfl⟩:=inC b hb;have h1:=I.ok.cab p.1 p.2 (hcl p m).2.1 (hcl p m).1;have h2:=Heap.lt_size e;have h3:=I.ok.bsz;exact absurd h2 (QF (O6 h3 h1))
 have e0:=I.env0;have fr_out:∀ b,b∈frs X.stack->b∉cl.map (·.2):=fun b hb hc=>by
  obtain⟨p,m,rfl⟩:=inC b hc;have hlc:=(hcl p m).1;have h1:=I.ok.cab p.1 p.2 (hcl p m).2.1 hlc;have out:p.2∉frs X.outer:=fun z=>by
   obtain⟨_,o,ho,_⟩:=I.ok.funs.mem z;exact absurd (Heap.lt_size ho) (QF h1)
  rcases I.ok.stk with z | ⟨z,y⟩
  ·rw[z]at hb;exact out hb
  ·rw[z]at hb;unfold frs at hb;rw[QR,y]at hb;rcases NU.mp hb with q | q
   ·exact I.cne p.1 p.2 hlc q
   ·exact out q
 have nh:∀{b:Addr}{o:HO},H b=some o->b∉cl.map (·.2):=fun{b o} e hb=>by rw[(hg b hb).2.1]at e;cases e
 have hok2:HOk X.prog X.w (frzH cl os H) s.heap:=fun a o e=>by
  by_cases c:a∈cl.map (·.2)
  ·rw[lU c]at e
   cases e
   exact⟨(hg a c).1,⟨_,(hg a c).1⟩⟩
  ·rw[cb c]at e;exact(I.hok a o e).stay (fun _ _ _ z=>z) (fun b z=>by rw[cb (nh z)];exact z) fun b xs z=>by rw[cb (nh z)];exact z
 have e1:Env0 X.prog X.w X.K X.mg X.base X.A X.stack s (frzH cl os H):=⟨e0.frames,e0.mod,fun b o e=>⟨(e0.bs b o e).1,by rw[cb (base_out b o e)];exact(e0.bs b o e).2⟩,e0.bsz,e0.funs,fun b z=>by rw[cb (fr_out b z)];exact e0.frf b z,hok2,e0.bare⟩
 have hp:∀ p∈cl,H p.2=none/\∃ ov,(os p.2).data=.cell ov/\∀(i:Nat)(v:V),X.N[i]?=some p.1->σ[i]?=some (some v)->∃ u,ov=some u/\RelV v u:=fun p m=>by
  obtain⟨g1,g2,ov,g3⟩:=hg p.2 (OL.mpr ⟨p,m,rfl⟩);refine⟨g2,ov,g3,fun i v e2 e3=>?_⟩;obtain⟨mm,hn,hl⟩:=I.loc;obtain⟨u,ru,lk⟩:=hl i p.1 v e2 e3 (hcl p m).2.2.2;rcases lk with⟨kl,_⟩ | ⟨_,c2,ec,o2,z1,z2⟩
  ·rw[(hcl p m).2.2.1]at kl;cases kl
  ·rw[(hcl p m).1]at ec
   cases ec
   rw[g1]at z1
   cases z1
   rw[g3]at z2
   cases z2
   exact⟨u,rfl,ru⟩
 have hs:=h os hp;have r2:Vals (vs++dvs) (us++ds):=r.append hd;have hl:(us++ds).length=ps.length:=by rw[← r2.length];exact F.len _ _ _ _ hs
 refine wpAny_call (codeAny_mono (F.run X.A X.stack s (frzH cl os H) ⟨us,[]⟩ (us++ds) (vs++dvs) _ E hr e1 (hb s us I.kIn hl) r2 hs) fun r s' hq=>?_)
 cases r with
 |error e=>exact False.elim hq
 |ok fl =>
  cases fl with
  |next=>exact False.elim hq
  |brk=>exact False.elim hq
  |cont=>exact False.elim hq
  |ret u =>
   obtain⟨v,H',eos,bare,un,hok',r',q⟩:=hq;have fz:∀ b,b∈cl.map (·.2)->H' b=some (.frz (os b) (.own b)):=fun b hb=>un.frzs b _ _ (lU hb);have nh':∀{b:Addr}{o:HO},H' b=some o->(∀ u w,o≠.frz u w)->b∉cl.map (·.2):=fun{b o} e n hb=>by rw[fz b hb]at e;cases e;exact n _ _ rfl
   refine I.after ⟨v,cutH cl H',eos,bare,⟨fun b o e n hb hx=>?_,fun b o e n hb hx=>?_,fun b o e n hx=>?_,un.there,fun b xs e=>?_,fun b o u e=>?_,fun b ps e=>?_⟩,fun a o e=>?_,r',q⟩
   ·by_cases c:b∈cl.map (·.2)
    ·obtain⟨g,_⟩:=hok' b _ (fz b c);rw[hos b o e]at g;exact g
    ·exact un.keep b o e (by rw[cb c];exact n) hb hx
   ·exact un.slot b o e (by rw[cb (fr_out b hb)];exact n) hb hx
   ·by_cases c:b∈cl.map (·.2)
    ·exact if_pos c
    ·rw[dE c];exact un.free b o e (by rw[cb c];exact n) hx
   ·rw[dE (nh e)];exact un.tups b xs (by rw[cb (nh e)];exact e)
   ·rw[dE (nh e)];exact un.frzs b o u (by rw[cb (nh e)];exact e)
   ·rw[dE (nh e)];exact un.tbls b ps (by rw[cb (nh e)];exact e)
   ·by_cases c:a∈cl.map (·.2)
    ·have:cutH cl H' a=none:=if_pos c
     rw[this]at e;cases e
    ·rw[dE c]at e;exact(hok' a o e).stay (fun _ _ _ z=>z) (fun b z=>by rw[dE (nh' z fun _ _ y=>by cases y)];exact z) fun b xs z=>by rw[dE (nh' z fun _ _ y=>by cases y)];exact z
theorem D4{X:Cx}{k:Nat}{f:Addr}{fd:FuncData}{ps:List Str}{sp:Sp}{dvs:List V}{ds:List Value}{E:XK}{x:Str}{p pos:Pos}{e:Expr}{es:List Expr}{t:TA}{cl:List (Str×Addr)}
  (hcl:∀ p∈cl,X.env.cells.lookup p.1=some p.2/\X.fn p.1=true/\X.env.kindOf p.1=some .cell/\Vis X.env.scope p.1)
  (F:FnOk X.prog X.w X.K X.mg X.base CX0 k f fd ps sp) (hr:Room k X.A) (hg:Gl X x) (hm:X.mg x=some (.ref f)) (hk:Oc X.K (.ref f)=true) (hb:jg X.K fd ps ds) (hd:Vals dvs ds)
  (ha:PA X (e::es) t) (hdb:(x == ("__debug__" : Str))=false:=by decide) (he:starEach (e::es) X.env=(false,eval e X.env)::starEach es X.env:=by rfl) (hpl:(backTo pos (starEach es X.env)).any (·.1)=false:=by rfl) :
  PE X (.Call (.Name x p) (e::es) [] pos) (tCallC X.N sp dvs E cl t):=by
 intro pins s σ H Q I h;refine wpAny_Call_Name_kw (lH I hg hm ?_ hdb);refine Qj (h₀:=X.base) I.ok.mod.kin hk (thn (ha pos pins s σ H _ I h) fun us s1 ⟨vs,H1,I1,r,q⟩=>⟨I1.kIn,?_⟩) he hpl;exact MB F hr hb hd hcl I1 r q
abbrev n9(p q:Pos):Arguments:={ posonlyargs:=[],args:=[{ arg:="here",annotation:=none,pos:=p },{ arg:="there",annotation:=none,pos:=q }],vararg:=none,kwonlyargs:=[],kw_defaults:=[],kwarg:=none,defaults:=[] }
abbrev ltSc:Scope:={ kind:=.function,names:=[("here",.local),("there",.local),("costs",.free),("height",.free)],isGenerator:=false,isCoroutine:=false,more:=[] }
abbrev ltBd(p1 p2 p3 p4 p5:Pos):Expr:=.Compare (.Subscript (.Name "costs" p1) (.Name "there" p2) p3) [.Lt] [.Name "height" p4] p5
abbrev leSc:Scope:={ kind:=.function,names:=[("here",.local),("there",.local),("costs",.free)],isGenerator:=false,isCoroutine:=false,more:=[] }
abbrev leBd(p1 p2 p3 p4 p5 p6 p7:Pos):Expr:=.Compare (.Subscript (.Name "costs" p1) (.Name "there" p2) p3) [.LtE] [.Subscript (.Name "costs" p4) (.Name "here" p5) p6] p7
section
variable{prog:Program}{w:World}{A:Around}{E:Value->Shared->Prop}{s:Shared}
theorem lt_run{f c' ct ch t:Addr}{qual:Str}{q0 q1 p1 p2 p3 p4 p5:Pos}{pm ctv hv:Value}{its:Array Value}{k n z:Int}{tk tn tz:Tok}{Q:Value->Shared->Prop}
  (hroom:A.depth<recursionLimit) (hf:s.heap.get? f=some (Pp "<lambda>" qual (n9 q0 q1) (ltBd p1 p2 p3 p4 p5) ltSc [("height",ch),("costs",ct)] pm c' ctv)) (hcr:s.heap.CodeRec (.ref c') qual) (lim:s.heap.NoLimit)
  (hc:s.heap.IsCell ct (some (.ref t))) (hh:s.heap.IsCell ch (some (.int z tz))) (hl:s.heap.IsList t its) (k0:0<=k) (k63:k<2^63) (hit:its[k.toNat]?=some (.int n tn))
  (hQ:∀ h' tk',(∀ b o,s.heap.get? b=some o->h'.get? b=some o)->Q (.bool (decide (n<z))) { s with heap:=h',toks:=tk' }) :
  wpAny (model prog w) A (call (.ref f) [hv,.int k tk]) Q E s:=by
 refine wpAny_call (PySem.W.kla_callFunE hroom hf rfl rfl rfl rfl hcr ?_);have hb:bindArgs (PySem.W.kla_fn "<lambda>" qual (n9 q0 q1) (ltBd p1 p2 p3 p4 p5) ltSc [("height",ch),("costs",ct)] pm (.ref c') ctv) ⟨[hv,.int k tk],[]⟩=(pure [(("here" : Str),hv),(("there" : Str),Value.int k tk)]:Sem (List (Str×Value))):=rfl;rw[hb];refine wpAny_pure (wpAny_newFunctionEnv (fun x hx=>?_) (fun x hx=>?_) (fun h1 hns hsb=>?_) rfl)
 ·have hx':x=(("here" : Str),NameKind.local)∨x=(("there" : Str),NameKind.local)∨x=(("costs" : Str),NameKind.free)∨x=(("height" : Str),NameKind.free):=by simpa using hx
  rcases hx' with rfl | rfl | rfl | rfl<;>exact fun z=>by cases z
 ·have hx':x=(("here" : Str),hv)∨x=(("there" : Str),Value.int k tk):=by simpa using hx
  rcases hx' with rfl | rfl<;>rfl
 have kp:∀ b o,s.heap.get? b=some o->h1.get? b=some o:=fun b o e=>hsb.extBut b o (Ot (Heap.lt_size e)) (Heap.get?_push_of_some _ e);refine⟨lim.keeps kp,PySem.W.kla_codeExpr ?_⟩;refine wpAny_Compare1 ?_ rfl;refine Subscript_ (wpAny_Name (wpAny_loadName_free (c:=ct) rfl rfl rfl (hc.keeps kp) ?_));refine wpAny_Name (wpAny_loadName_local rfl rfl hns rfl ?_);refine item_listR (hl.at fun o e=>kp _ _ e) k0 k63 hit ?_;exact wpAny_Name (wpAny_loadName_free (c:=ch) rfl rfl rfl (hh.keeps kp) (lt_int (hQ _ _ kp)))
theorem le_run{f c' ct t:Addr}{qual:Str}{q0 q1 p1 p2 p3 p4 p5 p6 p7:Pos}{pm ctv:Value}{its:Array Value}{k k' n n':Int}{tk tk0 tn tn':Tok}{Q:Value->Shared->Prop}
  (hroom:A.depth<recursionLimit) (hf:s.heap.get? f=some (Pp "<lambda>" qual (n9 q0 q1) (leBd p1 p2 p3 p4 p5 p6 p7) leSc [("costs",ct)] pm c' ctv)) (hcr:s.heap.CodeRec (.ref c') qual) (lim:s.heap.NoLimit)
  (hc:s.heap.IsCell ct (some (.ref t))) (hl:s.heap.IsList t its) (k0:0<=k) (k63:k<2^63) (hit:its[k.toNat]?=some (.int n tn)) (k0':0<=k') (k63':k'<2^63) (hit':its[k'.toNat]?=some (.int n' tn'))
  (hQ:∀ h' tk',(∀ b o,s.heap.get? b=some o->h'.get? b=some o)->Q (.bool (decide (n<=n'))) { s with heap:=h',toks:=tk' }) :
  wpAny (model prog w) A (call (.ref f) [.int k' tk0,.int k tk]) Q E s:=by
 refine wpAny_call (PySem.W.kla_callFunE hroom hf rfl rfl rfl rfl hcr ?_);have hb:bindArgs (PySem.W.kla_fn "<lambda>" qual (n9 q0 q1) (leBd p1 p2 p3 p4 p5 p6 p7) leSc [("costs",ct)] pm (.ref c') ctv) ⟨[.int k' tk0,.int k tk],[]⟩=(pure [(("here" : Str),Value.int k' tk0),(("there" : Str),Value.int k tk)]:Sem (List (Str×Value))):=rfl;rw[hb];refine wpAny_pure (wpAny_newFunctionEnv (fun x hx=>?_) (fun x hx=>?_) (fun h1 hns hsb=>?_) rfl)
 ·have hx':x=(("here" : Str),NameKind.local)∨x=(("there" : Str),NameKind.local)∨x=(("costs" : Str),NameKind.free):=by simpa using hx
  rcases hx' with rfl | rfl | rfl<;>exact fun z=>by cases z
 ·have hx':x=(("here" : Str),Value.int k' tk0)∨x=(("there" : Str),Value.int k tk):=by simpa using hx
  rcases hx' with rfl | rfl<;>rfl
 have kp:∀ b o,s.heap.get? b=some o->h1.get? b=some o:=fun b o e=>hsb.extBut b o (Ot (Heap.lt_size e)) (Heap.get?_push_of_some _ e);refine⟨lim.keeps kp,PySem.W.kla_codeExpr ?_⟩;refine wpAny_Compare1 ?_ rfl;refine Subscript_ (wpAny_Name (wpAny_loadName_free (c:=ct) rfl rfl rfl (hc.keeps kp) ?_));refine wpAny_Name (wpAny_loadName_local rfl rfl hns rfl ?_);refine item_listR (hl.at fun o e=>kp _ _ e) k0 k63 hit ?_;refine Subscript_ (wpAny_Name (wpAny_loadName_free (c:=ct) rfl rfl rfl (hc.keeps kp) ?_));refine wpAny_Name (wpAny_loadName_local rfl rfl hns rfl ?_);exact item_listR (hl.at fun o e=>kp _ _ e) k0' k63' hit' (le_int (hQ _ _ kp))
end
def DJ(lq:Str)(H:Hp)(f:Addr)(cs:List Int)(z:Int):Prop:=∃(c' ct ch q:Addr)(pm ctv:Value)(oc oh:Obj)(q0 q1 p1 p2 p3 p4 p5:Pos),H f=some (.frz (Pp "<lambda>" lq (n9 q0 q1) (ltBd p1 p2 p3 p4 p5) ltSc [("height",ch),("costs",ct)] pm c' ctv) (.own f))/\H c'=some (codO c' lq) /\
 H ct=some (.frz oc (.own ct))/\oc.data=.cell (some (.ref q))/\H ch=some (.frz oh (.own ch))/\(∃ tz,oh.data=.cell (some (.int z tz)))/\H q=some (.lst (cs.map V.int))
def DK(lq:Str)(H:Hp)(f:Addr)(cs:List Int):Prop:=∃(c' ct q:Addr)(pm ctv:Value)(oc:Obj)(q0 q1 p1 p2 p3 p4 p5 p6 p7:Pos),H f=some (.frz (Pp "<lambda>" lq (n9 q0 q1) (leBd p1 p2 p3 p4 p5 p6 p7) leSc [("costs",ct)] pm c' ctv) (.own f))/\H c'=some (codO c' lq) /\
 H ct=some (.frz oc (.own ct))/\oc.data=.cell (some (.ref q))/\H q=some (.lst (cs.map V.int))
theorem DJ.mono{lq:Str}{H H':Hp}{f:Addr}{cs:List Int}{z:Int}(h:DJ lq H f cs z)(s:Same H H'):DJ lq H' f cs z:=by
 obtain⟨c',ct,ch,q,pm,ctv,oc,oh,q0,q1,p1,p2,p3,p4,p5,a1,a2,a3,a4,a5,a6,a7⟩:=h;exact⟨c',ct,ch,q,pm,ctv,oc,oh,q0,q1,p1,p2,p3,p4,p5,s _ _ a1,s _ _ a2,s _ _ a3,a4,s _ _ a5,a6,s _ _ a7⟩
theorem DK.mono{lq:Str}{H H':Hp}{f:Addr}{cs:List Int}(h:DK lq H f cs)(s:Same H H'):DK lq H' f cs:=by
 obtain⟨c',ct,q,pm,ctv,oc,q0,q1,p1,p2,p3,p4,p5,p6,p7,a1,a2,a3,a4,a5⟩:=h;exact⟨c',ct,q,pm,ctv,oc,q0,q1,p1,p2,p3,p4,p5,p6,p7,s _ _ a1,s _ _ a2,s _ _ a3,a4,s _ _ a5⟩
def tLetLt(lq:Str)(i:Nat)(t:TA):TE:=fun σ H Q=>∃ f,σ[i]?=some (some (.ref f))/\(∃ cs z,DJ lq H f cs z)/\t σ H fun vs H1=>∃(x:V)(k:Nat)(cs:List Int)(n z:Int),vs = [x,.int (k:Int)]/\DJ lq H1 f cs z/\cs[k]?=some n/\Q (.bl (decide (n<z))) H1
def tLetLe(lq:Str)(i:Nat)(t:TA):TE:=fun σ H Q=>∃ f,σ[i]?=some (some (.ref f))/\(∃ cs,DK lq H f cs)/\t σ H fun vs H1=>∃(k' k:Nat)(cs:List Int)(n n':Int),vs = [.int (k':Int),.int (k:Int)]/\DK lq H1 f cs/\cs[k]?=some n/\cs[k']?=some n'/\Q (.bl (decide (n<=n'))) H1
theorem LO{X:Cx}{E:Value->Shared->Prop}{pins:List (Addr×Obj)}{s:Shared}{σ:St}{H:Hp}{i:Nat}{x:Str}{f:Addr}{pos:Pos}{Q:Value->Shared->Prop}(I:Inv X pins σ H s)(hN:X.N[i]?=some x)(hv:Vis X.env.scope x)(e:σ[i]?=some (some (.ref f)))(h:Q (.ref f) s)
  (hd:(x == ("__debug__" : Str))=false:=by decide) (hcd:(x == ("__classdict__" : Str))=false:=by decide):wpAny (model X.prog X.w) X.A (eval (.Name x pos) X.env) Q E s:=by
 obtain⟨m,hn,hl⟩:=I.loc;obtain⟨u,r,l⟩:=hl i x _ hN e hv
 cases r
 rcases l with⟨hk,hm⟩ | ⟨hk,c,hc,hcell⟩
 ·exact wpAny_Name (wpAny_loadName_local I.ok.kind hk hn hm h) hd
 ·rcases hk with hk | hk
  ·exact wpAny_Name (wpAny_loadName_cell I.ok.kind hk hc hcell h) hd
  ·exact wpAny_Name (wpAny_loadName_free I.ok.kind hk hc hcell h hcd) hd
theorem Ig{P:Program}{w:World}{H:Hp}{h:Heap}{q:Addr}{cs:List Int}(hok:HOk P w H h)(e:H q=some (.lst (cs.map V.int))):∃ its:Array Value,h.IsList q its/\cs.length<=sizeLine/\∀(k:Nat)(n:Int),cs[k]?=some n->∃ t,its[k]?=some (.int n t):=by
 obtain⟨hz,its,ncap,rv,hgl⟩:=hok q _ e;refine⟨its.toArray,⟨_,hgl,rfl,_,rfl⟩,by rw[NR]at hz;exact hz,fun k n hk=>?_⟩
 obtain⟨wv,hwv,rwv⟩:=rv.get (show(cs.map V.int)[k]?=some (.int n) by rw[NZ,hk];rfl)
 obtain⟨tn,rfl⟩:=rwv;exact⟨tn,by simpa using hwv⟩
theorem JR{X:Cx}{lq x:Str}{i:Nat}{np pos:Pos}{e:Expr}{es:List Expr}{t:TA}(hN:X.N[i]?=some x)(hv:Vis X.env.scope x)(hr:Room 0 X.A)(ha:PA X (e::es) t)
  (hd:(x == ("__debug__" : Str))=false:=by decide) (hcd:(x == ("__classdict__" : Str))=false:=by decide) (he:starEach (e::es) X.env=(false,eval e X.env)::starEach es X.env:=by rfl) (hpl:(backTo pos (starEach es X.env)).any (·.1)=false:=by rfl) :
  PE X (.Call (.Name x np) (e::es) [] pos) (tLetLt lq i t):=by
 intro pins s σ H Q I h;obtain⟨f,hf,⟨cs0,z0,hl0⟩,h⟩:=h;refine wpAny_Call_Name_kw (LO I hN hv hf ?_ hd hcd);have fnat:∀{H2:Hp}{s2:Shared}{cs:List Int}{z:Int},Inv X pins σ H2 s2->DJ lq H2 f cs z->PySem.W.FnAt f s2.heap:=fun I2 ⟨_,_,_,_,_,_,_,_,_,_,_,_,_,_,_,a1,_⟩=>by
  obtain⟨g,_⟩:=I2.hok f _ a1;exact⟨_,_,_,_,g⟩
 refine PySem.W.callWith_F (fnat I hl0) (thn (ha pos pins s σ H _ I h) fun us s1 ⟨vs,H1,I1,r,q⟩=>?_) he hpl;obtain⟨xv,k,cs,n,z,rfl,hl,hn,q⟩:=q;refine⟨fnat I1 hl,?_⟩;obtain⟨c',ct,ch,qq,pm,ctv,oc,oh,q0,q1,p1,p2,p3,p4,p5,a1,a2,a3,a4,a5,⟨tz,a6⟩,a7⟩:=hl
 cases r with
 |cons r0 r =>
  cases r with
  |cons r1 r =>
   cases r
   obtain⟨tk,rfl⟩:=r1;obtain⟨g1,_⟩:=I1.hok f _ a1;obtain⟨g2,_,_⟩:=(show bN X.prog X.w H1 s1.heap c' (codO c' lq) from I1.hok c' _ a2);obtain⟨g3,_⟩:=I1.hok ct _ a3;obtain⟨g4,_⟩:=I1.hok ch _ a5;obtain⟨its,w1,w2,w3⟩:=Ig I1.hok a7;obtain⟨tn,hit⟩:=w3 k n hn;have kl:k<cs.length:=(NP.mp hn).1;have l63:=rN;refine lt_run (f:=f) (c':=c') (t:=qq) ?_ g1 g2 I1.nolimit ⟨oc,g3,a4⟩ ⟨oh,g4,a6⟩ w1 (by omega) (by omega) (by rw[Ob];exact hit) fun h' tk' kk=>⟨.bl (decide (n<z)),H1,I1.kept kk,rfl,q⟩
   have:=hr.dp;show X.A.depth<recursionLimit;omega
theorem JS{X:Cx}{lq x:Str}{i:Nat}{np pos:Pos}{e:Expr}{es:List Expr}{t:TA}(hN:X.N[i]?=some x)(hv:Vis X.env.scope x)(hr:Room 0 X.A)(ha:PA X (e::es) t)
  (hd:(x == ("__debug__" : Str))=false:=by decide) (hcd:(x == ("__classdict__" : Str))=false:=by decide) (he:starEach (e::es) X.env=(false,eval e X.env)::starEach es X.env:=by rfl) (hpl:(backTo pos (starEach es X.env)).any (·.1)=false:=by rfl) :
  PE X (.Call (.Name x np) (e::es) [] pos) (tLetLe lq i t):=by
 intro pins s σ H Q I h;obtain⟨f,hf,⟨cs0,hl0⟩,h⟩:=h;refine wpAny_Call_Name_kw (LO I hN hv hf ?_ hd hcd);have fnat:∀{H2:Hp}{s2:Shared}{cs:List Int},Inv X pins σ H2 s2->DK lq H2 f cs->PySem.W.FnAt f s2.heap:=fun I2 ⟨_,_,_,_,_,_,_,_,_,_,_,_,_,_,_,a1,_⟩=>by
  obtain⟨g,_⟩:=I2.hok f _ a1;exact⟨_,_,_,_,g⟩
 refine PySem.W.callWith_F (fnat I hl0) (thn (ha pos pins s σ H _ I h) fun us s1 ⟨vs,H1,I1,r,q⟩=>?_) he hpl;obtain⟨k',k,cs,n,n',rfl,hl,hn,hn',q⟩:=q;refine⟨fnat I1 hl,?_⟩;obtain⟨c',ct,qq,pm,ctv,oc,q0,q1,p1,p2,p3,p4,p5,p6,p7,a1,a2,a3,a4,a5⟩:=hl
 cases r with
 |cons r0 r =>
  cases r with
  |cons r1 r =>
   cases r
   obtain⟨tk0,rfl⟩:=r0;obtain⟨tk,rfl⟩:=r1;obtain⟨g1,_⟩:=I1.hok f _ a1;obtain⟨g2,_,_⟩:=(show bN X.prog X.w H1 s1.heap c' (codO c' lq) from I1.hok c' _ a2);obtain⟨g3,_⟩:=I1.hok ct _ a3;obtain⟨its,w1,w2,w3⟩:=Ig I1.hok a5;obtain⟨tn,hit⟩:=w3 k n hn;obtain⟨tn',hit'⟩:=w3 k' n' hn';have kl:k<cs.length:=(NP.mp hn).1;have kl':k'<cs.length:=(NP.mp hn').1;have l63:=rN;refine le_run (f:=f) (c':=c') (t:=qq) ?_ g1 g2 I1.nolimit ⟨oc,g3,a4⟩ w1 (by omega) (by omega) (by rw[Ob];exact hit) (by omega) (by omega) (by rw[Ob];exact hit') fun h' tk' kk=>⟨.bl (decide (n<=n')),H1,I1.kept kk,rfl,q⟩
   have:=hr.dp;show X.A.depth<recursionLimit;omega
end L2
namespace L2
open PySem PySem.Spec PyProof.Rows
theorem Lk{xs:Array Nat}{j:Nat}(hs:xs.toList.Pairwise (· < ·)):∀(fuel lo hi:Nat),hi-lo<=fuel->lo<=hi->hi<=xs.size->(∀ i,i<lo->xs.getD i j<j)->(∀ i,hi<=i->i<xs.size->j<=xs.getD i j) ->
  (∀ i,i<SetTable.below.go xs j fuel lo hi->xs.getD i j<j)/\(∀ i,SetTable.below.go xs j fuel lo hi<=i->i<xs.size->j<=xs.getD i j)/\SetTable.below.go xs j fuel lo hi<=xs.size:=by
 have up:∀ a b,a<b->b<xs.size->xs.getD a j<xs.getD b j:=fun a b hab hb=>by
  have ha:a<xs.size:=Qe hab hb;have:=O9.mp hs a b (by simpa using ha) (by simpa using hb) hab
  simpa[Rk,ha,hb] using this
 intro fuel;induction fuel with
 |zero =>
  intro lo hi h1 h2 h3 h4 h5;have:lo=hi:=by omega
  subst this;exact⟨h4,h5,h3⟩
 |succ fuel ih =>
  intro lo hi h1 h2 h3 h4 h5;unfold SetTable.below.go;by_cases c:lo<hi
  ·rw[if_pos c];have m1:lo<=(lo+hi)/2:=by omega
   have m2:(lo+hi)/2<hi:=by omega
   dsimp only;by_cases d:xs.getD ((lo+hi)/2) j<j
   ·rw[if_pos d];refine ih _ _ (by omega) (by omega) h3 (fun i hi'=>?_) h5
    by_cases e:i=(lo+hi)/2
    ·rw[e];exact d
    ·exact Qe (up i _ (by omega) (by omega)) d
   ·rw[if_neg d];refine ih _ _ (by omega) (by omega) (by omega) h4 fun i hi' hl=>?_
    by_cases e:i=(lo+hi)/2
    ·rw[e];omega
    ·have:=up _ i (show(lo+hi)/2<i by omega) hl
     omega
  ·rw[if_neg c];have:lo=hi:=by omega
   subst this;exact⟨h4,h5,h3⟩
theorem EC{xs:Array Nat}(hs:xs.toList.Pairwise (· < ·))(j:Nat):(∀ i,i<SetTable.below xs j->xs.getD i j<j)/\(∀ i,SetTable.below xs j<=i->i<xs.size->j<=xs.getD i j)/\SetTable.below xs j<=xs.size :=
 Lk hs xs.size 0 xs.size (by omega) (O5 _) (NY _) (fun i h=>absurd h (P5 _)) fun i h1 h2=>absurd h2 (by omega)
def SetT(t:SetTable):Prop:=t.place.toList.Pairwise (· < ·)/\t.dummies=#[]
theorem SetT.fresh(a b:Nat)(led:Bool):SetT (.fresh a b led):=⟨Q4,rfl⟩
theorem SetT.standIn(t:SetTable)(n:Nat):SetT (t.standIn n):=⟨by
 show(Array.range n).toList.Pairwise (· < ·);rw[Array.toList_range]
 exact List.pairwise_lt_range,rfl⟩
theorem Ip(j:Nat):SetTable.has #[] j=false:=by
 unfold SetTable.has;simp
theorem SetT.put{t:SetTable}(h:SetT t){j:Nat}(hj:t.slot j=.empty):SetT (t.put j).1:=by
 obtain⟨hs,hd⟩:=h;obtain⟨b1,b2,b3⟩:=EC hs j;have ne:t.place[SetTable.below t.place j]?≠some j:=fun z=>by
  unfold SetTable.slot at hj;dsimp only at hj;rw[z]at hj;simp at hj
 refine⟨?_,?_⟩
 ·show(SetTable.insertAt t.place (SetTable.below t.place j) j).toList.Pairwise (· < ·);rw[SetTable.toList_insertAt];have lt1:∀ a∈t.place.toList.take (SetTable.below t.place j),a<j:=fun a ha=>by
   obtain⟨i,hi⟩:=OS.mp ha;have il:i<SetTable.below t.place j:=by
    have:=(NP.mp hi).1;rw[Ou]at this;omega
   rw[Pd,if_pos il]at hi;have:=b1 i il;rw[Pf]at hi;rw[QT,hi]at this;exact this
  have lt2:∀ b∈t.place.toList.drop (SetTable.below t.place j),j<b:=fun b hb=>by
   obtain⟨i,hi⟩:=OS.mp hb;rw[PV,Pf]at hi;have il:SetTable.below t.place j+i<t.place.size:=by
    obtain⟨z,_⟩:=R6.mp hi;exact z
   have h1:=b2 _ (Nat.le_add_right _ i) il;rw[QT,hi]at h1;have h1':j<=b:=h1;rcases Nat.lt_or_ge j b with z | z
   ·exact z
   ·have e:b=j:=by omega
    subst e;by_cases i0:i=0
    ·subst i0;exact absurd hi ne
    ·have h0:=b2 (SetTable.below t.place b) (NY _) (by omega)
     have:=O9.mp hs (SetTable.below t.place b) (SetTable.below t.place b+i) (by simp;omega) (by simpa using il) (by omega)
     obtain⟨z1,z2⟩:=R6.mp hi;have q1:t.place.getD (SetTable.below t.place b) b=t.place[SetTable.below t.place b]'(by omega):=by rw[QT,Px];rfl
     rw[q1]at h0;simp only[Array.getElem_toList]at this;rw[z2]at this;omega
  refine O8.mpr ⟨hs.sublist (List.take_sublist _ _),QV.mpr ⟨lt2,hs.sublist (List.drop_sublist _ _)⟩,fun a ha b hb=>?_⟩;rcases NU.mp hb with z | z
  ·rw[z];exact lt1 a ha
  ·exact Qe (lt1 a ha) (lt2 b z)
 ·show(if SetTable.has t.dummies j=true then SetTable.eraseAt t.dummies (SetTable.below t.dummies j) else t.dummies)=#[];rw[hd,Ip,if_neg Ox]
theorem JJ{t:SetTable}{f:Nat->Int}{h:Int}(hd:t.dummies=#[]):∀(fuel:Nat)(p:SetTable.Probe),p.dummy=none->∀ j d,SetTable.probe.go t f h fuel p=some (.empty j d)->t.slot j=.empty/\d=none:=by
 intro fuel;have nd:∀ j,t.slot j≠.dummy:=fun j z=>by
  unfold SetTable.slot at z;rw[hd,Ip]at z;simp only[O2,if_false]at z;split at z<;>cases z
 induction fuel with
 |zero=>intro p _ j d e;cases e
 |succ fuel ih =>
  intro p hp j d e;have adv:(t.advance p).dummy=none:=by
   unfold SetTable.advance;split<;>exact hp
  unfold SetTable.probe.go at e;split at e
  ·rename_i hs
   cases e
   exact⟨hs,hp⟩
  ·rename_i hs;exact absurd hs (nd _)
  ·split at e
   ·cases e
   ·exact ih _ adv j d e
theorem SetT.layNew{t:SetTable}(h:SetT t)(es:Array (Int×Value))(hh:Int)(x:Value):SetT (layNew t es hh x).2.1/\(layNew t es hh x).2.1.led=t.led:=by
 unfold PySem.layNew;split
 ·rename_i slot wd e;unfold SetTable.freeSlot at e;split at e
  ·rename_i j dm e2;obtain⟨z1,z2⟩:=JJ h.2 _ _ rfl j dm e2;subst z2;have e3:(j,false)=(slot,wd):=Ov e
   cases e3
   dsimp only;unfold SetTable.orStandIn;split
   ·exact⟨h.put z1,rfl⟩
   ·exact⟨SetT.standIn _ _,rfl⟩
  ·cases e
 ·exact⟨SetT.standIn _ _,rfl⟩
theorem CF(n:Nat)(g:Nat->Option Nat):(((Oz n).filterMap fun j=>(g j).map (j,·)).map (·.1)).Pairwise (· < ·):=by
 have:((Oz n).filterMap fun j=>(g j).map (j,·)).map (·.1)=(Oz n).filter fun j=>(g j).isSome:=by
  induction (Oz n) with
  |nil=>rfl
  |cons a l ih =>
   cases e:g a with
   |none=>simp[e,ih]
   |some b=>simp[e,ih]
 rw[this];exact List.pairwise_lt_range.filter _
theorem SetT.relayAll(t:SetTable)(es:Array (Int×Value))(wanted:Nat):SetT (relayAll t es wanted).2.1/\(relayAll t es wanted).2.1.led=t.led:=by
 unfold PySem.relayAll;split
 ·rename_i t' order e;dsimp only;split
  ·unfold SetTable.relaid SetTable.laid at e
   cases ho:SetTable.layClean (SetTable.sizeAbove wanted-1) (es.map (·.1)) with
   |none=>rw[ho]at e;cases e
   |some owner =>
    rw[ho]at e
    cases e
    refine⟨⟨?_,rfl⟩,rfl⟩;show(List.toArray _).toList.Pairwise (· < ·);rw[List.toList_toArray];exact CF _ _
  ·exact⟨SetT.standIn _ _,rfl⟩
 ·exact⟨SetT.standIn _ _,rfl⟩
theorem sh{us vs:List Value}(p:us.Perm vs):∀{ns:List Int},IntsAre vs ns->∃ ms,IntsAre us ms/\ms.Perm ns:=by
 have go:∀{us vs:List Value},us.Perm vs->∀{ns:List Int},IntsAre us ns->∃ ms,IntsAre vs ms/\ms.Perm ns:=by
  intro us vs p;induction p with
  |nil=>exact fun h=>⟨_,h,.rfl⟩
  |cons x _ ih =>
   intro ns h
   cases h with
   |cons n t h =>
    obtain⟨ms,h1,h2⟩:=ih h;exact⟨n::ms,.cons n t h1,h2.cons n⟩
  |swap x y l =>
   intro ns h
   cases h with
   |cons n t h =>
    cases h with
    |cons n' t' h=>exact⟨n'::n::_,.cons n' t' (.cons n t h),Rv _ _ _⟩
  |trans _ _ ih1 ih2 =>
   intro ns h;obtain⟨ms,h1,h2⟩:=ih1 h;obtain⟨ks,h3,h4⟩:=ih2 h1;exact⟨ks,h3,h4.trans h2⟩
 exact fun{ns} h=>go p.symm h
theorem Ic{vs:List Value}{ns:List Int}(h:IntsAre vs ns)(k:Int)(t:Tok):IntsAre (vs++[.int k t]) (ns++[k]):=by
 induction h with
 |nil=>exact .cons k t .nil
 |cons n t' _ ih=>exact .cons n t' ih
theorem Ej{vs:List Value}{ns:List Int}(h:IntsAre vs ns):(∀ v∈vs,∃ n t,v=.int n t/\n∈ns)/\∀ n∈ns,∃ t,Value.int n t∈vs:=by
 induction h with
 |nil=>exact⟨fun v hv=>(nomatch hv),fun n hn=>(nomatch hn)⟩
 |cons n t _ ih =>
  refine⟨fun v hv=>?_,fun m hm=>?_⟩
  ·rcases NU.mp hv with z | z
   ·exact⟨n,t,z,Og ..⟩
   ·obtain⟨a,b,c,d⟩:=ih.1 v z;exact⟨a,b,c,Oe _ d⟩
  ·rcases NU.mp hm with z | z
   ·subst z;exact⟨t,Og ..⟩
   ·obtain⟨b,c⟩:=ih.2 m z;exact⟨b,Oe _ c⟩
def byT(w:World):Bool:=w.params.followText "set-order"
def SetG(P:Program)(w:World)(h:Heap)(a:Addr)(l:List Int):Prop:=∃ o es ep t,h.get? a=some o/\o.ExactSet/\o.data=.set es ep t/\ElemsOf (intKind P w) es.toList/\(∃ ns,IntsAre (es.toList.map (·.2)) ns/\ns.Perm l)/\l.Nodup/\es.size<scanBound/\t.fits es.size=true/\SetT t/\t.led = !byT w
theorem SetG.keeps{P:Program}{w:World}{h h':Heap}{a:Addr}{l:List Int}(g:SetG P w h a l)(k:∀ o,h.get? a=some o->h'.get? a=some o):SetG P w h' a l:=by
 obtain⟨o,es,ep,t,g1,r⟩:=g;exact⟨o,es,ep,t,k o g1,r⟩
def addN(l:List Int)(k:Int):List Int:=if k∈l then l else l++[k]
theorem DV{P:Program}{w:World}{h:Heap}{a:Addr}{o:Obj}{es es':Array (Int×Value)}{ep:Nat}{t t':SetTable}{l:List Int}(go:h.get? a=some o)(gx:o.ExactSet)(gd:o.data=.set es ep t)(el:ElemsOf (intKind P w) es'.toList)(ia:∃ ns,IntsAre (es'.toList.map (·.2)) ns/\ns.Perm l)(nd:l.Nodup)(sz:es'.size<scanBound)(ft:t'.fits es'.size=true)(tg:SetT t')(ld:t'.led = !byT w) :
  SetG P w (h.update a (Obj.putSet es' t')) a l/\∃ o2,(h.update a (Obj.putSet es' t')).get? a=some o2/\o2.ExactSet/\o2.data=.set es' (ep+1) t':=by
 have hg:=Heap.get?_update_self (Obj.putSet es' t') go (by rw[putSet_of es' t' gd];rfl)
 rw[putSet_of es' t' gd]at hg;exact⟨⟨_,es',ep+1,t',hg,gx,rfl,el,ia,nd,sz,ft,tg,ld⟩,_,hg,gx,rfl⟩
section
variable{prog:Program}{w:World}{A:Around}{E:Value->Shared->Prop}{s:Shared}
theorem putInS{a:Addr}{l:List Int}{k:Int}{tk:Tok}{Q:Bool->Shared->Prop}(g:SetG prog w s.heap a l)(room:l.length+1<scanBound)
  (q:∀(b:Bool)(h':Heap),Heap.SameBut a s.heap h'->SetG prog w h' a (addN l k)->Q b { s with heap:=h' }):wpAny (model prog w) A (setAddHashed a (.int k tk) ((intKind prog w).hash k)) Q E s:=by
 obtain⟨o,es,ep,t,go,gx,gd,el,⟨ns,ia,pm⟩,nd,sz,ft,tg,ld⟩:=id g;have kis:(intKind prog w).is k (.int k tk)=true:=intKind_is _ _ _ _;have len:es.size=l.length:=by
  have h1:∀{vs:List Value}{ns:List Int},IntsAre vs ns->vs.length=ns.length:=fun h=>by
   induction h with
   |nil=>rfl
   |cons _ _ _ ih=>rw[OJ,OJ,ih]
  have:=h1 ia;rw[NR,OI,pm.length_eq]at this;exact this
 have gw:∀(b:Bool){s₁:Shared}{Q':Unit->Shared->Prop},Q' () s₁->wpAny (model prog w) A (match b with | true=>rule "set.scan.the-table-gave-way" | false=>pure ()) Q' E s₁:=fun b=>by
  intro s1 Q' hq
  cases b
  ·exact wpAny_pure hq
  ·exact wpAny_rule hq
 unfold setAddHashed setAddHashedIn;refine wpAny_holding (wpAny_bind (wpAny_setState_of go gd ft ?_));dsimp only;rw[byScan_of (knd:=intKind prog w) rfl sz el];simp only[↓reduceIte];unfold setAddByScan;refine wpAny_bind (wpAny_bind (wpAny_rule (wpAny_bind (wpAny_setScan_of (knd:=intKind prog w) kis go gd ft el ?_))))
 cases fr:List.findIdx? (fun e=>(intKind prog w).is k e.2) es.toList with
 |some j =>
  obtain⟨jl,jp,_⟩:=List.findIdx?_eq_some_iff_getElem.mp fr;have kin:k∈l:=by
   obtain⟨n,t',e1,e2⟩:=(Ej ia).1 _ (List.mem_map_of_mem (f:=(·.2)) (Pj jl));have e3:(es.toList[j]).2=.int n t':=e1;rw[e3]at jp;have:k=n:=(intKind prog w).inj _ k n jp (intKind_is _ _ _ _);rw[this];exact pm.mem_iff.mp e2
  refine wpAny_pure (wpAny_pure ?_);have e:addN l k=l:=if_pos kin;have:=q false s.heap (Heap.SameBut.refl a s.heap) (by rw[e];exact g)
  exact this
 |none =>
  have kout:k∉l:=fun z=>by
   obtain⟨t',m⟩:=(Ej ia).2 k (pm.mem_iff.mpr z);obtain⟨e,he,e2⟩:=OL.mp m;have:=List.findIdx?_eq_none_iff.mp fr e he;rw[e2,intKind_is]at this
   cases this
  have ea:addN l k=l++[k]:=if_neg kout;have nd1:(l++[k]).Nodup:=Oh.mpr ⟨nd,Oa.mpr ⟨O4,PQ⟩,fun a ha b hb e=>kout (by rw[Ol.mp hb]at e;exact e▸ha)⟩
  have hp:=layNew_perm t es ((intKind prog w).hash k) (.int k tk);have hf:=layNew_fits t es ((intKind prog w).hash k) (.int k tk);obtain⟨ht,hl⟩:=tg.layNew es ((intKind prog w).hash k) (.int k tk);dsimp only;generalize layNew t es ((intKind prog w).hash k) (.int k tk)=N at hp hf ht hl ⊢;obtain⟨es1,t1,wd,gv⟩:=N;dsimp only at hp hf ht hl ⊢;rw[P4]at hp;have el1:ElemsOf (intKind prog w) es1.toList:=(el.push kis rfl).perm hp;have ia1:∃ ms,IntsAre (es1.toList.map (·.2)) ms/\ms.Perm (l++[k]):=by
   have p2:=hp.map (·.2);rw[Oo]at p2;obtain⟨ms,h1,h2⟩:=sh p2 (Ic ia k tk);exact⟨ms,h1,h2.trans (pm.append_right _)⟩
  have sz1:es1.size<scanBound:=by rw[← OI,hp.length_eq,NT,OI,len];exact room
  have ld1:t1.led = !byT w:=hl.trans ld;refine wpAny_bind (gw _ ?_)
  have tail:∀ t2:SetTable,t2.fits es1.size=true->SetT t2->t2.led = !byT w->wpAny (model prog w) A (do
    storeSet a es1 t2
    if(!wd&&t2.tooFull)=true then do
      (match(relayAll t2 es1 (SetTable.grown es1.size)).2.2 with | true=>rule "set.scan.the-table-gave-way" | false=>pure ())
      storeSet a (relayAll t2 es1 (SetTable.grown es1.size)).1 (relayAll t2 es1 (SetTable.grown es1.size)).2.1
      pure (some true)
     else pure (some true)) (fun r s'=>∃ b:Bool,r=some b/\Q b s') E s:=by
   intro t2 f2 g2 l2;obtain⟨G1,o2,go2,gx2,gd2⟩:=DV (P:=prog) (w:=w) go gx gd el1 ia1 nd1 sz1 f2 g2 l2;have sb1:=Heap.SameBut.update s.heap a (Obj.putSet es1 t2);refine wpAny_bind (wpAny_storeSet_of go gd ?_ (fits_of_scanBound sz1));split
   ·have hp2:=relayAll_perm t2 es1 (SetTable.grown es1.size)
    have hf2:=relayAll_fits t2 es1 (SetTable.grown es1.size);obtain⟨ht2,hl2⟩:=SetT.relayAll t2 es1 (SetTable.grown es1.size);generalize relayAll t2 es1 (SetTable.grown es1.size)=N2 at hp2 hf2 ht2 hl2 ⊢;obtain⟨es2,t3,gv2⟩:=N2;dsimp only at hp2 hf2 ht2 hl2 ⊢;have ia2:∃ ms,IntsAre (es2.toList.map (·.2)) ms/\ms.Perm (l++[k]):=by
     obtain⟨m1,h1,h2⟩:=ia1;obtain⟨ms,h3,h4⟩:=sh (hp2.map (·.2)) h1;exact⟨ms,h3,h4.trans h2⟩
    have sz2:es2.size<scanBound:=by rw[← OI,hp2.length_eq,OI];exact sz1
    refine wpAny_bind (gw _ (wpAny_bind (wpAny_storeSet_of go2 gd2 ?_ (fits_of_scanBound sz2))));obtain⟨G2,_⟩:=DV (P:=prog) (w:=w) go2 gx2 gd2 (el1.perm hp2) ia2 nd1 sz2 hf2 ht2 (hl2.trans l2);refine wpAny_pure ⟨true,rfl,?_⟩;exact q true _ (sb1.trans (Heap.SameBut.update _ a _)) (by rw[ea];exact G2)
   ·refine wpAny_pure ⟨true,rfl,?_⟩;exact q true _ sb1 (by rw[ea];exact G1)
  have all:=tail t1 hf ht ld1
  have step:∀(r:Option Bool)(s':Shared),(∃ b:Bool,r=some b/\Q b s')->wpAny (model prog w) A (match r with
    |some added=>pure added
    |none=>setAddHashedIn a (Value.int k tk) ((intKind prog w).hash k) 99999) Q E s':=fun r s' ⟨b,e,z⟩=>by
   subst e;exact wpAny_pure z
  split
  ·refine wpAny_bind ?_;rw[hashByValue_scannable 8 (x:=Value.int k tk) rfl];refine wpAny_pure ?_;exact wpAny_mono all step fun _ _ z=>z
  ·refine wpAny_bind (wpAny_pure ?_);exact wpAny_mono all step fun _ _ z=>z
theorem Lu(l:List Int)(k:Int):(addN l k).length<=l.length+1:=by
 unfold addN;split
 ·omega
 ·rw[NT];exact NY _
theorem Jm{I S:Addr}{fp wr:List Addr}{n:Nat}{P:Nat->Value->Prop}{St:Nat->Heap->Prop}{R:Result->Shared->Prop}(W:Walks prog w A.in1 I fp wr n P St)(hS:S∉fp)(ns:List Int)(nl:ns.length=n)(hv:∀ i v,P i v->∃ t,v=.int (ns.getD i 0) t)(hb:n+1<scanBound) :
  ∀(r i:Nat)(h:Heap)(tk:Nat)(l:List Int),n-i=r->i<=n->St i h->SetG prog w h S l->l.length<=i ->
   (∀ h' tk',(∀ b o,b≠S->b∉wr->h.get? b=some o->h'.get? b=some o)->SetG prog w h' S ((ns.drop i).foldl addN l)->R (.ok (.ret .none)) { s with heap:=h',toks:=tk' }) ->
   codeAny (model prog w) A (.builtin "set.update.loop" ⟨[.ref S,.ref I],[]⟩) R { s with heap:=h,toks:=tk }:=by
 have hSw:S∉wr:=fun z=>hS (W.sub _ z);intro r;induction r with
 |zero =>
  intro i h tk l er hi st g ll fin;have ei:i=n:=by omega
  subst ei;refine codeAny_builtin PyProof.Rows.F.entry_set_update_loop ?_;rw[Around.under_plainId PyProof.Rows.F.plain_set_update_loop _];show wpAny _ A.in1 (pyNext (.ref I) >>= _) _ _ _;refine wpAny_bind (W.done _ _ _ st fun h' tk' kk=>?_);show wpAny _ A.in1 (ret Value.none) _ _ _;refine wpAny_pure (fin h' tk' (fun b o _ hw e=>kk b o hw e) ?_);rw[List.drop_of_length_le (by omega)]
  exact g.keeps fun o e=>kk _ _ hSw e
 |succ r ih =>
  intro i h tk l er hi st g ll fin;have il:i<n:=by omega
  refine codeAny_builtin PyProof.Rows.F.entry_set_update_loop ?_;rw[Around.under_plainId PyProof.Rows.F.plain_set_update_loop _];show wpAny _ A.in1 (pyNext (.ref I) >>= _) _ _ _;refine wpAny_bind (W.item i _ _ _ il st fun v h1 tk1 pv st1 k1=>?_);obtain⟨t,rfl⟩:=hv i v pv;have g1:=g.keeps fun o e=>k1 _ _ hSw e;show wpAny _ A.in1 (holding [Value.int (ns.getD i 0) t] (setAdd S (.int (ns.getD i 0) t)) >>= _) _ _ _;refine wpAny_bind (wpAny_holding ?_);unfold setAdd;refine wpAny_holding (wpAny_bind ((intKind prog w).pyHash (k:=ns.getD i 0) (intKind_is _ _ _ _) ?_));refine putInS (l:=l) g1 (by omega) fun b h2 sb g2=>?_
  have k2:∀ b o,b≠S->h1.get? b=some o->h2.get? b=some o:=fun b o n e=>(sb.2 b n).trans e;have dr:ns.drop i=ns.getD i 0::ns.drop (i+1):=by
   rw[Pw (by omega),OB,NQ (by omega)]
   rfl
  refine wpAny_pure ⟨plainId_quiet PyProof.Rows.F.plain_set_update_loop _,ih (i+1) _ _ (addN l (ns.getD i 0)) (by omega) il (W.frame _ _ _ st1 fun b hb o e=>k2 b o (fun z=>hS (z▸hb)) e) g2 (by have:=Lu l (ns.getD i 0);omega) fun h' tk' kk gg=>?_⟩
  refine fin h' tk' (fun b o n hw e=>kk b o n hw (k2 b o n (k1 b o hw e))) ?_;rw[dr,RZ];exact gg
theorem B3(a:Value){Q₁:Value->Shared->Prop}
  (h:Q₁ (.ref s.heap.objs.size) { s with heap:=s.heap.push { cls:=.type "set",dict:=none,data:=.set #[] 0 (.fresh 0 0 (!byT w)) } }) :
  codeAny (model prog w) A (.call (.builtin "set.__new__") ⟨[.type "set",a],[]⟩) (wants Q₁ E) s:=by
 refine codeAny_of_tree ?_;show wpAny _ A.in1 (do checkBuiltinCall "set.__new__" ⟨[.type "set",a],[]⟩;again (.builtin "set.__new__" ⟨[.type "set",a],[]⟩)) _ _ s
 refine wpAny_bind (wpAny_of_eq (PySem.F.newCall_set_1 a) (wpAny_pure ⟨plainId_quiet PySem.F.plain_set_new _,codeAny_builtin PySem.F.entry_set_new ?_⟩));rw[Around.under_plainId PySem.F.plain_set_new _];unfold Builtin.«set.__new__» Builtin.Frozenset.newClass;have hsub:=PySem.sub_set_self;obtain⟨hp,gg,dd,tk,os⟩:=s;dsimp only;wp_walk;refine wpAny_askSetting (wpAny_pure ?_);dsimp only;simp only[newObj];exact wpAny_bind (wpAny_alloc (wpAny_pure (wpAny_pure h)))
theorem fV:∀{vs:List Value}{ns:List Int},IntsAre vs ns->vs.length=ns.length/\∀(i:Nat)(v:Value),vs[i]?=some v->∃ t,v=.int (ns.getD i 0) t
 |_,_,.nil=>⟨rfl,fun i v e=>by simp at e⟩
 |_,_,.cons n t r=>by
  obtain⟨h1,h2⟩:=fV r;refine⟨by rw[OJ,OJ,h1],fun i v e=>?_⟩
  match i,e with
  |0,e=>cases e;exact⟨t,rfl⟩
  |i+1,e=>exact h2 i v e
abbrev newO(w:World):Obj:={ cls:=.type "set",dict:=none,data:=.set #[] 0 (.fresh 0 0 (!byT w)) }
theorem newG{P:Program}{h:Heap}{a:Addr}(e:h.get? a=some (newO w)):SetG P w h a [] :=
 ⟨_,#[],0,_,e,⟨rfl,rfl,rfl⟩,rfl,fun x hx=>by simp at hx,⟨[],.nil,.rfl⟩,PQ,by decide,rfl,SetT.fresh _ _ _,rfl⟩
theorem Bn{lst:Addr}{its:Array Value}{ns:List Int}{Q:Value->Shared->Prop}(hh:A.handled=none)(hl:s.heap.IsList lst its)(ia:IntsAre its.toList ns)(hb:its.size+1<scanBound)
  (q:∀(h':Heap)(tk:Nat),SetG prog w h' s.heap.objs.size (ns.foldl addN [])->(∀ b o,s.heap.get? b=some o->h'.get? b=some o)->Q (.ref s.heap.objs.size) { s with heap:=h',toks:=tk }) :
  wpAny (model prog w) A (call (.type "set") [.ref lst]) Q E s:=by
 obtain⟨cc,tl,hmro⟩:=PySem.F.called_set.mro;have hmade:=PySem.F.called_set.made;have hsub:=PySem.F.called_set.sub;obtain⟨il,iv⟩:=fV ia;have nlen:ns.length=its.size:=by rw[← il,OI]
 refine wpAny_call (codeAny_of_tree ?_);show wpAny _ _ (callAny (.type "set") _) _ _ _;refine wpAny_pure ⟨Code.quiet_builtin _ (by decide),codeAny_builtin PySem.F.entry_type_call ?_⟩
 rw[Around.under_plain (weight_type_call_type "set" [.ref lst] []) rfl];have f1:=PySem.F.called_set.notType;have f2:=PySem.F.called_set.canCreate;have f3:=PySem.F.typeCall_set_1 (.ref lst);repeat (any_goals (first | assumption | wp_step))
 refine codeAny_mono (B3 (.ref lst) (E:=E) (Q₁:=fun obj s₁=>obj=.ref s.heap.objs.size/\s₁={ s with heap:=s.heap.push (newO w) }) ⟨rfl,rfl⟩) fun r s₁ hr=>?_
 cases r with
 |error e=>exact hr
 |ok fl =>
  cases fl with
  |next=>exact hr.elim
  |brk=>exact hr.elim
  |cont=>exact hr.elim
  |ret obj =>
   obtain⟨rfl,rfl⟩:=hr;have gS:(s.heap.push (newO w)).get? s.heap.objs.size=some (newO w):=Heap.get?_push_size _ rfl;have gT:Shared.TypeIs { s with heap:=s.heap.push (newO w) } (.ref s.heap.objs.size) "set":=⟨_,gS,rfl⟩;have f4:=PySem.F.called_set.init.lookup;have f5:=PySem.F.called_set.init.bind (.ref s.heap.objs.size);repeat (any_goals (first | assumption | wp_step))
   refine codeAny_mono (codeAny_call_builtin (R:=wants (fun r s₂=>r=.none/\∃ h' tk,s₂={ s with heap:=h',toks:=tk }/\SetG prog w h' s.heap.objs.size (ns.foldl addN [])/\∀ b o,s.heap.get? b=some o->h'.get? b=some o) E) PySem.F.called_set.init.plain PySem.F.entry_set_init (check_set_init_1 gT ?_)) fun r₂ s₂ hr₂=>?_
   ·obtain⟨ol,go,gc,nl,gd⟩:=hl;obtain⟨c0,d0,dat,sl⟩:=ol;simp only at gc gd;subst gc;subst gd;have go1:(s.heap.push (newO w)).get? lst=some { cls:=.type "list",dict:=d0,data:=.seq its nl,slots:=sl }:=Heap.get?_push_of_some _ go;have f6:=PySem.F.sub_list_set;have f7:=PySem.F.sub_list_frozenset;have f8:(Value.type "list" == Value.type "dict")=false:=by decide
    have hl1:(s.heap.push (newO w)).IsList lst its:=⟨_,go1,rfl,nl,rfl⟩;unfold Builtin.«set.__init__» noKeywords Builtin.Frozenset.updateFrom;generalize eP:pyIter=PI;wp_walk;subst eP;refine wpAny_pyIter_list hl1 (wpAny_bind (wpAny_runValue ?_));have lS:lst<s.heap.objs.size:=Heap.lt_size go;have nI:lst≠(s.heap.push (newO w)).objs.size:=by rw[Heap.size_push];exact Ot (PD lS)
    have nS:s.heap.objs.size∉[(s.heap.push (newO w)).objs.size,lst]:=by
     rw[Heap.size_push];intro z;rcases NU.mp z with z | z
     ·exact absurd z (Ot (O3 _))
     ·rw[Ol]at z;exact absurd z.symm (Ot lS)
    have hh3:A.in1.in1.in1.handled=none:=by simp[hh]
    refine Jm (s:=s) (Walks.list hh3 _ lst nI its) nS ns nlen (fun i v pv=>iv i v (by rw[Pf];exact pv)) hb its.size 0 _ s.toks [] (by omega) (O5 _) ⟨⟨_,Heap.get?_push_size _ rfl,rfl,rfl⟩,hl1.push _⟩ (newG (Heap.get?_push_of_some _ gS)) (NY _) fun h' tk' kk gg=>?_
    refine wpAny_pure ?_;show wpAny _ _ (ret Value.none) _ _ _;refine wpAny_pure ⟨rfl,h',tk',rfl,gg,fun b o e=>?_⟩;have bl:=Heap.lt_size e;refine kk b o (Ot bl) (fun z=>?_) (Heap.get?_push_of_some _ (Heap.get?_push_of_some _ e));rw[Ol,Heap.size_push]at z;exact absurd z (Ot (PD bl))
   ·cases r₂ with
    |error e=>exact hr₂
    |ok fl₂ =>
     cases fl₂ with
     |next=>exact hr₂.elim
     |brk=>exact hr₂.elim
     |cont=>exact hr₂.elim
     |ret r =>
      obtain⟨rfl,h',tk,rfl,g',k'⟩:=hr₂;repeat (any_goals (first | assumption | wp_step))
      exact q _ _ g' k'
end
theorem bt_set:bootBuiltins "set" = some (.type "set"):=by decide
theorem CI:entryFor table "set.__iter__" = some Builtin.«frozenset.__iter__»:=entryFor_alias (id':="frozenset.__iter__") (by kernel_rfl) rfl (by decide) (by kernel_rfl)
theorem dH:Slot "set_iterator" "__next__" "set_iterator.__next__" :=
 Slot.of (owner:="set_iterator") (n:="__next__") (by rw[typeLookup_type,builtinLookup_eq_fast];kernel_rfl) (by decide) (by decide) (by decide) (by first | exact .inl (by decide) | exact .inr (by decide)) (by rw[isSubtype_type];kernel_rfl)
theorem uN:entryFor table "set_iterator.__next__" = some Builtin.«set_iterator.__next__»:=entryFor_of_tree (by kernel_rfl)
theorem ow_si:Manifest.owners.lookup (String.ofList ['r','o','t','a','r','e','t','i','_','t','e','s'].reverse)=some Manifest.sig_set_iterator:=by kernel_rfl
theorem uZ(a:Value):argsOk "set_iterator.__next__" ⟨[a],[]⟩:=by
 unfold argsOk;rw[signature?_of (id:="set_iterator.__next__") (n:=['_','_','t','x','e','n','_','_']) (o:=['r','o','t','a','r','e','t','i','_','t','e','s']) (by kernel_rfl) ow_si]
 kernel_rfl
theorem uF:Slot "set_iterator" "__iter__" "set_iterator.__iter__" :=
 Slot.of (owner:="set_iterator") (n:="__iter__") (by rw[typeLookup_type,builtinLookup_eq_fast];kernel_rfl) (by decide) (by decide) (by decide) (by first | exact .inl (by decide) | exact .inr (by decide)) (by rw[isSubtype_type];kernel_rfl)
theorem FK:entryFor table "set_iterator.__iter__" = some Builtin.«dict_keyiterator.__iter__»:=entryFor_alias (id':="dict_keyiterator.__iter__") (by kernel_rfl) rfl (by decide) (by kernel_rfl)
theorem F9(a:Value):argsOk "set_iterator.__iter__" ⟨[a],[]⟩:=by
 unfold argsOk;rw[signature?_of (id:="set_iterator.__iter__") (n:=['_','_','r','e','t','i','_','_']) (o:=['r','o','t','a','r','e','t','i','_','t','e','s']) (by kernel_rfl) ow_si]
 kernel_rfl
theorem CH{α:Type}:∀{l:List α}{i:Nat}(h:i<l.length),(l[i]::l.eraseIdx i).Perm l
 |x::l,0,_=>R7 _
 |x::l,i+1,h=>by
  have ih:=CH (l:=l) (i:=i) (by simpa using h)
  show(l[i]'(by simpa using h)::x::l.eraseIdx i).Perm (x::l)
  exact(Rv x _ _).trans (ih.cons x)
theorem Hd{α:Type}(next:Nat->Nat):∀(fuel k:Nat)(left:List α)(out:Array α),left.length=fuel->(pickOrder.go next fuel k left out).toList.Perm (out.toList++left)
 |0,k,left,out,h=>by
  have:left = []:=Qv.mp h;subst this;unfold pickOrder.go;rw[Pa]
 |fuel+1,k,left,out,h=>by
  have hl:next k%left.length<left.length:=Se _ (by omega)
  unfold pickOrder.go;rw[NQ hl];dsimp only;refine(Hd next fuel (k+1) _ _ (by rw[R0 hl];omega)).trans ?_
  rw[P4,ON];refine PF _ ?_;exact CH hl
theorem yO{α:Type}(next:Nat->Nat)(xs:Array α):(pickOrder next xs).toList.Perm xs.toList:=by
 have:=Hd next xs.size 0 xs.toList #[] (by simp)
 simpa[pickOrder] using this
section
variable{prog:Program}{w:World}{A:Around}{E:Value->Shared->Prop}{s:Shared}
theorem F0{src:Source}{n:Nat}{Q:Nat->Shared->Prop}(hn:n≠0)(h:∀ i d,i<n->Q i { s with drawn:=d }):wpAny (model prog w) A (choose src n) Q E s:=fun _ _ _=>⟨hn,h _ _ (Se _ (RC hn))⟩
theorem Ep{α:Type}:∀(n:Nat)(xs:List α)(s:Shared)(Q:List α->Shared->Prop),xs.length=n->(∀ ys d,ys.Perm xs->Q ys { s with drawn:=d })->wpAny (model prog w) A (drawOrder n xs) Q E s
 |0,xs,s,Q,h,q=>by
  have:xs = []:=Qv.mp h;subst this;unfold drawOrder;exact wpAny_pure (q [] s.drawn .rfl)
 |n+1,[],s,Q,h,q=>by cases h
 |n+1,x::xs,s,Q,h,q=>by
  unfold drawOrder;refine wpAny_bind (F0 (by simp) fun i d hi=>?_)
  rw[NQ hi];dsimp only;refine wpAny_bind (Ep n _ _ _ (by rw[R0 hi];simp at h ⊢;omega) fun ys d2 p=>wpAny_pure ?_)
  exact q _ d2 ((p.cons _).trans (CH hi))
end
def slA(t:SetTable)(i:Nat):Nat:=if i=0 then 0 else t.place.getD (i-1) 0+1
def ItAt(P:Program)(w:World)(h:Heap)(I a tp:Addr)(ord:List Int)(i:Nat):Prop:=∃ o es ep t first vs,h.get? a=some o/\o.ExactSet/\o.data=.set es ep t/\t.fits es.size=true/\SetT t/\t.led = !byT w /\
 h.get? I=some { cls:=.type "set_iterator",data:=.fields #[first,rawInt (i:Int),.ref a,rawInt (es.size:Int),rawInt (ep:Int)] }/\IntsAre vs ord/\vs.length=es.size /\
 ((byT w=true/\(∃ z:Nat,first=rawInt (z:Int))/\vs=(pickOrder (w.params.setOrder a ep) es).toList.map (·.2)) ∨
  (byT w=false/\(!t.plain&&decide (es.size > 1))=false/\first=rawInt (slA t i:Int)/\vs=es.toList.map (·.2)) ∨
  (byT w=false/\∃(pl:List Nat)(ot:Obj)(c:Nat),first=.ref tp/\tp≠I/\tp≠a/\h.get? tp=some ot/\ot.data=.seq (pl.map fun p:Nat=>rawInt (p:Int)).toArray c/\pl.length=es.size/\∀(j p:Nat),pl[j]?=some p->∃ x,es[p]?=some x/\vs[j]?=some x.2))
section
variable{prog:Program}{w:World}{A:Around}{E:Value->Shared->Prop}{s:Shared}
theorem zK{es:Array (Int×Value)}{ns l:List Int}(ia:IntsAre (es.toList.map (·.2)) ns)(pm:ns.Perm l){ys:List (Int×Value)}(p:ys.Perm es.toList):∃ ms,IntsAre (ys.map (·.2)) ms/\ms.Perm l:=by
 obtain⟨ms,h1,h2⟩:=sh (p.map (·.2)) ia;exact⟨ms,h1,h2.trans pm⟩
theorem Jz{a:Addr}{l:List Int}{Q:Value->Shared->Prop}(g:SetG prog w s.heap a l)
  (q:∀(I tp:Addr)(h':Heap)(d:_)(ord:List Int),(∀ b o,s.heap.get? b=some o->h'.get? b=some o)->s.heap.objs.size<=I->I<h'.objs.size->s.heap.objs.size<=tp->tp<h'.objs.size->ord.Perm l->ItAt prog w h' I a tp ord 0->Q (.ref I) { s with heap:=h',drawn:=d }) :
  wpAny (model prog w) A (pyIter (.ref a)) Q E s:=by
 obtain⟨o,es,ep,t,go,gx,gd,el,⟨ns,ia,pm⟩,nd,sz,ft,tg,ld⟩:=id g;have gT:s.TypeIs (.ref a) "set":=⟨o,go,gx.1⟩;have al:a<s.heap.objs.size:=Heap.lt_size go;have nlen:=(fV ia).1;have zl:es.size<=sizeLine:=OG (Qe sz (by decide))
 refine wpAny_pyIter_slot gT PySem.F.slot_set_iter (wpAny_call_entry PySem.F.slot_set_iter gT CI ?_ (PySem.F.args_set_iter_1 _));unfold Builtin.«frozenset.__iter__» Builtin.Frozenset.slot0 slotArgs;simp only[RO,Sl,O2,↓reduceIte,bind_assoc,Qb,bne_self_eq_false];unfold Builtin.Frozenset.addrOf Builtin.Frozenset.sizeOf;refine wpAny_bind (wpAny_pure ?_);try dsimp only
 refine wpAny_bind (wpAny_pure (wpAny_bind (wpAny_bind (wpAny_setEntries_of go gd ft (wpAny_pure ?_)))));unfold setDrawn setsByText;refine wpAny_bind (wpAny_bind (wpAny_setState_of go gd ft ?_));dsimp only;refine wpAny_bind (wpAny_bind (wpAny_askSetting (wpAny_pure (wpAny_pure ?_))));have n0:∀ I:Addr,s.heap.objs.size<=I->a≠I:=fun I hI z=>absurd al (by rw[z];exact QF hI)
 split
 ·rename_i cnd;have c':(!byT w&&(!t.plain&&decide (es.size > 1)))=true:=cnd;have bt:byT w=false:=by
   cases y:byT w with
   |false=>rfl
   |true=>rw[y]at c';cases c'
  refine wpAny_bind (Ep es.size (Oz es.size) _ _ OR fun ys d p=>?_);have yl:ys.length=es.size:=by rw[p.length_eq,OR]
  refine wpAny_bind (wpAny_newTuple ?_ (by rw[NR,yl];exact zl))
  unfold setEpoch;have g1:(s.heap.push { cls:=.type "tuple",data:=.seq (ys.map fun i:Nat=>rawInt (i:Int)).toArray }).get? a=some o:=Heap.get?_push_of_some _ go;refine wpAny_bind (wpAny_bind (wpAny_setState_of g1 gd ft (wpAny_pure ?_)));unfold newFields;refine wpAny_bind (wpAny_newObj_type ?_ (by size_fits))
  have em:(Oz es.size).map (fun j=>es.getD j (0,Value.none))=es.toList:=by
   refine List.ext_getElem (by simp) fun j h1 h2=>?_
   have hj:j<es.size:=by simpa using h2
   simp[Rk,hj]
  have pv:(ys.map fun j=>es.getD j (0,Value.none)).Perm es.toList:=by
   rw[← em];exact p.map _
  obtain⟨ms,i1,i2⟩:=zK ia pm pv;refine wpAny_pure ⟨_,rfl,"set_iterator",_,⟨_,Heap.get?_push_size _ rfl,rfl⟩,dH.lookup,?_⟩;refine q _ s.heap.objs.size _ d ms (fun b o e=>Heap.get?_push_of_some _ (Heap.get?_push_of_some _ e)) (by rw[Heap.size_push];exact Ql _) (Heap.lt_size (Heap.get?_push_size _ rfl)) (NY _) (by rw[Heap.size_push,Heap.size_push];exact PD (O3 _)) i2 ?_
  refine⟨o,es,ep,t,_,(ys.map fun j=>es.getD j (0,Value.none)).map (·.2),Heap.get?_push_of_some _ g1,gx,gd,ft,tg,ld,Heap.get?_push_size _ rfl,i1,by rw[NR,NR,yl],.inr (.inr ⟨bt,ys,_,_,rfl,?_,PR al,Heap.get?_push_of_some _ (Heap.get?_push_size _ rfl),rfl,yl,fun j pp hj=>?_⟩)⟩
  ·rw[Heap.size_push];exact Ot (O3 _)
  ·have pl:pp<es.size:=P0.mp (p.mem_iff.mp (NV hj))
   refine⟨es[pp],Px pl,?_⟩;rw[NZ,NZ,hj];show some (es.getD pp (0,Value.none)).2=_;simp[Rk,pl]
 ·rename_i cnd;have c':¬ (!byT w&&(!t.plain&&decide (es.size > 1)))=true:=cnd;refine wpAny_bind (wpAny_pure ?_);unfold setEpoch;refine wpAny_bind (wpAny_bind (wpAny_setState_of go gd ft (wpAny_pure ?_)));unfold newFields;refine wpAny_bind (wpAny_newObj_type ?_ (by size_fits))
  refine wpAny_pure ⟨_,rfl,"set_iterator",_,⟨_,Heap.get?_push_size _ rfl,rfl⟩,dH.lookup,?_⟩
  cases bt:byT w with
  |true =>
   obtain⟨ms,i1,i2⟩:=zK ia pm (yO (w.params.setOrder a ep) es);refine q _ s.heap.objs.size _ s.drawn ms (fun b o e=>Heap.get?_push_of_some _ e) (NY _) (by rw[Heap.size_push];exact O3 _) (NY _) (by rw[Heap.size_push];exact O3 _) i2 ?_
   exact⟨o,es,ep,t,_,_,Heap.get?_push_of_some _ go,gx,gd,ft,tg,ld,Heap.get?_push_size _ rfl,i1,by rw[NR,(yO _ _).length_eq,OI],.inl ⟨bt,⟨0,rfl⟩,rfl⟩⟩
  |false =>
   rw[bt]at c';have c2:(!t.plain&&decide (es.size > 1))=false:=by
    cases y:(!t.plain&&decide (es.size > 1)) with
    |false=>rfl
    |true=>exact absurd (by rw[y];rfl) c'
   refine q _ s.heap.objs.size _ s.drawn ns (fun b o e=>Heap.get?_push_of_some _ e) (NY _) (by rw[Heap.size_push];exact O3 _) (NY _) (by rw[Heap.size_push];exact O3 _) pm ?_
   exact⟨o,es,ep,t,_,_,Heap.get?_push_of_some _ go,gx,gd,ft,tg,ld,Heap.get?_push_size _ rfl,ia,by rw[NR,OI],.inr (.inl ⟨bt,c2,rfl,rfl⟩)⟩
theorem zN{t:SetTable}{n:Nat}(h:t.fits n=true):t.place.size=n:=by
 unfold SetTable.fits at h;rw[QH]at h;exact eq_of_beq h.1
theorem Ap{t:SetTable}(tg:SetT t){i:Nat}(hi:i<=t.place.size):SetTable.below t.place (slA t i)=i:=by
 obtain⟨b1,b2,b3⟩:=EC tg.1 (slA t i);have up:∀ a b,a<b->b<t.place.size->t.place.getD a (slA t i)<t.place.getD b (slA t i):=fun a b hab hb=>by
  have ha:a<t.place.size:=Qe hab hb;have:=O9.mp tg.1 a b (by simpa using ha) (by simpa using hb) hab
  simpa[Rk,ha,hb] using this
 have sl:∀ k,i=k+1->slA t i=t.place.getD k (slA t i)+1:=fun k e=>by
  have hk:k<t.place.size:=by omega
  have e1:slA t i=t.place.getD k 0+1:=by
   unfold slA;rw[if_neg (by omega),e,Nat.add_sub_cancel]
  have e2:t.place.getD k 0=t.place.getD k (slA t i):=by simp[Rk,hk]
  rw[← e2];exact e1
 generalize hb:SetTable.below t.place (slA t i)=b at b1 b2 b3;rcases QZ b i with z | z | z
 ·obtain⟨k,rfl⟩:∃ k,i=k+1:=⟨i-1,by omega⟩
  have h1:=b2 b (NY _) (by omega)
  have h2:=sl k rfl;by_cases e:b=k
  ·subst e;omega
  ·have:=up b k (by omega) (by omega)
   omega
 ·exact z
 ·have h1:=b1 i z
  cases i with
  |zero=>have e:slA t 0=0:=rfl;rw[e]at h1;omega
  |succ k =>
   have h2:=sl k rfl;have:=up k (k+1) (by omega) (by omega)
   omega
theorem DY{I:Addr}{h h1 h2:Heap}(x:Heap.SameBut I h h1)(y:Heap.SameBut I h1 h2):Heap.SameBut I h h2:=⟨y.1.trans x.1,fun b hb=>(y.2 b hb).trans (x.2 b hb)⟩
theorem Nh{I a tp:Addr}{ord:List Int}{i:Nat}{n:Int}{Q:Option Value->Shared->Prop}(h:ItAt prog w s.heap I a tp ord i)(hn:ord[i]?=some n)(aI:a≠I)
  (q:∀(t:Tok)(h':Heap),ItAt prog w h' I a tp ord (i+1)->Heap.SameBut I s.heap h'->Q (some (.int n t)) { s with heap:=h' }):wpAny (model prog w) A (pyNext (.ref I)) Q E s:=by
 obtain⟨o,es,ep,t,first,vs,go,gx,gd,ft,tg,ld,gI,ia,vl,md⟩:=h;have gT:s.TypeIs (.ref I) "set_iterator":=⟨_,gI,rfl⟩;unfold pyNext;refine wpAny_bind (wpAny_attempt (wpAny_callSpecial?_slot (name:=Str.ofString "__next__") gT dH (wpAny_call_entry dH gT uN ?_ (uZ _))));unfold Builtin.«set_iterator.__next__» slotArgs;simp only[RO,Sl,O2,↓reduceIte,bind_assoc,Qb,bne_self_eq_false];refine wpAny_bind (wpAny_pure ?_);try dsimp only
 refine wpAny_bind (wpAny_fieldsOf gI rfl ?_);dsimp only[rawInt];refine wpAny_bind (wpAny_setEntries_of go gd ft ?_);rw[if_neg (by simp)]
 have il:i<ord.length:=(NP.mp hn).1;have ol:=(fV ia).1;have ilv:i<vs.length:=by omega
 obtain⟨tk,hv⟩:∃ tk,vs[i]?=some (.int n tk):=by
  obtain⟨tk,e⟩:=(fV ia).2 i _ (NQ ilv);refine⟨tk,?_⟩;rw[NQ ilv,e,OB,hn];rfl
 have psz:=zN ft;have ci:((i:Int)+1)=((i+1:Nat):Int):=by omega
 rcases md with⟨bt,⟨z,rfl⟩,rfl⟩ | ⟨bt,dr,rfl,rfl⟩ | ⟨bt,pl,ot,c,rfl,tI,ta,gt,gtd,pll,pat⟩
 ·dsimp only[rawInt];unfold setNext setsByText setWalk setsByText;refine wpAny_bind (wpAny_bind (wpAny_setState_of go gd ft ?_));dsimp only;refine wpAny_bind (wpAny_bind (wpAny_askSetting (wpAny_pure ?_)));have bt':w.params.followText "set-order" = true:=bt;rw[show(Setting.params ⟨(model prog w).prog,(model prog w).w.params⟩).followText "set-order" = true from bt',if_pos rfl,if_neg (by simp)]
  refine wpAny_bind (wpAny_bind (wpAny_setState_of go gd ft ?_));dsimp only;refine wpAny_bind (wpAny_bind (wpAny_askSetting (wpAny_pure ?_)));rw[show(Setting.params ⟨(model prog w).prog,(model prog w).w.params⟩).followText "set-order" = true from bt',if_pos rfl];refine wpAny_bind (wpAny_askSetting (wpAny_pure (wpAny_pure ?_)));have hp:(pickOrder (w.params.setOrder a ep) es)[i]?.map (·.2)=some (.int n tk):=by rw[← Pf,← NZ];exact hv
  obtain⟨x,hx,ex⟩:=O0.mp hp;rw[Ob,Ob,show(pickOrder ((Setting.params ⟨(model prog w).prog,(model prog w).w.params⟩).setOrder a ep) es)[i]?=some x from hx];dsimp only[Option.map];refine wpAny_bind (wpAny_setField_rec gI (by simp) fun h1 g1 s1=>?_)
  refine wpAny_bind (wpAny_setField_rec (s:={ s with heap:=h1 }) g1 (by simp) fun h2 g2 s2=>?_)
  have sb:=DY s1 s2;rw[ex];refine wpAny_pure ⟨_,rfl,wpAny_pure (q tk h2 ?_ sb)⟩;refine⟨o,es,ep,t,_,_,(sb.2 a aI).trans go,gx,gd,ft,tg,ld,g2.trans ?_,ia,vl,.inl ⟨bt,⟨z,rfl⟩,rfl⟩⟩;rw[ci];rfl
 ·dsimp only[rawInt];unfold setNext setsByText;refine wpAny_bind (wpAny_bind (wpAny_setState_of go gd ft ?_));dsimp only;refine wpAny_bind (wpAny_bind (wpAny_askSetting (wpAny_pure ?_)));have bt':w.params.followText "set-order" = false:=bt;rw[show(Setting.params ⟨(model prog w).prog,(model prog w).w.params⟩).followText "set-order" = false from bt',if_neg (by simp)]
  refine wpAny_ite_split (fun c=>absurd (show(!t.plain&&decide (es.size > 1))=true from c) (by rw[dr];simp)) fun _=>?_
  have led:t.led=true:=by rw[ld,bt];rfl
  refine wpAny_bind ?_;show wpAny _ _ (if(!t.led&&!es.isEmpty)=true then _ else _) _ _ _;rw[led];refine wpAny_pure (wpAny_pure ?_);rw[Ob,Ap tg (by omega)]
  have ie:i<es.size:=by omega
  have ip:i<t.place.size:=by omega
  have ex:es[i].2=.int n tk:=by
   rw[NZ,Pf,Px ie]at hv;exact Ov hv
  rw[Px ie,Px ip];dsimp only;refine wpAny_bind (wpAny_setField_rec gI (by simp) fun h1 g1 s1=>?_)
  refine wpAny_bind (wpAny_setField_rec (s:={ s with heap:=h1 }) g1 (by simp) fun h2 g2 s2=>?_)
  have sb:=DY s1 s2;rw[ex];refine wpAny_pure ⟨_,rfl,wpAny_pure (q tk h2 ?_ sb)⟩;refine⟨o,es,ep,t,_,_,(sb.2 a aI).trans go,gx,gd,ft,tg,ld,g2.trans ?_,ia,vl,.inr (.inl ⟨bt,dr,rfl,rfl⟩)⟩;have es:slA t (i+1)=t.place[i]+1:=by
   unfold slA;rw[if_neg (by omega),Nat.add_sub_cancel]
   simp[Rk,ip]
  rw[ci,es];rfl
 ·dsimp only[rawInt];refine wpAny_bind (wpAny_seqItems gt gtd ?_);dsimp only;have ip:i<pl.length:=by omega
  obtain⟨x,hx,hxv⟩:=pat i _ (NQ ip);have ex:x.2=.int n tk:=Ov (hxv.symm.trans hv);rw[Ob,List.getElem?_toArray,NZ,NQ ip];dsimp only[Option.map,rawInt];unfold setNextDrawn;refine wpAny_bind (wpAny_bind (wpAny_setState_of go gd ft ?_));dsimp only;rw[Ob,Ob,if_neg (by simp),hx]
  refine wpAny_pure ?_;refine wpAny_bind (wpAny_setField_rec gI (by simp) fun h1 g1 s1=>?_)
  rw[ex];refine wpAny_pure ⟨_,rfl,wpAny_pure (q tk h1 ?_ s1)⟩;refine⟨o,es,ep,t,_,vs,(s1.2 a aI).trans go,gx,gd,ft,tg,ld,g1.trans ?_,ia,vl,.inr (.inr ⟨bt,pl,ot,c,rfl,tI,ta,(s1.2 tp tI).trans gt,gtd,pll,pat⟩)⟩;rw[ci];rfl
theorem A0{I:Addr}{k:Nat}{Q:Option Value->Shared->Prop}{vs:Array Value}(hh:A.handled=none) (gI:s.heap.get? I=some { cls:=.type "set_iterator",data:=.fields vs }) (hk:k<vs.size)
  (q:∀(h':Heap),Heap.ExtBut I s.heap h'->Q none { s with heap:=h' }) :
  wpAny (model prog w) A.in1 (setField (.ref I) k .none >>= fun _=>newExc (.type "StopIteration") [] >>= fun e=>raiseNew e) (fun(fin:Fin) s'=>∃ v,fin=Fin.done (Flow.ret v)/\wpAny (model prog w) A (pure (some v)) Q E s')
  (fun e s'=>wpAny (model prog w) A (do if ← isInstance e (.type "StopIteration") then pure none else throw e) Q E s') s:=by
 refine wpAny_bind (wpAny_setField gI rfl hk ?_);refine wpAny_bind ?_;simp only[newExc,newTuple];refine wpAny_bind (wpAny_newObj_type ?_ (by size_fits))
 refine wpAny_bind (m:=firstArgMember _ _) (wpAny_of_eq (a:=Value.none) (by first | rfl | (simp only[firstArgMember];rfl)) ?_)
 refine wpAny_newObj_type ?_ (by size_fits)
 simp only[raiseNew];refine wpAny_bind (wpAny_handled ?_);rw[show A.in1.handled=none from hh];refine wpAny_bind (wpAny_pure (wpAny_throw ?_));refine wpAny_bind (wpAny_isInstance (T:="StopIteration") (b:=true) ⟨_,Heap.get?_push_size _ rfl,rfl⟩ isSubtype_stop ?_);exact wpAny_pure (q _ (((Heap.SameBut.update ..).extBut.push _).push _))
theorem Ni{I a tp:Addr}{ord:List Int}{i:Nat}{Q:Option Value->Shared->Prop}(hh:A.handled=none)(h:ItAt prog w s.heap I a tp ord i)(hn:i=ord.length)(aI:a≠I)
  (q:∀(h':Heap),Heap.ExtBut I s.heap h'->Q none { s with heap:=h' }):wpAny (model prog w) A (pyNext (.ref I)) Q E s:=by
 obtain⟨o,es,ep,t,first,vs,go,gx,gd,ft,tg,ld,gI,ia,vl,md⟩:=h;have gT:s.TypeIs (.ref I) "set_iterator":=⟨_,gI,rfl⟩;unfold pyNext;refine wpAny_bind (wpAny_attempt (wpAny_callSpecial?_slot (name:=Str.ofString "__next__") gT dH (wpAny_call_entry dH gT uN ?_ (uZ _))));unfold Builtin.«set_iterator.__next__» slotArgs;simp only[RO,Sl,O2,↓reduceIte,bind_assoc,Qb,bne_self_eq_false];refine wpAny_bind (wpAny_pure ?_);try dsimp only
 refine wpAny_bind (wpAny_fieldsOf gI rfl ?_);dsimp only[rawInt];refine wpAny_bind (wpAny_setEntries_of go gd ft ?_);rw[if_neg (by simp)]
 have ol:=(fV ia).1;have ilv:i=vs.length:=by omega
 have psz:=zN ft;rcases md with⟨bt,⟨z,rfl⟩,rfl⟩ | ⟨bt,dr,rfl,rfl⟩ | ⟨bt,pl,ot,c,rfl,tI,ta,gt,gtd,pll,pat⟩
 ·dsimp only[rawInt];unfold setNext setsByText setWalk setsByText;refine wpAny_bind (wpAny_bind (wpAny_setState_of go gd ft ?_));dsimp only;refine wpAny_bind (wpAny_bind (wpAny_askSetting (wpAny_pure ?_)));have bt':w.params.followText "set-order" = true:=bt;rw[show(Setting.params ⟨(model prog w).prog,(model prog w).w.params⟩).followText "set-order" = true from bt',if_pos rfl,if_neg (by simp)]
  refine wpAny_bind (wpAny_bind (wpAny_setState_of go gd ft ?_));dsimp only;refine wpAny_bind (wpAny_bind (wpAny_askSetting (wpAny_pure ?_)));rw[show(Setting.params ⟨(model prog w).prog,(model prog w).w.params⟩).followText "set-order" = true from bt',if_pos rfl];refine wpAny_bind (wpAny_askSetting (wpAny_pure (wpAny_pure ?_)));have hx:(pickOrder (w.params.setOrder a ep) es)[i]?=none:=by
   rw[Q9];rw[ilv,NR,OI];exact NY _
  rw[Ob,Ob,show(pickOrder ((Setting.params ⟨(model prog w).prog,(model prog w).w.params⟩).setOrder a ep) es)[i]?=none from hx];exact A0 hh gI (by simp) q
 ·dsimp only[rawInt];unfold setNext setsByText;refine wpAny_bind (wpAny_bind (wpAny_setState_of go gd ft ?_));dsimp only;refine wpAny_bind (wpAny_bind (wpAny_askSetting (wpAny_pure ?_)));have bt':w.params.followText "set-order" = false:=bt;rw[show(Setting.params ⟨(model prog w).prog,(model prog w).w.params⟩).followText "set-order" = false from bt',if_neg (by simp)]
  refine wpAny_ite_split (fun c=>absurd (show(!t.plain&&decide (es.size > 1))=true from c) (by rw[dr];simp)) fun _=>?_
  have led:t.led=true:=by rw[ld,bt];rfl
  refine wpAny_bind ?_;show wpAny _ _ (if(!t.led&&!es.isEmpty)=true then _ else _) _ _ _;rw[led];refine wpAny_pure (wpAny_pure ?_);have ie:i=es.size:=by omega
  rw[Ob,Ap tg (by omega)]
  rw[Q9 (by omega:es.size<=i),Q9 (by omega:t.place.size<=i)]
  exact A0 hh gI (by simp) q
 ·dsimp only[rawInt];refine wpAny_bind (wpAny_seqItems gt gtd ?_);dsimp only;have ip:pl.length<=i:=by omega
  rw[Ob,List.getElem?_toArray,NZ,P9 ip];dsimp only[Option.map];refine wpAny_bind (wpAny_setField_rec gI (by simp) fun h1 g1 s1=>?_)
  exact A0 (s:={ s with heap:=h1 }) hh g1 (by simp) fun h' x=>q h' fun b o hb e=>x b o hb ((s1.2 b hb).trans e)
theorem HX{h h':Heap}{I a tp:Addr}{ord:List Int}{i:Nat}(x:ItAt prog w h I a tp ord i)(k:∀ b∈[I,a,tp],∀ o,h.get? b=some o->h'.get? b=some o):ItAt prog w h' I a tp ord i:=by
 obtain⟨o,es,ep,t,first,vs,go,gx,gd,ft,tg,ld,gI,ia,vl,md⟩:=x;refine⟨o,es,ep,t,first,vs,k a (by simp) _ go,gx,gd,ft,tg,ld,k I (by simp) _ gI,ia,vl,?_⟩
 rcases md with z | z | ⟨bt,pl,ot,c,e,tI,ta,gt,r⟩
 ·exact .inl z
 ·exact .inr (.inl z)
 ·exact .inr (.inr ⟨bt,pl,ot,c,e,tI,ta,k tp (by simp) _ gt,r⟩)
theorem KR(hh:A.handled=none)(I a tp:Addr)(aI:a≠I)(ord:List Int):Walks prog w A I [I,a,tp] [I] ord.length (fun i v=>∃ t n,ord[i]?=some n/\v=.int n t) (fun i h=>ItAt prog w h I a tp ord i) where
 sub:=fun b hb=>by simp at hb;simp[hb]
 frame:=fun _ _ _ st hk=>HX st hk
 item:=fun i s Q E hi st hQ=>by
  refine Nh st (NQ hi) aI fun t h' it' sb=>?_;exact hQ _ h' s.toks ⟨t,_,NQ hi,rfl⟩ it' fun b o hb e=>sb.extBut b o (fun h=>hb (by simp[h])) e
 done:=fun s Q E st hQ=>Ni hh st rfl aI fun h' eb=>hQ h' s.toks fun b o hb e=>eb b o (fun h=>hb (by simp[h])) e
 self:=fun _ s Q _ st h=>by
  obtain⟨o,es,ep,t,first,vs,go,gx,gd,ft,tg,ld,gI,ia,vl,md⟩:=st;have hT:s.TypeIs (.ref I) "set_iterator":=⟨_,gI,rfl⟩;refine wpAny_pyIter_slot hT uF (wpAny_call_entry uF hT FK ?_ (F9 _));show wpAny _ _ (ret (.ref I)) _ _ s;exact wpAny_pure ⟨_,rfl,"set_iterator",_,hT,dH.lookup,h⟩
theorem KY{r:Addr}{Q:Bool->Shared->Prop} (hT:s.TypeIs (.ref r) "set") (h:Q false s):wpAny (model prog w) A (Builtin.List.listLengthHint (.ref r)) Q E s:=by
 unfold Builtin.List.listLengthHint;refine wpAny_bind (wpAny_specialOf hT PySem.F.slot_set_len.lookup ?_);generalize hid:("set.__len__" : String)=id0;wp_delta;rw[show splitId id0=some ("set","__len__") from by subst hid;decide]
 subst hid;refine wpAny_bind (wpAny_isInstance (T:="set") (b:=true) hT (by rw[isSubtype_type];kernel_rfl) ?_)
 refine wpAny_ite_split (fun hab=>absurd hab (by decide)) (fun _=>?_)
 refine wpAny_ite_split (fun _=>?_) (fun hab=>absurd (by decide) hab)
 refine wpAny_bind (wpAny_typeOf hT ?_);exact wpAny_pure h
theorem SetG.len{h:Heap}{a:Addr}{l:List Int}(g:SetG prog w h a l):l.length<scanBound:=by
 obtain⟨o,es,ep,t,go,gx,gd,el,⟨ns,ia,pm⟩,nd,sz,ft,tg,ld⟩:=g;have:=(fV ia).1;rw[NR,OI,pm.length_eq]at this;omega
theorem SetG.typ{a:Addr}{l:List Int}(g:SetG prog w s.heap a l):s.TypeIs (.ref a) "set":=by
 obtain⟨o,es,ep,t,go,gx,r⟩:=g;exact⟨o,go,gx.1⟩
theorem SetG.lt{h:Heap}{a:Addr}{l:List Int}(g:SetG prog w h a l):a<h.objs.size:=by
 obtain⟨o,es,ep,t,go,gx,r⟩:=g;exact Heap.lt_size go
theorem Dd{a:Addr}{l:List Int}{Q:List Value->Shared->Prop}(hh:A.handled=none)(g:SetG prog w s.heap a l)
  (h:∀(h':Heap)(tk:Nat)(d:Drawn)(acc:Array Value)(ord:List Int),(∀ b o,s.heap.get? b=some o->h'.get? b=some o)->s.heap.objs.size<h'.objs.size->ord.Perm l->ItemsOf (fun i v=>∃ t n,ord[i]?=some n/\v=.int n t) acc ord.length->Q acc.toList { s with heap:=h',toks:=tk,drawn:=d }):wpAny (model prog w) A (collect (.ref a)) Q E s:=by
 unfold collect;refine wpAny_bind (wpAny_runValue (codeAny_builtin entry_proto_collect' ?_));show wpAny _ _ (do again (.builtin "list.__iadd__" ⟨[← newList [],.ref a],[]⟩)) _ _ s
 refine wpAny_bind (wpAny_newList (wpAny_pure ⟨Code.quiet_builtin _ (by decide),codeAny_builtin entry_list_iadd' ?_⟩))
 rw[Around.under_plainId Sj _];show wpAny _ A.in1 (Builtin.List.listExtendWith (.ref s.heap.objs.size) (.ref a) (.ref s.heap.objs.size)) _ _ { s with heap:=s.heap.push (seqObj "list" #[] 0) };have g1:SetG prog w (s.heap.push (seqObj "list" #[] 0)) a l:=g.keeps fun o e=>Heap.get?_push_of_some _ e;have aS:s.heap.objs.size≠a:=PR g.lt;have hS:(s.heap.push (seqObj "list" #[] 0)).get? s.heap.objs.size=some { cls:=.type "list",data:=.seq #[] 0 }:=Heap.get?_push_size _ rfl;unfold Builtin.List.listExtendWith;refine wpAny_bind (wpAny_typeOf (T:="set") g1.typ ?_);have h1:Builtin.List.listSameRef (.ref s.heap.objs.size) (.ref a)=false:=by simp[Builtin.List.listSameRef,aS]
 simp only[h1,show(Value.type "set" == Value.type "list")=false by decide,show(Value.type "set" == Value.type "tuple")=false by decide,Bool.or_false,O2,if_false]
 refine wpAny_bind (Jz g1 fun I tp h2 d ord k2 lI sI lt st pm it=>?_);have z1:(s.heap.push (seqObj "list" #[] 0)).objs.size=s.heap.objs.size+1:=Heap.size_push ..;rw[z1]at lI lt;have SI:s.heap.objs.size≠I:=Ot lI;have ST:s.heap.objs.size≠tp:=Ot lt;have aI:a≠I:=Ot (Qe g.lt lI);have hSf:s.heap.objs.size∉[I,a,tp]:=by simp only[NU,O4,or_false,not_or];exact⟨SI,aS,ST⟩
 have hn:ord.length<=sizeLine:=by
  rw[pm.length_eq];exact OG (Qe g.len (by decide))
 have key:∀(h3:Heap)(c₁ tk:Nat),ItAt prog w h3 I a tp ord 0->(∀ b o,b≠s.heap.objs.size->h2.get? b=some o->h3.get? b=some o) ->
   h3.get? s.heap.objs.size=some { cls:=.type "list",data:=.seq #[] c₁ }->codeAny (model prog w) A (.builtin "list.extend.loop" ⟨[.ref s.heap.objs.size,.ref I,.ref s.heap.objs.size],[]⟩) (fun r s'=>∃ h' tk d acc' c',r=.ok (.ret (.ref s.heap.objs.size))/\s'={ s with heap:=h',toks:=tk,drawn:=d }/\(∀ b o,s.heap.get? b=some o->h'.get? b=some o)/\h'.get? s.heap.objs.size=some { cls:=.type "list",dict:=none,data:=.seq acc' c',slots:=#[] }/\ItemsOf (fun i v=>∃ t n,ord[i]?=some n/\v=.int n t) acc' ord.length) { s with heap:=h3,toks:=tk,drawn:=d }:=by
  intro h3 c₁ tk hst hk hS₁;refine codeAny_extend_loopS (KR (A:=A.in1) hh I a tp aI ord).toS hn _ hSf _ ord.length 0 _ #[] c₁ rfl (O5 _) hst hS₁ (ItemsOf.nil _) fun s' acc' c' hm hS' hacc=>?_;rw[Moved.eq_with hm];refine⟨s'.heap,s'.toks,d,acc',c',rfl,rfl,fun b o e=>hm.heap b o (fun hmem=>?_) (hk b o (Ot (Heap.lt_size e)) (k2 b o (Heap.get?_push_of_some _ e))),hS',hacc⟩;rcases NU.mp hmem with e' | hmem
  ·exact absurd (Heap.lt_size e) (by rw[e'];exact Pg _)
  ·exact absurd (Heap.lt_size e) (by rw[Ol.mp hmem];exact QF (OG lI))
 have fin:∀(r:Result)(s':Shared),(∃ h' tk d acc' c',r=.ok (.ret (.ref s.heap.objs.size))/\s'={ s with heap:=h',toks:=tk,drawn:=d }/\(∀ b o,s.heap.get? b=some o->h'.get? b=some o)/\h'.get? s.heap.objs.size=some { cls:=.type "list",dict:=none,data:=.seq acc' c',slots:=#[] }/\ItemsOf (fun i v=>∃ t n,ord[i]?=some n/\v=.int n t) acc' ord.length)->∃ v,r=.ok (.ret v)/\v=.ref s.heap.objs.size/\wpAny (model prog w) A (do
   let o ← load s.heap.objs.size
   match o.data with
   |.seq xs _=>pure xs.toList
   |_=>unsupported "internal:collect") Q E s':=fun r s' ⟨h',tk,d,acc',c',e1,e2,hk,hS,hacc⟩=>⟨_,e1,rfl,by
  subst e2;refine wpAny_bind (wpAny_load hS ?_)
  exact wpAny_pure (h h' tk d acc' ord hk (Heap.lt_size hS) pm hacc)⟩
 have hS₁:=k2 _ _ hS;have g2:SetG prog w h2 a l:=g1.keeps fun o e=>k2 _ _ e;refine wpAny_bind (wpAny_holding (KY (s:={ s with heap:=h2,drawn:=d }) g2.typ ?_));refine wpAny_ite_split (fun _=>?_) (fun _=>wpAny_pure ⟨plainId_quiet Qr _,codeAny_mono (key _ 0 _ it (fun b o _ e=>e) hS₁) fun r s'' q'=>?_⟩);rotate_left
 ·obtain⟨v,e1,e2,z⟩:=fin _ _ q'
  cases e1
  cases e2
  exact z
 refine wpAny_bind (wpAny_rule ?_);refine wpAny_bind ?_;show wpAny _ _ (updateSeq s.heap.objs.size (·.push .none) >>= fun _=>updateSeq s.heap.objs.size (·.pop)) _ _ _;refine wpAny_bind (wpAny_updateSeq hS₁ rfl ?_);have hS₂:=Heap.get?_update_self (Obj.mapSeq (·.push Value.none)) hS₁ rfl;refine wpAny_updateSeq (hz:=by seq_fits) hS₂ rfl ?_
 have hS₃:=Heap.get?_update_self (Obj.mapSeq (·.pop)) hS₂ rfl;have oth:∀ b o,b≠s.heap.objs.size->h2.get? b=some o->((h2.update s.heap.objs.size (Obj.mapSeq (·.push Value.none))).update s.heap.objs.size (Obj.mapSeq (·.pop))).get? b=some o:=fun b o hb e=>(Heap.get?_update_other _ _ (Ne.symm hb)).trans ((Heap.get?_update_other _ _ (Ne.symm hb)).trans e);refine wpAny_pure ⟨plainId_quiet Qr _,codeAny_mono (key _ _ _ (HX it fun b hb o e=>oth b o (fun z=>hSf (z▸hb)) e) oth hS₃) fun r s'' q'=>?_⟩;obtain⟨v,e1,e2,z⟩:=fin _ _ q'
 cases e1
 cases e2
 exact z
end
section
variable{X:Cx}{pins:List (Addr×Obj)}{σ:List (Option V)}{H:Hp}{s:Shared}
theorem Inv.drew{d:Drawn}(I:Inv X pins σ H s):Inv X pins σ H { s with drawn:=d }:=⟨I.ok,I.os,I.bare,I.base,I.loc,I.cell,I.free,I.freeC,I.pin,I.hok,I.len⟩
def setO(P:Program)(w:World)(a:Addr)(l:List Int):HO:=.ext fun h=>SetG P w h a l
def rSetI(P:Program)(w:World)(K:NS):List V->Hp->VK->Prop:=fun xs H Q=>∃(p:Addr)(ns:List Int),xs = [.ref p]/\SqL K H p (ns.map V.int)/\ns.length+1<4096/\∀ a:Addr,H a=none->Q (.ref a) (upd H a (setO P w a (ns.foldl addN [])))
theorem IJ(hc:X.calm=true){P:Program}{w:World}{K:NS}(eP:X.prog=P)(eW:X.w=w)(eK:X.K=K):jf X (.type "set") (rSetI P w K):=by
 subst eP eW eK;intro pins s σ H xs us Q I r h;obtain⟨p,ns,rfl,hq,few,q⟩:=h;obtain⟨u,rfl,ru⟩:=vi r
 cases ru
 obtain⟨its,rv,pl,hz⟩:=I.list hq;have hi:=ku rv;have hl:=rv.length;rw[NR]at hl;refine Bn (I.ok.hd hc) pl.isList hi (by rw[OC,← hl];exact few) fun h' tk g k=>?_
 refine⟨.ref s.heap.objs.size,_,I.laid (t':=tk) k (NY _) (show bN X.prog X.w _ _ _ (setO X.prog X.w s.heap.objs.size (ns.foldl addN [])) from⟨g,?_,fun h1 h2 g1 k1=>g1.keeps k1⟩),rfl,q _ (I.hok.fresh (NY _))⟩;obtain⟨o,es,ep,t,g1,r⟩:=g;exact⟨o,g1⟩
theorem Lr(ns:List Int):∀(l:List Int)(x:Int),x∈ns.foldl addN l↔x∈l∨x∈ns:=by
 induction ns with
 |nil=>intro l x;simp
 |cons n ns ih =>
  intro l x;rw[RZ,ih,NU];unfold addN;split
  ·rename_i c;exact⟨fun z=>z.elim .inl fun y=>.inr (.inr y),fun z=>z.elim .inl fun y=>y.elim (fun e=>.inl (e▸c)) .inr⟩
  ·rw[N0,Ol];exact⟨fun z=>z.elim (fun y=>y.elim .inl fun e=>.inr (.inl e)) fun y=>.inr (.inr y),fun z=>z.elim (fun y=>.inl (.inl y)) fun y=>y.elim (fun e=>.inl (.inr e)) .inr⟩
def rSortS(P:Program)(w:World):List V->Hp->VK->Prop:=fun xs H Q=>∃(a:Addr)(ms:List Int),xs = [.ref a]/\H a=some (setO P w a ms)/\∀(l:Addr)(out:List Int),H l=none->(∀ x,x∈out↔x∈ms)->out.Pairwise (· < ·)->Q (.ref l) (upd H l (.lst (out.map V.int)))
theorem F1(hc:X.calm=true){P:Program}{w:World}(eP:X.prog=P)(eW:X.w=w):jf X (.builtin "sorted") (rSortS P w):=by
 subst eP eW;intro pins s σ H xs us Q I r h;obtain⟨a,ms,rfl,ha,q⟩:=h;obtain⟨u,rfl,ru⟩:=vi r
 cases ru
 obtain⟨g,_,_⟩:=(show bN X.prog X.w H s.heap a (setO X.prog X.w a ms) from I.hok a _ ha);have g:SetG X.prog X.w s.heap a ms:=g;have nd:ms.Nodup:=let ⟨_,_,_,_,_,_,_,_,_,nd,_⟩:=g;nd;refine Calls.call_function_entry kind_sorted plain_sorted entry_sorted (args_sorted1 _) ?_;unfold Builtin.«sorted»;refine wpAny_bind (m:=checkCount "sorted" 1 1 _) (wpAny_pure ?_);refine wpAny_bind (Dd (I.ok.hd hc) g fun h' tk d acc' ord hk hlt pm hacc=>?_);have hi:IntsAre acc'.toList ord:=by
  have all:∀(vs:List Value)(ns:List Int),vs.length=ns.length->(∀(j:Nat) v,vs[j]?=some v->∃ t n,ns[j]?=some n/\v=.int n t)->IntsAre vs ns:=fun vs=>by
   induction vs with
   |nil=>intro ns e _;rw[RP e.symm];exact .nil
   |cons v vs ih =>
    intro ns e k
    cases ns with
    |nil=>cases e
    |cons n ns =>
     obtain⟨t,m,e1,e2⟩:=k 0 v rfl
     cases e1
     rw[e2];exact .cons _ _ (ih ns (Rf e) fun j v e=>k (j+1) v e)
  exact all _ _ (by rw[OI];exact hacc.1) fun j v e=>hacc.2 j v (by rw[← Pf];exact e)
 have hlen:acc'.toList.length<=sizeLine:=by
  rw[OI,hacc.1,pm.length_eq];exact OG (Qe g.len (by decide))
 refine wpAny_bind (wpAny_newList ?_ hlen);have hoL:(h'.push (seqObj "list" acc'.toList.toArray 0)).get? h'.objs.size=some (seqObj "list" acc'.toList.toArray 0):=Heap.get?_push_size _ rfl;show wpAny _ _ _ _ _ { s with heap:=h'.push (seqObj "list" acc'.toList.toArray 0),toks:=tk,drawn:=d };have keepH:∀(out:Array Value)(b:Addr)(o:Obj),s.heap.get? b=some o->(sortedHeap (h'.push (seqObj "list" acc'.toList.toArray 0)) h'.objs.size acc'.toList out).get? b=some o:=fun out b o e=>by
  have e2:=hk b o e;rw[sortedHeap_old (Ot (Heap.lt_size e2)) (by rw[Heap.size_push];exact PD (Heap.lt_size e2))]
  exact Heap.get?_push_of_some _ e2
 have hsz:s.heap.objs.size<=h'.objs.size:=OG hlt;refine wpAny_bind (wpAny_holding (wpAny_call_entry slot_list_sort ⟨_,hoL,rfl⟩ entry_list_sort (DU hoL hi hlen fun out ns' a1 a2 a3=>⟨_,rfl,?_⟩) (args_list_sort _)));obtain⟨e,he⟩:=sortedHeap_at (out:=out) hoL;have pm2:=a2.trans pm;refine wpAny_pure ⟨_,rfl,?_⟩;refine⟨.ref h'.objs.size,_,(I.laid (t':=tk) (keepH out) hsz (show bN X.prog X.w _ _ _ (.lst (ns'.map V.int)) from⟨?_,out.toList,e,vh a1,?_⟩)).drew,rfl,q _ ns' (I.hok.fresh hsz) (fun x=>pm2.mem_iff) ?_⟩
 ·rw[NR,pm2.length_eq];exact OG (Qe g.len (by decide))
 ·exact he
 ·exact(List.Pairwise.and a3 (pm2.nodup_iff.mpr nd)).imp fun{x y} ⟨h1,h2⟩=>by
   have h1':x<=y:=h1;omega
end
end L2
namespace L2
open PySem PySem.Spec PyProof.Rows PySem.Calls Builtin Builtin.ObjectAttr Builtin.Getset_descriptor
def tU(x D:Addr)(h:Heap):Prop:=∃ o,h.get? x=some o/\o.cls=.ref D
theorem tU.type{x D:Addr}{h:Heap}(M:Model)(I:tU x D h):Q5 M h (typeOf (.ref x)) (.ref D):=by
 obtain⟨o,a,b⟩:=I;exact b▸(PySem.W.Looks.ld a).andThen .now
structure ErC(K:NS)(D:Addr):Prop where
 ga:Oy K (.ref D) "__getattribute__" = some (some (.builtin "BaseException.__getattribute__"))
 gt:Oy K (.ref D) "__getattr__" = some none
 hb:PZ K D (.type "BaseException")=some true
 hd:P1 K D=true
 ha:Oy K (.ref D) "__class__" = some (some (.builtin "object.__class__"))
 hn:RF K (.builtin "object.__class__") "__get__" = some (some (.builtin "getset_descriptor.__get__"))
 tk:RS K (.builtin "object.__class__")=some true
 hm:PZ K D (.type "object")=some true
section
variable{prog:Program}{w:World}{A:Around}{E:Value->Shared->Prop}{s:Shared}{K:NS}{x D:Addr}
theorem Nc{M:Model}{h:Heap}(X:K.In h)(e:ErC K D):Q5 M h (find (.ref x) (.ref D) "__class__") (.bind (.builtin "getset_descriptor.__get__") (.builtin "object.__class__")):=by
 have L1:=QI (M:=M) X e.ha;have L2:=PySem.W.looks_specialIn (M:=M) X e.hn;have L3:=PySem.W.looks_takesIn (M:=M) X e.tk;refine L1.andThen (L2.andThen ?_);exact(show Q5 M h (dataDescriptor? (some (.builtin "object.__class__")) (some (.builtin "getset_descriptor.__get__"))) (some (.builtin "getset_descriptor.__get__",.builtin "object.__class__")) from L3.andThen .now).andThen (PySem.W.Looks.tag .now)
theorem kd_get{R:Except Value Flow->Shared->Prop}{tp:Value}(X:K.In s.heap)(I:tU x D s.heap)(e:ErC K D)
  (h:R (.ok (.ret (.ref D))) s):codeAny (model prog w) A (.call (.builtin "getset_descriptor.__get__") ⟨[.builtin "object.__class__",.ref x,tp],[]⟩) R s:=by
 obtain⟨hh,g,dr,t,os⟩:=s;have L0:=I.type (model prog w);have L1:=PySem.W.looks_mroIn (M:=model prog w) X e.hm;refine codeAny_call_builtin PySem.W.KF.slot_gs.plain PySem.W.KF.entry_gs (PySem.W.KF.slot_gs.check _ _ _ _ _ _ _ _ PySem.W.KF.type_class (PySem.W.KF.args_gs _ _ _) ?_);unfold Builtin.«getset_descriptor.__get__» descrGet;rw[PySem.W.dga_obj];refine wpAny_bind (wpAny_pure ?_);unfold descrGetter descrCheckInstance descrNameAndClass isInstance;simp only[PySem.W.KF.owner_class];repeat lk
 refine⟨Code.quiet_builtin _ (by decide),codeAny_builtin PySem.W.KF.entry_class ?_⟩
 unfold Builtin.«object.__class__» shownTypeOf;repeat lk
 exact h
theorem KJ{M:Model}{nameV:Value}{Q:Unit->Shared->Prop}(X:K.In s.heap)(I:tU x D s.heap)(e:ErC K D)(hq:Q () s):wpAny M A (checkBuiltinCall "BaseException.__getattribute__" ⟨[.ref x,nameV],[]⟩) Q E s:=by
 obtain⟨hh,g,d,t,os⟩:=s;have hk:builtinKind "BaseException.__getattribute__" = some .slot:=by decide
 have hsplit:splitId "BaseException.__getattribute__" = some ("BaseException","__getattribute__"):=by decide
 have ha:=F.args_bexc_ga (.ref x) nameV;have L0:=I.type M;have L1:=PySem.W.looks_mroIn (M:=M) X e.hb;have LI:Q5 M hh (isInstance (.ref x) (.type "BaseException")) true:=L0.andThen L1;simp only[checkBuiltinCall,hk,hsplit];refine wpAny_bind (LI.at ?_);repeat (first | assumption | wp_step)
theorem KH{tk:Tok}{Q:Fin->Shared->Prop}(X:K.In s.heap)(I:tU x D s.heap)(e:ErC K D)(h:Q (.done (.ret (.ref D))) s):wpAny (model prog w) A (Builtin.«object.__getattribute__» ⟨[.ref x,.str "__class__" tk],[]⟩) Q E s:=by
 obtain⟨hh,g,d,t,os⟩:=s;have L0:=I.type (model prog w);have L2:=Nc (x:=x) (M:=model prog w) X e;unfold Builtin.«object.__getattribute__»;repeat (first | assumption | with_reducible refine L0.at ?_ | with_reducible refine L2.at ?_ | with_reducible refine wpAny_call (kd_get (K:=K) X I e ?_) | wp_step)
theorem KI{Q:Option Value->Shared->Prop}(X:K.In s.heap)(I:tU x D s.heap)(e:ErC K D)(h:Q (some (.ref D)) { s with toks:=s.toks+1 }):wpAny (model prog w) A (getAttr? (.ref x) "__class__") Q E s:=by
 obtain⟨hh,g,d,t,os⟩:=s;have L0:=I.type (model prog w);have L1:=QI (M:=model prog w) X e.ga;have L3:=QI (M:=model prog w) X e.gt;have f3:=F.excAttr_ValueError.ga.bind (.ref x);unfold getAttr? getAttrBy? getAttrBy;refine wpAny_bind (wpAny_mkText (wpAny_bind (wpAny_attempt (wpAny_holding (wpAny_bind (L0.at (wpAny_bind (L1.at ?_))))))));show wpAny _ _ (getAttrByItsOwn _ _ _ _ _ _) _ _ _;unfold getAttrByItsOwn;refine wpAny_bind (show wpAny _ _ (typeLookup _ _) _ _ _ from L3.at ?_);refine wpAny_bind (wpAny_attempt (wpAny_holding ?_));show wpAny _ _ (boundAndCalled _ _ _) _ _ _;unfold boundAndCalled;rw[f3];refine wpAny_bind (wpAny_pure ?_);refine wpAny_call (codeAny_call_builtin F.excAttr_ValueError.ga.plain F.entry_bexc_ga (KJ (s:=⟨hh,g,d,t+1,os⟩) X I e (KH (s:=⟨hh,g,d,t+1,os⟩) X I e ?_)));exact wpAny_mono (PySem.W.handed_on rfl (Q:=fun v s'=>v=.ref D/\s'=⟨hh,g,d,t+1,os⟩) ⟨rfl,rfl⟩) (fun v s'' hv=>by obtain⟨rfl,rfl⟩:=hv;exact wpAny_pure h) (fun _ _ z=>z)
theorem Ei(e:ErC K D):PySem.W.KitX K (.ref x) (.ref D) (tU x D) where
 ty:=fun M _ _ I=>I.type M
 it:=fun _ _ X _=>by
  obtain⟨cdD,hcD,_⟩:=RL e.hd;unfold Sg at hcD;split at hcD
  ·rename_i c' d' cd' sl' ho;intro A' Q' E' s' k q;unfold isType loadHead;exact wpAny_bind (wpAny_loadPart (k _ _ (X _ _ ho)) (wpAny_pure q))
  ·cases hcD
 ne:=fun h tp dd its n sl X htp=>by
  obtain⟨cdD,hcD,_⟩:=RL e.hd;refine Bool.eq_false_iff.mpr fun q=>?_;have e:D=tp:=Value.ref.inj (beq_iff_eq.mp q);subst e;unfold Sg at hcD;split at hcD
  ·rename_i c' d' cd' sl' ho;have z:=(X _ _ ho).symm.trans htp
   cases z
  ·cases hcD
 ca:=fun X I k=>KI X I e k
end
theorem Ai{X:Cx}:jf X (.builtin "isinstance") (fun xs H Q=>∃ x c d b,xs = [.ref x,.ref d]/\H x=some (excO x c)/\ErC X.K c/\Pt X.K (.ref c) (.ref d)=some b/\Q (.bl b) H):=by
 intro pins s σ H xs us Q I r h;obtain⟨x,c,d,b,rfl,hx,ec,ek,q⟩:=h;obtain⟨v1,v2,rfl,r1,r2⟩:=EG r
 cases r1
 cases r2
 obtain⟨p,_,_⟩:=(show bN X.prog X.w H s.heap x (excO x c) from I.hok x _ hx);exact Pq (Ei ec) I.kIn p ek (fun z=>nomatch z) fun tk=>⟨.bl b,H,I.tok tk,rfl,q⟩
end L2
namespace L2
open PySem PySem.Spec PyProof.Rows
theorem Fx{P:Program}{w:World}{K:NS}{mg mb:Str->Option Value}{CX:CXT}{k:Nat}{fa a:Addr}{ps:List (Addr×Addr)}{fd:FuncData}{x:Str}{sp:Sp}{s:Shared}{vs:List Value}{ns:List Int}
  (KX:K.In s.heap) (hg:s.heap.Ns mainGlobals mg) (hb:s.heap.Ns builtinsNs mb) (hbb:∀ x:Str,x≠"__name__"->mb x=bootBuiltins x) (lim:s.heap.NoLimit) (gens:s.gens=#[])
  (hc:∀ p∈ps,Pu s.heap p.1 p.2/\s.heap.get? p.2=some (Rr #[])/\K.lookup p.2=none) (hbm:Bm mg s.heap)
  (ha:s.heap.get? a=some { cls:=.type "list",data:=.seq vs.toArray }) (hi:IntsAre vs ns) (hl:ns.length<=sizeLine) (hr:Room k callerA)
  (F:∀ base:Heap,K.In base->base.Ns mainGlobals mg->(∀ p∈ps,Pu base p.1 p.2)->Bm mg base->FnOk P w K mg base CX k fa fd [x] sp) (bind:∀(s:Shared)(u:Value),BindsTo s fd ⟨[u],[]⟩ [(x,u)])
  (hsp:∀ H:Hp,(∀ p∈ps,H p.2=some (.tbl #[]))->SqL K H a (ns.map V.int)->sp [.ref a] H (fun v _=>v=.bl true) fun _ _ _=>False)
  (hCX:∀ H e s',CX [] H s (fun _ _ _=>False) e s'->False) :
  codeAny (model P w) callerA (.call (.ref fa) ⟨[.ref a],[]⟩) (fun r s'=>r=.ok (.ret (.bool true))/\OldK s.heap s'.heap/\s'.os=s.os/\AllBare s'.gens) s:=by
 have rv:=xZ hi;have inT:∀ b,b∈ps.map Prod.snd->∃ c,Pu s.heap c b/\s.heap.get? b=some (Rr #[])/\K.lookup b=none:=fun b m=>by
  obtain⟨p,mp,rfl⟩:=OL.mp m;exact⟨p.1,hc p mp⟩
 have aT:a∉ps.map Prod.snd:=fun z=>by
  obtain⟨_,_,hT,_⟩:=inT a z;rw[hT]at ha;cases ha
 obtain⟨H,eT,eS,hok,only,frz⟩:∃ H:Hp,(∀ b∈ps.map Prod.snd,H b=some (.tbl #[]))/\SqL K H a (ns.map V.int)/\HOk P w H s.heap/\(∀ b,H b≠none->(b∈ps.map Prod.snd∨b=a)/\K.lookup b=none)/\(∀ b u,H b=some u->b∉ps.map Prod.snd->∃ o ys,u=.frz o (.lst ys)):=by
  cases hk:K.lookup a with
  |some o =>
   have e:=KX a o hk;rw[ha]at e
   cases e
   refine⟨fun b=>if b∈ps.map Prod.snd then some (.tbl #[]) else none,fun b m=>if_pos m,.inr ⟨_,vs.toArray,_,hk,rfl,rfl,rfl,by rw[OC,hi.length];exact hl,by simpa using rv⟩,fun b u z=>?_,fun b z=>?_,fun b u z n=>?_⟩
   ·by_cases y:b∈ps.map Prod.snd
    ·have z:(if b∈ps.map Prod.snd then some (HO.tbl #[]) else none)=some u:=z
     rw[if_pos y]at z
     cases z
     exact(inT b y).choose_spec.2.1
    ·have z:(if b∈ps.map Prod.snd then some (HO.tbl #[]) else none)=some u:=z
     rw[if_neg y]at z;cases z
   ·by_cases y:b∈ps.map Prod.snd
    ·exact⟨.inl y,(inT b y).choose_spec.2.2⟩
    ·exact absurd (if_neg y) z
   ·have z:(if b∈ps.map Prod.snd then some (HO.tbl #[]) else none)=some u:=z
    rw[if_neg n]at z;cases z
  |none =>
   refine⟨fun b=>if b∈ps.map Prod.snd then some (.tbl #[]) else upd (fun _=>none) a (.frz { cls:=.type "list",data:=.seq vs.toArray } (.lst (ns.map V.int))) b,fun b m=>if_pos m,.inl (.inr ⟨{ cls:=.type "list",data:=.seq vs.toArray },by show(if a∈ps.map Prod.snd then _ else _)=_;rw[if_neg aT];exact ae⟩),fun b u z=>?_,fun b z=>?_,fun b u z n=>?_⟩
   ·by_cases y:b∈ps.map Prod.snd
    ·have z:(if b∈ps.map Prod.snd then some (HO.tbl #[]) else _)=some u:=z
     rw[if_pos y]at z
     cases z
     exact(inT b y).choose_spec.2.1
    ·have z:(if b∈ps.map Prod.snd then some (HO.tbl #[]) else _)=some u:=z
     rw[if_neg y]at z;by_cases y2:b=a
     ·subst y2;rw[ae]at z;cases z;exact⟨ha,by rw[NR];exact hl,vs,_,rv,ha⟩
     ·rw[ak y2]at z;cases z
   ·by_cases y:b∈ps.map Prod.snd
    ·exact⟨.inl y,(inT b y).choose_spec.2.2⟩
    ·have z:(if b∈ps.map Prod.snd then some (HO.tbl #[]) else _)≠none:=z
     rw[if_neg y]at z;by_cases y2:b=a
     ·exact⟨.inr y2,y2▸hk⟩
     ·rw[ak y2]at z;exact absurd rfl z
   ·have z:(if b∈ps.map Prod.snd then some (HO.tbl #[]) else _)=some u:=z
    rw[if_neg n]at z;by_cases y2:b=a
    ·subst y2;rw[ae]at z;cases z;exact⟨_,_,rfl⟩
    ·rw[ak y2]at z;cases z
 have un0:∀{b:Addr}{o:Obj},s.heap.get? b=some o->o.cls≠.none->o.cls≠.type "list"->H b=none:=fun{b o} e n1 n2=>by
  cases q:H b with
  |none=>rfl
  |some u =>
   rcases(only b (by rw[q];simp)).1 with z | z
   ·obtain⟨_,_,hT,_⟩:=inT b z;rw[hT]at e;cases e;exact absurd rfl n1
   ·rw[z,ha]at e;cases e;exact absurd rfl n2
 have unD:∀{b:Addr}{o:Obj}{es:Array DictEntry}{ep:Nat},s.heap.get? b=some o->o.data=.dict es ep->H b=none:=fun{b o es ep} e d=>by
  cases q:H b with
  |none=>rfl
  |some u =>
   rcases(only b (by rw[q];simp)).1 with z | z
   ·obtain⟨_,_,hT,_⟩:=inT b z;rw[hT]at e;cases e;cases d
   ·rw[z,ha]at e;cases e;cases d
 have nsB:∀{b:Addr}{m:Str->Option Value},s.heap.Ns b m->(hidT s.heap H).Ns b m:=fun{b m} ⟨o,es,ep,e,d,r⟩=>⟨o,es,ep,qP e (unD e d),d,r⟩
 have kB:K.In (hidT s.heap H):=fun b o e=>qP (KX b o e) (by
  cases q:H b with
  |none=>rfl
  |some u=>rw[(only b (by rw[q];simp)).2]at e;cases e)
 have cB:∀ p∈ps,Pu (hidT s.heap H) p.1 p.2:=fun p m=>by
  obtain⟨o,v2,file,tf,flags,tg,inF,text,tt,e1,e2,r⟩:=(hc p m).1;exact⟨o,v2,file,tf,flags,tg,inF,text,tt,qP e1 (un0 e1 (by rw[e2];simp) (by rw[e2];simp)),e2,r⟩
 have bB:Bm mg (hidT s.heap H):=by
  obtain⟨bm,o,b1,b2,b3,b4,r⟩:=hbm;exact⟨bm,o,b1,b2,qP b3 (un0 b3 (by rw[b4];simp) (by rw[b4];simp)),b4,r⟩
 have md:Mod K mg (hidT s.heap H):=⟨kB,nsB hg,⟨mb,nsB hb,hbb⟩,let ⟨mc,h1,h2⟩:=lim;⟨mc,nsB h1,h2⟩⟩;have e0:Env0 P w K mg (hidT s.heap H) callerA [] s H:=⟨rfl,md,fun b o e=>MV e,Nat.le_of_eq (Im _ _),trivial,fun b z=>absurd (show b∈([]:List Addr) from z) (by simp),hok,.of_eq gens⟩
 refine codeAny_mono ((F _ kB (nsB hg) cB bB).run callerA [] s H ⟨[.ref a],[]⟩ [.ref a] [.ref a] _ _ hr e0 (bind s (.ref a)) (.cons rfl .nil) (hsp H (fun p m=>eT _ (OL.mpr ⟨p,m,rfl⟩)) eS)) fun r s' h=>?_
 cases r with
 |error e=>exact(hCX H e s' h).elim
 |ok fl =>
  cases fl with
  |next=>exact False.elim h
  |brk=>exact False.elim h
  |cont=>exact False.elim h
  |ret u =>
   obtain⟨v,H',os,bare,un,hok',r',q⟩:=h;have q':v=.bl true:=q;subst q';obtain rfl:u=Value.bool true:=r';have nil:∀ b:Addr,b∉frs []:=fun b z=>absurd (show b∈([]:List Addr) from z) (by simp)
   have gT:∀ T∈ps.map Prod.snd,∃ more,s'.heap.get? T=some { cls:=.none,data:=.fields (#[]++more) }:=fun T m=>by
    obtain⟨more,e⟩:=un.tbls T _ (eT T m);exact⟨more,hok' T _ e⟩
   have kp:∀ b o,b∉ps.map Prod.snd->s.heap.get? b=some o->s'.heap.get? b=some o:=fun b o n e=>by
    cases q:H b with
    |none=>exact un.keep b o e q (nil b) (by simp)
    |some u =>
     obtain⟨ob,ys,rfl⟩:=frz b u q n;have z2:=un.frzs b ob _ q;obtain⟨g1,_⟩:=hok b _ q;obtain⟨g2,_⟩:=hok' b _ z2;rw[e]at g1;cases g1;exact g2
   refine⟨rfl,⟨fun b o e=>?_,fun b o e=>?_⟩,os,bare⟩
   ·by_cases z:b∈ps.map Prod.snd
    ·obtain⟨c,hc,hT,_⟩:=inT b z;rw[hT]at e
     cases e
     obtain⟨more,g⟩:=gT b z;exact .inr (.inl ⟨(hc.tab hT).isCodeTable,rfl,#[],more,rfl,g⟩)
    ·exact .inl (kp b o z e)
   ·by_cases z:b∈ps.map Prod.snd
    ·obtain⟨more,g⟩:=gT b z;exact⟨_,g⟩
    ·exact⟨o,kp b o z e⟩
theorem walk_ofT2{l:RU}{n k:Nat}{q:Program}{loose:List Str}{XP:(Str->Option Value)->Heap->Prop}{YP:World->Heap->Prop}{d df df2:DefRec}{K:Params->NS}{CX:CXT}{sp:NS->Addr->Addr->Sp}{x fn fn2:Str}
  (hn:l.most=some n) (hn2:n<=sizeLine) (hdf:d.params.defaults = []) (hr:Room k callerA) (hY:∀(w:World)(h:Heap),YP w h->(K w.params).In h)
  (hrec:(recsOf q).find? (fun e=>e.name == fn)=some df) (hrec2:(recsOf q).find? (fun e=>e.name == fn2)=some df2)
  (F:∀(w:World)(mg:Str->Option Value)(fa:Addr)(h:Heap),(K w.params).In h->h.Ns mainGlobals mg->mg d.name=some (.ref fa)->∃ fd:FuncData,(∀(s:Shared)(u:Value),BindsTo s fd ⟨[u],[]⟩ [(x,u)]) /\
   ∃ c T c2 T2,Py (K w.params) fn=some (c,T)/\(K w.params).lookup T=none/\Py (K w.params) fn2=some (c2,T2)/\(K w.params).lookup T2=none/\∀ base:Heap,(K w.params).In base->base.Ns mainGlobals mg->Pu base c T->Pu base c2 T2->Bm mg base->FnOk l.prog w (K w.params) mg base CX k fa fd [x] (sp (K w.params) T T2))
  (hsp:∀(K:NS)(T T2:Addr)(H:Hp)(a:Addr)(ns:List Int),ns.length<=n->H T=some (.tbl #[])->H T2=some (.tbl #[])->SqL K H a (ns.map V.int)->sp K T T2 [.ref a] H (fun v _=>v=.bl true) fun _ _ _=>False)
  (hCX:∀(H:Hp)(s:Shared)(e:Value)(s':Shared),CX [] H s (fun _ _ _=>False) e s'->False) :
  PySem.W.WalkO q loose XP YP l.row.toRowW d [] (fun f vs=>PySem.call f vs):=by
 refine Att.attach_call hn hdf fun w s₀ s₁ mg mb fa o pm cd doc a vs ns G Y ho hd hcd hmg hobj hints hlen hg=>?_;have KX:=hY w _ Y;obtain⟨fd,hb,c,T,c2,T2,ht,nT,ht2,nT2,hF⟩:=F w mg fa _ KX G.T.g hmg;obtain⟨t1,t2⟩:=PySem.W.tab_of G.T KX hrec ht;obtain⟨t3,t4⟩:=PySem.W.tab_of G.T KX hrec2 ht2;refine Fx (ps:=[(c,T),(c2,T2)]) KX G.T.g G.T.b G.T.builtins G.T.nolimit hg (fun p m=>?_) G.T.bmain hobj hints (O6 hlen hn2) hr (fun base h1 h2 h3 h4=>hF base h1 h2 (h3 (c,T) (by simp)) (h3 (c2,T2) (by simp)) h4) hb (fun H h1 h2=>hsp _ T T2 H a ns hlen (h1 (c,T) (by simp)) (h1 (c2,T2) (by simp)) h2) fun H e s'=>hCX H s₁ e s'
 rcases NU.mp m with rfl | m
 ·exact⟨t1,t2,nT⟩
 ·rcases NU.mp m with rfl | m
  ·exact⟨t3,t4,nT2⟩
  ·cases m
end L2
namespace L2
theorem len_0{α:Type}{l:List α}(h:l.length=0):l = []:=Qv.mp h
theorem Fv{α:Type}{l:List α}{n:Nat}(h:l.length=n+1):∃ x r,l=x::r/\r.length=n:=by
 cases l with
 |nil=>cases h
 |cons x r=>exact⟨x,r,rfl,Rf h⟩
theorem Fw{α:Type}{l:List α}(h:l.length=1):∃ a,l = [a]:=by
 obtain⟨a,r,rfl,e⟩:=Fv h;exact⟨a,by rw[len_0 e]⟩
theorem fM{α:Type}{l:List α}(h:l.length=2):∃ a b,l = [a,b]:=by
 obtain⟨a,r,rfl,e⟩:=Fv h;obtain⟨b,rfl⟩:=Fw e;exact⟨a,b,rfl⟩
theorem rP{α:Type}{l:List α}(h:l.length=3):∃ a b c,l = [a,b,c]:=by
 obtain⟨a,r,rfl,e⟩:=Fv h;obtain⟨b,c,rfl⟩:=fM e;exact⟨a,b,c,rfl⟩
theorem Cg{α:Type}{l:List α}(h:l.length=4):∃ a b c d,l = [a,b,c,d]:=by
 obtain⟨a,r,rfl,e⟩:=Fv h;obtain⟨b,c,d,rfl⟩:=rP e;exact⟨a,b,c,d,rfl⟩
theorem M9{α:Type}{l:List α}(h:l.length=5):∃ a b c d e,l = [a,b,c,d,e]:=by
 obtain⟨a,r,rfl,z⟩:=Fv h;obtain⟨b,c,d,e,rfl⟩:=Cg z;exact⟨a,b,c,d,e,rfl⟩
theorem len_6{α:Type}{l:List α}(h:l.length=6):∃ a b c d e f,l = [a,b,c,d,e,f]:=by
 obtain⟨a,r,rfl,z⟩:=Fv h;obtain⟨b,c,d,e,f,rfl⟩:=M9 z;exact⟨a,b,c,d,e,f,rfl⟩
end L2
namespace K8
theorem Lz:∀{a b:List Nat},a.Nodup->(∀ x∈a,x∈b)->a.length<=b.length
 |[],_,_,_=>O5 _
 |x::a,b,nd,h=>by
  obtain⟨n1,n2⟩:=Oa.mp nd;have hx:=h x (by simp)
  have ih:=Lz (a:=a) (b:=b.erase x) n2 fun y hy=>(List.mem_erase_of_ne (fun e:y=x=>n1 (e▸hy))).mpr (h y (Oe _ hy));rw[List.length_erase_of_mem hx]at ih;have:0<b.length:=Qi hx;rw[OJ];omega
theorem fJ{a:List Nat}{N:Nat}(nd:a.Nodup)(h:∀ x∈a,x<N):a.length<=N:=by
 have:=Lz (b:=Oz N) nd fun x hx=>P0.mpr (h x hx);rwa[OR]at this
theorem Ea{l:List Nat}(nd:l.Nodup){i j x:Nat}(hi:l[i]?=some x)(hj:l[j]?=some x):i=j:=by
 have p:=O9.mp nd;obtain⟨h1,e1⟩:=NP.mp hi;obtain⟨h2,e2⟩:=NP.mp hj;rcases QZ i j with z | z | z
 ·exact absurd (e1.trans e2.symm) (p i j h1 h2 z)
 ·exact z
 ·exact absurd (e2.trans e1.symm) (p j i h2 h1 z)
abbrev En:=List (Nat×Nat)
structure bW(m:Nat)(es:En)(ts:List (List Nat)):Prop where
 len:ts.length=m
 ends:∀ e∈es,e.1<m/\e.2<m/\e.1≠e.2
 nd:∀(p:Nat)(l:List Nat),ts[p]?=some l->l.Nodup
 mem:∀(p:Nat)(l:List Nat),ts[p]?=some l->∀ t,t∈l↔∃ e,es[t]?=some e/\(e.1=p∨e.2=p)
theorem Jo(m:Nat):bW m [] (PN m []) where
 len:=by simp
 ends:=fun e h=>by cases h
 nd:=fun p l h=>by
  rw[Qf]at h;split at h
  ·cases h;exact PQ
  ·cases h
 mem:=fun p l h t=>by
  rw[Qf]at h;split at h
  ·cases h;simp
  ·cases h
def ins(l:List Nat)(k x:Nat):List Nat:=l.take k++x::l.drop k
theorem Cz{l:List Nat}{k x y:Nat}:y∈ins l k x↔y=x∨y∈l:=by
 unfold ins;rw[N0,NU];have:=OF k l;constructor
 ·rintro(h | h | h)
  ·exact .inr (Pm h)
  ·exact .inl h
  ·exact .inr (Pn h)
 ·rintro(h | h)
  ·exact .inr (.inl h)
  ·rw[← this]at h;rcases N0.mp h with z | z
   ·exact .inl z
   ·exact .inr (.inr z)
theorem Ii{l:List Nat}{k x:Nat}(nd:l.Nodup)(h:x∉l):(ins l k x).Nodup:=by
 unfold ins;have e:=OF k l;rw[← e]at nd;obtain⟨a,b,c⟩:=Oh.mp nd;refine Oh.mpr ⟨a,Oa.mpr ⟨fun z=>h (Pn z),b⟩,fun y hy z hz=>?_⟩;rcases NU.mp hz with q | q
 ·intro w;exact h (by rw[← q,← w];exact Pm hy)
 ·exact c y hy z q
theorem bW.put{m:Nat}{es:En}{ts:List (List Nat)}{one two k j:Nat}{l l':List Nat}(w:bW m es ts)(h1:one<m)(h2:two<m)(hn:one≠two)(e1:ts[one]?=some l)(e2:ts[two]?=some l') :
  bW m (es++[(one,two)]) ((ts.set one (ins l k es.length)).set two (ins l' j es.length)):=by
 have old:∀{p l},ts[p]?=some l->es.length∉l:=fun{p l} e z=>by
  obtain⟨x,hx,_⟩:=(w.mem p l e es.length).mp z;have:=(NP.mp hx).1;omega
 have get:∀ p q,((ts.set one (ins l k es.length)).set two (ins l' j es.length))[p]?=some q->(p=two/\q=ins l' j es.length)∨(p=one/\p≠two/\q=ins l k es.length)∨(p≠one/\p≠two/\ts[p]?=some q):=fun p q e=>by
  have L:two<(ts.set one (ins l k es.length)).length:=by rw[OT,w.len];exact h2
  have L1:one<ts.length:=by rw[w.len];exact h1
  rw[OM]at e;by_cases z:two=p
  ·rw[if_pos z,if_pos L]at e;exact .inl ⟨z.symm,(Ov e).symm⟩
  ·rw[if_neg z,OM]at e;by_cases y:one=p
   ·rw[if_pos y,if_pos L1]at e;exact .inr (.inl ⟨y.symm,Ne.symm z,(Ov e).symm⟩)
   ·rw[if_neg y]at e;exact .inr (.inr ⟨Ne.symm y,Ne.symm z,e⟩)
 have esg:∀ t x,(es++[(one,two)])[t]?=some x↔(es[t]?=some x)∨(t=es.length/\x=(one,two)):=fun t x=>by
  by_cases z:t<es.length
  ·rw[NX z];constructor
   ·exact .inl
   ·rintro(y | y)
    ·exact y
    ·omega
  ·rw[NW (by omega)]
   constructor
   ·intro y;have hl:=(NP.mp y).1;rw[Of]at hl;have ht:t=es.length:=by omega
    subst ht;rw[OA]at y
    cases y
    exact .inr ⟨rfl,rfl⟩
   ·rintro(y | ⟨y,rfl⟩)
    ·have:=(NP.mp y).1;omega
    ·rw[y,OA];rfl
 refine⟨by rw[OT,OT];exact w.len,fun e he=>?_,fun p q e=>?_,fun p q e t=>?_⟩
 ·rcases N0.mp he with z | z
  ·exact w.ends e z
  ·have:e=(one,two):=by simpa using z
   subst this;exact⟨h1,h2,hn⟩
 ·rcases get p q e with⟨_,rfl⟩ | ⟨_,_,rfl⟩ | ⟨_,_,y⟩
  ·exact Ii (w.nd two l' e2) (old e2)
  ·exact Ii (w.nd one l e1) (old e1)
  ·exact w.nd p q y
 ·rcases get p q e with⟨rfl,rfl⟩ | ⟨rfl,np,rfl⟩ | ⟨n1,n2,y⟩
  ·rw[Cz,w.mem p l' e2 t];constructor
   ·rintro(z | ⟨x,hx,hp⟩)
    ·exact⟨(one,p),(esg _ _).mpr (.inr ⟨z,rfl⟩),.inr rfl⟩
    ·exact⟨x,(esg _ _).mpr (.inl hx),hp⟩
   ·rintro⟨x,hx,hp⟩;rcases(esg _ _).mp hx with z | ⟨z,_⟩
    ·exact .inr ⟨x,z,hp⟩
    ·exact .inl z
  ·rw[Cz,w.mem p l e1 t];constructor
   ·rintro(z | ⟨x,hx,hp⟩)
    ·exact⟨(p,two),(esg _ _).mpr (.inr ⟨z,rfl⟩),.inl rfl⟩
    ·exact⟨x,(esg _ _).mpr (.inl hx),hp⟩
   ·rintro⟨x,hx,hp⟩;rcases(esg _ _).mp hx with z | ⟨z,_⟩
    ·exact .inr ⟨x,z,hp⟩
    ·exact .inl z
  ·rw[w.mem p q y t];constructor
   ·rintro⟨x,hx,hp⟩;exact⟨x,(esg _ _).mpr (.inl hx),hp⟩
   ·rintro⟨x,hx,hp⟩;rcases(esg _ _).mp hx with z | ⟨z,rfl⟩
    ·exact⟨x,z,hp⟩
    ·rcases hp with hp | hp
     ·exact absurd hp.symm n1
     ·exact absurd hp.symm n2
def hd(es:En)(d:Nat):Nat:=match es[d/2]? with | some e=>if d%2=0 then e.2 else e.1 | none=>0
def tl(es:En)(d:Nat):Nat:=match es[d/2]? with | some e=>if d%2=0 then e.1 else e.2 | none=>0
def leave(es:En)(t p:Nat):Nat:=match es[t]? with | some e=>if e.1=p then 2*t else 2*t+1 | none=>0
def nxt(l:List Nat)(t:Nat):Nat:=(l[(l.idxOf t+1)%l.length]?).getD 0
def fol(es:En)(ts:List (List Nat))(d:Nat):Nat:=leave es (nxt ((ts[hd es d]?).getD []) (d/2)) (hd es d)
section
variable{m:Nat}{es:En}{ts:List (List Nat)}
theorem CA{l:List Nat}{t:Nat}(h:t∈l):l[l.idxOf t]?=some t:=by
 have hl:=Q0.mpr h;rw[NQ hl,List.getElem_idxOf]
theorem ly{l:List Nat}{t:Nat}(h:t∈l):l[(l.idxOf t+1)%l.length]?=some (nxt l t):=by
 have hl:0<l.length:=Qi h;have:=Se (l.idxOf t+1) hl;unfold nxt;rw[NQ this];rfl
theorem bW.at(w:bW m es ts){d:Nat}(h:d<2*es.length):∃ e l,es[d/2]?=some e/\hd es d=(if d%2=0 then e.2 else e.1)/\tl es d=(if d%2=0 then e.1 else e.2)/\hd es d<m/\ts[hd es d]?=some l/\d/2∈l:=by
 have hl:d/2<es.length:=by omega
 have e1:es[d/2]?=some es[d/2]:=NQ hl;have q:=w.ends _ (NV e1);generalize es[d/2]=e at e1 q;have h1:hd es d=(if d%2=0 then e.2 else e.1):=by unfold hd;rw[e1]
 have h2:tl es d=(if d%2=0 then e.1 else e.2):=by unfold tl;rw[e1]
 have h3:hd es d<m:=by rw[h1];split<;>omega
 have h4:ts[hd es d]?=some (ts[hd es d]'(by rw[w.len];exact h3)):=NQ _
 refine⟨e,_,e1,h1,h2,h3,h4,(w.mem _ _ h4 _).mpr ⟨e,e1,?_⟩⟩;rw[h1];split
 ·exact .inr rfl
 ·exact .inl rfl
theorem bW.foll(w:bW m es ts){d:Nat}(h:d<2*es.length):∃ l e,ts[hd es d]?=some l/\d/2∈l/\es[nxt l (d/2)]?=some e/\(e.1=hd es d∨e.2=hd es d)/\e.1≠e.2/\fol es ts d=(if e.1=hd es d then 2*nxt l (d/2) else 2*nxt l (d/2)+1)/\fol es ts d<2*es.length/\fol es ts d/2=nxt l (d/2)/\tl es (fol es ts d)=hd es d:=by
 obtain⟨e0,l,h1,h2,h3,h4,h5,h6⟩:=w.at h;have hn:=ly h6;obtain⟨e,he,hp⟩:=(w.mem _ _ h5 _).mp (NV hn);have hlt:=(NP.mp he).1;have hne:=(w.ends e (NV he)).2.2;have hf:fol es ts d=(if e.1=hd es d then 2*nxt l (d/2) else 2*nxt l (d/2)+1):=by
  unfold fol;rw[h5];show leave es (nxt l (d/2)) (hd es d)=_;unfold leave;rw[he]
 refine⟨l,e,h5,h6,he,hp,hne,hf,?_,?_,?_⟩
 ·rw[hf];split<;>omega
 ·rw[hf];split<;>omega
 ·rw[hf];by_cases z:e.1=hd es d
  ·have a1:2*nxt l (d/2)/2=nxt l (d/2):=by omega
   have a2:2*nxt l (d/2)%2=0:=by omega
   rw[if_pos z];unfold tl;rw[a1,he];show(if 2*nxt l (d/2)%2=0 then e.1 else e.2)=_;rw[if_pos a2,z]
  ·have a1:(2*nxt l (d/2)+1)/2=nxt l (d/2):=by omega
   have a2:¬ (2*nxt l (d/2)+1)%2=0:=by omega
   rw[if_neg z];unfold tl;rw[a1,he];show(if(2*nxt l (d/2)+1)%2=0 then e.1 else e.2)=_;rw[if_neg a2];exact hp.elim (fun y=>absurd y z) id
theorem bW.inj(w:bW m es ts){a b:Nat}(ha:a<2*es.length)(hb:b<2*es.length)(h:fol es ts a=fol es ts b):a=b:=by
 obtain⟨l,e,p1,p2,_,_,_,_,_,p3,p4⟩:=w.foll ha;obtain⟨l',e',q1,q2,_,_,_,_,_,q3,q4⟩:=w.foll hb;have hh:hd es a=hd es b:=by rw[← p4,← q4,h]
 rw[hh,q1]at p1
 cases p1
 have hx:nxt l (a/2)=nxt l (b/2):=by rw[← p3,← q3,h]
 have g1:=ly p2;have g2:=ly q2;rw[hx]at g1;have ii:=Ea (w.nd _ _ q1) g1 g2;have i1:=Q0.mpr p2;have i2:=Q0.mpr q2;have ix:l.idxOf (a/2)=l.idxOf (b/2):=by
  generalize l.idxOf (a/2)=x at *;generalize l.idxOf (b/2)=y at *;by_cases z1:x+1=l.length
  ·by_cases z2:y+1=l.length
   ·omega
   ·rw[z1,Rg,P7 (by omega)]at ii;omega
  ·by_cases z2:y+1=l.length
   ·rw[z2,Rg,P7 (by omega)]at ii;omega
   ·rw[P7 (by omega),P7 (by omega)]at ii;omega
 have ht:a/2=b/2:=by
  have g3:=CA p2;have g4:=CA q2;rw[ix,g4]at g3;exact(Ov g3).symm
 obtain⟨e1,_,r1,r2,_,_,_,_⟩:=w.at ha;obtain⟨e2,_,s1,s2,_,_,_,_⟩:=w.at hb;rw[ht,s1]at r1;have ee:e2=e1:=Ov r1;rw[ee]at s1 s2;have hne:=(w.ends e1 (NV s1)).2.2;rw[r2,s2]at hh;have:a%2=b%2:=by
  by_cases z1:a%2=0<;>by_cases z2:b%2=0
  ·omega
  ·rw[if_pos z1,if_neg z2]at hh;exact absurd hh.symm hne
  ·rw[if_neg z1,if_pos z2]at hh;exact absurd hh hne
  ·omega
 omega
end
structure Je(f:Nat->Nat)(N:Nat):Prop where
 lt:∀ d,d<N->f d<N
 inj:∀ a b,a<N->b<N->f a=f b->a=b
structure Path(f:Nat->Nat)(N first:Nat)(r:List Nat):Prop where
 hd:r[0]?=some first
 lt:∀ d∈r,d<N
 nd:r.Nodup
 nx:∀ i x y,r[i]?=some x->r[i+1]?=some y->y=f x
theorem JV{f:Nat->Nat}{N d:Nat}(h:d<N):Path f N d [d] where
 hd:=rfl
 lt:=fun x hx=>by have:x=d:=by simpa using hx
                  rw[this];exact h
 nd:=by simp
 nx:=fun i x y h1 h2=>by
  have:=(NP.mp h2).1;rw[Of]at this;omega
theorem Path.snoc{f:Nat->Nat}{N d x:Nat}{r:List Nat}(p:Je f N)(h:Path f N d (r++[x]))(hn:f x≠d):Path f N d (r++[x]++[f x]) where
 hd:=by rw[NX (by rw[NT,Of];omega)];exact h.hd
 lt:=fun y hy=>by
  rcases N0.mp hy with z | z
  ·exact h.lt y z
  ·have:y=f x:=by simpa using z
   rw[this];exact p.lt x (h.lt x (by simp))
 nd:=by
  refine Oh.mpr ⟨h.nd,by simp,fun a ha b hb e=>?_⟩
  have eb:b=f x:=by simpa using hb
  subst eb;obtain⟨i,hi⟩:=OS.mp ha;rw[e]at hi;have hil:=(NP.mp hi).1;rw[NT,Of]at hil
  cases i with
  |zero =>
   rw[h.hd]at hi;exact hn (Ov hi).symm
  |succ i =>
   have gi:(r++[x])[i]?=some ((r++[x])[i]'(by rw[NT,Of];omega)):=NQ _
   have:=h.nx i _ _ gi hi;have mi:=h.lt _ (NV gi);have mx:=h.lt x (by simp)
   have e2:=p.inj _ _ mx mi this;rw[← e2]at gi;have gx:(r++[x])[r.length]?=some x:=by rw[NW (NY _),OA];rfl
   have:=Ea h.nd gi gx;omega
 nx:=fun i a b h1 h2=>by
  have h2l:=(NP.mp h2).1;rw[NT,NT,Of,Of]at h2l;rw[NX (by rw[NT,Of];omega)]at h1
  by_cases z:i+1<(r++[x]).length
  ·rw[NX z]at h2;exact h.nx i a b h1 h2
  ·rw[NT,Of]at z;have ei:i=r.length:=by omega
   subst ei;rw[NW (by rw[NT,Of];omega)]at h2
   have:r.length+1-(r++[x]).length=0:=by rw[NT,Of];omega
   rw[this]at h2;rw[NW (NY _),OA]at h1;have e1:x=a:=Ov h1;have e2:f x=b:=Ov h2;rw[← e2,e1]
structure Ring(f:Nat->Nat)(N:Nat)(r:List Nat):Prop where
 lt:∀ d∈r,d<N
 nd:r.Nodup
 ne:0<r.length
 nx:∀ i x,r[i]?=some x->r[(i+1)%r.length]?=some (f x)
theorem Path.ring{f:Nat->Nat}{N d x:Nat}{r:List Nat}(p:Je f N)(h:Path f N d (r++[x]))(he:f x=d):Ring f N (r++[x]) where
 lt:=h.lt
 nd:=h.nd
 ne:=by rw[NT,Of];omega
 nx:=fun i y hy=>by
  have hl:=(NP.mp hy).1;by_cases z:i+1=(r++[x]).length
  ·rw[z,Rg];have:i=r.length:=by rw[NT,Of]at z;omega
   subst this;rw[NW (NY _),OA]at hy;have:x=y:=Ov hy;subst this;rw[he];exact h.hd
  ·have l2:i+1<(r++[x]).length:=by omega
   rw[P7 l2];have g:=NQ l2;rw[g,h.nx i _ _ hy g]
theorem Ring.back{f:Nat->Nat}{N a:Nat}{r:List Nat}(p:Je f N)(h:Ring f N r)(ha:a<N)(hf:f a∈r):a∈r:=by
 obtain⟨i,hi⟩:=OS.mp hf;have hl:=(NP.mp hi).1;have key:∃ j,j<r.length/\(j+1)%r.length=i:=by
  cases i with
  |zero=>exact⟨r.length-1,by have:=h.ne;omega,by have:=h.ne;rw[show r.length-1+1=r.length by omega,Rg]⟩
  |succ i=>exact⟨i,by omega,P7 hl⟩
 obtain⟨j,hj,ej⟩:=key;have g:=NQ hj;have q:=h.nx j _ g;rw[ej,hi]at q;have mj:=h.lt _ (NV g);have:=p.inj _ _ ha mj (Ov q);rw[this];exact NV g
structure gn(f:Nat->Nat)(N i:Nat)(rs:List (List Nat)):Prop where
 ring:∀ r∈rs,Ring f N r
 hdl:∀ r∈rs,∀ h,r[0]?=some h->h<i/\∀ d∈r,h<=d
 asc:∀(a b:Nat)(r r':List Nat)(h h':Nat),a<b->rs[a]?=some r->rs[b]?=some r'->r[0]?=some h->r'[0]?=some h'->h<h'
 nd:rs.flatten.Nodup
 all:∀ d,d<i->d∈rs.flatten
theorem ET(f:Nat->Nat)(N:Nat):gn f N 0 [] where
 ring:=fun r h=>by cases h
 hdl:=fun r h=>by cases h
 asc:=fun a b r r' h h' _ e=>by cases e
 nd:=by simp
 all:=fun d h=>by omega
theorem gn.skip{f:Nat->Nat}{N i:Nat}{rs:List (List Nat)}(w:gn f N i rs)(h:i∈rs.flatten):gn f N (i+1) rs where
 ring:=w.ring
 hdl:=fun r hr x hx=>⟨by have:=(w.hdl r hr x hx).1;omega,(w.hdl r hr x hx).2⟩
 asc:=w.asc
 nd:=w.nd
 all:=fun d hd=>by
  by_cases z:d=i
  ·rw[z];exact h
  ·exact w.all d (by omega)
theorem gn.put{f:Nat->Nat}{N i:Nat}{rs:List (List Nat)}{r:List Nat}(p:Je f N)(w:gn f N i rs)(h:i∉rs.flatten)(hi:i<N)(hr:Ring f N r)(pa:Path f N i r):gn f N (i+1) (rs++[r]):=by
 have apart:∀(k x:Nat),r[k]?=some x->x∉rs.flatten:=fun k=>by
  induction k with
  |zero =>
   intro x hx;rw[pa.hd]at hx
   cases hx
   exact h
  |succ k ih =>
   intro x hx z;have hl:=(NP.mp hx).1;have g:=NQ (show k<r.length by omega)
   have e:=pa.nx k _ _ g hx;obtain⟨q,hq,zq⟩:=OY.mp z;rw[e]at zq;exact ih _ g (OY.mpr ⟨q,hq,(w.ring q hq).back p (hr.lt _ (NV g)) zq⟩)
 have least:∀ d∈r,i<=d:=fun d hd=>by
  obtain⟨k,hk⟩:=OS.mp hd;by_cases z:i<=d
  ·exact z
  ·exact absurd (w.all d (by omega)) (apart k d hk)
 refine⟨fun q hq=>?_,fun q hq x hx=>?_,fun a b q q' x x' hab ha hb hx hx'=>?_,?_,fun d hd=>?_⟩
 ·rcases N0.mp hq with z | z
  ·exact w.ring q z
  ·have:q=r:=by simpa using z
   rw[this];exact hr
 ·rcases N0.mp hq with z | z
  ·have:=w.hdl q z x hx
   exact⟨by omega,this.2⟩
  ·have e:q=r:=by simpa using z
   subst e;rw[pa.hd]at hx
   cases hx
   exact⟨by omega,least⟩
 ·have bl:=(NP.mp hb).1
  rw[NT,Of]at bl;rw[NX (by omega)]at ha
  by_cases z:b<rs.length
  ·rw[NX z]at hb;exact w.asc a b q q' x x' hab ha hb hx hx'
  ·have eb:b=rs.length:=by omega
   subst eb;rw[NW (NY _),OA]at hb;have e:r=q':=Ov hb;subst e;rw[pa.hd]at hx'
   cases hx'
   exact(w.hdl q (NV ha) x hx).1
 ·rw[PB];have e : [r].flatten=r:=by simp
  rw[e];refine Oh.mpr ⟨w.nd,hr.nd,fun a ha b hb e=>?_⟩;obtain⟨k,hk⟩:=OS.mp hb;exact apart k b hk (e▸ha)
 ·rw[PB,N0];by_cases z:d=i
  ·right;rw[z];simp;exact NV pa.hd
  ·exact .inl (w.all d (by omega))
theorem Nl{rs:List (List Nat)}(nd:rs.flatten.Nodup){a b:Nat}{r r':List Nat}{d:Nat}(ha:rs[a]?=some r)(hb:rs[b]?=some r')(h1:d∈r)(h2:d∈r'):a=b:=by
 induction rs generalizing a b with
 |nil=>cases ha
 |cons q rs ih =>
  rw[OD]at nd;obtain⟨_,n2,n3⟩:=Oh.mp nd
  cases a with
  |zero =>
   cases b with
   |zero=>rfl
   |succ b =>
    have e:q=r:=Ov ha;subst e;exact absurd rfl (n3 d h1 d (OY.mpr ⟨r',NV hb,h2⟩))
  |succ a =>
   cases b with
   |zero =>
    have e:q=r':=Ov hb;subst e;exact absurd rfl (n3 d h2 d (OY.mpr ⟨r,NV ha,h1⟩))
   |succ b=>exact congrArg Nat.succ (ih n2 ha hb)
def iy(f:Nat->Nat):Nat->List Nat->Nat->Prop
 |x,[],z=>f x=z
 |x,y::l,z=>f x=y/\iy f y l z
theorem cK{f:Nat->Nat}:∀{x:Nat}{l:List Nat}{y:Nat}{k:List Nat}{z:Nat},iy f x (l++y::k) z↔iy f x l y/\iy f y k z
 |x,[],y,k,z=>Iff.rfl
 |x,a::l,y,k,z=>by
  show(f x=a/\iy f a (l++y::k) z)↔(f x=a/\iy f a l y)/\iy f y k z;rw[cK,and_assoc]
theorem gO{f g:Nat->Nat}:∀{x y:Nat}{l:List Nat}{z:Nat},iy f x l z->g y=f x->(∀ t∈l,g t=f t)->iy g y l z
 |x,y,[],z,h,e,_=>e.trans h
 |x,y,a::l,z,h,e,k=>⟨e.trans h.1,gO h.2 (k a (Og ..)) fun t ht=>k t (Oe _ ht)⟩
theorem nv{f g F:Nat->Nat}:∀{x:Nat}{l:List Nat}{z:Nat},iy f x l z->(∀ t∈x::l,g (F t)=F (f t))->iy g (F x) (l.map F) (F z)
 |x,[],z,h,k=>by
  show g (F x)=F z;rw[k x (Og ..),show f x=z from h]
 |x,a::l,z,h,k=>⟨by rw[k x (Og ..),h.1],nv h.2 fun t ht=>k t (Oe _ ht)⟩
theorem sM{f:Nat->Nat}{S:Nat->Prop}:∀{x:Nat}{l:List Nat}{z:Nat},iy f x l z->(∀ t∈x::l,S t->S (f t))->S x->S z/\∀ t∈l,S t
 |x,[],z,h,k,s=>⟨by have:=k x (Og ..) s;rwa[show f x=z from h]at this,fun t ht=>nomatch ht⟩
 |x,a::l,z,h,k,s=>by
  have s1:S a:=by have:=k x (Og ..) s;rwa[h.1]at this
  obtain⟨h1,h2⟩:=sM h.2 (fun t ht=>k t (Oe _ ht)) s1;refine⟨h1,fun t ht=>?_⟩;rcases NU.mp ht with y | y
  ·rw[y];exact s1
  ·exact h2 t y
structure CR(f:Nat->Nat)(N:Nat)(r:List Nat):Prop where
 ch:∃ x l,r=x::l/\iy f x l x
 lt:∀ d∈r,d<N
 nd:r.Nodup
theorem CR.closed{f:Nat->Nat}{N:Nat}{r:List Nat}(h:CR f N r):∀ d∈r,f d∈r:=by
 obtain⟨x,l,rfl,c⟩:=h.ch;intro d hd;rcases NU.mp hd with y | y
 ·subst y
  cases l with
  |nil=>rw[show f d=d from c];exact Og ..
  |cons a l=>rw[c.1];simp
 ·obtain⟨A,B,rfl⟩:=Qy y;have c2:=(cK.mp c).2
  cases B with
  |nil=>rw[show f d=x from c2];exact Og ..
  |cons a B=>rw[c2.1];simp
theorem CR.sub{f:Nat->Nat}{N:Nat}{r:List Nat}{S:Nat->Prop}(h:CR f N r)(k:∀ t∈r,S t->S (f t)){d:Nat}(hd:d∈r)(s:S d):∀ t∈r,S t:=by
 obtain⟨x,l,rfl,c⟩:=h.ch;have fromx:S x->∀ t∈x::l,S t:=fun sx t ht=>by
  rcases NU.mp ht with y | y
  ·rw[y];exact sx
  ·exact(sM c k sx).2 t y
 rcases NU.mp hd with y | y
 ·exact fromx (y▸s)
 ·obtain⟨A,B,rfl⟩:=Qy y;have c2:=(cK.mp c).2;exact fromx (sM c2 (fun t ht=>k t (by simp only[NU,N0]at ht ⊢;rcases ht with z | z<;>simp[z])) s).1
theorem CR.same{f:Nat->Nat}{N:Nat}{r r':List Nat}(h:CR f N r)(h':CR f N r'){d:Nat}(h1:d∈r)(h2:d∈r'):∀ t∈r,t∈r':=h.sub (S:=fun t=>t∈r') (fun t _=>h'.closed t) h1 h2
theorem CR.ne{f:Nat->Nat}{N:Nat}{r:List Nat}(h:CR f N r):∃ d,d∈r:=by
 obtain⟨x,l,rfl,_⟩:=h.ch;exact⟨x,Og ..⟩
structure Part(f:Nat->Nat)(N:Nat)(rs:List (List Nat)):Prop where
 cr:∀ r∈rs,CR f N r
 nd:rs.flatten.Nodup
 all:∀ d,d<N->d∈rs.flatten
theorem Part.pick{f:Nat->Nat}{N:Nat}{rs:List (List Nat)}(p:Part f N rs){r:List Nat}(h:CR f N r):∃ rest,Part f N (r::rest)/\rest.length+1=rs.length:=by
 obtain⟨d,hd⟩:=h.ne;obtain⟨r0,m1,m2⟩:=OY.mp (p.all d (h.lt d hd));have c0:=p.cr r0 m1;have s1:=h.same c0 hd m2;have s2:=c0.same h m2 hd;obtain⟨A,B,rfl⟩:=Qy m1;have nd:=p.nd;rw[PB,OD]at nd;obtain⟨n1,n2,n3⟩:=Oh.mp nd;obtain⟨n4,n5,n6⟩:=Oh.mp n2;refine⟨A++B,⟨fun q hq=>?_,?_,fun y hy=>?_⟩,by simp;omega⟩
 ·rcases NU.mp hq with z | z
  ·rw[z];exact h
  ·refine p.cr q ?_;rcases N0.mp z with z | z
   ·simp[z]
   ·simp[z]
 ·rw[OD,PB];refine Oh.mpr ⟨h.nd,Oh.mpr ⟨n1,n5,fun a ha b hb=>n3 a ha b (by simp[hb])⟩,fun a ha b hb=>?_⟩
  rcases N0.mp hb with z | z
  ·exact fun e=>n3 b z a (OH _ (s1 a ha)) e.symm
  ·exact n6 a (s1 a ha) b z
 ·have:=p.all y hy
  rw[PB,OD]at this;rw[OD,PB];simp only[N0]at this ⊢;rcases this with z | z | z
  ·exact .inr (.inl z)
  ·exact .inl (s2 y z)
  ·exact .inr (.inr z)
theorem Part.same:∀{rs qs:List (List Nat)}{f:Nat->Nat}{N:Nat},Part f N rs->Part f N qs->rs.length=qs.length:=by
 have le:∀(k:Nat){rs qs:List (List Nat)}{f:Nat->Nat}{N:Nat},Part f N rs->Part f N qs->rs.length<=qs.length:=by
  intro _ rs qs f N p q;have g:∀ r∈rs,∃ i,i<qs.length/\∃ r',qs[i]?=some r'/\∀ t∈r',t∈r:=fun r hr=>by
   have c:=p.cr r hr;obtain⟨d,hd⟩:=c.ne;obtain⟨r',m1,m2⟩:=OY.mp (q.all d (c.lt d hd));obtain⟨i,hi⟩:=OS.mp m1;exact⟨i,(NP.mp hi).1,r',hi,(q.cr r' m1).same c m2 hd⟩
  have:∀(l:List (List Nat)),(∀ r∈l,r∈rs)->l.flatten.Nodup->∃ is:List Nat,is.length=l.length/\is.Nodup/\∀ i∈is,i<qs.length/\∃ r∈l,∃ r',qs[i]?=some r'/\∀ t∈r',t∈r:=fun l=>by
   induction l with
   |nil=>intro _ _;exact⟨[],rfl,PQ,fun i hi=>nomatch hi⟩
   |cons r l ih =>
    intro h nd;rw[OD]at nd;obtain⟨n1,n2,n3⟩:=Oh.mp nd;obtain⟨is,e1,e2,e3⟩:=ih (fun r hr=>h r (Oe _ hr)) n2;obtain⟨i,h1,r',h2,h3⟩:=g r (h r (Og ..));refine⟨i::is,by simp[e1],Oa.mpr ⟨fun z=>?_,e2⟩,fun j hj=>?_⟩
    ·obtain⟨_,r2,m2,r3,m3,m4⟩:=e3 i z;rw[h2]at m3
     cases m3
     obtain⟨d,hd⟩:=(q.cr r' (NV h2)).ne;exact n3 d (h3 d hd) d (OY.mpr ⟨r2,m2,m4 d hd⟩) rfl
    ·rcases NU.mp hj with z | z
     ·subst z;exact⟨h1,r,Og ..,r',h2,h3⟩
     ·obtain⟨k1,r2,k2,k3⟩:=e3 j z;exact⟨k1,r2,Oe _ k2,k3⟩
  obtain⟨is,e1,e2,e3⟩:=this rs (fun _ h=>h) p.nd;rw[← e1];exact fJ e2 fun i hi=>(e3 i hi).1
 intro rs qs f N p q;exact Nat.le_antisymm (le 0 p q) (le 0 q p)
theorem Ring.cr{f:Nat->Nat}{N:Nat}{r:List Nat}(h:Ring f N r):CR f N r:=by
 refine⟨?_,h.lt,h.nd⟩;have ne:=h.ne;match r,h,ne with
 |x::l,h,_ =>
  refine⟨x,l,rfl,?_⟩;have key:∀(k i:Nat)(y:Nat),i+k+1=(x::l).length->(x::l)[i]?=some y->iy f y ((x::l).drop (i+1)) x:=fun k=>by
   induction k with
   |zero =>
    intro i y hi hy;have e:=h.nx i y hy;rw[show(i+1)%(x::l).length=0 by rw[← hi];simp]at e
    rw[List.drop_of_length_le (by omega)]
    exact(Ov e).symm
   |succ k ih =>
    intro i y hi hy;have e:=h.nx i y hy;rw[P7 (by omega)]at e
    obtain⟨hl,e2⟩:=NP.mp e;rw[Pw hl,e2];exact⟨rfl,ih (i+1) (f y) (by omega) e⟩
  exact key l.length 0 x (by simp) rfl
theorem gn.part{f:Nat->Nat}{N:Nat}{rs:List (List Nat)}(w:gn f N N rs):Part f N rs:=⟨fun r hr=>(w.ring r hr).cr,w.nd,w.all⟩
theorem zL{A B:List Nat}{t:Nat}(h:t∉A):(A++t::B).idxOf t=A.length:=by
 rw[List.idxOf_append,if_neg h,Rp,Nat.zero_add]
theorem bw{A B:List Nat}{t:Nat}(h:t∉A):nxt (A++t::B) t=((B++(A++t::B)).head?).getD 0:=by
 unfold nxt;rw[zL h]
 cases B with
 |nil =>
  have e:(A.length+1)%(A++[t]).length=0:=by rw[NT,Of,Rg]
  rw[e,Rh,List.head?_eq_getElem?]
 |cons b B =>
  have e:(A.length+1)%(A++t::b::B).length=A.length+1:=P7 (by simp)
  rw[e,NW (by omega)]
  rw[show A.length+1-A.length=1 by omega]
  rfl
theorem Ih{A B:List Nat}{u n:Nat}(h:u∉A):ins (A++u::B) ((A++u::B).idxOf u+1) n=A++u::n::B:=by
 rw[zL h];unfold ins;have e1:(A++u::B).take (A.length+1)=A++[u]:=by
  rw[List.take_append,OV (by omega),show A.length+1-A.length=1 by omega]
  rfl
 have e2:(A++u::B).drop (A.length+1)=B:=by simp
 rw[e1,e2];simp
theorem iB{l:List Nat}{u:Nat}(h:u∈l):∃ A B,l=A++u::B/\u∉A:=by
 induction l with
 |nil=>exact nomatch h
 |cons a l ih =>
  by_cases z:a=u
  ·subst z;exact⟨[],l,rfl,O4⟩
  ·rcases NU.mp h with y | y
   ·exact absurd y.symm z
   ·obtain⟨A,B,rfl,k⟩:=ih y;exact⟨a::A,B,rfl,fun w=>by rcases NU.mp w with w | w;exact z w.symm;exact k w⟩
theorem M1{l:List Nat}{u n:Nat}(hu:u∈l)(hn:n∉l) :
  nxt (ins l (l.idxOf u+1) n) u=n/\nxt (ins l (l.idxOf u+1) n) n=nxt l u/\∀ t∈l,t≠u->nxt (ins l (l.idxOf u+1) n) t=nxt l t:=by
 obtain⟨A,B,rfl,k⟩:=iB hu;rw[Ih k];have hnA:n∉A:=fun z=>hn (by simp[z])
 have hnu:n≠u:=fun z=>hn (by simp[z])
 refine⟨?_,?_,fun t ht htu=>?_⟩
 ·rw[bw k];rfl
 ·have e:A++u::n::B=(A++[u])++n::B:=by simp
  rw[e,bw (fun z=>by rcases N0.mp z with z | z;exact hnA z;exact hnu (by simpa using z)),bw k]
  cases B<;>cases A<;>rfl
 ·rcases N0.mp ht with z | z
  ·obtain⟨A1,A2,rfl,k2⟩:=iB z;have e1:(A1++t::A2)++u::n::B=A1++t::(A2++u::n::B):=by simp
   have e2:(A1++t::A2)++u::B=A1++t::(A2++u::B):=by simp
   rw[e1,e2,bw k2,bw k2]
   cases A2<;>rfl
  ·have z':t∈B:=by
    rcases NU.mp z with z | z
    ·exact absurd z htu
    ·exact z
   by_cases tA:t∈A
   ·obtain⟨A1,A2,rfl,k2⟩:=iB tA;have e1:(A1++t::A2)++u::n::B=A1++t::(A2++u::n::B):=by simp
    have e2:(A1++t::A2)++u::B=A1++t::(A2++u::B):=by simp
    rw[e1,e2,bw k2,bw k2]
    cases A2<;>rfl
   ·obtain⟨B1,B2,rfl,k2⟩:=iB z';have tn:t≠n:=fun y=>hn (by rw[← y];simp)
    have e1:A++u::n::(B1++t::B2)=(A++u::n::B1)++t::B2:=by simp
    have e2:A++u::(B1++t::B2)=(A++u::B1)++t::B2:=by simp
    rw[e1,e2,bw (by simp[tA,htu,tn,k2]),bw (by simp[tA,htu,k2])]
    cases B2<;>cases A<;>rfl
theorem rQ{es:En}{e:Nat×Nat}{t p:Nat}(h:t<es.length):leave (es++[e]) t p=leave es t p:=by
 unfold leave;rw[NX h]
theorem rR{es:En}{e:Nat×Nat}{p:Nat}:leave (es++[e]) es.length p=if e.1=p then 2*es.length else 2*es.length+1:=by
 unfold leave;rw[NW (NY _),OA];rfl
theorem uK{es:En}{e:Nat×Nat}{d:Nat}(h:d<2*es.length):hd (es++[e]) d=hd es d:=by
 unfold hd;rw[NX (by omega)]
theorem hd_new{es:En}{e:Nat×Nat}:hd (es++[e]) (2*es.length)=e.2/\hd (es++[e]) (2*es.length+1)=e.1:=by
 have e1:2*es.length/2=es.length:=by omega
 have e2:(2*es.length+1)/2=es.length:=by omega
 constructor
 ·unfold hd;rw[e1,NW (NY _),OA];show(if 2*es.length%2=0 then e.2 else e.1)=_;rw[if_pos (by omega)]
 ·unfold hd;rw[e2,NW (NY _),OA];show(if(2*es.length+1)%2=0 then e.2 else e.1)=_;rw[if_neg (by omega)]
theorem hd_inj{m:Nat}{es:En}{ts:List (List Nat)}(w:bW m es ts){a b:Nat}(ha:a<2*es.length)(hb:b<2*es.length)(h:hd es a=hd es b)(h2:a/2=b/2):a=b:=by
 obtain⟨e1,_,r1,r2,_⟩:=w.at ha;obtain⟨e2,_,s1,s2,_⟩:=w.at hb;rw[h2,s1]at r1
 cases r1
 have hne:=(w.ends e1 (NV s1)).2.2;rw[r2,s2]at h;by_cases z1:a%2=0<;>by_cases z2:b%2=0
 ·omega
 ·rw[if_pos z1,if_neg z2]at h;exact absurd h.symm hne
 ·rw[if_neg z1,if_pos z2]at h;exact absurd h hne
 ·omega
def bV(n:Nat)(e:Nat×Nat)(p:Nat):Nat:=if e.1=p then 2*n else 2*n+1
theorem fX{es:En}{ts:List (List Nat)}{d:Nat}{l:List Nat}(h:ts[hd es d]?=some l):fol es ts d=leave es (nxt l (d/2)) (hd es d):=by
 unfold fol;rw[h];rfl
theorem bW.flip{m:Nat}{es:En}{ts:List (List Nat)}{a b:Nat}(w:bW m (es++[(a,b)]) ts):bW m (es++[(b,a)]) ts:=by
 have key:∀(x y:Nat)(t p:Nat),(∃ e,(es++[(x,y)])[t]?=some e/\(e.1=p∨e.2=p))->∃ e,(es++[(y,x)])[t]?=some e/\(e.1=p∨e.2=p):=fun x y t p=>by
  rintro⟨e,h1,h2⟩;by_cases z:t<es.length
  ·rw[NX z]at h1;exact⟨e,by rw[NX z];exact h1,h2⟩
  ·have hl:=(NP.mp h1).1
   rw[NT,Of]at hl;have z':t=es.length:=by omega
   subst z';rw[NW (NY _),OA]at h1
   cases h1
   exact⟨(y,x),by rw[NW (NY _),OA];rfl,h2.symm⟩
 refine⟨w.len,fun e he=>?_,w.nd,fun p l h t=>⟨fun z=>key a b t p ((w.mem p l h t).mp z),fun z=>(w.mem p l h t).mpr (key b a t p z)⟩⟩;rcases N0.mp he with z | z
 ·exact w.ends e (OH _ z)
 ·have:e=(b,a):=by simpa using z
  subst this;obtain⟨h1,h2,h3⟩:=w.ends (a,b) (by simp)
  exact⟨h2,h1,fun y=>h3 y.symm⟩
theorem bW.room{m:Nat}{es:En}{ts:List (List Nat)}(w:bW m es ts):bW (m+1) es (ts++[[]]):=by
 refine⟨by rw[NT,w.len];rfl,fun e he=>?_,fun p l h=>?_,fun p l h t=>?_⟩
 ·obtain⟨h1,h2,h3⟩:=w.ends e he;exact⟨by omega,by omega,h3⟩
 all_goals by_cases z:p<ts.length
 ·rw[NX z]at h;exact w.nd p l h
 ·have hl:=(NP.mp h).1
  rw[NT,Of]at hl;have z':p=ts.length:=by omega
  subst z';rw[NW (NY _),OA]at h
  cases h
  exact PQ
 ·rw[NX z]at h;exact w.mem p l h t
 ·have hl:=(NP.mp h).1
  rw[NT,Of]at hl;have z':p=ts.length:=by omega
  subst z';rw[NW (NY _),OA]at h
  cases h
  refine⟨(fun y=>nomatch y),?_⟩;rintro⟨e,h1,h2⟩;obtain⟨k1,k2,_⟩:=w.ends e (NV h1);have:=w.len;omega
theorem Nu{m:Nat}{es:En}{ts:List (List Nat)}(w:bW m es ts){p:Nat}{l:List Nat}(h:ts[p]?=some l):es.length∉l:=fun z=>by
 obtain⟨x,hx,_⟩:=(w.mem p l h es.length).mp z;have:=(NP.mp hx).1;omega
theorem oB{m:Nat}{es:En}{ts ts':List (List Nat)}{e:Nat×Nat}{p u:Nat}{l:List Nat}(w:bW m es ts)(hl:ts[p]?=some l)(hu:u<2*es.length)(hp:hd es u=p)(hl':ts'[p]?=some (ins l (l.idxOf (u/2)+1) es.length)) :
  fol (es++[e]) ts' u=bV es.length e p/\(∀ b,b/2=es.length->hd (es++[e]) b=p->fol (es++[e]) ts' b=fol es ts u)/\∀ d,d<2*es.length->d≠u->hd es d=p->fol (es++[e]) ts' d=fol es ts d:=by
 obtain⟨_,l0,_,_,_,_,g5,g6⟩:=w.at hu;rw[hp,hl]at g5
 cases g5
 have nn:=Nu w hl;obtain⟨n1,n2,n3⟩:=M1 g6 nn;have lt:∀ t∈l,nxt l t<es.length:=fun t ht=>by
  obtain⟨x,hx,_⟩:=(w.mem p l hl (nxt l t)).mp (NV (ly ht));exact(NP.mp hx).1
 refine⟨?_,fun b hb hpb=>?_,fun d hd' hne hpd=>?_⟩
 ·rw[fX (l:=ins l (l.idxOf (u/2)+1) es.length) (by rw[uK hu,hp];exact hl'),n1,uK hu,hp,rR]
  rfl
 ·rw[fX (l:=ins l (l.idxOf (u/2)+1) es.length) (by rw[hpb];exact hl'),hb,n2,hpb,rQ (lt _ g6),fX (l:=l) (by rw[hp];exact hl),hp]
 ·obtain⟨_,l0,_,_,_,_,k5,k6⟩:=w.at hd';rw[hpd,hl]at k5
  cases k5
  have tne:d/2≠u/2:=fun z=>hne (hd_inj w hd' hu (hpd.trans hp.symm) z);rw[fX (l:=ins l (l.idxOf (u/2)+1) es.length) (by rw[uK hd',hpd];exact hl'),n3 _ k6 tne,uK hd',hpd,rQ (lt _ k6),fX (l:=l) (by rw[hpd];exact hl),hpd]
theorem qQ{m:Nat}{es:En}{ts ts':List (List Nat)}{e:Nat×Nat}(w:bW m es ts){d:Nat}(hd':d<2*es.length)(h:ts'[hd es d]?=ts[hd es d]?):fol (es++[e]) ts' d=fol es ts d:=by
 obtain⟨_,l,_,_,_,_,k5,k6⟩:=w.at hd';have lt:nxt l (d/2)<es.length:=by
  obtain⟨x,hx,_⟩:=(w.mem _ l k5 (nxt l (d/2))).mp (NV (ly k6));exact(NP.mp hx).1
 rw[fX (l:=l) (by rw[uK hd',h];exact k5),uK hd',rQ lt,fX k5]
theorem a9(n:Nat)(e:Nat×Nat)(p:Nat):bV n e p/2=n:=by
 unfold bV;split<;>omega
theorem qT{es:En}{one two:Nat}{e:Nat×Nat}(hne:one≠two)(he:e=(one,two)∨e=(two,one)):hd (es++[e]) (bV es.length e one)=two/\hd (es++[e]) (bV es.length e two)=one/\bV es.length e one≠bV es.length e two/\∀ d,d<2*(es.length+1)->d<2*es.length∨d=bV es.length e one∨d=bV es.length e two:=by
 obtain⟨h1,h2⟩:=hd_new (es:=es) (e:=e);unfold bV;rcases he with he | he
 ·have c1:e.1=one:=by rw[he]
  have c2:¬ e.1=two:=by rw[he];exact hne
  have c3:e.2=two:=by rw[he]
  rw[if_pos c1,if_neg c2,h1,h2];exact⟨c3,c1,by omega,fun d hd=>by omega⟩
 ·have c1:e.1=two:=by rw[he]
  have c2:¬ e.1=one:=by rw[he];exact fun z=>hne z.symm
  have c3:e.2=one:=by rw[he]
  rw[if_pos c1,if_neg c2,h1,h2];exact⟨c1,c3,by omega,fun d hd=>by omega⟩
def par(S:Nat->Bool):List Nat->Bool
 |[]=>false
 |d::l=>S (d/2) ^^ par S l
theorem aZ(S:Nat->Bool)(d:Nat)(l:List Nat):par S (d::l)=(S (d/2) ^^ par S l):=rfl
theorem BM(S:Nat->Bool):∀ a b:List Nat,par S (a++b)=(par S a ^^ par S b)
 |[],b=>by show par S b=(false ^^ par S b);rw[Bool.false_xor]
 |x::a,b=>by rw[PY,aZ,aZ,BM S a b,R8]
theorem D5(S:Nat->Bool){a b:List Nat}(p:a.Perm b):par S a=par S b:=by
 induction p with
 |nil=>rfl
 |cons x _ ih=>rw[aZ,aZ,ih]
 |swap x y l=>rw[aZ,aZ,aZ,aZ,← R8,← R8,Sk (S (y/2))]
 |trans _ _ a b=>exact a.trans b
theorem Hl(S:Nat->Bool)(σ:Nat->Nat):∀ l:List Nat,par S (l.map fun d=>2*σ (d/2)+d%2)=par (fun t=>S (σ t)) l
 |[]=>rfl
 |d::l=>by
  rw[OW,aZ,aZ,Hl S σ l,show(2*σ (d/2)+d%2)/2=σ (d/2) by omega]
def NO(es:En)(S Pl:Nat->Bool):Prop:=∀(t:Nat)(e:Nat×Nat),es[t]?=some e->S t=(Pl e.1 ^^ Pl e.2)
theorem Et{es:En}{S Pl:Nat->Bool}(h:NO es S Pl){d:Nat}(hd':d<2*es.length):S (d/2)=(Pl (tl es d) ^^ Pl (hd es d)):=by
 have e1:es[d/2]?=some (es[d/2]'(by omega)):=NQ _
 rw[h _ _ e1];unfold tl hd;rw[e1];show _=(Pl (if d%2=0 then es[d/2].1 else es[d/2].2) ^^ Pl (if d%2=0 then es[d/2].2 else es[d/2].1));split
 ·rfl
 ·exact Sk _ _
theorem Es{m:Nat}{es:En}{ts:List (List Nat)}{S Pl:Nat->Bool}(w:bW m es ts)(h:NO es S Pl):∀{x:Nat}{l:List Nat}{z:Nat},iy (fol es ts) x l z->x<2*es.length->(∀ t∈l,t<2*es.length)->z<2*es.length->par S (l++[z])=(Pl (hd es x) ^^ Pl (hd es z))
 |x,[],z,c,hx,_,hz=>by
  obtain⟨_,_,_,_,_,_,_,_,_,_,k⟩:=w.foll hx;have c':fol es ts x=z:=c;rw[Rh,aZ,Et h hz,← c',k];exact Bool.xor_false _
 |x,a::l,z,c,hx,hl,hz=>by
  obtain⟨_,_,_,_,_,_,_,_,_,_,k⟩:=w.foll hx;have ha:=hl a (Og ..);rw[PY,aZ,Es w h c.2 ha (fun t ht=>hl t (Oe _ ht)) hz,Et h ha,← c.1,k]
  cases Pl (hd es x)<;>cases Pl (hd es (fol es ts x))<;>cases Pl (hd es z)<;>rfl
structure Gr(m:Nat)(es:En)(ts:List (List Nat)):Prop where
 w:bW m es ts
 part:∃ rs,Part (fol es ts) (2*es.length) rs/\m+rs.length=es.length+2
 conn:∀ S:Nat->Prop,(∀ e∈es,S e.1↔S e.2)->∀ p q,p<m->q<m->S p->S q
 cut:∀ S:Nat->Bool,(∀ r,CR (fol es ts) (2*es.length) r->par S r=false)->∃ Pl:Nat->Bool,NO es S Pl
theorem CR.mono{f g:Nat->Nat}{N M:Nat}{r:List Nat}(h:CR f N r)(hN:N<=M)(k:∀ t∈r,g t=f t):CR g M r:=by
 obtain⟨x,l,rfl,c⟩:=h.ch;exact⟨⟨x,l,rfl,gO c (k x (Og ..)) fun t ht=>k t (Oe _ ht)⟩,fun d hd=>OO (h.lt d hd) hN,h.nd⟩
theorem Lj{m:Nat}{es:En}{e:Nat×Nat}(c:∀ S:Nat->Prop,(∀ e∈es,S e.1↔S e.2)->∀ p q,p<m->q<m->S p->S q):∀ S:Nat->Prop,(∀ x∈es++[e],S x.1↔S x.2)->∀ p q,p<m->q<m->S p->S q :=
 fun S h=>c S fun x hx=>h x (OH _ hx)
theorem Gr.join{m:Nat}{es:En}{ts:List (List Nat)}(g:Gr m es ts){left right one two:Nat}{e:Nat×Nat}{l l' tail:List Nat}(hl:left<2*es.length)(hr:CR (fol es ts) (2*es.length) (left::tail))(hch:iy (fol es ts) left tail left)(hm:right∈left::tail)
  (h1:hd es left=one) (h2:hd es right=two) (hne:one≠two) (he:e=(one,two)∨e=(two,one)) (e1:ts[one]?=some l) (e2:ts[two]?=some l') :
  Gr m (es++[e]) ((ts.set one (ins l (l.idxOf (left/2)+1) es.length)).set two (ins l' (l'.idxOf (right/2)+1) es.length)):=by
 have w:=g.w;have hrt:right<2*es.length:=hr.lt right hm;have hlen:=w.len;have o1:one<m:=by rw[← hlen];exact(NP.mp e1).1
 have o2:two<m:=by rw[← hlen];exact(NP.mp e2).1
 have W:bW m (es++[e]) ((ts.set one (ins l (l.idxOf (left/2)+1) es.length)).set two (ins l' (l'.idxOf (right/2)+1) es.length)):=by
  rcases he with rfl | rfl
  ·exact w.put o1 o2 hne e1 e2
  ·exact(w.put o1 o2 hne e1 e2).flip
 have r1:((ts.set one (ins l (l.idxOf (left/2)+1) es.length)).set two (ins l' (l'.idxOf (right/2)+1) es.length))[one]?=some (ins l (l.idxOf (left/2)+1) es.length):=by
  rw[OM,if_neg (fun z=>hne z.symm),OM,if_pos rfl,if_pos (by rw[hlen];exact o1)]
 have r2:((ts.set one (ins l (l.idxOf (left/2)+1) es.length)).set two (ins l' (l'.idxOf (right/2)+1) es.length))[two]?=some (ins l' (l'.idxOf (right/2)+1) es.length):=by
  rw[OM,if_pos rfl,if_pos (by rw[OT,hlen];exact o2)]
 have r3:∀ p,p≠one->p≠two->((ts.set one (ins l (l.idxOf (left/2)+1) es.length)).set two (ins l' (l'.idxOf (right/2)+1) es.length))[p]?=ts[p]?:=fun p n1 n2=>by
  rw[OM,if_neg (fun z=>n2 z.symm),OM,if_neg (fun z=>n1 z.symm)]
 generalize (ts.set one (ins l (l.idxOf (left/2)+1) es.length)).set two (ins l' (l'.idxOf (right/2)+1) es.length)=ts' at W r1 r2 r3;obtain⟨a1,a2,a3⟩:=oB (e:=e) w e1 hl h1 r1;obtain⟨b1,b2,b3⟩:=oB (e:=e) w e2 hrt h2 r2;obtain⟨d1,d2,d3,d4⟩:=qT (es:=es) hne he;have fa:=b2 _ (a9 _ _ _) d1;have fb:=a2 _ (a9 _ _ _) d2;have els:∀ d,d<2*es.length->d≠left->d≠right->fol (es++[e]) ts' d=fol es ts d:=fun d hd' n1 n2=>by
  by_cases z1:hd es d=one
  ·exact a3 d hd' n1 z1
  ·by_cases z2:hd es d=two
   ·exact b3 d hd' n2 z2
   ·exact qQ w hd' (r3 _ z1 z2)
 generalize ha:bV es.length e one=α at *;generalize hb:bV es.length e two=β at *;have hα:α/2=es.length:=by rw[← ha];exact a9 _ _ _
 have hβ:β/2=es.length:=by rw[← hb];exact a9 _ _ _
 have hlr:right≠left:=fun z=>hne (by rw[← h1,← h2,z])
 have hm':right∈tail:=by
  rcases NU.mp hm with z | z
  ·exact absurd z hlr
  ·exact z
 obtain⟨xs,ys,rfl⟩:=Qy hm';obtain⟨c1,c2⟩:=cK.mp hch;have nd:=hr.nd;have ltx:∀ t∈xs,t<2*es.length/\t≠left/\t≠right:=fun t ht=>by
  refine⟨hr.lt t (by simp[ht]),fun z=>?_,fun z=>?_⟩
  ·subst z;exact(Oa.mp nd).1 (by simp[ht])
  ·subst z;have:=(Oh.mp (Oa.mp nd).2).2.2 t ht t (by simp)
   exact this rfl
 have lty:∀ t∈ys,t<2*es.length/\t≠left/\t≠right:=fun t ht=>by
  refine⟨hr.lt t (by simp[ht]),fun z=>?_,fun z=>?_⟩
  ·subst z;exact(Oa.mp nd).1 (by simp[ht])
  ·subst z;exact(Oa.mp (Oh.mp (Oa.mp nd).2).2.1).1 ht
 obtain⟨rs,p,cnt⟩:=g.part;obtain⟨rest,pr,cnt2⟩:=p.pick hr;have ndr:=pr.nd;rw[OD]at ndr;obtain⟨_,nd2,nd3⟩:=Oh.mp ndr;have ltr:∀ t∈rest.flatten,t<2*es.length/\t≠left/\t≠right:=fun t ht=>by
  obtain⟨q,q1,q2⟩:=OY.mp ht;exact⟨(pr.cr q (Oe _ q1)).lt t q2,fun z=>nd3 left (by simp) t ht z.symm,fun z=>nd3 right (by simp) t ht z.symm⟩
 have hlen2:(es++[e]).length=es.length+1:=by rw[NT];rfl
 have PP:Part (fol (es++[e]) ts') (2*(es++[e]).length) ((left::α::ys)::(right::β::xs)::rest):=by
  refine⟨fun q hq=>?_,?_,fun d hd'=>?_⟩
  ·rcases NU.mp hq with z | z
   ·subst z;refine⟨⟨left,α::ys,rfl,a1,gO c2 fa fun t ht=>els t (lty t ht).1 (lty t ht).2.1 (lty t ht).2.2⟩,fun d hd'=>?_,?_⟩
    ·rw[hlen2];simp only[NU]at hd';rcases hd' with y | y | y
     ·omega
     ·omega
     ·have:=(lty d y).1;omega
    ·refine Oa.mpr ⟨fun y=>?_,Oa.mpr ⟨fun y=>?_,?_⟩⟩
     ·rcases NU.mp y with y | y
      ·omega
      ·exact(lty _ y).2.1 rfl
     ·have:=(lty _ y).1;omega
     ·exact(Oa.mp (Oh.mp (Oa.mp nd).2).2.1).2
   ·rcases NU.mp z with z | z
    ·subst z;refine⟨⟨right,β::xs,rfl,b1,gO c1 fb fun t ht=>els t (ltx t ht).1 (ltx t ht).2.1 (ltx t ht).2.2⟩,fun d hd'=>?_,?_⟩
     ·rw[hlen2];simp only[NU]at hd';rcases hd' with y | y | y
      ·omega
      ·omega
      ·have:=(ltx d y).1;omega
     ·refine Oa.mpr ⟨fun y=>?_,Oa.mpr ⟨fun y=>?_,?_⟩⟩
      ·rcases NU.mp y with y | y
       ·omega
       ·exact(ltx _ y).2.2 rfl
      ·have:=(ltx _ y).1;omega
      ·exact(Oh.mp (Oa.mp nd).2).1
    ·refine(pr.cr q (Oe _ z)).mono (by rw[hlen2];omega) fun t ht=>?_
     obtain⟨k1,k2,k3⟩:=ltr t (OY.mpr ⟨q,z,ht⟩);exact els t k1 k2 k3
  ·have dis:∀ x∈xs,∀ y∈ys,x≠y:=fun x hx y hy=>(Oh.mp (Oa.mp nd).2).2.2 x hx y (by simp[hy])
   rw[OD,OD];refine Oh.mpr ⟨?_,Oh.mpr ⟨?_,nd2,fun a ha b hb=>?_⟩,fun a ha b hb=>?_⟩
   ·refine Oa.mpr ⟨fun y=>?_,Oa.mpr ⟨fun y=>?_,(Oa.mp (Oh.mp (Oa.mp nd).2).2.1).2⟩⟩
    ·rcases NU.mp y with y | y
     ·omega
     ·exact(lty _ y).2.1 rfl
    ·have:=(lty _ y).1;omega
   ·refine Oa.mpr ⟨fun y=>?_,Oa.mpr ⟨fun y=>?_,(Oh.mp (Oa.mp nd).2).1⟩⟩
    ·rcases NU.mp y with y | y
     ·omega
     ·exact(ltx _ y).2.2 rfl
    ·have:=(ltx _ y).1;omega
   ·obtain⟨k1,k2,k3⟩:=ltr b hb;simp only[NU]at ha;rcases ha with y | y | y
    ·exact fun z=>k3 (z▸y)
    ·omega
    ·exact nd3 a (by simp[y]) b hb
   ·simp only[NU,N0]at ha hb;rcases hb with(y | y | y) | y
    ·rcases ha with z | z | z
     ·exact fun u=>hlr (by rw[← y,← u,z])
     ·have:=hrt;omega
     ·exact fun u=>(lty a z).2.2 (u.trans y)
    ·rcases ha with z | z | z
     ·omega
     ·omega
     ·have:=(lty a z).1;omega
    ·rcases ha with z | z | z
     ·exact fun u=>(ltx b y).2.1 (u▸z)
     ·have:=(ltx b y).1;omega
     ·exact fun u=>dis b y a z u.symm
    ·obtain⟨k1,k2,k3⟩:=ltr b y;rcases ha with z | z | z
     ·exact fun u=>k2 (u▸z)
     ·omega
     ·exact nd3 a (by simp[z]) b y
  ·rw[hlen2]at hd';simp only[OD,N0,NU];rcases d4 d hd' with y | y | y
   ·have:=pr.all d y
    simp only[OD,N0,NU]at this;rcases this with(z | z | z | z) | z
    ·exact .inl (.inl z)
    ·exact .inr (.inl (.inr (.inr z)))
    ·exact .inr (.inl (.inl z))
    ·exact .inl (.inr (.inr z))
    ·exact .inr (.inr z)
   ·exact .inl (.inr (.inl y))
   ·exact .inr (.inl (.inr (.inl y)))
 refine⟨W,⟨_,PP,by rw[hlen2];simp only[OJ]at cnt2 ⊢;omega⟩,Lj g.conn,fun S ev=>?_⟩
 have e1:=ev _ (PP.cr _ (Og ..));have e2:=ev _ (PP.cr _ (Oe _ (Og ..)));rw[aZ,aZ,hα]at e1;rw[aZ,aZ,hβ]at e2;have lr:left∈left::(xs++right::ys):=Og ..;have rr:right∈left::(xs++right::ys):=by simp
 have old:∀ r,CR (fol es ts) (2*es.length) r->par S r=false:=fun r hr'=>by
  by_cases hin:left∈r
  ·have pm:r.Perm (left::(xs++right::ys)):=(Qo hr'.nd hr.nd).mpr fun t=>⟨hr'.same hr hin lr t,hr.same hr' lr hin t⟩
   rw[D5 S pm,aZ,BM,aZ];revert e1 e2;generalize S (left/2)=a;generalize S (right/2)=b;generalize S es.length=c;generalize par S xs=d;generalize par S ys=f
   cases a<;>cases b<;>cases c<;>cases d<;>cases f<;>decide
  ·refine ev r (hr'.mono (by rw[hlen2];omega) fun t ht=>els t (hr'.lt t ht) (fun z=>hin (z▸ht)) fun z=>hin (hr.same hr' rr (z▸ht) left lr))
 obtain⟨Pl,hP⟩:=g.cut S old;refine⟨Pl,fun t x hx=>?_⟩;by_cases ht:t<es.length
 ·rw[NX ht]at hx;exact hP t x hx
 ·have ht2:t=es.length:=by
   have:=(NP.mp hx).1;rw[hlen2]at this;omega
  subst ht2;rw[NW (NY _),OA]at hx;have hx':e=x:=Ov hx;subst hx';have tw:=Es w hP c1 hl (fun t ht=>(ltx t ht).1) hrt;rw[h1,h2,BM,aZ]at tw;have goal:S es.length=(Pl one ^^ Pl two):=by
   rw[← tw];revert e2;show _->S es.length=(par S xs ^^ (S (right/2) ^^ false));generalize S (right/2)=b;generalize S es.length=c;generalize par S xs=d
   cases b<;>cases c<;>cases d<;>decide
  rcases he with z | z
  ·rw[z];exact goal
  ·rw[z];exact goal.trans (Sk _ _)
theorem Gr.leaf{m:Nat}{es:En}{ts:List (List Nat)}(g:Gr m es ts){left one:Nat}{e:Nat×Nat}{l tail:List Nat}(hl:left<2*es.length)(hr:CR (fol es ts) (2*es.length) (left::tail))(hch:iy (fol es ts) left tail left)
  (h1:hd es left=one) (he:e=(one,m)∨e=(m,one)) (e1:ts[one]?=some l) :
  Gr (m+1) (es++[e]) (ts.set one (ins l (l.idxOf (left/2)+1) es.length)++[[es.length]]):=by
 have w:=g.w;have hlen:=w.len;have o1:one<m:=by rw[← hlen];exact(NP.mp e1).1
 have hne:one≠m:=by omega
 have W:bW (m+1) (es++[e]) (ts.set one (ins l (l.idxOf (left/2)+1) es.length)++[[es.length]]):=by
  have q:=w.room.put (one:=one) (two:=m) (k:=l.idxOf (left/2)+1) (j:=0) (l:=l) (l':=[]) (by omega) (by omega) hne (by rw[NX (by omega)];exact e1) (by rw[NW (by omega),hlen,OA];rfl)
  have q2:((ts++[[]]).set one (ins l (l.idxOf (left/2)+1) es.length)).set m (ins [] 0 es.length)=ts.set one (ins l (l.idxOf (left/2)+1) es.length)++[[es.length]]:=by
   rw[Ro _ _ (by omega),QE _ _ (by rw[OT];omega),OT,hlen,OA]
   rfl
  rw[q2]at q;rcases he with rfl | rfl
  ·exact q
  ·exact q.flip
 have r1:(ts.set one (ins l (l.idxOf (left/2)+1) es.length)++[[es.length]])[one]?=some (ins l (l.idxOf (left/2)+1) es.length):=by
  rw[NX (by rw[OT];omega),OM,if_pos rfl,if_pos (by omega)]
 have r2:(ts.set one (ins l (l.idxOf (left/2)+1) es.length)++[[es.length]])[m]?=some [es.length]:=by
  rw[NW (by rw[OT];omega),OT,hlen,OA]
  rfl
 have r3:∀ p,p≠one->p<m->(ts.set one (ins l (l.idxOf (left/2)+1) es.length)++[[es.length]])[p]?=ts[p]?:=fun p n1 n2=>by
  rw[NX (by rw[OT];omega),OM,if_neg (fun z=>n1 z.symm)]
 generalize ts.set one (ins l (l.idxOf (left/2)+1) es.length)++[[es.length]]=ts' at W r1 r2 r3;obtain⟨a1,a2,a3⟩:=oB (e:=e) w e1 hl h1 r1;obtain⟨d1,d2,d3,d4⟩:=qT (es:=es) hne he;have fb:=a2 _ (a9 _ _ _) d2;have fa:fol (es++[e]) ts' (bV es.length e one)=bV es.length e m:=by
  rw[fX (l:=[es.length]) (by rw[d1];exact r2),a9,d1]
  have:nxt [es.length] es.length=es.length:=by
   unfold nxt;rw[Rp];simp
  rw[this,rR];rfl
 have els:∀ d,d<2*es.length->d≠left->fol (es++[e]) ts' d=fol es ts d:=fun d hd' n1=>by
  by_cases z1:hd es d=one
  ·exact a3 d hd' n1 z1
  ·obtain⟨_,_,_,_,_,k4,_⟩:=w.at hd';exact qQ w hd' (r3 _ z1 k4)
 generalize ha:bV es.length e one=α at *;generalize hb:bV es.length e m=β at *;have hα:α/2=es.length:=by rw[← ha];exact a9 _ _ _
 have hβ:β/2=es.length:=by rw[← hb];exact a9 _ _ _
 have nd:=hr.nd;have ltt:∀ t∈tail,t<2*es.length/\t≠left:=fun t ht=>⟨hr.lt t (by simp[ht]),fun z=>(Oa.mp nd).1 (z▸ht)⟩
 obtain⟨rs,p,cnt⟩:=g.part;obtain⟨rest,pr,cnt2⟩:=p.pick hr;have ndr:=pr.nd;rw[OD]at ndr;obtain⟨_,nd2,nd3⟩:=Oh.mp ndr;have ltr:∀ t∈rest.flatten,t<2*es.length/\t≠left:=fun t ht=>by
  obtain⟨q,q1,q2⟩:=OY.mp ht;exact⟨(pr.cr q (Oe _ q1)).lt t q2,fun z=>nd3 left (by simp) t ht z.symm⟩
 have hlen2:(es++[e]).length=es.length+1:=by rw[NT];rfl
 have nd4:(left::α::β::tail).Nodup:=by
  refine Oa.mpr ⟨fun y=>?_,Oa.mpr ⟨fun y=>?_,Oa.mpr ⟨fun y=>?_,(Oa.mp nd).2⟩⟩⟩
  ·simp only[NU]at y;rcases y with y | y | y
   ·omega
   ·omega
   ·exact(ltt _ y).2 rfl
  ·simp only[NU]at y;rcases y with y | y
   ·exact d3 y
   ·have:=(ltt _ y).1;omega
  ·have:=(ltt _ y).1;omega
 have PP:Part (fol (es++[e]) ts') (2*(es++[e]).length) ((left::α::β::tail)::rest):=by
  refine⟨fun q hq=>?_,?_,fun d hd'=>?_⟩
  ·rcases NU.mp hq with z | z
   ·subst z;refine⟨⟨left,α::β::tail,rfl,a1,fa,gO hch fb fun t ht=>els t (ltt t ht).1 (ltt t ht).2⟩,fun d hd'=>?_,nd4⟩;rw[hlen2];simp only[NU]at hd';rcases hd' with y | y | y | y
    ·omega
    ·omega
    ·omega
    ·have:=(ltt d y).1;omega
   ·refine(pr.cr q (Oe _ z)).mono (by rw[hlen2];omega) fun t ht=>?_
    obtain⟨k1,k2⟩:=ltr t (OY.mpr ⟨q,z,ht⟩);exact els t k1 k2
  ·rw[OD];refine Oh.mpr ⟨nd4,nd2,fun a ha b hb=>?_⟩;obtain⟨k1,k2⟩:=ltr b hb;simp only[NU]at ha;rcases ha with y | y | y | y
   ·exact fun u=>k2 (u▸y)
   ·omega
   ·omega
   ·exact nd3 a (by simp[y]) b hb
  ·rw[hlen2]at hd';simp only[OD,N0,NU];rcases d4 d hd' with y | y | y
   ·have:=pr.all d y
    simp only[OD,N0,NU]at this;rcases this with(z | z) | z
    ·exact .inl (.inl z)
    ·exact .inl (.inr (.inr (.inr z)))
    ·exact .inr z
   ·exact .inl (.inr (.inl y))
   ·exact .inl (.inr (.inr (.inl y)))
 refine⟨W,⟨_,PP,by rw[hlen2];simp only[OJ]at cnt2 ⊢;omega⟩,fun S hS x y hx hy sx=>?_,fun S ev=>?_⟩
 ·-- in one piece
  have hSe:S one↔S m:=by
   have:=hS e (by simp)
   rcases he with rfl | rfl
   ·exact this
   ·exact this.symm
  have old:=g.conn S fun x hx=>hS x (OH _ hx);have toOne:S one:=by
   by_cases z:x<m
   ·exact old x one z o1 sx
   ·have:x=m:=by omega
    subst this;exact hSe.mpr sx
  by_cases z:y<m
  ·exact old one y o1 z toOne
  ·have:y=m:=by omega
   subst this;exact hSe.mp toOne
 ·have e1:=ev _ (PP.cr _ (Og ..))
  rw[aZ,aZ,aZ,hα,hβ]at e1;have old:∀ r,CR (fol es ts) (2*es.length) r->par S r=false:=fun r hr'=>by
   by_cases hin:left∈r
   ·have pm:r.Perm (left::tail):=(Qo hr'.nd hr.nd).mpr fun t=>⟨hr'.same hr hin (Og ..) t,hr.same hr' (Og ..) hin t⟩
    rw[D5 S pm,aZ];revert e1;generalize S (left/2)=a;generalize S es.length=c;generalize par S tail=d
    cases a<;>cases c<;>cases d<;>decide
   ·exact ev r (hr'.mono (by rw[hlen2];omega) fun t ht=>els t (hr'.lt t ht) fun z=>hin (z▸ht))
  obtain⟨Pl,hP⟩:=g.cut S old;refine⟨fun p=>if p=m then(Pl one ^^ S es.length) else Pl p,fun t x hx=>?_⟩;by_cases ht:t<es.length
  ·rw[NX ht]at hx;obtain⟨b1,b2,_⟩:=w.ends x (NV hx);show S t=((if x.1=m then _ else Pl x.1) ^^ (if x.2=m then _ else Pl x.2));rw[if_neg (by omega),if_neg (by omega)]
   exact hP t x hx
  ·have ht2:t=es.length:=by
    have:=(NP.mp hx).1;rw[hlen2]at this;omega
   subst ht2;rw[NW (NY _),OA]at hx;have hx':e=x:=Ov hx;subst hx';rcases he with z | z
   ·rw[z];show S es.length=((if one=m then _ else Pl one) ^^ (if m=m then(Pl one ^^ S es.length) else _));rw[if_neg hne,if_pos rfl]
    cases Pl one<;>cases S es.length<;>rfl
   ·rw[z];show S es.length=((if m=m then(Pl one ^^ S es.length) else _) ^^ (if one=m then _ else Pl one));rw[if_neg hne,if_pos rfl]
    cases Pl one<;>cases S es.length<;>rfl
theorem LV:Gr 2 [(0,1)] [[0],[0]]:=by
 have W:bW 2 [(0,1)] [[0],[0]]:=by
  refine⟨rfl,fun e he=>?_,fun p l h=>?_,fun p l h t=>?_⟩
  ·have:e=(0,1):=by simpa using he
   subst this;exact⟨by decide,by decide,by decide⟩
  ·match p,h with
   |0,h=>cases h;decide
   |1,h=>cases h;decide
   |p+2,h=>cases h
  ·have key:(∃ e,([(0,1)]:En)[t]?=some e/\(e.1=p∨e.2=p))↔t=0/\(p=0∨p=1):=by
    constructor
    ·rintro⟨e,h1,h2⟩;match t,h1 with
     |0,h1=>cases h1;exact⟨rfl,h2.imp Eq.symm Eq.symm⟩
     |t+1,h1=>cases h1
    ·rintro⟨rfl,h2⟩;exact⟨(0,1),rfl,h2.imp Eq.symm Eq.symm⟩
   rw[key];match p,h with
   |0,h=>cases h;simp
   |1,h=>cases h;simp
   |p+2,h=>cases h
 refine⟨W,⟨[[0,1]],⟨fun r hr=>?_,by decide,fun d hd=>?_⟩,rfl⟩,fun S hS p q hp hq sp=>?_,fun S ev=>?_⟩
 ·have:r = [0,1]:=by simpa using hr
  subst this;exact⟨⟨0,[1],rfl,by decide,(by show fol [(0,1)] [[0],[0]] 1=0;decide)⟩,fun d hd=>by simp at hd ⊢;omega,by decide⟩
 ·have hd2:d<2:=hd
  simp;omega
 ·have:=hS (0,1) (by simp)
  have h01:S 0↔S 1:=this;have hp':p=0∨p=1:=by omega
  have hq':q=0∨q=1:=by omega
  rcases hp' with rfl | rfl<;>rcases hq' with rfl | rfl
  ·exact sp
  ·exact h01.mp sp
  ·exact h01.mpr sp
  ·exact sp
 ·refine⟨fun p=>if p=1 then S 0 else false,fun t x hx=>?_⟩;match t,hx with
  |0,hx =>
   cases hx
   show S 0=((if(0:Nat)=1 then S 0 else false) ^^ (if(1:Nat)=1 then S 0 else false));rw[if_neg (by decide),if_pos rfl,Bool.false_xor]
  |t+1,hx=>cases hx
structure Bij(F:Nat->Nat)(n:Nat):Prop where
 lt:∀ k,k<n->F k<n
 inj:∀ a b,a<n->b<n->F a=F b->a=b
 sur:∀ y,y<n->∃ k,k<n/\F k=y
def ofL(o:List Nat)(k:Nat):Nat:=(o[k]?).getD 0
theorem EB{o:List Nat}{n:Nat}(hl:o.length=n)(nd:o.Nodup)(h:∀ x∈o,x<n):Bij (ofL o) n:=by
 have get:∀ k,k<n->o[k]?=some (ofL o k):=fun k hk=>by
  unfold ofL;rw[NQ (by omega)]
  rfl
 refine⟨fun k hk=>h _ (NV (get k hk)),fun a b ha hb e=>Ea nd (get a ha) (by rw[get b hb,e]),fun y hy=>?_⟩
 have hm:y∈o:=by
  by_cases z:y∈o
  ·exact z
  ·have:=fJ (a:=y::o) (N:=n) (Oa.mpr ⟨z,nd⟩) fun x hx=>by
    rcases NU.mp hx with u | u
    ·omega
    ·exact h x u
   rw[OJ]at this;omega
 obtain⟨k,hk⟩:=OS.mp hm;have hkl:=(NP.mp hk).1;refine⟨k,by omega,?_⟩
 have:=get k (by omega)
 rw[hk]at this;exact(Ov this).symm
theorem rH{F:Nat->Nat}:∀{l:List Nat},l.Nodup->(∀ x∈l,∀ y∈l,F x=F y->x=y)->(l.map F).Nodup
 |[],_,_=>PQ
 |a::l,nd,h=>by
  obtain⟨n1,n2⟩:=Oa.mp nd;refine Oa.mpr ⟨fun z=>?_,rH n2 fun x hx y hy=>h x (Oe _ hx) y (Oe _ hy)⟩;obtain⟨x,hx,e⟩:=OL.mp z;have:=h x (Oe _ hx) a (Og ..) e;exact n1 (this▸hx)
theorem M0{F:Nat->Nat}{l:List Nat}{t:Nat}(ht:t∈l)(h:∀ x∈l,F x=F t->x=t):nxt (l.map F) (F t)=F (nxt l t):=by
 obtain⟨A,B,rfl,k⟩:=iB ht;have k2:F t∉A.map F:=fun z=>by
  obtain⟨x,hx,e⟩:=OL.mp z;exact k (h x (by simp[hx]) e▸hx)
 rw[Oo,OW,bw k2,bw k]
 cases B<;>cases A<;>rfl
theorem MZ{X Y:List Nat}{t:Nat}(nd:(X++Y).Nodup)(ht:t∈X++Y):nxt (Y++X) t=nxt (X++Y) t:=by
 obtain⟨n1,n2,n3⟩:=Oh.mp nd;rcases N0.mp ht with z | z
 ·have tY:t∉Y:=fun y=>n3 t z t y rfl
  obtain⟨A,B,rfl,k⟩:=iB z;have e1:Y++(A++t::B)=(Y++A)++t::B:=by simp
  have e2:(A++t::B)++Y=A++t::(B++Y):=by simp
  rw[e1,e2,bw (by simp[tY,k]),bw k]
  cases B<;>cases Y<;>cases A<;>rfl
 ·have tX:t∉X:=fun y=>n3 t y t z rfl
  obtain⟨A,B,rfl,k⟩:=iB z;have e1:(A++t::B)++X=A++t::(B++X):=by simp
  have e2:X++(A++t::B)=(X++A)++t::B:=by simp
  rw[e1,e2,bw k,bw (by simp[tX,k])]
  cases B<;>cases X<;>cases A<;>rfl
structure Ren(m:Nat)(es es2:En)(ts ts2:List (List Nat))(π σ:Nat->Nat):Prop where
 pi:Bij π m
 si:Bij σ es.length
 l1:es2.length=es.length
 l2:ts2.length=m
 es:∀(k:Nat)(e:Nat×Nat),es[k]?=some e->es2[σ k]?=some (π e.1,π e.2)
 ts:∀(p:Nat)(l:List Nat),ts[p]?=some l->∃ X Y,l=X++Y/\ts2[π p]?=some ((Y++X).map σ)
section
variable{m:Nat}{es es2:En}{ts ts2:List (List Nat)}{π σ:Nat->Nat}
theorem Ren.es'(R:Ren m es es2 ts ts2 π σ){j:Nat}{x:Nat×Nat}(h:es2[j]?=some x):∃ k e,σ k=j/\es[k]?=some e/\x=(π e.1,π e.2):=by
 have hj:=(NP.mp h).1;rw[R.l1]at hj;obtain⟨k,hk,rfl⟩:=R.si.sur j hj;have e1:es[k]?=some es[k]:=NQ hk;have:=R.es k _ e1;rw[h]at this;exact⟨k,_,rfl,e1,Ov this⟩
theorem Ren.ts'(R:Ren m es es2 ts ts2 π σ)(w:bW m es ts){j:Nat}{L:List Nat}(h:ts2[j]?=some L):∃ p l X Y,p<m/\π p=j/\ts[p]?=some l/\l=X++Y/\L=(Y++X).map σ:=by
 have hj:=(NP.mp h).1;rw[R.l2]at hj;obtain⟨p,hp,rfl⟩:=R.pi.sur j hj;have e1:ts[p]?=some (ts[p]'(by rw[w.len];exact hp)):=NQ _
 obtain⟨X,Y,h1,h2⟩:=R.ts p _ e1;rw[h]at h2;exact⟨p,_,X,Y,hp,rfl,e1,h1,Ov h2⟩
theorem pf(w:bW m es ts){p:Nat}{l:List Nat}(h:ts[p]?=some l){t:Nat}(ht:t∈l):t<es.length:=by
 obtain⟨x,hx,_⟩:=(w.mem p l h t).mp ht;exact(NP.mp hx).1
theorem Ren.turn(R:Ren m es es2 ts ts2 π σ)(w:bW m es ts):bW m es2 ts2:=by
 refine⟨R.l2,fun x hx=>?_,fun j L h=>?_,fun j L h t=>?_⟩
 ·obtain⟨j,hj⟩:=OS.mp hx;obtain⟨k,e,_,h1,rfl⟩:=R.es' hj;obtain⟨a1,a2,a3⟩:=w.ends e (NV h1);exact⟨R.pi.lt _ a1,R.pi.lt _ a2,fun z=>a3 (R.pi.inj _ _ a1 a2 z)⟩
 ·obtain⟨p,l,X,Y,hp,rfl,h1,rfl,rfl⟩:=R.ts' w h;have nd:=w.nd p _ h1;obtain⟨n1,n2,n3⟩:=Oh.mp nd;refine rH (Oh.mpr ⟨n2,n1,fun a ha b hb z=>n3 b hb a ha z.symm⟩) fun x hx y hy=>R.si.inj x y (pf w h1 ?_) (pf w h1 ?_)
  ·simp only[N0]at hx ⊢;exact hx.symm
  ·simp only[N0]at hy ⊢;exact hy.symm
 ·obtain⟨p,l,X,Y,hp,rfl,h1,rfl,rfl⟩:=R.ts' w h;constructor
  ·intro z;obtain⟨k,hk,rfl⟩:=OL.mp z;obtain⟨e,h2,h3⟩:=(w.mem p _ h1 k).mp (by simp only[N0]at hk ⊢;exact hk.symm)
   exact⟨_,R.es k e h2,h3.imp (congrArg π) (congrArg π)⟩
  ·rintro⟨x,h2,h3⟩;obtain⟨k,e,rfl,h4,rfl⟩:=R.es' h2;obtain⟨a1,a2,a3⟩:=w.ends e (NV h4);have hk:=(w.mem p _ h1 k).mpr ⟨e,h4,h3.imp (R.pi.inj _ _ a1 hp) (R.pi.inj _ _ a2 hp)⟩;exact OL.mpr ⟨k,by simp only[N0]at hk ⊢;exact hk.symm,rfl⟩
def Phi(σ:Nat->Nat)(d:Nat):Nat:=2*σ (d/2)+d%2
theorem qU(d:Nat):Phi σ d/2=σ (d/2):=by unfold Phi;omega
theorem Ren.hd(R:Ren m es es2 ts ts2 π σ){d:Nat}(hd':d<2*es.length):hd es2 (Phi σ d)=π (hd es d):=by
 have e1:es[d/2]?=some (es[d/2]'(by omega)):=NQ _
 have e2:=R.es _ _ e1;unfold K8.hd;rw[qU,e1,e2];have hm:Phi σ d%2=d%2:=by unfold Phi;omega
 show(if Phi σ d%2=0 then π es[d/2].2 else π es[d/2].1)=π (if d%2=0 then es[d/2].2 else es[d/2].1);rw[hm];split<;>rfl
theorem Ren.fol(R:Ren m es es2 ts ts2 π σ)(w:bW m es ts){d:Nat}(hd':d<2*es.length):fol es2 ts2 (Phi σ d)=Phi σ (fol es ts d):=by
 obtain⟨_,l,_,_,_,k4,k5,k6⟩:=w.at hd';obtain⟨X,Y,rfl,h2⟩:=R.ts _ _ k5;have nd:=w.nd _ _ k5;rw[fX (l:=(Y++X).map σ) (by rw[R.hd hd'];exact h2),fX k5,qU,R.hd hd']
 have k7:d/2∈Y++X:=by simp only[N0]at k6 ⊢;exact k6.symm
 rw[M0 k7 fun x hx=>R.si.inj x _ (pf w k5 (by simp only[N0]at hx ⊢;exact hx.symm)) (pf w k5 k6),MZ nd k6]
 have hn:=NV (ly k6);have hlt:=pf w k5 hn;generalize nxt (X++Y) (d/2)=t at hlt;have e1:es[t]?=some es[t]:=NQ hlt;have a1:=(w.ends _ (NV e1)).1;unfold leave;rw[R.es _ _ e1,e1];show(if π es[t].1=π (K8.hd es d) then 2*σ t else 2*σ t+1)=Phi σ (if es[t].1=K8.hd es d then 2*t else 2*t+1);by_cases z:es[t].1=K8.hd es d
 ·rw[if_pos z,if_pos (congrArg π z)];unfold Phi;rw[show 2*t/2=t by omega]
  omega
 ·rw[if_neg z,if_neg (fun y=>z (R.pi.inj _ _ a1 k4 y))];unfold Phi;rw[show(2*t+1)/2=t by omega]
  omega
theorem tS(b:Bij σ es.length){x y:Nat}(hx:x<2*es.length)(hy:y<2*es.length)(e:Phi σ x=Phi σ y):x=y:=by
 have e1:σ (x/2)=σ (y/2):=by
  have h1:=qU (σ:=σ) x;have h2:=qU (σ:=σ) y;rw[e]at h1;exact h1.symm.trans h2
 have:=b.inj _ _ (by omega) (by omega) e1
 unfold Phi at e;omega
theorem Ren.gr(R:Ren m es es2 ts ts2 π σ)(g:Gr m es ts):Gr m es2 ts2:=by
 obtain⟨rs,p,cnt⟩:=g.part;have flt:∀ d∈rs.flatten,d<2*es.length:=fun d hd=>by
  obtain⟨r,h1,h2⟩:=OY.mp hd;exact(p.cr r h1).lt d h2
 have hfl:(rs.map (QW (Phi σ))).flatten=rs.flatten.map (Phi σ):=List.map_flatten.symm;refine⟨R.turn g.w,⟨rs.map (QW (Phi σ)),⟨fun q hq=>?_,?_,fun d hd=>?_⟩,by rw[NR,R.l1];exact cnt⟩,fun S hS x y hx hy sx=>?_,fun S ev=>?_⟩
 ·obtain⟨r,hr,rfl⟩:=OL.mp hq;have c:=p.cr r hr;obtain⟨x,l,rfl,ch⟩:=c.ch;refine⟨⟨Phi σ x,l.map (Phi σ),rfl,nv ch fun t ht=>R.fol g.w (c.lt t ht)⟩,fun d hd=>?_,rH c.nd fun a ha b hb=>tS R.si (c.lt a ha) (c.lt b hb)⟩;obtain⟨t,ht,rfl⟩:=OL.mp hd;have h1:=c.lt t ht;have h2:=R.si.lt (t/2) (by omega)
  rw[R.l1];unfold Phi;omega
 ·rw[hfl];exact rH p.nd fun a ha b hb=>tS R.si (flt a ha) (flt b hb)
 ·rw[R.l1]at hd;obtain⟨k,hk,e⟩:=R.si.sur (d/2) (by omega)
  rw[hfl];refine OL.mpr ⟨2*k+d%2,p.all _ (by omega),?_⟩
  unfold Phi;rw[show(2*k+d%2)/2=k by omega,e]
  omega
 ·obtain⟨x',hx',rfl⟩:=R.pi.sur x hx;obtain⟨y',hy',rfl⟩:=R.pi.sur y hy;refine g.conn (fun p=>S (π p)) (fun e he=>?_) x' y' hx' hy' sx;obtain⟨k,hk⟩:=OS.mp he;exact hS (π e.1,π e.2) (NV (R.es k e hk))
 ·obtain⟨Pl,hP⟩:=g.cut (fun t=>S (σ t)) fun r hr=>by
   rw[← Hl S σ r];refine ev _ ?_;obtain⟨x,l,rfl,ch⟩:=hr.ch;refine⟨⟨Phi σ x,l.map (Phi σ),rfl,nv ch fun t ht=>R.fol g.w (hr.lt t ht)⟩,fun d hd=>?_,rH hr.nd fun a ha b hb=>tS R.si (hr.lt a ha) (hr.lt b hb)⟩;obtain⟨t,ht,rfl⟩:=OL.mp hd;have h1:=hr.lt t ht;have h2:=R.si.lt (t/2) (by omega)
   rw[R.l1];omega
  have inv:∀ p,p<m->((Oz m).find? fun q=>decide (π q=π p))=some p:=fun p hp=>by
   cases z:(Oz m).find? fun q=>decide (π q=π p) with
   |none=>exact absurd (decide_eq_true rfl) (List.find?_eq_none.mp z p (P0.mpr hp))
   |some q =>
    have h0:=List.find?_some z;have h1:π q=π p:=of_decide_eq_true h0;rw[R.pi.inj q p (P0.mp (List.mem_of_find?_eq_some z)) hp h1]
  refine⟨fun y=>Pl (((Oz m).find? fun q=>decide (π q=y)).getD 0),fun j x hx=>?_⟩;obtain⟨k,e,rfl,h1,rfl⟩:=R.es' hx;obtain⟨b1,b2,_⟩:=g.w.ends e (NV h1);show S (σ k)=(Pl (((Oz m).find? fun q=>decide (π q=π e.1)).getD 0) ^^ Pl (((Oz m).find? fun q=>decide (π q=π e.2)).getD 0));rw[inv _ b1,inv _ b2];exact hP k e h1
end
end K8
namespace K8
open PySem L2
local macro_rules | `(tactic| walk_at "cc") => `(tactic| first | exact ⟨by decide, by decide⟩ | (show (0 : Int) < _; decide) | (show (0 : Int) < _; omega) | (show (0 : Int) ≤ _; omega) | exact ⟨by decide, by decide, by decide⟩ | exact ⟨by omega, by omega, by decide⟩ | exact Or.inl ⟨by decide, by decide⟩ | exact Or.inl ⟨by omega, by omega⟩)
local macro_rules | `(tactic| walk_at "rd") => `(tactic| repeat (first | refine ⟨_, rfl, ?_⟩ | refine ⟨_, _, rfl, rfl, ?_⟩ | refine ⟨rfl, ?_⟩ | (refine ⟨?cc, ?_⟩; (case cc => walk_at "cc"))))
def top(i:Nat):Stmt:=PySem.Challenge.pw_spinfloor_k53_what_rests.main.body.getD i (.Pass ⟨0,0,0,0⟩)
abbrev nR:Stmt:=top 11
abbrev cU:Stmt:=top 14
abbrev cP:Stmt:=top 15
abbrev iq:Stmt:=top 16
abbrev aO:Stmt:=top 17
abbrev bY:Stmt:=top 18
abbrev ka:Stmt:=top 19
abbrev nW:Stmt:=top 20
abbrev nU:Stmt:=top 21
abbrev fE:Stmt:=top 22
abbrev nV:Stmt:=top 23
abbrev h9:Stmt:=top 24
abbrev cX:Stmt:=ow (top 26) 0
abbrev fA:Stmt:=ow (top 26) 1
abbrev bL:Stmt:=ow (top 26) 2
abbrev dY:Stmt:=ow (top 26) 3
abbrev dZ:Stmt:=ow (top 28) 0
abbrev uI:Stmt:=top 30
abbrev ig:Stmt:=top 31
abbrev fq:Stmt:=top 32
abbrev cQ:Stmt:=top 33
abbrev dM:Stmt:=top 34
abbrev fg:Stmt:=top 35
abbrev ic:Stmt:=top 37
abbrev cx:Stmt:=top 39
abbrev bX:Stmt:=top 40
abbrev bJ:Stmt:=top 41
abbrev cW:Stmt:=ow (top 42) 0
abbrev fm:Stmt:=top 44
abbrev fj:Stmt:=top 45
abbrev ik:Stmt:=top 46
abbrev fi:Stmt:=top 47
abbrev dS:Stmt:=top 48
abbrev dP:Stmt:=top 49
abbrev bE:Stmt:=top 50
abbrev dQ:Stmt:=top 51
abbrev ij:Stmt:=top 52
abbrev dN:Stmt:=top 53
abbrev dU:Stmt:=top 54
abbrev cR:Stmt:=top 55
abbrev cS:Stmt:=top 56
abbrev dX:Stmt:=top 57
abbrev bZ:Stmt:=top 58
abbrev ba:Stmt:=top 59
abbrev bK:Stmt:=top 60
abbrev vL:Stmt:=top 61
def tf(a b s:Int):List (Str×V):=putF "strength" (.int s) (putF "two" (.int b) (putF "one" (.int a) []))
theorem mH(a b s:Int):(tf a b s).lookup ("one" : Str)=some (.int a):=by
 unfold tf;rw[az,if_neg (by decide),az,if_neg (by decide),az,if_pos rfl]
theorem qX(a b s:Int):(tf a b s).lookup ("two" : Str)=some (.int b):=by
 unfold tf;rw[az,if_neg (by decide),az,if_pos rfl]
theorem Gz(a b s:Int):(tf a b s).lookup ("strength" : Str)=some (.int s):=by
 unfold tf;rw[az,if_pos rfl]
theorem Jq(a b s:Int){m:Str} (h1:¬ m = "strength") (h2:¬ m = "two") (h3:¬ m = "one"):(tf a b s).lookup m=none:=by
 unfold tf;rw[az,if_neg h1,az,if_neg h2,az,if_neg h3]
 all_goals rfl
theorem f1_len(a:Int):(putF "one" (.int a) []).length<1000:=by show 1<1000;decide
theorem f2_len(a b:Int):(putF "two" (.int b) (putF "one" (.int a) [])).length<1000:=by
 have e:(putF "two" (.int b) (putF "one" (.int a) []):List (Str×V))=([("one",.int a),("two",.int b)]:List (Str×V)):=by
  show(if("one" : Str) = "two" then[(("one" : Str),V.int b)] else(("one" : Str),V.int a)::putF "two" (V.int b) [])=_;rw[if_neg (by decide)]
  all_goals rfl
 rw[e];show 2<1000;decide
structure CT(K:NS)(C:Addr):Prop where
 cl:Cls K C
 n1:gQ K C "one"
 n2:gQ K C "two"
 n3:gQ K C "strength"
def o7(K:NS):Sp:=fun vs H Q _=>∃(p C dx:Addr)(a b s:Int),vs = [.ref p,.int a,.int b,.int s]/\H p=some (.ins C dx [])/\CT K C/\a≠b/\0<=a/\0<=b/\0<=s /\
 ∀ H',H' p=some (.ins C dx (tf a b s))->(∀ q o,H q=some o->q≠p->H' q=some o)->Q .non H'
theorem ai{H:Hp}{p:Addr}(h:H p=none)(o:HO):Same H (upd H p o):=fun b u q=>by rw[ak (ax q h)];exact q
theorem bf{H H2:Hp}{l:Addr}(h:Same H H2)(hl:H l=none)(o:HO):Same H (upd H2 l o):=fun b u q=>by rw[ak (ax q hl)];exact h b u q
def iV(p:Nat):V:=.int (p:Int)
theorem iV_at{hs:List Nat}{k x:Nat}(h:hs[k]?=some x):atI (hs.map iV) (k:Int)=some (iV x):=aD (by rw[NZ,h];rfl)
def c6(H:Hp)(ys:List V)(es:En):Prop:=ys.length=es.length/\∀(i:Nat)(e:Nat×Nat),es[i]?=some e->∃ p,ys[i]?=some (.ref p)/\H p=some (.tup [iV e.1,iV e.2])
theorem c6.mono{H H':Hp}{ys:List V}{es:En}(h:c6 H ys es)(s:Same H H'):c6 H' ys es:=⟨h.1,fun i e q=>by
 obtain⟨p,a,b⟩:=h.2 i e q
 exact⟨p,a,s _ _ b⟩⟩
def eX(K:NS)(H:Hp)(xs:List V)(es:En):Prop:=xs.length=es.length/\∀(i:Nat)(e:Nat×Nat),es[i]?=some e->∃ p C dx s,xs[i]?=some (.ref p)/\H p=some (.ins C dx (tf (e.1:Int) (e.2:Int) s))/\CT K C
theorem eX.mono{K:NS}{H H':Hp}{xs:List V}{es:En}(t:eX K H xs es)(h:Same H H'):eX K H' xs es:=⟨t.1,fun i e q=>by
 obtain⟨p,C,dx,s,a,b,d⟩:=t.2 i e q
 exact⟨p,C,dx,s,a,h _ _ b,d⟩⟩
def cf(H:Hp)(xs:List V)(ts:List (List Nat)):Prop:=xs.length=ts.length/\∀(i:Nat)(l:List Nat),ts[i]?=some l->∃ p,xs[i]?=some (.ref p)/\H p=some (.lst (l.map iV))
theorem cf.mono{H H':Hp}{xs:List V}{ts:List (List Nat)}(h:cf H xs ts)(s:Same H H'):cf H' xs ts:=⟨h.1,fun i e q=>by
 obtain⟨p,a,b⟩:=h.2 i e q
 exact⟨p,a,s _ _ b⟩⟩
theorem cf.snoc{H:Hp}{xs:List V}{ts:List (List Nat)}{q:Addr}{l:List Nat}(h:cf H xs ts)(e:H q=some (.lst (l.map iV))):cf H (xs++[.ref q]) (ts++[l]):=by
 refine⟨by rw[NT,NT,h.1];rfl,fun j k ej=>?_⟩
 by_cases hj:j<ts.length
 ·rw[NX hj]at ej;obtain⟨p,a1,a2⟩:=h.2 j k ej;exact⟨p,by rw[NX (by rw[h.1];exact hj)];exact a1,a2⟩
 ·rw[NW (by omega)]at ej
  have hj2:j=ts.length:=by
   have:=(NP.mp ej).1;rw[Of]at this;omega
  subst hj2;rw[OA]at ej
  cases ej
  exact⟨q,by rw[← h.1,NW (NY _),OA];rfl,e⟩
def cC(S:Addr->Prop)(H:Hp)(xs:List V)(ts:List (List Nat)):Prop:=xs.length=ts.length/\∀(i:Nat)(l:List Nat),ts[i]?=some l->∃ p,xs[i]?=some (.ref p)/\¬ S p/\H p=some (.lst (l.map iV))
theorem cC.mono{S:Addr->Prop}{H H':Hp}{xs:List V}{ts:List (List Nat)}(h:cC S H xs ts)(s:∀ b u,¬ S b->H b=some u->H' b=some u):cC S H' xs ts:=⟨h.1,fun i e q=>by
 obtain⟨p,a,n,b⟩:=h.2 i e q
 exact⟨p,a,n,s _ _ n b⟩⟩
theorem cC.off{S:Addr->Prop}{H:Hp}{xs:List V}{ts:List (List Nat)}(h:cC S H xs ts):cf H xs ts:=⟨h.1,fun i e q=>by
 obtain⟨p,a,n,b⟩:=h.2 i e q
 exact⟨p,a,b⟩⟩
theorem cC.snoc{S:Addr->Prop}{H:Hp}{xs:List V}{ts:List (List Nat)}{q:Addr}{l:List Nat}(h:cC S H xs ts)(n:¬ S q)(e:H q=some (.lst (l.map iV))):cC S H (xs++[.ref q]) (ts++[l]):=by
 refine⟨by rw[NT,NT,h.1];rfl,fun j k ej=>?_⟩
 by_cases hj:j<ts.length
 ·rw[NX hj]at ej;obtain⟨p,a1,a2⟩:=h.2 j k ej;exact⟨p,by rw[NX (by rw[h.1];exact hj)];exact a1,a2⟩
 ·rw[NW (by omega)]at ej
  have hj2:j=ts.length:=by
   have:=(NP.mp ej).1;rw[Of]at this;omega
  subst hj2;rw[OA]at ej
  cases ej
  exact⟨q,by rw[← h.1,NW (NY _),OA];rfl,n,e⟩
theorem xf{f:Nat->Nat}{N i:Nat}{rs:List (List Nat)}(w:gn f N i rs):rs.flatten.length<=N:=fJ w.nd fun x hx=>by
 obtain⟨r,h1,h2⟩:=OY.mp hx;exact(w.ring r h1).lt x h2
theorem JD{f:Nat->Nat}{N i:Nat}{rs:List (List Nat)}(w:gn f N i rs):rs.length<=N:=by
 have h:∀(l:List (List Nat)),(∀ r∈l,0<r.length)->l.length<=l.flatten.length:=fun l=>by
  induction l with
  |nil=>intro _;exact NY _
  |cons a l ih =>
   intro h;rw[OD,NT,OJ];have h1:=h a (Og ..);have h2:=ih fun r hr=>h r (Oe _ hr);omega
 exact O6 (h rs fun r hr=>(w.ring r hr).ne) (xf w)
structure TT(K:NS)(H:Hp)(a b:Addr)(m:Nat)(es:En)(ts:List (List Nat)):Prop where
 xs:∃ xs,SqL K H a xs/\eX K H xs es
 ys:∃ ys,SqL K H b ys/\cf H ys ts
 w:bW m es ts
 few:es.length<=62
theorem TT.mono{K:NS}{H H':Hp}{a b:Addr}{m:Nat}{es:En}{ts:List (List Nat)}(t:TT K H a b m es ts)(s:Same H H'):TT K H' a b m es ts:=by
 obtain⟨⟨xs,h1,h2⟩,⟨ys,h3,h4⟩,w,f⟩:=t;exact⟨⟨xs,s.seq h1,h2.mono s⟩,⟨ys,s.seq h3,h4.mono s⟩,w,f⟩
theorem nO{m:Nat}{es:En}{ts:List (List Nat)}(w:bW m es ts)(f:es.length<=62){p:Nat}{l:List Nat}(h:ts[p]?=some l):(∀ t∈l,t<62)/\l.length<=62:=by
 have a:∀ t∈l,t<es.length:=fun t ht=>by
  obtain⟨e,he,_⟩:=(w.mem p l h t).mp ht;exact(NP.mp he).1
 exact⟨fun t ht=>by have:=a t ht;omega,O6 (fJ (w.nd p l h) a) f⟩
theorem perm{m:Nat}{es:En}{ts:List (List Nat)}(w:bW m es ts):Je (fol es ts) (2*es.length):=⟨fun d h=>by
 obtain⟨_,_,_,_,_,_,_,_,z,_⟩:=w.foll h
 exact z,fun a b ha hb h=>w.inj ha hb h⟩
def GP(K:NS):Sp:=fun vs H Q _=>∃(a:Addr)(xs:List V)(es:En)(d:Nat),vs = [.ref a,.int (d:Int)]/\SqL K H a xs/\eX K H xs es/\d<2*es.length/\Q (iV (hd es d)) H
def GO(K:NS):Sp:=fun vs H Q _=>∃(a:Addr)(xs:List V)(es:En)(t p:Nat)(e:Nat×Nat),vs = [.ref a,.int (t:Int),.int (p:Int)]/\SqL K H a xs/\eX K H xs es/\es[t]?=some e/\Q (iV (if e.1=p then 2*t else 2*t+1)) H
def Mt(K:NS):Sp:=fun vs H Q _=>∃(a b:Addr)(m:Nat)(es:En)(ts:List (List Nat))(d:Nat),vs = [.ref a,.ref b,.int (d:Int)]/\TT K H a b m es ts/\d<2*es.length/\Q (iV (fol es ts d)) H
def GQ(K:NS):Sp:=fun vs H Q _=>∃(a b:Addr)(m:Nat)(es:En)(ts:List (List Nat))(d:Nat),vs = [.ref a,.ref b,.int (d:Int)]/\TT K H a b m es ts/\d<2*es.length /\
 ∀ q r H',Same H H'->H q=none->H' q=some (.lst (r.map iV))->Path (fol es ts) (2*es.length) d r->Ring (fol es ts) (2*es.length) r->Q (.ref q) H'
def vo(K:NS):Sp:=fun vs H Q _=>∃(a b:Addr)(m:Nat)(es:En)(ts:List (List Nat)),vs = [.ref a,.ref b]/\TT K H a b m es ts /\
 ∀ q ys rs H',Same H H'->H' q=some (.lst ys)->cf H' ys rs->gn (fol es ts) (2*es.length) (2*es.length) rs->Q (.ref q) H'
def oX(H:Hp)(ys:List V)(n:Nat)(rs:List (List Nat)):Prop:=ys.length=n/\∀ i,i<n->∃ p a b r r',ys[i]?=some (.ref p)/\H p=some (.tup [iV a,iV b])/\rs[a]?=some r/\2*i∈r/\rs[b]?=some r'/\2*i+1∈r'
def A4(K:NS):Sp:=fun vs H Q _=>∃(a b:Addr)(xs ys:List V)(es:En)(f:Nat->Nat)(rs:List (List Nat)),vs = [.ref a,.ref b]/\SqL K H a xs/\eX K H xs es/\es.length<=62/\SqL K H b ys/\cf H ys rs/\gn f (2*es.length) (2*es.length) rs /\
 ∀ q zs H',Same H H'->H' q=some (.lst zs)->oX H' zs es.length rs->Q (.ref q) H'
def xJ(ns:List Int)(k:Nat):Int:=ns.getD k 0
def DT(K:NS):Sp:=fun vs H Q _=>∃(a:Addr)(k:Nat)(ns:List Int),vs = [.ref a,.int (k:Int)]/\SqL K H a (ns.map V.int)/\Q (.int (xJ ns k)) H
def Ms:Sp:=fun vs H Q _=>∃ i:Int,vs = [.int i]/\Q (.bl true) H
structure Txt(mg:Str->Option Value):Prop where
 n_len:mg "len" = none
 n_int:mg "int" = none
 n_bool:mg "bool" = none
 n_list:mg "list" = none
 n_tuple:mg "tuple" = none
 n_range:mg "range" = none
 n_enumerate:mg "enumerate" = none
 n_isinstance:mg "isinstance" = none
 n_min:mg "min" = none
 n_sum:mg "sum" = none
 n_sorted:mg "sorted" = none
section
variable{P:Program}{w:World}{K:NS}{mg:Str->Option Value}{base:Heap}
theorem GW:aA ["ties","dart","tie"] ["ties","dart"] (ah uI):=by ac_nf
theorem MP{f:Addr}{fd:FuncData} (F:Fun K "head" "head" uI f fd):FnOk P w K mg base CX0 1 f fd ["ties","dart"] (GP K):=by
 refine F.ok GW (fun vs H Q E h=>?_) (fun cdv A outer s H vs Q E hr h=>?_)
 ·obtain⟨a,xs,es,d,rfl,_⟩:=h;rfl
 obtain⟨a,xs,es,d,rfl,hS,hT,hdl,k⟩:=h;have hl:d/2<es.length:=by omega
 have e1:es[d/2]?=some es[d/2]:=NQ hl;obtain⟨p,C,dx,s',x1,x2,x3⟩:=hT.2 _ _ e1;have hh:hd es d=if d%2=0 then es[d/2].2 else es[d/2].1:=by unfold hd;rw[e1]
 have ed:(d:Int)/2=((d/2:Nat):Int):=by omega
 refine⟨_,(af (av (i:=2) GW.nd rfl (Or.inl rfl) (aN aH (pv 0) (aq bu (pv 1) aj) (fun _ _=>rfl)))
   (ao (aG (vX (aE gW (aq a8 (pv 1) aj) aj (aK _)) (cY (pv 2) rfl) (cY (pv 2) rfl))))),?_⟩
 refine⟨_,rfl,_,rfl,_,_,rfl,rfl,⟨by decide,by decide⟩,a,xs,_,_,rfl,rfl,hS,(by rw[ed];exact aD x1),?_⟩
 refine⟨_,rfl,_,_,rfl,rfl,(by show(0:Int)<2;decide),rfl,_,rfl,?_⟩
 refine ite2 (fun q=>?_) (fun q=>?_)
 ·have q':(d:Int)%2=0:=V.int.inj (of_decide_eq_true q)
  refine⟨_,rfl,p,C,dx,_,_,rfl,x2,x3.cl,x3.n2,qX _ _ _,?_⟩;rw[hh,if_pos (by omega)]at k
  exact k
 ·have q':¬ (d:Int)%2=0:=fun z=>q (decide_eq_true (congrArg V.int z))
  refine⟨_,rfl,p,C,dx,_,_,rfl,x2,x3.cl,x3.n1,mH _ _ _,?_⟩;rw[hh,if_neg (by omega)]at k
  exact k
theorem ES:aA ["ties","number","place"] ["ties","number","place"] (ah ig):=by ac_nf
theorem E6{f:Addr}{fd:FuncData} (F:Fun K "leaving" "leaving" ig f fd):FnOk P w K mg base CX0 1 f fd ["ties","number","place"] (GO K):=by
 refine F.ok ES (fun vs H Q E h=>?_) (fun cdv A outer s H vs Q E hr h=>?_)
 ·obtain⟨a,xs,es,t,p,e,rfl,_⟩:=h;rfl
 obtain⟨a,xs,es,t,pl,e,rfl,hS,hT,he,k⟩:=h;obtain⟨p,C,dx,s',x1,x2,x3⟩:=hT.2 _ _ he;have m2:CMul 2 (t:Int):=.inl ⟨by decide,by decide⟩
 refine⟨_,(ao (aG (vX (aE gW (cY (aN aH (pv 0) (pv 1) (fun _ _=>rfl)) rfl) (pv 2) (aK _)) (aq gA aj (pv 1)) (aq bq (aq gA aj (pv 1)) aj)))),?_⟩;refine⟨_,rfl,_,rfl,a,xs,_,_,rfl,rfl,hS,aD x1,p,C,dx,_,_,rfl,x2,x3.cl,x3.n1,mH _ _ _,_,rfl,rfl,_,rfl,?_⟩;refine ite2 (fun q=>?_) (fun q=>?_)
 ·have q':(e.1:Int)=(pl:Int):=V.int.inj (of_decide_eq_true q)
  refine⟨_,rfl,_,_,rfl,rfl,m2,?_⟩;rw[if_pos (by omega)]at k
  exact k
 ·have q':¬ (e.1:Int)=(pl:Int):=fun z=>q (decide_eq_true (congrArg V.int z))
  refine⟨_,rfl,_,_,rfl,rfl,m2,_,_,rfl,rfl,?_⟩;rw[if_neg (by omega)]at k
  exact k
theorem iC:aA ["ties","turns","dart","place","about","behind"] ["ties","turns","dart"] (ah fq):=by ac_nf
theorem BN{f fh fl:Addr}{fd fdh fdl:FuncData} (F:Fun K "follower" "follower" fq f fd) (T:Txt mg) (G_head:Cal P w K mg base 1 "head" ["ties","dart"] (GP K) fh fdh) (G_leaving:Cal P w K mg base 1 "leaving" ["ties","number","place"] (GO K) fl fdl):FnOk P w K mg base CX0 2 f fd ["ties","turns","dart"] (Mt K):=by
 refine F.ok iC (fun vs H Q E h=>?_) (fun cdv A outer s H vs Q E hr h=>?_)
 ·obtain⟨a,b,m,es,ts,d,rfl,_⟩:=h;rfl
 obtain⟨a,b,m,es,ts,d,rfl,tt,hdl,k⟩:=h;obtain⟨⟨xs,h1,h2⟩,⟨ys,h3,h4⟩,w',few⟩:=tt;obtain⟨l,e,p1,p2,p3,p4,p5,p6,p7,p8,p9⟩:=w'.foll hdl;obtain⟨small,len⟩:=nO w' few p1;obtain⟨q,y1,y2⟩:=h4.2 _ _ p1;have ed:(d:Int)/2=((d/2:Nat):Int):=by omega
 refine⟨_,(af (av (i:=3) iC.nd rfl (Or.inl rfl) (aB G_head.ok (hr.mono (by decide)) rfl G_head.mg G_head.kp G_head.bn .nil bb (aa (pv 0) (aa (pv 2) ag))))
   (af (av (i:=4) iC.nd rfl (Or.inl rfl) (aN aH (pv 1) (pv 3) (fun _ _=>rfl)))
   (af (av (i:=5) iC.nd rfl (Or.inl rfl) (aq a8 (aq bq (iF OE Si Sh Eb (pv 4) (aa (aq bu (pv 2) aj) ag)) aj) (aw ar (by rfl) T.n_len bo (aa (pv 4) ag))))
   (ao (aG (aB G_leaving.ok (hr.mono (by decide)) rfl G_leaving.mg G_leaving.kp G_leaving.bn .nil bb (aa (pv 0) (aa (aN aH (pv 4) (pv 5) (fun _ _=>rfl)) (aa (pv 3) ag))))))))),?_⟩
 refine⟨_,rfl,_,rfl,a,xs,es,d,rfl,h1,h2,hdl,?_⟩;refine⟨_,rfl,_,rfl,b,ys,_,_,rfl,rfl,h3,aD y1,?_⟩;have hlen:(l.map iV).length=l.length:=NR _;have hl0:0<l.length:=Qi p2;have hmod:(((l.idxOf (d/2):Nat):Int)+1)%((l.map iV).length:Int)=(((l.idxOf (d/2)+1)%l.length:Nat):Int):=by rw[hlen];rfl
 refine⟨_,rfl,.inl ⟨rfl,_,SqL.of y2⟩,_,rfl,_,_,rfl,rfl,⟨by decide,by decide⟩,q,l,d/2,rfl,congrArg (fun z=>[V.int z]) ed,SqL.of y2,fun p hp=>by have:=small p hp;omega,by omega,p2,_,_,rfl,rfl,_,rfl,q,_,rfl,.inl (SqL.of y2),_,_,rfl,rfl,(by show(0:Int)<((l.map iV).length:Int);rw[hlen];omega),?_⟩
 refine⟨_,rfl,_,rfl,_,rfl,q,_,_,_,rfl,rfl,SqL.of y2,(by rw[hmod];exact iV_at (ly p2)),_,rfl,a,xs,es,nxt l (d/2),hd es d,e,rfl,h1,h2,p3,?_⟩
 rw[p6]at k;exact k
theorem eY:aA ["ties","turns","first","row","dart"] ["ties","turns","first"] (ah cQ):=by ac_nf
theorem MQ{f ff:Addr}{fd fdf:FuncData} (F:Fun K "round_from" "round_from" cQ f fd) (G_follower:Cal P w K mg base 2 "follower" ["ties","turns","dart"] (Mt K) ff fdf):FnOk P w K mg base CX0 3 f fd ["ties","turns","first"] (GQ K):=by
 refine F.ok eY (fun vs H Q E h=>?_) (fun cdv A outer s H vs Q E hr h=>?_)
 ·obtain⟨a,b,m,es,ts,d,rfl,_⟩:=h;rfl
 obtain⟨a,b,m,es,ts,d,rfl,tt,hdl,k⟩:=h;have pm:=perm tt.w
 refine⟨_,(af (av (i:=3) eY.nd rfl (Or.inl rfl) (bj (aa (pv 2) ag)))
   (af (av (i:=4) eY.nd rfl (Or.inl rfl) (aB G_follower.ok (hr.mono (by decide)) rfl G_follower.mg G_follower.kp G_follower.bn .nil bb (aa (pv 0) (aa (pv 1) (aa (pv 2) ag)))))
   (af (mR PassesOwn.never (aE wa (pv 4) (pv 2) (aK _)) (af (bp (iF OE OQ OP bx (pv 3) (aa (pv 4) ag)))
   (ao (av (i:=4) eY.nd rfl (Or.inl rfl) (aB G_follower.ok (hr.mono (by decide)) rfl G_follower.mg G_follower.kp G_follower.bn .nil bb (aa (pv 0) (aa (pv 1) (aa (pv 4) ag))))))))
   (ao (aG (pv 3)))))),?_⟩
 refine⟨_,rfl,(by show 1<=sizeLine;decide),fun q hq=>?_⟩
 have s1:=ai hq (.lst [.int (d:Int)]);refine⟨_,rfl,_,rfl,_,rfl,a,b,m,es,ts,d,rfl,tt.mono s1,hdl,?_⟩;refine DN (fun σ H2=>∃(r:List Nat)(x:Nat),σ = [some (.ref a),some (.ref b),some (.int (d:Int)),some (.ref q),some (iV (fol es ts x))]/\Same H H2/\H2 q=some (.lst ((r++[x]).map iV))/\Path (fol es ts) (2*es.length) d (r++[x]))
  (fun σ H2=>match H2 q with | some (.lst xs)=>200-xs.length | _=>0) ⟨[],d,rfl,s1,ae,JV hdl⟩ ?_ ?_
 ·rintro σ H2 ⟨r,x,rfl,s2,hq2,pa⟩;refine⟨_,rfl,_,rfl,rfl,_,rfl,?_⟩;have few:=tt.few;have hlen:=fJ pa.nd pa.lt;refine ite2 (fun c=>?_) (fun c=>?_)
  ·have c':fol es ts x≠d:=fun z=>by
    rw[decide_eq_true (show iV (fol es ts x)=V.int (d:Int) by rw[z];rfl)]at c
    cases c
   have pa2:=pa.snoc pm c';have hlen2:=fJ pa2.nd pa2.lt;have lt2:fol es ts x<2*es.length:=pa2.lt _ (by simp)
   refine⟨_,rfl,.inl ⟨rfl,_,SqL.of hq2⟩,_,rfl,q,_,_,rfl,rfl,hq2,au (by rw[NR];omega),?_⟩
   have s3:=bf s2 hq (.lst ((r++[x]).map iV++[iV (fol es ts x)]));refine⟨_,rfl,_,rfl,_,rfl,a,b,m,es,ts,fol es ts x,rfl,tt.mono s3,lt2,?_⟩;refine⟨⟨r++[x],fol es ts x,rfl,s3,?_,pa2⟩,?_⟩
   ·rw[ae,show((r++[x]++[fol es ts x]).map iV)=(r++[x]).map iV++[iV (fol es ts x)] from by rw[Oo];rfl]
   ·show(match(upd H2 q (.lst ((r++[x]).map iV++[iV (fol es ts x)]))) q with | some (.lst xs)=>200-xs.length | _=>0)<(match H2 q with | some (.lst xs)=>200-xs.length | _=>0)
    rw[ae,hq2];show 200-((r++[x]).map iV++[iV (fol es ts x)]).length<200-((r++[x]).map iV).length;rw[NT,NR,Of];omega
  ·have c':fol es ts x=d:=by
    by_cases z:fol es ts x=d
    ·exact z
    ·exact absurd (by rw[decide_eq_false (fun y=>z (by have:=V.int.inj y;omega))];rfl) c
   refine⟨_,rfl,?_⟩;exact k q _ H2 s2 hq hq2 pa (pa.ring pm c')
 ·rintro σ H2 Q1 Q2 hi ⟨v',e,b',e2,z1,c',e3,q'⟩;exact⟨v',e,b',e2,z1,c',e3,hi _ _ q'⟩
theorem cN:aA ["ties","turns","rounds","seen","dart","row","gone"] ["ties","turns"] (ah dM):=by ac_nf
theorem Ht{f ff:Addr}{fd fdf:FuncData} (F:Fun K "rounds_of" "rounds_of" dM f fd) (T:Txt mg) (G_round_from:Cal P w K mg base 3 "round_from" ["ties","turns","first"] (GQ K) ff fdf):FnOk P w K mg base CX0 4 f fd ["ties","turns"] (vo K):=by
 refine F.ok cN (fun vs H Q E h=>?_) (fun cdv A outer s H vs Q E hr h=>?_)
 ·obtain⟨a,b,m,es,ts,rfl,_⟩:=h;rfl
 obtain⟨a,b,m,es,ts,rfl,tt,k⟩:=h;have hu:=FH hr;have pm:=perm tt.w;have few:=tt.few;obtain⟨xs,h1,h2⟩:=tt.xs
 refine⟨_,(af (av (i:=2) cN.nd rfl (Or.inl rfl) (bj ag))
   (af (av (i:=3) cN.nd rfl (Or.inl rfl) D3)
   (af (cA PassesOwn.never rfl (aW rfl T.n_range (aa (aq gA aj (aw ar (by rfl) T.n_len bo (aa (pv 0) ag))) ag)) (aX (i:=4) cN.nd rfl (Or.inl rfl)) (ao (b9 (G8 (yQ hu (pv 4) (pv 3))) (af (av (i:=5) cN.nd rfl (Or.inl rfl) (aB G_round_from.ok (hr.mono (by decide)) rfl G_round_from.mg G_round_from.kp G_round_from.bn .nil bb (aa (pv 0) (aa (pv 1) (aa (pv 4) ag)))))
   (af (bp (iF OE OQ OP bx (pv 2) (aa (pv 5) ag)))
   (ao (cA PassesOwn.never rfl (br (pv 5)) (aX (i:=6) cN.nd rfl (Or.inl rfl)) (ao (Bx hu (pv 3) (pv 6) BL rfl)))))) aR)))
   (ao (aG (pv 2)))))),?_⟩
 refine⟨(by show 0<=sizeLine;decide),fun qr hqr=>fun qs hqs=>?_⟩
 have s1:=(ai hqr (.lst [])).trans (ai hqs (.dK []));have hqs0:H qs=none:=by
  cases z:H qs with
  |none=>rfl
  |some o=>rw[ai hqr (.lst []) qs o z]at hqs;cases hqs
 have hne:qr≠qs:=fun z=>by rw[← z,ae]at hqs;cases hqs
 have hxl:xs.length=es.length:=h2.1;have hN:(2*(xs.length:Int)).toNat=2*es.length:=by omega
 refine⟨_,rfl,a,xs,rfl,.inl (s1.seq h1),_,_,rfl,rfl,.inl ⟨by decide,by decide⟩,_,rfl,by omega,by omega,cn (n:=(2*(xs.length:Int)).toNat) (fun i σ H2=>∃ v4 v5 v6 ys rs kvs,σ = [some (.ref a),some (.ref b),some (.ref qr),some (.ref qs),v4,v5,v6]/\Same H H2/\H2 qr=some (.lst ys)/\cC (fun p=>p=qr∨p=qs) H2 ys rs/\H2 qs=some (.dK kvs)/\kvs.length<=rs.flatten.length/\(∀ d:Nat,(valV kvs (Sum.inl (d:Int))).isSome=true↔d∈rs.flatten)/\gn (fol es ts) (2*es.length) i rs)
  ⟨_,_,_,[],[],[],rfl,s1,by rw[ak hne,ae],⟨rfl,fun i l e=>by simp at e⟩,ae,NY _,fun d=>by simp[valV],ET _ _⟩ ?_ ?_⟩
 ·rintro i σ H2 hi ⟨v4,v5,v6,ys,rs,kvs,rfl,s2,e1,rx,e2,kl,km,ro⟩;rw[hN]at hi;have e0:(0:Int)+(i:Int)=(i:Int):=Po _;rw[e0];have fl:=xf ro;have rl:=JD ro;refine⟨_,rfl,_,rfl,_,_,rfl,DGet.k (k:=Sum.inl (i:Int)) e2,_,rfl,?_⟩;refine ite2 (fun c=>?_) (fun c=>?_)
  ·have hni:i∉rs.flatten:=fun z=>by
    rw[(km i).mpr z]at c
    cases c
   refine⟨_,rfl,_,rfl,_,rfl,a,b,m,es,ts,i,rfl,tt.mono s2,hi,fun q r H3 s3 hq hq3 pa ri=>?_⟩;have s23:=s2.trans s3;have nq:¬ (q=qr∨q=qs):=by
    rintro(z | z)
    ·rw[z,e1]at hq;cases hq
    ·rw[z,e2]at hq;cases hq
   refine⟨_,rfl,.inl ⟨rfl,_,SqL.of (s3 _ _ e1)⟩,_,rfl,qr,_,_,rfl,rfl,s3 _ _ e1,au (by rw[rx.1];omega),?_⟩
   have s4:=bf s23 hqr (.lst (ys++[.ref q]));have hrq:∀{H5:Hp},cC (fun p=>p=qr∨p=qs) H5 (ys++[.ref q]) (rs++[r])->H5 q=some (.lst (r.map iV)):=fun h=>by
    obtain⟨p,z1,_,z2⟩:=h.2 rs.length r (by rw[NW (NY _),OA];rfl)
    rw[← rx.1,NW (NY _),OA]at z1
    cases z1
    exact z2
   have rx4:cC (fun p=>p=qr∨p=qs) (upd H3 qr (.lst (ys++[.ref q]))) (ys++[.ref q]) (rs++[r]):=by
    refine(rx.mono fun p o n z=>?_).snoc nq ?_
    ·rw[ak (fun z=>n (.inl z))];exact s3 _ _ z
    ·rw[ak (fun z=>nq (.inl z))];exact hq3
   have rl:r.length<=2*es.length:=fJ ri.nd ri.lt
   refine⟨_,rfl,q,rfl,⟨_,SqL.of (hrq rx4)⟩,gH (xs:=r.map iV) (fun j σ H5=>∃ v6 kvs',σ = [some (.ref a),some (.ref b),some (.ref qr),some (.ref qs),some (.int (i:Int)),some (.ref q),v6]/\Same H H5/\H5 qr=some (.lst (ys++[.ref q]))/\cC (fun p=>p=qr∨p=qs) H5 (ys++[.ref q]) (rs++[r])/\H5 qs=some (.dK kvs')/\kvs'.length<=rs.flatten.length+j/\∀ d:Nat,(valV kvs' (Sum.inl (d:Int))).isSome=true↔d∈rs.flatten∨d∈r.take j)
    ⟨_,kvs,rfl,s4,ae,rx4,by rw[ak hne.symm];exact s3 _ _ e2,kl,fun d=>by rw[km d];simp⟩ (fun j σ H5 _ p=>?_) ?_ ?_⟩
   ·obtain⟨_,_,_,_,_,z,_⟩:=p;exact SqL.of (hrq z)
   ·rintro j x σ H5 hx ⟨v6,kvs',rfl,s5,f1,rx5,f2,kl5,km5⟩;rw[NZ]at hx;obtain⟨g,hg,rfl⟩:=O0.mp hx;have hjl:j<r.length:=(NP.mp hg).1;refine⟨_,rfl,_,rfl,qs,_,rfl,DPut.k (k:=Sum.inl (g:Int)) f2 (au (by omega)),?_⟩
    refine⟨_,_,rfl,bf s5 hqs0 _,by rw[ak hne];exact f1,rx5.mono fun p o n z=>by rw[ak (fun z=>n (.inr z))];exact z,ae,by have:=fH kvs' (Sum.inl (g:Int)) (V.bl true);omega,fun d=>?_⟩
    rw[vj];have tk:r.take (j+1)=r.take j++[g]:=by rw[O7,hg];rfl
    rw[tk];by_cases z:d=g
    ·subst z;simp
    ·rw[if_neg (fun y=>z (by have:=Sum.inl.inj y;omega)),km5 d]
     simp[z]
   ·rintro σ H5 ⟨v6,kvs',rfl,s5,f1,rx5,f2,kl5,km5⟩;rw[NR]at kl5 km5;refine⟨_,_,_,_,rs++[r],kvs',rfl,s5,f1,rx5,f2,by rw[PB,NT];simpa using kl5,fun d=>?_,ro.put pm hni hi ri pa⟩
    rw[km5 d,Pb,PB,N0];simp
  ·have hii:i∈rs.flatten:=(km i).mp (by
    cases z:(valV kvs (Sum.inl (i:Int))).isSome with
    |true=>rfl
    |false=>exact absurd (by rw[z];rfl) c)
   exact⟨_,_,_,ys,rs,kvs,rfl,s2,e1,rx,e2,kl,km,ro.skip hii⟩
 ·rintro σ H2 ⟨v4,v5,v6,ys,rs,kvs,rfl,s2,e1,rx,e2,kl,km,ro⟩;rw[hN]at ro;exact⟨_,rfl,k qr ys rs H2 s2 e1 rx.off ro⟩
theorem fD:aA ["ties","rounds","number_at","number","row","dart"] ["ties","rounds"] (ah fg):=by ac_nf
theorem Ka{f:Addr}{fd:FuncData} (F:Fun K "sides_of" "sides_of" fg f fd) (T:Txt mg):FnOk P w K mg base CX0 1 f fd ["ties","rounds"] (A4 K):=by
 refine F.ok fD (fun vs H Q E h=>?_) (fun cdv A outer s H vs Q E hr h=>?_)
 ·obtain⟨a,b,xs,ys,es,g,rs,rfl,_⟩:=h;rfl
 obtain⟨a,b,xs,ys,es,g,rs,rfl,hS,hT,few,hB,hR,ro,k⟩:=h;have hu:=FH hr;have fl:=xf ro
 refine⟨_,(af (av (i:=2) fD.nd rfl (Or.inr rfl) D3)
   (af (cA PassesOwn.never rfl (He rfl T.n_enumerate (aa (pv 1) ag)) (Hg rfl (kd (aX (i:=3) fD.nd rfl (Or.inl rfl)) (kd (aX (i:=4) fD.nd rfl (Or.inl rfl)) BG))) (ao (cA PassesOwn.never rfl (br (pv 4)) (aX (i:=5) fD.nd rfl (Or.inl rfl)) (ao (Bx hu (pv 2) (pv 5) (pv 3) rfl)))))
   (ao (aG (dj rfl (fr:=[("number_at",2)]) (by exact bF.one (by rfl) (by decide) (by rfl) (by decide) (by rfl) (by decide) (by rfl) (by rfl) (by decide) (by rfl)) (aW rfl T.n_range (aa (aw ar (by rfl) T.n_len bo (aa (pv 0) ag)) ag)) (fun C ex s H=>(i9 (aa (BK hu (pv 1) (aq gA aj (pv 0)) (fun _ _=>rfl)) (aa (BK hu (pv 1) (aq bq (aq gA aj (pv 0)) aj) (fun _ _=>rfl)) ag))))))))),?_⟩
 intro q hq;have s1:=ai hq (.dK []);have kF:∀ i,(rs.take i).flatten.length<=rs.flatten.length:=fun i=>by
  have:=congrArg (fun z=>z.flatten.length) (OF i rs);simp only[PB,NT]at this;omega
 refine⟨_,rfl,b,rfl,⟨_,s1.seq hB⟩,Ek (K:=K) (xs:=ys) (fun i σ H2=>∃ v3 v4 v5 kvs,σ = [some (.ref a),some (.ref b),some (.ref q),v3,v4,v5]/\Same H H2/\H2 q=some (.dK kvs)/\kvs.length<=(rs.take i).flatten.length/\∀(d c:Nat)(r:List Nat),c<i->rs[c]?=some r->d∈r->valV kvs (Sum.inl (d:Int))=some (iV c))
  ⟨_,_,_,[],rfl,s1,ae,O5 _,fun d c r z=>absurd z (P5 _)⟩ (fun i σ H2 _ ⟨_,_,_,_,_,s2,_⟩=>s2.seq hB) ?_ ?_⟩
 ·rintro i x σ H2 T2 hx ⟨v3,v4,v5,kvs,rfl,s2,e1,kl,km⟩ hT2;have hil:i<rs.length:=by
   have:=(NP.mp hx).1;rw[hR.1]at this;exact this
  have hr':rs[i]?=some rs[i]:=NQ hil;obtain⟨p,x1,x2⟩:=hR.2 i _ hr';rw[hx]at x1
  cases x1
  generalize rs[i]=r at hr' x2;have s3:Same H (upd H2 T2 (.tup [.int (i:Int),.ref p])):=s2.trans (ai hT2 _);have f1:(rs.take (i+1)).flatten=(rs.take i).flatten++r:=by rw[O7,hr'];simp
  have f2:=kF (i+1);rw[f1,NT]at f2;refine⟨T2,_,rfl,SqT.of ae,rfl,_,_,rfl,_,_,rfl,rfl,?_⟩
  refine⟨_,rfl,p,rfl,⟨_,SqL.of (s3 _ _ x2)⟩,gH (xs:=r.map iV) (fun j σ H5=>∃ v5 kvs',σ = [some (.ref a),some (.ref b),some (.ref q),some (.int (i:Int)),some (.ref p),v5]/\Same H H5/\H5 q=some (.dK kvs')/\kvs'.length<=(rs.take i).flatten.length+j/\(∀(d c:Nat)(r:List Nat),c<i->rs[c]?=some r->d∈r->valV kvs' (Sum.inl (d:Int))=some (iV c))/\∀ d∈r.take j,valV kvs' (Sum.inl (d:Int))=some (iV i))
   ⟨_,kvs,rfl,s3,ai hT2 _ _ _ e1,kl,km,fun d hd=>by simp at hd⟩ (fun j σ H5 _ ⟨_,_,_,z,_⟩=>SqL.of (z _ _ x2)) ?_ ?_⟩
  ·rintro j x σ H5 hx2 ⟨v5,kvs',rfl,s5,g1,kl5,km5,kn5⟩;rw[NZ]at hx2;obtain⟨g,hg,rfl⟩:=O0.mp hx2;have hjl:j<r.length:=(NP.mp hg).1;refine⟨_,rfl,_,rfl,_,rfl,q,_,rfl,DPut.k (k:=Sum.inl (g:Int)) g1 (au (by omega)),?_⟩
   refine⟨_,_,rfl,bf s5 hq _,ae,by have:=fH kvs' (Sum.inl (g:Int)) (V.int (i:Int));omega,fun d c r' hc hrc hd=>?_,fun d hd=>?_⟩
   ·rw[vj,if_neg (fun z=>?_)]
    ·exact km5 d c r' hc hrc hd
    ·have z':d=g:=by have:=Sum.inl.inj z;omega
     subst z';have:=Nl ro.nd hrc hr' hd (NV hg);omega
   ·rw[vj];by_cases z:d=g
    ·subst z;rw[if_pos rfl];rfl
    ·rw[if_neg (fun y=>z (by have:=Sum.inl.inj y;omega))]
     refine kn5 d ?_;rw[O7,hg]at hd;simpa[z] using hd
  ·rintro σ H5 ⟨v5,kvs',rfl,s5,g1,kl5,km5,kn5⟩;rw[NR]at kl5 kn5;rw[Pb]at kn5;refine⟨_,_,_,kvs',rfl,s5,g1,by rw[f1,NT];exact kl5,fun d c r' hc hrc hd=>?_⟩
   by_cases z:c=i
   ·subst z;rw[hr']at hrc
    cases hrc
    exact kn5 d hd
   ·exact km5 d c r' (by omega) hrc hd
 ·rintro σ H2 ⟨v3,v4,v5,kvs,rfl,s2,e1,kl,km⟩;rw[hR.1]at km;have get:∀ d,d<2*es.length->∃ c r,rs[c]?=some r/\d∈r/\valV kvs (Sum.inl (d:Int))=some (iV c):=fun d hd=>by
   obtain⟨r,z1,z2⟩:=OY.mp (ro.all d hd);obtain⟨c,z3⟩:=OS.mp z1;exact⟨c,r,z3,z2,km d c r (NP.mp z3).1 z3 z2⟩
  have hxl:xs.length=es.length:=hT.1;refine⟨_,rfl,a,xs,rfl,.inl (s2.seq hS),_,rfl,by omega,by omega,fB (fun i zs H3=>Same H2 H3/\oX H3 zs i rs) (by rw[Ob,hxl];exact OG (au (by omega))) ⟨fun _ _ e=>e,rfl,fun i hi=>absurd hi (P5 _)⟩ ?_ ?_⟩
  ·rintro i zs H3 hi ⟨s3,sd⟩;have e0:(0:Int)+(i:Int)=(i:Int):=Po _;rw[e0];rw[Ob,hxl]at hi;obtain⟨c1,r1,z1,z2,z3⟩:=get (2*i) (by omega)
   obtain⟨c2,r2,y1,y2,y3⟩:=get (2*i+1) (by omega)
   have m2:CMul 2 (i:Int):=.inl ⟨by decide,by decide⟩
   have d1:DGet H3 q (V.int (2*(i:Int))) (some (iV c1)):=by
    rw[← z3,show((2*i:Nat):Int)=2*(i:Int) by omega]
    exact DGet.k (k:=Sum.inl (2*(i:Int))) (s3 _ _ e1)
   have d2:DGet H3 q (V.int (2*(i:Int)+1)) (some (iV c2)):=by
    rw[← y3,show((2*i+1:Nat):Int)=2*(i:Int)+1 by omega]
    exact DGet.k (k:=Sum.inl (2*(i:Int)+1)) (s3 _ _ e1)
   refine⟨_,rfl,_,rfl,_,_,rfl,rfl,m2,q,_,rfl,d1,_,rfl,_,rfl,_,_,rfl,rfl,m2,_,_,rfl,rfl,q,_,rfl,d2,(by show 2<=sizeLine;decide),fun t ht=>?_⟩
   have s4:=ai ht (.tup [iV c1,iV c2]);refine⟨s3.trans s4,by rw[NT,sd.1];rfl,fun j hj=>?_⟩
   by_cases z:j=i
   ·subst z;exact⟨t,c1,c2,r1,r2,by rw[← sd.1,NW (NY _),OA];rfl,ae,z1,z2,y1,y2⟩
   ·obtain⟨p,a',b',r,r',w1,w2,w3⟩:=sd.2 j (by omega)
    exact⟨p,a',b',r,r',by rw[NX (by rw[sd.1];omega)];exact w1,s4 _ _ w2,w3⟩
  ·rintro zs H3 hzl ⟨s3,sd⟩ D hD;rw[Ob,hxl]at sd
   exact k D zs _ ((s2.trans s3).trans (ai hD _)) ae ⟨sd.1,fun i hi=>by
    obtain⟨p,a',b',r,r',w1,w2,w3⟩:=sd.2 i hi
    exact⟨p,a',b',r,r',w1,ai hD _ _ _ w2,w3⟩⟩
theorem vK:aA ["self","one","two","strength"] ["self","one","two","strength"] (ah cX):=by ac_nf
theorem MO{f:Addr}{fd:FuncData} (F:Fun K "__init__" "Tie.__init__" cX f fd):FnOk P w K mg base CX0 1 f fd ["self","one","two","strength"] (o7 K):=by
 refine F.ok vK (fun vs H Q E h=>?_) (fun cdv A outer s H vs Q E hr h=>?_)
 ·obtain⟨p,C,dx,a,b,s,rfl,_⟩:=h;rfl
 obtain⟨p,C,dx,a,b,st,rfl,hp,T,hne,ha,hb,hs,k⟩:=h
 refine⟨_,(af (b9 (aE gW (pv 1) (pv 2) (aK _)) (ao iD) aR)
   (af (b9 (PW.pt (G4 (aE E2 (pv 1) aj (aK _)) (yC (aE E2 (pv 2) aj (aK _))))) (ao iD) aR)
   (af (b9 (aE E2 (pv 3) aj (aK _)) (ao iD) aR)
   (af (o8 (pv 0) (pv 1) rfl)
   (af (o8 (pv 0) (pv 2) rfl)
   (ao (o8 (pv 0) (pv 3) rfl))))))),?_⟩
 walk_at "rd";refine ite2 (fun c=>absurd (V.int.inj (of_decide_eq_true c)) hne) (fun _=>?_);walk_at "rd";refine ite2 (fun c=>absurd (of_decide_eq_true c) (by omega)) (fun _=>?_)
 walk_at "rd";refine ite2 (fun c=>absurd (of_decide_eq_true c) (by omega)) (fun _=>?_)
 walk_at "rd";refine ite2 (fun c=>absurd (of_decide_eq_true c) (by omega)) (fun _=>?_)
 refine⟨_,rfl,_,rfl,p,C,dx,[],rfl,hp,T.cl,T.n1,(by show 0<1000;decide),?_⟩
 refine⟨_,rfl,_,rfl,p,C,dx,_,rfl,ae,T.cl,T.n2,f1_len a,?_⟩;refine⟨_,rfl,_,rfl,p,C,dx,_,rfl,ae,T.cl,T.n3,f2_len a b,?_⟩;exact k _ ae fun q o e hq=>by rw[ak hq,ak hq,ak hq];exact e
theorem Bp:aA ["script","k"] ["script","k"] (ah fm):=by ac_nf
theorem MT{f:Addr}{fd:FuncData} (F:Fun K "_law_cell" "_law_cell" fm f fd) (T:Txt mg):FnOk P w K mg base CX0 1 f fd ["script","k"] (DT K):=by
 refine F.ok Bp (fun vs H Q E h=>?_) (fun cdv A outer s H vs Q E hr h=>?_)
 ·obtain⟨a,k,ns,rfl,_⟩:=h;rfl
 obtain⟨a,k,ns,rfl,hS,q⟩:=h
 refine⟨_,(af (b9 (aE E2 (pv 1) (aw ar (by rfl) T.n_len bo (aa (pv 0) ag)) (aK _)) (ao (aG (aN aH (pv 0) (pv 1) (fun _ _=>rfl)))) aR)
   (ao (aG aj))),?_⟩
 refine⟨_,rfl,_,rfl,a,_,rfl,.inl hS,_,_,rfl,rfl,_,rfl,?_⟩;refine ite2 (fun c=>?_) (fun c=>?_)
 ·have c':(k:Int)<((ns.map V.int).length:Int):=of_decide_eq_true c
  rw[NR]at c';have hk:k<ns.length:=by omega
  have hat:atI (ns.map V.int) (k:Int)=some (.int (xJ ns k)):=aD (by rw[NZ,NQ hk];unfold xJ;rw[OB,NQ hk];rfl)
  exact⟨_,rfl,_,rfl,a,_,_,_,rfl,rfl,hS,hat,q⟩
 ·have c':¬ (k:Int)<((ns.map V.int).length:Int):=fun z=>c (decide_eq_true z)
  rw[NR]at c';have e:xJ ns k=0:=by unfold xJ;rw[OB,P9 (by omega)];rfl
  rw[e]at q;exact q
theorem at0{u v:V}:atI [u,v] 0=some u:=rfl
theorem at1{u v:V}:atI [u,v] 1=some v:=rfl
theorem cF{H:Hp}{a:Addr}{ps:List Nat}(h:SqL K H a (ps.map iV)):RdD K H (.ref a) (.list ((ps.map fun(p:Nat)=>((p:Nat):Int)).map PyData.int)):=by
 refine RdD.lst h (by simp) fun i x d e1 e2=>?_
 rw[NZ]at e1;rw[NZ,NZ]at e2
 cases z:ps[i]? with
 |none=>rw[z]at e1;cases e1
 |some n =>
  rw[z]at e1 e2
  cases e1
  cases e2
  exact .int _
theorem Ie(l:List Int):(PyData.list (l.map PyData.int)).canLay0=true/\(PyData.list (l.map PyData.int)).depth<=10:=by
 have h1:∀ d∈l.map PyData.int,d.canLay0=true/\d.depth<=1:=fun d hd=>by
  obtain⟨x,_,rfl⟩:=OL.mp hd;exact⟨by simp[PyData.canLay0],by simp[PyData.depth]⟩
 have h2:=jL fun d hd=>(h1 d hd).1;have h3:=lV fun d hd=>(h1 d hd).2;exact⟨by simp only[PyData.canLay0];exact h2,by simp only[PyData.depth];omega⟩
theorem bQ(l:List Int):SeqAt.shaped (.list (l.map PyData.int))=true:=rf fun d hd=>by
 obtain⟨x,_,rfl⟩:=OL.mp hd;exact⟨by simp[PyData.canLay0],by simp[PyData.depth]⟩
theorem c6.put{H:Hp}{ys:List V}{es:En}{q:Addr}{zs:List V}{o:HO}(t:c6 H ys es)(h:H q=some (.lst zs)):c6 (upd H q o) ys es:=⟨t.1,fun i e z=>by
 obtain⟨p,a,b⟩:=t.2 i e z;refine⟨p,a,?_⟩;rw[ak (fun z=>by rw[z,h]at b;cases b)]
 exact b⟩
theorem c6.snoc{H:Hp}{xs:List V}{es:En}{e:Nat×Nat}{p:Addr}(t:c6 H xs es)(h:H p=some (.tup [iV e.1,iV e.2])):c6 H (xs++[.ref p]) (es++[e]):=by
 refine⟨by rw[NT,NT,t.1];rfl,fun j k ej=>?_⟩
 by_cases hj:j<es.length
 ·rw[NX hj]at ej;obtain⟨p,a1,a2⟩:=t.2 j k ej;exact⟨p,by rw[NX (by rw[t.1];exact hj)];exact a1,a2⟩
 ·rw[NW (by omega)]at ej
  have hj2:j=es.length:=by
   have:=(NP.mp ej).1;rw[Of]at this;omega
  subst hj2;rw[OA]at ej
  cases ej
  exact⟨p,by rw[← t.1,NW (NY _),OA];rfl,h⟩
theorem Nj{l:List Nat}{k n:Nat}:(ins l k n).length=l.length+1:=by
 unfold ins;rw[NT,OJ,Ou,OX];omega
theorem LN(X:Int)(n:Nat):0<=X%((n:Int)+1)/\X%((n:Int)+1)<=(n:Int):=⟨Pk _ (by omega),by have:=Pe X (show(0:Int)<(n:Int)+1 by omega);omega⟩
def Dist(xs:List V):Prop:=∀(i j:Nat)(p:Addr),xs[i]?=some (.ref p)->xs[j]?=some (.ref p)->i=j
theorem cC.set{S:Addr->Prop}{H:Hp}{xs:List V}{ts:List (List Nat)}{i:Nat}{p:Addr}{l':List Nat}(h:cC S H xs ts)(D:Dist xs)(e:xs[i]?=some (.ref p)):cC S (upd H p (.lst (l'.map iV))) xs (ts.set i l'):=by
 refine⟨by rw[OT];exact h.1,fun j l z=>?_⟩
 have hi:i<ts.length:=by rw[← h.1];exact(NP.mp e).1
 rw[OM]at z;by_cases hj:i=j
 ·subst hj;rw[if_pos rfl,if_pos hi]at z
  cases z
  obtain⟨p',a1,a2,a3⟩:=h.2 i _ (NQ hi);rw[e]at a1
  cases a1
  exact⟨p,e,a2,ae⟩
 ·rw[if_neg hj]at z;obtain⟨p',a1,a2,a3⟩:=h.2 j l z;exact⟨p',a1,a2,by rw[ak (fun y=>by rw[y]at a1;exact hj (D i j p e a1))];exact a3⟩
theorem insV{l:List Nat}{k n:Nat}:(l.map iV).take k++V.int (n:Int)::(l.map iV).drop k=(ins l k n).map iV:=by
 unfold ins;rw[Oo,OW,QM,QN];rfl
theorem GZ{H:Hp}{a:Addr}{xs:List V}{ts:List (List Nat)}(h:SqL K H a xs)(hR:cf H xs ts):RdD K H (.ref a) (.list (ts.map fun l=>PyData.list ((l.map fun(p:Nat)=>((p:Nat):Int)).map PyData.int))):=by
 refine RdD.lst h (by rw[NR];exact hR.1) fun i x d e1 e2=>?_
 rw[NZ]at e2;obtain⟨l,hl,rfl⟩:=O0.mp e2;obtain⟨p,a1,a2⟩:=hR.2 i l hl;rw[e1]at a1
 cases a1
 exact cF (SqL.of a2)
theorem Bt(ts:List (List Nat)):SeqAt.shaped (.list (ts.map fun l=>PyData.list ((l.map fun(p:Nat)=>((p:Nat):Int)).map PyData.int)))=true:=rf fun d hd=>by
 obtain⟨l,_,rfl⟩:=OL.mp hd;exact Ie _
end
end K8
namespace K8
open PySem L2
def Bc(K:NS):Sp:=fun vs H Q _=>∃(a:Addr)(ys:List V)(es:En)(d:Nat),vs = [.ref a,.int (d:Int)]/\SqL K H a ys/\c6 H ys es/\d<2*es.length/\Q (iV (hd es d)) H
section
variable{P:Program}{w:World}{K:NS}{mg:Str->Option Value}{base:Heap}
theorem Bo:aA ["ends","dart"] ["ends","dart"] (ah fj):=by ac_nf
theorem Kh{f:Addr}{fd:FuncData} (F:Fun K "_law_head" "_law_head" fj f fd):FnOk P w K mg base CX0 1 f fd ["ends","dart"] (Bc K):=by
 refine F.ok Bo (fun vs H Q E h=>?_) (fun cdv A outer s H vs Q E hr h=>?_)
 ·obtain⟨a,ys,es,d,rfl,_⟩:=h;rfl
 obtain⟨a,ys,es,d,rfl,hS,hE,hdl,k⟩:=h;have hl:d/2<es.length:=by omega
 have e1:es[d/2]?=some es[d/2]:=NQ hl;obtain⟨p,x1,x2⟩:=hE.2 _ _ e1;have hh:hd es d=if d%2=0 then es[d/2].2 else es[d/2].1:=by unfold hd;rw[e1]
 have ed:(d:Int)/2=((d/2:Nat):Int):=by omega
 have hat:atI [iV es[d/2].1,iV es[d/2].2] (1-(d:Int)%2)=some (iV (hd es d)):=by
  by_cases z:d%2=0
  ·rw[hh,if_pos z,show(1-(d:Int)%2)=1 by omega];rfl
  ·rw[hh,if_neg z,show(1-(d:Int)%2)=0 by omega];rfl
 refine⟨_,(ao (aG (aN bD (aN aH (pv 0) (aq bu (pv 1) aj) (fun _ _=>rfl)) (aq kS aj (aq a8 (pv 1) aj)) (fun _ _=>rfl)))),?_⟩;exact⟨_,rfl,_,rfl,_,_,rfl,rfl,⟨by decide,by decide⟩,a,ys,_,_,rfl,rfl,hS,(by rw[ed];exact aD x1),_,rfl,_,_,rfl,rfl,(by show(0:Int)<2;decide),_,_,rfl,rfl,p,_,_,_,rfl,rfl,SqT.of x2,hat,k⟩
end
theorem Gr.joinP{m:Nat}{es:En}{ts:List (List Nat)}(g:Gr m es ts){left right one two:Nat}{e:Nat×Nat}{l l' xs ys:List Nat}{rest:List (List Nat)}(hl:left<2*es.length)(hr:CR (fol es ts) (2*es.length) (left::(xs++right::ys)))(hch:iy (fol es ts) left (xs++right::ys) left)(hm:right∈left::(xs++right::ys))
  (h1:hd es left=one) (h2:hd es right=two) (hne:one≠two) (he:e=(one,two)∨e=(two,one)) (e1:ts[one]?=some l) (e2:ts[two]?=some l')
  (pr:Part (fol es ts) (2*es.length) ((left::(xs++right::ys))::rest)) :
  Part (fol (es++[e]) ((ts.set one (ins l (l.idxOf (left/2)+1) es.length)).set two (ins l' (l'.idxOf (right/2)+1) es.length))) (2*(es++[e]).length) ((left::bV es.length e one::ys)::(right::bV es.length e two::xs)::rest):=by
 have w:=g.w;have hrt:right<2*es.length:=hr.lt right hm;have hlen:=w.len;have o1:one<m:=by rw[← hlen];exact(NP.mp e1).1
 have o2:two<m:=by rw[← hlen];exact(NP.mp e2).1
 have W:bW m (es++[e]) ((ts.set one (ins l (l.idxOf (left/2)+1) es.length)).set two (ins l' (l'.idxOf (right/2)+1) es.length)):=by
  rcases he with rfl | rfl
  ·exact w.put o1 o2 hne e1 e2
  ·exact(w.put o1 o2 hne e1 e2).flip
 have r1:((ts.set one (ins l (l.idxOf (left/2)+1) es.length)).set two (ins l' (l'.idxOf (right/2)+1) es.length))[one]?=some (ins l (l.idxOf (left/2)+1) es.length):=by
  rw[OM,if_neg (fun z=>hne z.symm),OM,if_pos rfl,if_pos (by rw[hlen];exact o1)]
 have r2:((ts.set one (ins l (l.idxOf (left/2)+1) es.length)).set two (ins l' (l'.idxOf (right/2)+1) es.length))[two]?=some (ins l' (l'.idxOf (right/2)+1) es.length):=by
  rw[OM,if_pos rfl,if_pos (by rw[OT,hlen];exact o2)]
 have r3:∀ p,p≠one->p≠two->((ts.set one (ins l (l.idxOf (left/2)+1) es.length)).set two (ins l' (l'.idxOf (right/2)+1) es.length))[p]?=ts[p]?:=fun p n1 n2=>by
  rw[OM,if_neg (fun z=>n2 z.symm),OM,if_neg (fun z=>n1 z.symm)]
 generalize (ts.set one (ins l (l.idxOf (left/2)+1) es.length)).set two (ins l' (l'.idxOf (right/2)+1) es.length)=ts' at W r1 r2 r3;obtain⟨a1,a2,a3⟩:=oB (e:=e) w e1 hl h1 r1;obtain⟨b1,b2,b3⟩:=oB (e:=e) w e2 hrt h2 r2;obtain⟨d1,d2,d3,d4⟩:=qT (es:=es) hne he;have fa:=b2 _ (a9 _ _ _) d1;have fb:=a2 _ (a9 _ _ _) d2;have els:∀ d,d<2*es.length->d≠left->d≠right->fol (es++[e]) ts' d=fol es ts d:=fun d hd' n1 n2=>by
  by_cases z1:hd es d=one
  ·exact a3 d hd' n1 z1
  ·by_cases z2:hd es d=two
   ·exact b3 d hd' n2 z2
   ·exact qQ w hd' (r3 _ z1 z2)
 generalize ha:bV es.length e one=α at *;generalize hb:bV es.length e two=β at *;have hα:α/2=es.length:=by rw[← ha];exact a9 _ _ _
 have hβ:β/2=es.length:=by rw[← hb];exact a9 _ _ _
 have hlr:right≠left:=fun z=>hne (by rw[← h1,← h2,z])
 have hm':right∈xs++right::ys:=by
  rcases NU.mp hm with z | z
  ·exact absurd z hlr
  ·exact z
 obtain⟨c1,c2⟩:=cK.mp hch;have nd:=hr.nd;have ltx:∀ t∈xs,t<2*es.length/\t≠left/\t≠right:=fun t ht=>by
  refine⟨hr.lt t (by simp[ht]),fun z=>?_,fun z=>?_⟩
  ·subst z;exact(Oa.mp nd).1 (by simp[ht])
  ·subst z;have:=(Oh.mp (Oa.mp nd).2).2.2 t ht t (by simp)
   exact this rfl
 have lty:∀ t∈ys,t<2*es.length/\t≠left/\t≠right:=fun t ht=>by
  refine⟨hr.lt t (by simp[ht]),fun z=>?_,fun z=>?_⟩
  ·subst z;exact(Oa.mp nd).1 (by simp[ht])
  ·subst z;exact(Oa.mp (Oh.mp (Oa.mp nd).2).2.1).1 ht
 have ndr:=pr.nd;rw[OD]at ndr;obtain⟨_,nd2,nd3⟩:=Oh.mp ndr;have ltr:∀ t∈rest.flatten,t<2*es.length/\t≠left/\t≠right:=fun t ht=>by
  obtain⟨q,q1,q2⟩:=OY.mp ht;exact⟨(pr.cr q (Oe _ q1)).lt t q2,fun z=>nd3 left (by simp) t ht z.symm,fun z=>nd3 right (by simp) t ht z.symm⟩
 have hlen2:(es++[e]).length=es.length+1:=by rw[NT];rfl
 have PP:Part (fol (es++[e]) ts') (2*(es++[e]).length) ((left::α::ys)::(right::β::xs)::rest):=by
  refine⟨fun q hq=>?_,?_,fun d hd'=>?_⟩
  ·rcases NU.mp hq with z | z
   ·subst z;refine⟨⟨left,α::ys,rfl,a1,gO c2 fa fun t ht=>els t (lty t ht).1 (lty t ht).2.1 (lty t ht).2.2⟩,fun d hd'=>?_,?_⟩
    ·rw[hlen2];simp only[NU]at hd';rcases hd' with y | y | y
     ·omega
     ·omega
     ·have:=(lty d y).1;omega
    ·refine Oa.mpr ⟨fun y=>?_,Oa.mpr ⟨fun y=>?_,?_⟩⟩
     ·rcases NU.mp y with y | y
      ·omega
      ·exact(lty _ y).2.1 rfl
     ·have:=(lty _ y).1;omega
     ·exact(Oa.mp (Oh.mp (Oa.mp nd).2).2.1).2
   ·rcases NU.mp z with z | z
    ·subst z;refine⟨⟨right,β::xs,rfl,b1,gO c1 fb fun t ht=>els t (ltx t ht).1 (ltx t ht).2.1 (ltx t ht).2.2⟩,fun d hd'=>?_,?_⟩
     ·rw[hlen2];simp only[NU]at hd';rcases hd' with y | y | y
      ·omega
      ·omega
      ·have:=(ltx d y).1;omega
     ·refine Oa.mpr ⟨fun y=>?_,Oa.mpr ⟨fun y=>?_,?_⟩⟩
      ·rcases NU.mp y with y | y
       ·omega
       ·exact(ltx _ y).2.2 rfl
      ·have:=(ltx _ y).1;omega
      ·exact(Oh.mp (Oa.mp nd).2).1
    ·refine(pr.cr q (Oe _ z)).mono (by rw[hlen2];omega) fun t ht=>?_
     obtain⟨k1,k2,k3⟩:=ltr t (OY.mpr ⟨q,z,ht⟩);exact els t k1 k2 k3
  ·have dis:∀ x∈xs,∀ y∈ys,x≠y:=fun x hx y hy=>(Oh.mp (Oa.mp nd).2).2.2 x hx y (by simp[hy])
   rw[OD,OD];refine Oh.mpr ⟨?_,Oh.mpr ⟨?_,nd2,fun a ha b hb=>?_⟩,fun a ha b hb=>?_⟩
   ·refine Oa.mpr ⟨fun y=>?_,Oa.mpr ⟨fun y=>?_,(Oa.mp (Oh.mp (Oa.mp nd).2).2.1).2⟩⟩
    ·rcases NU.mp y with y | y
     ·omega
     ·exact(lty _ y).2.1 rfl
    ·have:=(lty _ y).1;omega
   ·refine Oa.mpr ⟨fun y=>?_,Oa.mpr ⟨fun y=>?_,(Oh.mp (Oa.mp nd).2).1⟩⟩
    ·rcases NU.mp y with y | y
     ·omega
     ·exact(ltx _ y).2.2 rfl
    ·have:=(ltx _ y).1;omega
   ·obtain⟨k1,k2,k3⟩:=ltr b hb;simp only[NU]at ha;rcases ha with y | y | y
    ·exact fun z=>k3 (z▸y)
    ·omega
    ·exact nd3 a (by simp[y]) b hb
   ·simp only[NU,N0]at ha hb;rcases hb with(y | y | y) | y
    ·rcases ha with z | z | z
     ·exact fun u=>hlr (by rw[← y,← u,z])
     ·have:=hrt;omega
     ·exact fun u=>(lty a z).2.2 (u.trans y)
    ·rcases ha with z | z | z
     ·omega
     ·omega
     ·have:=(lty a z).1;omega
    ·rcases ha with z | z | z
     ·exact fun u=>(ltx b y).2.1 (u▸z)
     ·have:=(ltx b y).1;omega
     ·exact fun u=>dis b y a z u.symm
    ·obtain⟨k1,k2,k3⟩:=ltr b y;rcases ha with z | z | z
     ·exact fun u=>k2 (u▸z)
     ·omega
     ·exact nd3 a (by simp[z]) b y
  ·rw[hlen2]at hd';simp only[OD,N0,NU];rcases d4 d hd' with y | y | y
   ·have:=pr.all d y
    simp only[OD,N0,NU]at this;rcases this with(z | z | z | z) | z
    ·exact .inl (.inl z)
    ·exact .inr (.inl (.inr (.inr z)))
    ·exact .inr (.inl (.inl z))
    ·exact .inl (.inr (.inr z))
    ·exact .inr (.inr z)
   ·exact .inl (.inr (.inl y))
   ·exact .inr (.inl (.inr (.inl y)))
 exact PP
theorem Gr.leafP{m:Nat}{es:En}{ts:List (List Nat)}(g:Gr m es ts){left one:Nat}{e:Nat×Nat}{l tail:List Nat}{rest:List (List Nat)}(hl:left<2*es.length)(hr:CR (fol es ts) (2*es.length) (left::tail))(hch:iy (fol es ts) left tail left)
  (h1:hd es left=one) (he:e=(one,m)∨e=(m,one)) (e1:ts[one]?=some l)
  (pr:Part (fol es ts) (2*es.length) ((left::tail)::rest)) :
  Part (fol (es++[e]) (ts.set one (ins l (l.idxOf (left/2)+1) es.length)++[[es.length]])) (2*(es++[e]).length) ((left::bV es.length e one::bV es.length e m::tail)::rest):=by
 have w:=g.w;have hlen:=w.len;have o1:one<m:=by rw[← hlen];exact(NP.mp e1).1
 have hne:one≠m:=by omega
 have W:bW (m+1) (es++[e]) (ts.set one (ins l (l.idxOf (left/2)+1) es.length)++[[es.length]]):=by
  have q:=w.room.put (one:=one) (two:=m) (k:=l.idxOf (left/2)+1) (j:=0) (l:=l) (l':=[]) (by omega) (by omega) hne (by rw[NX (by omega)];exact e1) (by rw[NW (by omega),hlen,OA];rfl)
  have q2:((ts++[[]]).set one (ins l (l.idxOf (left/2)+1) es.length)).set m (ins [] 0 es.length)=ts.set one (ins l (l.idxOf (left/2)+1) es.length)++[[es.length]]:=by
   rw[Ro _ _ (by omega),QE _ _ (by rw[OT];omega),OT,hlen,OA]
   rfl
  rw[q2]at q;rcases he with rfl | rfl
  ·exact q
  ·exact q.flip
 have r1:(ts.set one (ins l (l.idxOf (left/2)+1) es.length)++[[es.length]])[one]?=some (ins l (l.idxOf (left/2)+1) es.length):=by
  rw[NX (by rw[OT];omega),OM,if_pos rfl,if_pos (by omega)]
 have r2:(ts.set one (ins l (l.idxOf (left/2)+1) es.length)++[[es.length]])[m]?=some [es.length]:=by
  rw[NW (by rw[OT];omega),OT,hlen,OA]
  rfl
 have r3:∀ p,p≠one->p<m->(ts.set one (ins l (l.idxOf (left/2)+1) es.length)++[[es.length]])[p]?=ts[p]?:=fun p n1 n2=>by
  rw[NX (by rw[OT];omega),OM,if_neg (fun z=>n1 z.symm)]
 generalize ts.set one (ins l (l.idxOf (left/2)+1) es.length)++[[es.length]]=ts' at W r1 r2 r3;obtain⟨a1,a2,a3⟩:=oB (e:=e) w e1 hl h1 r1;obtain⟨d1,d2,d3,d4⟩:=qT (es:=es) hne he;have fb:=a2 _ (a9 _ _ _) d2;have fa:fol (es++[e]) ts' (bV es.length e one)=bV es.length e m:=by
  rw[fX (l:=[es.length]) (by rw[d1];exact r2),a9,d1]
  have:nxt [es.length] es.length=es.length:=by
   unfold nxt;rw[Rp];simp
  rw[this,rR];rfl
 have els:∀ d,d<2*es.length->d≠left->fol (es++[e]) ts' d=fol es ts d:=fun d hd' n1=>by
  by_cases z1:hd es d=one
  ·exact a3 d hd' n1 z1
  ·obtain⟨_,_,_,_,_,k4,_⟩:=w.at hd';exact qQ w hd' (r3 _ z1 k4)
 generalize ha:bV es.length e one=α at *;generalize hb:bV es.length e m=β at *;have hα:α/2=es.length:=by rw[← ha];exact a9 _ _ _
 have hβ:β/2=es.length:=by rw[← hb];exact a9 _ _ _
 have nd:=hr.nd;have ltt:∀ t∈tail,t<2*es.length/\t≠left:=fun t ht=>⟨hr.lt t (by simp[ht]),fun z=>(Oa.mp nd).1 (z▸ht)⟩
 have ndr:=pr.nd;rw[OD]at ndr;obtain⟨_,nd2,nd3⟩:=Oh.mp ndr;have ltr:∀ t∈rest.flatten,t<2*es.length/\t≠left:=fun t ht=>by
  obtain⟨q,q1,q2⟩:=OY.mp ht;exact⟨(pr.cr q (Oe _ q1)).lt t q2,fun z=>nd3 left (by simp) t ht z.symm⟩
 have hlen2:(es++[e]).length=es.length+1:=by rw[NT];rfl
 have nd4:(left::α::β::tail).Nodup:=by
  refine Oa.mpr ⟨fun y=>?_,Oa.mpr ⟨fun y=>?_,Oa.mpr ⟨fun y=>?_,(Oa.mp nd).2⟩⟩⟩
  ·simp only[NU]at y;rcases y with y | y | y
   ·omega
   ·omega
   ·exact(ltt _ y).2 rfl
  ·simp only[NU]at y;rcases y with y | y
   ·exact d3 y
   ·have:=(ltt _ y).1;omega
  ·have:=(ltt _ y).1;omega
 have PP:Part (fol (es++[e]) ts') (2*(es++[e]).length) ((left::α::β::tail)::rest):=by
  refine⟨fun q hq=>?_,?_,fun d hd'=>?_⟩
  ·rcases NU.mp hq with z | z
   ·subst z;refine⟨⟨left,α::β::tail,rfl,a1,fa,gO hch fb fun t ht=>els t (ltt t ht).1 (ltt t ht).2⟩,fun d hd'=>?_,nd4⟩;rw[hlen2];simp only[NU]at hd';rcases hd' with y | y | y | y
    ·omega
    ·omega
    ·omega
    ·have:=(ltt d y).1;omega
   ·refine(pr.cr q (Oe _ z)).mono (by rw[hlen2];omega) fun t ht=>?_
    obtain⟨k1,k2⟩:=ltr t (OY.mpr ⟨q,z,ht⟩);exact els t k1 k2
  ·rw[OD];refine Oh.mpr ⟨nd4,nd2,fun a ha b hb=>?_⟩;obtain⟨k1,k2⟩:=ltr b hb;simp only[NU]at ha;rcases ha with y | y | y | y
   ·exact fun u=>k2 (u▸y)
   ·omega
   ·omega
   ·exact nd3 a (by simp[y]) b hb
  ·rw[hlen2]at hd';simp only[OD,N0,NU];rcases d4 d hd' with y | y | y
   ·have:=pr.all d y
    simp only[OD,N0,NU]at this;rcases this with(z | z) | z
    ·exact .inl (.inl z)
    ·exact .inl (.inr (.inr (.inr z)))
    ·exact .inr z
   ·exact .inl (.inr (.inl y))
   ·exact .inl (.inr (.inr (.inl y)))
 exact PP
theorem CR.turn{f:Nat->Nat}{N:Nat}{A B:List Nat}(h:CR f N (A++B))(nb:B≠[]):CR f N (B++A):=by
 have pm:(B++A).Perm (A++B):=OZ;refine⟨?_,fun d hd=>h.lt d (pm.mem_iff.mp hd),pm.nodup_iff.mpr h.nd⟩;match A,B,h,nb with
 |[],B,h,_ =>
  rw[Pa];exact h.ch
 |x::A,b::B,h,_ =>
  obtain⟨y,l,e,c⟩:=h.ch;rw[PY]at e
  cases e
  obtain⟨c1,c2⟩:=cK.mp c;exact⟨b,B++x::A,rfl,cK.mpr ⟨c2,c1⟩⟩
theorem Part.perm{f:Nat->Nat}{N:Nat}{rs rs':List (List Nat)}(p:Part f N rs)(h:rs.Perm rs'):Part f N rs' :=
 ⟨fun r hr=>p.cr r (h.mem_iff.mpr hr),h.flatten.nodup_iff.mp p.nd,fun d hd=>h.flatten.mem_iff.mp (p.all d hd)⟩
theorem Part.swap{f:Nat->Nat}{N:Nat}{r r':List Nat}{rest:List (List Nat)}(p:Part f N (r::rest))(h:CR f N r')(pm:r'.Perm r):Part f N (r'::rest):=by
 have q:((r'::rest).flatten).Perm ((r::rest).flatten):=by
  rw[OD,OD];exact pm.append_right _
 refine⟨fun x hx=>?_,q.nodup_iff.mpr p.nd,fun d hd=>q.mem_iff.mpr (p.all d hd)⟩;rcases NU.mp hx with z | z
 ·rw[z];exact h
 ·exact p.cr x (Oe _ z)
theorem vW:∀{rs:List (List Nat)}{i:Nat}{r:List Nat},rs[i]?=some r->rs.Perm (r::rs.eraseIdx i)
 |[],i,r,h=>by cases h
 |x::rs,0,r,h=>by cases h;exact R7 _
 |x::rs,i+1,r,h=>by
  have ih:=vW (rs:=rs) (i:=i) (r:=r) h;show(x::rs).Perm (r::x::rs.eraseIdx i);exact(ih.cons x).trans (Rv r x _)
theorem D1{rs:List (List Nat)}{i:Nat}(hi:i<rs.length)(r:List Nat):(r::rs.eraseIdx i).Perm (rs.set i r):=by
 have h:(rs.set i r)[i]?=some r:=by rw[QA hi]
 have:=vW h;rw[List.eraseIdx_set_eq]at this;exact this.symm
theorem GF{m:Nat}{es:En}{ts rings:List (List Nat)}(g:Gr m es ts)(pt:Part (fol es ts) (2*es.length) rings){w left right one two:Nat}{A B C:List Nat}(hw:rings[w]?=some (A++left::(B++right::C))){e:Nat×Nat}{l l':List Nat}(h1:hd es left=one)(h2:hd es right=two)(hne:one≠two)(he:e=(one,two)∨e=(two,one))(e1:ts[one]?=some l)(e2:ts[two]?=some l') :
  Gr m (es++[e]) ((ts.set one (ins l (l.idxOf (left/2)+1) es.length)).set two (ins l' (l'.idxOf (right/2)+1) es.length)) /\
  Part (fol (es++[e]) ((ts.set one (ins l (l.idxOf (left/2)+1) es.length)).set two (ins l' (l'.idxOf (right/2)+1) es.length))) (2*(es++[e]).length) (rings.set w (A++left::bV es.length e one::C)++[B++[right,bV es.length e two]]):=by
 have wl:=(NP.mp hw).1;have p1:=pt.perm (vW hw);have c0:=p1.cr _ (Og ..);have c1:CR (fol es ts) (2*es.length) (left::(B++right::(C++A))):=by
  have:=c0.turn (List.cons_ne_nil _ _);rw[PY,ON,PY]at this;exact this
 have pm:(left::(B++right::(C++A))).Perm (A++left::(B++right::C)):=by
  have:(left::(B++right::C)++A).Perm (A++left::(B++right::C)):=OZ;rw[PY,ON,PY]at this;exact this
 have p2:=p1.swap c1 pm;have hl:=c1.lt left (Og ..);obtain⟨x,tl,ex,ch⟩:=c1.ch
 cases ex
 have hm:right∈left::(B++right::(C++A)):=by simp
 refine⟨g.join hl c1 ch hm h1 h2 hne he e1 e2,?_⟩;have q:=g.joinP hl c1 ch hm h1 h2 hne he e1 e2 p2;generalize (ts.set one (ins l (l.idxOf (left/2)+1) es.length)).set two (ins l' (l'.idxOf (right/2)+1) es.length)=ts' at q ⊢;generalize bV es.length e one=α at q ⊢;generalize bV es.length e two=β at q ⊢;have d1:CR (fol (es++[e]) ts') (2*(es++[e]).length) (A++left::α::C):=by
  have h:=q.cr _ (Og ..);by_cases na:A = []
  ·subst na;rw[Pa]at h;exact h
  ·have h':CR (fol (es++[e]) ts') (2*(es++[e]).length) ((left::α::C)++A):=h
   exact h'.turn na
 have pm1:(A++left::α::C).Perm (left::α::(C++A)):=(OZ:(A++(left::α::C)).Perm ((left::α::C)++A));have q1:=q.swap d1 pm1;have q2:=q1.perm (Rv _ _ _);have d2:CR (fol (es++[e]) ts') (2*(es++[e]).length) (B++[right,β]):=by
  have h:=q2.cr _ (Og ..);by_cases nb:B = []
  ·subst nb;exact h
  ·have h':CR (fol (es++[e]) ts') (2*(es++[e]).length) ([right,β]++B):=h
   exact h'.turn nb
 have q3:=q2.swap d2 (OZ:(B++[right,β]).Perm ([right,β]++B));refine q3.perm ?_;refine(List.Perm.cons _ (D1 wl _)).trans ?_;exact(OZ:([B++[right,β]]++rings.set w (A++left::α::C)).Perm _)
theorem GD{m:Nat}{es:En}{ts rings:List (List Nat)}(g:Gr m es ts)(pt:Part (fol es ts) (2*es.length) rings){w left one:Nat}{A B:List Nat}(hw:rings[w]?=some (A++left::B)){e:Nat×Nat}{l:List Nat}(h1:hd es left=one)(he:e=(one,m)∨e=(m,one))(e1:ts[one]?=some l) :
  Gr (m+1) (es++[e]) (ts.set one (ins l (l.idxOf (left/2)+1) es.length)++[[es.length]]) /\
  Part (fol (es++[e]) (ts.set one (ins l (l.idxOf (left/2)+1) es.length)++[[es.length]])) (2*(es++[e]).length) (rings.set w (A++left::bV es.length e one::bV es.length e m::B)):=by
 have wl:=(NP.mp hw).1;have p1:=pt.perm (vW hw);have c0:=p1.cr _ (Og ..);have c1:CR (fol es ts) (2*es.length) (left::(B++A)):=c0.turn (List.cons_ne_nil _ _);have p2:=p1.swap c1 (OZ:((left::B)++A).Perm (A++left::B));have hl:=c1.lt left (Og ..);obtain⟨x,tl,ex,ch⟩:=c1.ch
 cases ex
 refine⟨g.leaf hl c1 ch h1 he e1,?_⟩;have q:=g.leafP hl c1 ch h1 he e1 p2;generalize ts.set one (ins l (l.idxOf (left/2)+1) es.length)++[[es.length]]=ts' at q ⊢;generalize bV es.length e one=α at q ⊢;generalize bV es.length e m=β at q ⊢;have d1:CR (fol (es++[e]) ts') (2*(es++[e]).length) (A++left::α::β::B):=by
  have h:=q.cr _ (Og ..);by_cases na:A = []
  ·subst na;rw[Pa]at h;exact h
  ·have h':CR (fol (es++[e]) ts') (2*(es++[e]).length) ((left::α::β::B)++A):=h
   exact h'.turn na
 have q1:=q.swap d1 (OZ:(A++(left::α::β::B)).Perm ((left::α::β::B)++A));exact q1.perm (D1 wl _)
def GN(K:NS):Sp:=fun vs H Q _=>∃(pt q:Addr)(xs:List V)(p d n:Nat)(l:List Nat),vs = [.ref pt,.int (p:Int),.int (d:Int),.int (n:Int)]/\SqL K H pt xs/\xs[p]?=some (.ref q)/\H q=some (.lst (l.map iV))/\d/2∈l/\l.length<=70/\(∀ x∈l,x<1000)/\Q .non (upd H q (.lst ((ins l (l.idxOf (d/2)+1) n).map iV)))
section
variable{P:Program}{w:World}{K:NS}{mg:Str->Option Value}{base:Heap}
theorem uH:aA ["turns","place","behind","fresh","row"] ["turns","place","behind","fresh"] (ah ik):=by ac_nf
theorem ok_put{f:Addr}{fd:FuncData} (F:Fun K "_law_put" "_law_put" ik f fd):FnOk P w K mg base CX0 1 f fd ["turns","place","behind","fresh"] (GN K):=by
 refine F.ok uH (fun vs H Q E h=>?_) (fun cdv A outer s H vs Q E hr h=>?_)
 ·obtain⟨pt,q,xs,p,d,n,l,rfl,_⟩:=h;rfl
 obtain⟨pt,q,xs,p,d,n,l,rfl,hS,hx,hq,hd,l60,lb,kk⟩:=h;have ix:l.idxOf (d/2)<l.length:=List.idxOf_lt_length_of_mem hd;have ll:(l.map iV).length=l.length:=NR ..;have eL:(d:Int)/2=((d/2:Nat):Int):=by omega
 refine⟨_,(af (av (i:=4) uH.nd rfl (Or.inl rfl) (aN aH (pv 0) (pv 1) (fun _ _=>rfl)))
   (ao (bp (iF OE Sa R9 zk (pv 4) (aa (aq bq (iF OE Si Sh Eb (pv 4) (aa (aq bu (pv 2) aj) ag)) aj) (aa (pv 3) ag)))))),?_⟩
 refine⟨_,rfl,_,rfl,pt,xs,_,_,rfl,rfl,hS,aD hx,?_⟩;refine⟨_,rfl,.inl ⟨rfl,_,SqL.of hq⟩,_,rfl,.inl ⟨rfl,_,SqL.of hq⟩,_,rfl,_,_,rfl,rfl,⟨by decide,by decide⟩,q,l,d/2,rfl,congrArg (fun z=>[V.int z]) eL,SqL.of hq,fun p hp=>by have:=lb p hp;omega,by omega,hd,_,_,rfl,rfl,_,rfl,q,_,_,_,rfl,rfl,hq,by omega,by omega,au (by omega),?_⟩
 rw[insV,show(((l.idxOf (d/2):Nat):Int)+1).toNat=l.idxOf (d/2)+1 by omega]
 exact kk
end
structure GwC(S:Addr->Prop)(H:Hp)(pe pt pr:Addr)(ys xs zs:List V)(es:En)(ts rg:List (List Nat)):Prop where
 he:H pe=some (.lst ys)
 en:c6 H ys es
 ht:H pt=some (.lst xs)
 rx:cC (fun p=>p=pe∨p=pt∨p=pr∨S p) H xs ts
 di:Dist xs
 hr:H pr=some (.lst zs)
 rz:cC (fun p=>(p=pe∨p=pt∨p=pr)∨V.ref p∈xs∨S p) H zs rg
 ne:pe≠pt/\pe≠pr/\pt≠pr/\¬ S pe/\¬ S pt/\¬ S pr
 sl:∀ p,S p->H p≠none
def Keep(S:Addr->Prop)(H H':Hp):Prop:=∀ p o,S p->H p=some o->H' p=some o
theorem Keep.trans{S:Addr->Prop}{H H1 H2:Hp}(a:Keep S H H1)(b:Keep S H1 H2):Keep S H H2:=fun p o s h=>b p o s (a p o s h)
theorem Keep.of{S:Addr->Prop}{H H1:Hp}(a:Same H H1):Keep S H H1:=fun p o _ h=>a p o h
theorem Keep.upd{S:Addr->Prop}{H:Hp}{q:Addr}{o:HO}(n:¬ S q):Keep S H (upd H q o):=fun p u s h=>by rw[ak (show p≠q from fun z=>n (z▸s))];exact h
theorem Gn{S:Addr->Prop}{H:Hp}{xs:List V}{ts:List (List Nat)}(h:cC S H xs ts){p:Addr}(m:V.ref p∈xs):H p≠none:=by
 obtain⟨i,hi⟩:=OS.mp m;have il:=(NP.mp hi).1;obtain⟨p',a1,_,a3⟩:=h.2 i _ (NQ (by rw[← h.1];exact il))
 rw[hi]at a1
 cases a1
 rw[a3];exact fun z=>nomatch z
section
variable{S:Addr->Prop}{H H':Hp}{pe pt pr:Addr}{ys xs zs:List V}{es:En}{ts rg:List (List Nat)}
theorem GwC.same(c:GwC S H pe pt pr ys xs zs es ts rg)(s:Same H H'):GwC S H' pe pt pr ys xs zs es ts rg :=
 ⟨s _ _ c.he,c.en.mono s,s _ _ c.ht,c.rx.mono fun p o _ z=>s _ _ z,c.di,s _ _ c.hr,c.rz.mono fun p o _ z=>s _ _ z,c.ne,fun p sp z=>by
  cases y:H p with
  |none=>exact c.sl p sp y
  |some o=>rw[s _ _ y]at z;cases z⟩
theorem GwC.new(c:GwC S H pe pt pr ys xs zs es ts rg){b:Addr}(h:H b=none):b≠pe/\b≠pt/\b≠pr/\¬ S b/\V.ref b∉xs/\V.ref b∉zs :=
 ⟨fun z=>(by rw[z,c.he]at h;cases h),fun z=>(by rw[z,c.ht]at h;cases h),fun z=>(by rw[z,c.hr]at h;cases h),fun z=>c.sl b z h,fun z=>Gn c.rx z h,fun z=>Gn c.rz z h⟩
theorem GwC.put(c:GwC S H pe pt pr ys xs zs es ts rg){i:Nat}{q:Addr}(hx:xs[i]?=some (.ref q))(l':List Nat):GwC S (upd H q (.lst (l'.map iV))) pe pt pr ys xs zs es (ts.set i l') rg/\¬ S q:=by
 have il:i<ts.length:=by rw[← c.rx.1];exact(NP.mp hx).1
 obtain⟨q',a1,a2,a3⟩:=c.rx.2 i _ (NQ il);rw[hx]at a1
 cases a1
 have n1:pe≠q:=fun z=>a2 (.inl z.symm);have n2:pt≠q:=fun z=>a2 (.inr (.inl z.symm));have n3:pr≠q:=fun z=>a2 (.inr (.inr (.inl z.symm)));have n4:¬ S q:=fun z=>a2 (.inr (.inr (.inr z)));refine⟨⟨by rw[ak n1];exact c.he,c.en.put a3,by rw[ak n2];exact c.ht,c.rx.set c.di hx,c.di,by rw[ak n3];exact c.hr,c.rz.mono fun p o n z=>?_,c.ne,fun p sp z=>?_⟩,n4⟩
 ·rw[ak (show p≠q from fun y=>n (.inr (.inl (y▸NV hx))))];exact z
 ·rw[ak (show p≠q from fun y=>n4 (y▸sp))]at z;exact c.sl p sp z
theorem GwC.updR(c:GwC S H pe pt pr ys xs zs es ts rg){zs':List V}{rg':List (List Nat)}(hz:cC (fun p=>(p=pe∨p=pt∨p=pr)∨V.ref p∈xs∨S p) H zs' rg'):GwC S (upd H pr (.lst zs')) pe pt pr ys xs zs' es ts rg':=by
 obtain⟨n1,n2,n3,n4,n5,n6⟩:=c.ne;refine⟨by rw[ak n2];exact c.he,c.en.put c.hr,by rw[ak n3];exact c.ht,c.rx.mono fun p o n z=>?_,c.di,ae,hz.mono fun p o n z=>?_,c.ne,fun p sp z=>?_⟩
 ·rw[ak (fun y=>n (.inr (.inr (.inl y))))];exact z
 ·rw[ak (fun y=>n (.inl (.inr (.inr y))))];exact z
 ·rw[ak (show p≠pr from fun y=>n6 (y▸sp))]at z;exact c.sl p sp z
theorem yB{S:Addr->Prop}{H:Hp}{zs:List V}{rg:List (List Nat)}(h:cC S H zs rg){W:Nat}{b:Addr}{r:List Nat}(n:¬ S b)(e:H b=some (.lst (r.map iV))):cC S H (zs.set W (.ref b)) (rg.set W r):=by
 refine⟨by rw[OT,OT];exact h.1,fun j l z=>?_⟩
 rw[OM]at z ⊢;by_cases hj:W=j
 ·rw[if_pos hj]at z ⊢;by_cases hl:W<rg.length
  ·rw[if_pos hl]at z
   cases z
   exact⟨b,by rw[if_pos (by rw[h.1];exact hl)],n,e⟩
  ·rw[if_neg hl]at z;cases z
 ·rw[if_neg hj]at z ⊢;exact h.2 j l z
theorem GwC.leaf(c:GwC S H pe pt pr ys xs zs es ts rg){pn:Addr}(hp:pn≠pe/\pn≠pt/\pn≠pr/\¬ S pn/\V.ref pn∉xs/\V.ref pn∉zs){l:List Nat}(e:H pn=some (.lst (l.map iV))):GwC S (upd H pt (.lst (xs++[.ref pn]))) pe pt pr ys (xs++[.ref pn]) zs es (ts++[l]) rg:=by
 obtain⟨n1,n2,n3,n4,n5,n6⟩:=c.ne;obtain⟨m1,m2,m3,m4,m5,m6⟩:=hp;have R:=c.rx.snoc (q:=pn) (l:=l) (by rintro(z | z | z | z);exact m1 z;exact m2 z;exact m3 z;exact m4 z) e
 refine⟨by rw[ak n1];exact c.he,c.en.put c.ht,ae,R.mono fun p o n z=>?_,fun i j p e1 e2=>?_,by rw[ak (Ne.symm n3)];exact c.hr,⟨c.rz.1,fun i l hl=>?_⟩,c.ne,fun p sp z=>?_⟩
 ·rw[ak (fun y=>n (.inr (.inl y)))];exact z
 ·have old:∀ k,(xs++[V.ref pn])[k]?=some (.ref p)->(xs[k]?=some (.ref p))∨(k=xs.length/\p=pn):=fun k ek=>by
   by_cases hk:k<xs.length
   ·rw[NX hk]at ek;exact .inl ek
   ·have:=(NP.mp ek).1
    rw[NT,Of]at this;have hk2:k=xs.length:=by omega
    subst hk2;rw[NW (NY _),OA]at ek
    cases ek
    exact .inr ⟨rfl,rfl⟩
  rcases old i e1 with a | ⟨a,a'⟩
  ·rcases old j e2 with b | ⟨b,b'⟩
   ·exact c.di i j p a b
   ·exact absurd (b'▸NV a) m5
  ·rcases old j e2 with b | ⟨b,b'⟩
   ·exact absurd (a'▸NV b) m5
   ·rw[a,b]
 ·obtain⟨p,a1,a2,a3⟩:=c.rz.2 i l hl;refine⟨p,a1,?_,?_⟩
  ·rintro(y | y | y)
   ·exact a2 (.inl y)
   ·rcases N0.mp y with y | y
    ·exact a2 (.inr (.inl y))
    ·have:p=pn:=by
      have:=Ol.mp y
      cases this;rfl
     exact m6 (this▸NV a1)
   ·exact a2 (.inr (.inr y))
  ·rw[ak (fun y=>a2 (.inl (.inr (.inl y))))];exact a3
 ·rw[ak (show p≠pt from fun y=>n5 (y▸sp))]at z;exact c.sl p sp z
theorem GwC.fin(c:GwC S H pe pt pr ys xs zs es ts rg){i:Nat}{q:Addr}(hx:xs[i]?=some (.ref q))(l':List Nat){t:Addr}(ht:(upd H q (.lst (l'.map iV))) t=none)(e:Nat×Nat) :
  GwC S (upd (upd (upd H q (.lst (l'.map iV))) t (.tup [iV e.1,iV e.2])) pe (.lst (ys++[.ref t]))) pe pt pr (ys++[.ref t]) xs zs (es++[e]) (ts.set i l') rg/\Keep S H (upd (upd (upd H q (.lst (l'.map iV))) t (.tup [iV e.1,iV e.2])) pe (.lst (ys++[.ref t]))):=by
 obtain⟨c1,nq⟩:=c.put hx l';have sn:=ai ht (.tup [iV e.1,iV e.2]);have c2:=c1.same sn;obtain⟨n1,n2,n3,n4,n5,n6⟩:=c.ne;refine⟨⟨ae,(c2.en.snoc ae).put c2.he,by rw[ak (Ne.symm n1)];exact c2.ht,c2.rx.mono fun p o n z=>?_,c2.di,by rw[ak (Ne.symm n2)];exact c2.hr,c2.rz.mono fun p o n z=>?_,c.ne,fun p sp z=>?_⟩,?_⟩
 ·rw[ak (fun y=>n (.inl y))];exact z
 ·rw[ak (fun y=>n (.inl (.inl y)))];exact z
 ·rw[ak (show p≠pe from fun y=>n4 (y▸sp))]at z;exact c2.sl p sp z
 ·exact((Keep.upd nq).trans (Keep.of sn)).trans (Keep.upd n4)
end
def GwA(S:Addr->Prop)(H:Hp)(pe pt pr:Addr)(m:Nat)(es:En)(ts rg:List (List Nat)):Prop:=(∃ ys xs zs,GwC S H pe pt pr ys xs zs es ts rg)/\Gr m es ts/\Part (fol es ts) (2*es.length) rg
def stepT:TS:=fun D σ H=>∃(pe pt q rg:Addr)(v0 v3 v4 v5 v6 v7 v10 v15:Option V)(a L one two n o:Nat)(xs ys:List V)(ring l:List Nat),σ = [v0,some (.ref pe),some (.ref pt),v3,v4,v5,v6,v7,some (.ref rg),some (.int (a:Int)),v10,some (.int (one:Int)),some (.int (two:Int)),some (.int (n:Int)),some (.int ((2*n+o:Nat):Int)),v15]/\o<2/\H pt=some (.lst xs)/\xs[one]?=some (.ref q)/\H q=some (.lst (l.map iV))/\L/2∈l/\l.length<=70/\(∀ x∈l,x<1000)/\H rg=some (.lst (ring.map iV))/\ring[a]?=some L/\q≠pe/\H pe=some (.lst ys)/\ys.length<=70 /\
 ∀ t,(upd H q (.lst ((ins l (l.idxOf (L/2)+1) n).map iV))) t=none->D.nx σ (upd (upd (upd H q (.lst ((ins l (l.idxOf (L/2)+1) n).map iV))) t (.tup (if o=0 then[iV one,iV two] else[iV two,iV one]))) pe (.lst (ys++[.ref t])))
def NM(S:Addr->Prop)(H:Hp)(pe pt pr:Addr)(N P:Nat)(Q:Hp->Prop):Prop:=∀(m':Nat)(es':En)(ts' rg':List (List Nat))(H':Hp),Keep S H H'->GwA S H' pe pt pr m' es' ts' rg'->N<=es'.length->es'.length<=N+1->m'<=P->Q H'
def stepO:TS:=fun D σ H=>∃(S:Addr->Prop)(c:Int)(pe pt pr rq:Addr)(P m W a b:Nat)(v5 v7 v11 v12 v13 v14 v15:Option V)(ys xs zs:List V)(es:En)(ts rg:List (List Nat))(ring:List Nat),σ = [some (.int c),some (.ref pe),some (.ref pt),some (.ref pr),some (.int (P:Int)),v5,some (.int (W:Int)),v7,some (.ref rq),some (.int (a:Int)),some (.int (b:Int)),v11,v12,v13,v14,v15]/\GwC S H pe pt pr ys xs zs es ts rg/\Gr m es ts/\Part (fol es ts) (2*es.length) rg/\es.length<=62/\m<=P/\zs[W]?=some (.ref rq)/\rg[W]?=some ring/\H rq=some (.lst (ring.map iV))/\a<=b/\b<ring.length/\(∀ σ',NM S H pe pt pr es.length P (D.nx σ'))/\NM S H pe pt pr es.length P (D.rt .non)
theorem AZ{r:List Nat}{a L:Nat}(h:r[a]?=some L):r.take (a+1)=r.take a++[L]:=by
 rw[O7,h];rfl
theorem vk{r:List Nat}{a L:Nat}(h:r[a]?=some L):r=r.take a++L::r.drop (a+1):=by
 have:=(OF (a+1) r).symm;rw[AZ h,ON]at this;exact this
theorem GG{r:List Nat}{a b L R:Nat}(h:r[a]?=some L)(h2:r[b]?=some R)(lt:a<b):r=r.take a++L::((r.drop (a+1)).take (b-a-1)++R::r.drop (b+1)):=by
 have e:(r.drop (a+1))[b-a-1]?=some R:=by rw[PV,show a+1+(b-a-1)=b by omega];exact h2
 have:=vk e;rw[Qh,show a+1+(b-a-1+1)=b+1 by omega]at this
 rw[← this];exact vk h
theorem mid_at{r:List Nat}{a b R:Nat}(h2:r[b]?=some R)(lt:a<b):(r.drop (a+1)).take (b-a)=(r.drop (a+1)).take (b-a-1)++[R]:=by
 have e:(r.drop (a+1))[b-a-1]?=some R:=by rw[PV,show a+1+(b-a-1)=b by omega];exact h2
 rw[show b-a=b-a-1+1 by omega]
 exact AZ e
theorem Nz{xs:List V}{c:Nat}(h:c<=xs.length):cutV xs (some (c:Int)) none=xs.drop c:=by
 unfold cutV;rw[HT.sIx_nat,PH h];show(xs.drop c).take (xs.length-c)=_;exact OV (by rw[OX];exact NY _)
theorem Ny{xs:List V}{c:Nat}(h:c<=xs.length):cutV xs none (some (c:Int))=xs.take c:=by
 unfold cutV;rw[HT.sIx_nat,PH h];show(xs.drop 0).take (c-0)=_;rw[QC,Nat.sub_zero]
theorem Nx{xs:List V}{c d:Nat}(h:c<=xs.length)(h2:d<=xs.length):cutV xs (some (c:Int)) (some (d:Int))=(xs.drop c).take (d-c):=by
 unfold cutV;rw[HT.sIx_nat,HT.sIx_nat,PH h,PH h2]
theorem cy{H G:Hp}{p:Addr}(sm:Same H G)(z:G p=none):H p=none:=by
 cases y:H p with
 |none=>rfl
 |some o=>rw[sm _ _ y]at z;cases z
theorem Lc{n o x y:Nat}(o2:o<2)(ne:x≠y):bV n (if o=0 then(x,y) else(y,x)) x=2*n+o/\bV n (if o=0 then(x,y) else(y,x)) y=2*n+1-o:=by
 by_cases z:o=0
 ·subst z;rw[if_pos rfl];unfold bV;exact⟨by rw[if_pos rfl];rfl,by rw[if_neg ne];rfl⟩
 ·have:o=1:=by omega
  subst this;rw[if_neg (by decide)]
  unfold bV;exact⟨by rw[if_neg (Ne.symm ne)],by rw[if_pos rfl];rfl⟩
theorem Lw{o x y:Nat}:HO.tup (if o=0 then[iV x,iV y] else[iV y,iV x])=HO.tup [iV (if o=0 then(x,y) else(y,x)).1,iV (if o=0 then(x,y) else(y,x)).2]:=by
 by_cases z:o=0
 ·rw[if_pos z,if_pos z]
 ·rw[if_neg z,if_neg z]
theorem Hm{o x y:Nat}:(if o=0 then(x,y) else(y,x))=(x,y)∨(if o=0 then(x,y) else(y,x))=(y,x):=by
 by_cases z:o=0
 ·exact .inl (if_pos z)
 ·exact .inr (if_neg z)
theorem zM{m:Nat}{es:En}{ts:List (List Nat)}(g:Gr m es ts):m<=es.length+2:=by
 obtain⟨rs,_,c⟩:=g.part;omega
def GK:Sp:=fun vs H Q _=>∃(S:Addr->Prop)(c:Int)(pe pt pr:Addr)(P m:Nat)(es:En)(ts rg:List (List Nat)),vs = [.int c,.ref pe,.ref pt,.ref pr,.int (P:Int)]/\GwA S H pe pt pr m es ts rg/\0<es.length/\es.length<=62/\m<=P/\NM S H pe pt pr es.length P (Q .non)
section
variable{P:Program}{w:World}{K:NS}{mg:Str->Option Value}{base:Heap}
theorem aY:aA ["cell","ends","turns","rings","places","mixed","which","rest","ring","a","b","one","two","fresh","out","back"] ["cell","ends","turns","rings","places"] (ah fi):=by ac_nf
theorem MM{f fh fp:Addr}{fd dh dp:FuncData} (F:Fun K "_law_step" "_law_step" fi f fd) (T:Txt mg) (G_law_head:Cal P w K mg base 1 "_law_head" ["ends","dart"] (Bc K) fh dh) (G_law_put:Cal P w K mg base 1 "_law_put" ["turns","place","behind","fresh"] (GN K) fp dp):FnOk P w K mg base CX0 2 f fd ["cell","ends","turns","rings","places"] GK:=by
 refine F.ok aY (fun vs H Q E h=>?_) (fun cdv A outer s H vs Q E hr h=>?_)
 ·obtain⟨S,c,pe,pt,pr,P,m,es,ts,rg,rfl,_⟩:=h;rfl
 obtain⟨S,c,pe,pt,pr,P,m,es,ts,rg,rfl,⟨⟨ys,xs,zs,C⟩,g,part⟩,e0,few,mP,kk⟩:=h
 refine⟨_,(af (av (i:=5) aY.nd rfl (Or.inl rfl) (aq a8 (aq gA (aq a8 (pv 0) aj) aj) aj))
   (af (av (i:=6) aY.nd rfl (Or.inl rfl) (aq a8 (aq bu (pv 5) aj) (aw ar (by rfl) T.n_len bo (aa (pv 3) ag))))
   (af (av (i:=7) aY.nd rfl (Or.inl rfl) (aq bu (aq bu (pv 5) aj) (aw ar (by rfl) T.n_len bo (aa (pv 3) ag))))
   (af (av (i:=8) aY.nd rfl (Or.inl rfl) (aN aH (pv 3) (pv 6) (fun _ _=>rfl)))
   (af (av (i:=9) aY.nd rfl (Or.inl rfl) (aq a8 (pv 7) (aw ar (by rfl) T.n_len bo (aa (pv 8) ag))))
   (af (av (i:=10) aY.nd rfl (Or.inl rfl) (pv 9))
   (af (b9 (aE gW (aq a8 (pv 5) aj) aj (aK _)) (ao (av (i:=10) aY.nd rfl (Or.inl rfl) (aq bq (pv 9) (aq a8 (aq bu (pv 7) (aw ar (by rfl) T.n_len bo (aa (pv 8) ag))) (aq kS (aw ar (by rfl) T.n_len bo (aa (pv 8) ag)) (pv 9)))))) aR)
   (rh (t2:=stepO) (af (av (i:=11) aY.nd rfl (Or.inl rfl) (aB G_law_head.ok (hr.mono (by decide)) rfl G_law_head.mg G_law_head.kp G_law_head.bn .nil bb (aa (pv 1) (aa (aN aH (pv 8) (pv 9) (fun _ _=>rfl)) ag))))
   (af (av (i:=12) aY.nd rfl (Or.inl rfl) (aB G_law_head.ok (hr.mono (by decide)) rfl G_law_head.mg G_law_head.kp G_law_head.bn .nil bb (aa (pv 1) (aa (aN aH (pv 8) (pv 10) (fun _ _=>rfl)) ag))))
   (af (av (i:=13) aY.nd rfl (Or.inl rfl) (aw ar (by rfl) T.n_len bo (aa (pv 1) ag)))
   (af (av (i:=14) aY.nd rfl (Or.inl rfl) (aq bq (aq gA aj (pv 13)) (aq a8 (aq bu (pv 0) aj) aj)))
   (af (av (i:=15) aY.nd rfl (Or.inl rfl) (aq kS (aq bq (aq gA aj (pv 13)) aj) (pv 14)))
   (af (b9 (PW.pt (G5 (aE gW (pv 11) (pv 12) (aK _)) (Bu (aE E3 (aw ar (by rfl) T.n_len bo (aa (pv 2) ag)) (pv 4) (aK _))))) (ao ME) aR)
   (af (b9 (aE gW (pv 11) (pv 12) (aK _)) (af (av (i:=12) aY.nd rfl (Or.inl rfl) (aw ar (by rfl) T.n_len bo (aa (pv 2) ag)))
   (af (bp (iF OE OQ OP bx (pv 2) (aa (bj (aa (pv 13) ag)) ag)))
   (ao (yD (aq lx (aq lx (gy jn (pv 8) nX (gU (aq bq (pv 9) aj))) (bj (aa (pv 14) (aa (pv 15) ag)))) (gy jn (pv 8) (gU (aq bq (pv 9) aj)) nX)) (yP (pv 3) (pv 6) mJ))))) (af (bp (aB G_law_put.ok (hr.mono (by decide)) rfl G_law_put.mg G_law_put.kp G_law_put.bn .nil bb (aa (pv 2) (aa (pv 12) (aa (aN aH (pv 8) (pv 10) (fun _ _=>rfl)) (aa (pv 13) ag))))))
   (af (yD (aq lx (aq lx (gy jn (pv 8) nX (gU (aq bq (pv 9) aj))) (bj (aa (pv 14) ag))) (gy jn (pv 8) (gU (aq bq (pv 10) aj)) nX)) (yP (pv 3) (pv 6) mJ))
   (ao (bp (iF OE OQ OP bx (pv 3) (aa (aq lx (gy jn (pv 8) (gU (aq bq (pv 9) aj)) (gU (aq bq (pv 10) aj))) (bj (aa (pv 15) ag))) ag)))))))
   (rh (t2:=stepT) (af (bp (aB G_law_put.ok (hr.mono (by decide)) rfl G_law_put.mg G_law_put.kp G_law_put.bn .nil bb (aa (pv 2) (aa (pv 11) (aa (aN aH (pv 8) (pv 9) (fun _ _=>rfl)) (aa (pv 13) ag))))))
   (ao (b9 (aE gW (aq a8 (pv 14) aj) aj (aK _)) (ao (bp (iF OE OQ OP bx (pv 1) (aa (i9 (aa (pv 11) (aa (pv 12) ag))) ag)))) (ao (bp (iF OE OQ OP bx (pv 1) (aa (i9 (aa (pv 12) (aa (pv 11) ag))) ag))))))) (fun D0 S0 H0 h0=>?restp))))))))) (fun D0 S0 H0 h0=>?resto))))))))),?_⟩
 case restp =>
  obtain⟨pe,pt,q,rg,v0,v3,v4,v5,v6,v7,v10,v15,a,L,one,two,n,o,xs,ys,ring,l,rfl,o2,hpt,hx,hq,hL,l60,lb,hrg,hra,qpe,hpe,y60,kk⟩:=h0;have hraV:(ring.map iV)[a]?=some (iV L):=by rw[NZ,hra];rfl
  refine⟨_,rfl,_,rfl,_,rfl,_,rfl,rg,_,_,_,rfl,rfl,SqL.of hrg,aD hraV,_,rfl,pt,q,xs,one,L,n,l,rfl,SqL.of hpt,hx,hq,hL,l60,lb,?_⟩;have hpe2:(upd H0 q (.lst ((ins l (l.idxOf (L/2)+1) n).map iV))) pe=some (.lst ys):=by rw[ak (Ne.symm qpe)];exact hpe
  refine⟨_,rfl,_,_,rfl,rfl,(by show(0:Int)<2;decide),rfl,_,rfl,ite2 (fun c=>?_) (fun c=>?_)⟩
  ·have c':((2*n+o:Nat):Int)%2=0:=V.int.inj (of_decide_eq_true c)
   have o0:o=0:=by omega
   refine⟨_,rfl,.inl ⟨rfl,_,SqL.of hpe2⟩,_,rfl,_,rfl,(by show 2<=sizeLine;decide),fun t ht=>⟨pe,ys,_,rfl,rfl,ai ht _ _ _ hpe2,au (by omega),?_⟩⟩
   have:=kk t ht;rw[if_pos o0]at this;exact this
  ·have c':¬ ((2*n+o:Nat):Int)%2=0:=fun z=>c (decide_eq_true (congrArg V.int z))
   have o0:¬ o=0:=by omega
   refine⟨_,rfl,.inl ⟨rfl,_,SqL.of hpe2⟩,_,rfl,_,rfl,(by show 2<=sizeLine;decide),fun t ht=>⟨pe,ys,_,rfl,rfl,ai ht _ _ _ hpe2,au (by omega),?_⟩⟩
   have:=kk t ht;rw[if_neg o0]at this;exact this
 case resto =>
  clear C g part kk mP few e0;obtain⟨S,c,pe,pt,pr,rq,P,m,W,a,b,v5,v7,v11,v12,v13,v14,v15,ys,xs,zs,es,ts,rg,ring,rfl,C,g,part,few,mP,hzW,hrW,hrq,ab,bl,kN,kR⟩:=h0;have wf:=g.w;have mf:=zM g;have cr:=part.cr ring (NV hrW);obtain⟨L,hL⟩:∃ L,ring[a]?=some L:=⟨_,NQ (by omega)⟩
  obtain⟨R,hR⟩:∃ R,ring[b]?=some R:=⟨_,NQ bl⟩;have hLl:=cr.lt L (NV hL);have hRl:=cr.lt R (NV hR);have yl:ys.length=es.length:=C.en.1;have xl:xs.length=m:=by rw[C.rx.1,wf.len]
  have hLV:(ring.map iV)[a]?=some (iV L):=by rw[NZ,hL];rfl
  have hRV:(ring.map iV)[b]?=some (iV R):=by rw[NZ,hR];rfl
  have rlen:(ring.map iV).length=ring.length:=NR _;have rle:ring.length<=2*es.length:=fJ cr.nd cr.lt;obtain⟨_,l,_,_,_,k4,k5,k6⟩:=wf.at hLl;obtain⟨_,l',_,_,_,k4',k5',k6'⟩:=wf.at hRl;obtain⟨sm1,f1⟩:=nO wf few k5;obtain⟨sm2,f2⟩:=nO wf few k5';obtain⟨p1,y1,y2,y3⟩:=C.rx.2 _ _ k5;obtain⟨p2,z1,z2,z3⟩:=C.rx.2 _ _ k5';obtain⟨rq',a1,a2,a3⟩:=C.rz.2 _ _ hrW;rw[hzW]at a1
  cases a1
  obtain⟨n1,n2,n3,n4,n5,n6⟩:=C.ne;obtain⟨o,ho,o2⟩:∃ o:Nat,c/3%2=(o:Int)/\o<2:=⟨(c/3%2).toNat,by omega,by omega⟩
  have qpt:rq≠pt:=fun z=>a2 (.inl (.inr (.inl z)));have qpr:rq≠pr:=fun z=>a2 (.inl (.inr (.inr z)));have qxs:V.ref rq∉xs:=fun z=>a2 (.inr (.inl z));refine⟨_,rfl,_,rfl,_,rfl,rq,_,_,_,rfl,rfl,SqL.of hrq,aD hLV,pe,ys,es,L,rfl,SqL.of C.he,C.en,hLl,?_⟩;refine⟨_,rfl,_,rfl,_,rfl,rq,_,_,_,rfl,rfl,SqL.of hrq,aD hRV,pe,ys,es,R,rfl,SqL.of C.he,C.en,hRl,?_⟩;refine⟨_,rfl,pe,ys,rfl,.inl (SqL.of C.he),?_⟩;refine⟨_,rfl,_,_,rfl,rfl,.inl ⟨by decide,by decide⟩,_,rfl,_,_,rfl,rfl,⟨by decide,by decide⟩,_,_,rfl,rfl,(by show(0:Int)<2;decide),_,_,rfl,rfl,?_⟩
  refine⟨_,rfl,_,_,rfl,rfl,.inl ⟨by decide,by decide⟩,_,_,rfl,rfl,_,rfl,_,_,rfl,rfl,?_⟩
  have hb:4*(es.length:Int)+1-(2*(es.length:Int)+(o:Int))=((2*es.length+1-o:Nat):Int):=by omega
  have ha:2*(es.length:Int)+(o:Int)=((2*es.length+o:Nat):Int):=by omega
  rw[ho,yl];dsimp only;rw[hb,ha];have cutA:cutV (ring.map iV) none (some ((a:Int)+1))=((ring.take a++[L]).map iV):=by
   rw[show(a:Int)+1=((a+1:Nat):Int) by omega,Ny (by rw[rlen];omega),← AZ hL,QM]
  have cutB:∀ x,x<ring.length->cutV (ring.map iV) (some ((x:Int)+1)) none=((ring.drop (x+1)).map iV):=fun x hx=>by
   rw[show(x:Int)+1=((x+1:Nat):Int) by omega,Nz (by rw[rlen];omega),QN]
  have zl:zs.length=rg.length:=C.rz.1;have rgl:rg.length<=es.length+2:=by
   obtain⟨rs,q1,q2⟩:=g.part;have:=part.same q1;omega
  have Wl:W<rg.length:=(NP.mp hrW).1;refine⟨_,rfl,_,rfl,rfl,_,rfl,ite2 (fun e1=>?_) (fun e1=>?_)⟩
  ·refine⟨_,rfl,pt,xs,rfl,.inl (SqL.of C.ht),_,rfl,_,_,rfl,rfl,_,rfl,ite2 (fun e2=>?_) (fun e2=>?_)⟩
   ·exact kR m es ts rg H0 (Keep.of (fun _ _ z=>z)) ⟨⟨ys,xs,zs,C⟩,g,part⟩ (NY _) (Ql _) mP
   have mlt:m<P:=by
    by_cases z:m<P
    ·exact z
    ·exact absurd (decide_eq_true (by rw[xl];omega)) e2
   refine⟨_,rfl,_,rfl,rfl,_,rfl,ite2 (fun _=>?_) (fun z=>absurd e1 z)⟩;refine⟨_,rfl,pt,xs,rfl,.inl (SqL.of C.ht),?_⟩;refine⟨_,rfl,.inl ⟨rfl,_,SqL.of C.ht⟩,_,rfl,(by show 1<=sizeLine;decide),fun pn hpn=>⟨pt,xs,_,rfl,rfl,ai hpn _ _ _ C.ht,au (by omega),?_⟩⟩
   have sn:=ai hpn (.lst [V.int (es.length:Int)]);have C1:=(C.same sn).leaf (C.new hpn) (l:=[es.length]) ae;have hrq1:=sn _ _ hrq;have hrq2:(upd (upd H0 pn (.lst [V.int (es.length:Int)])) pt (.lst (xs++[.ref pn]))) rq=some (.lst (ring.map iV)):=by rw[ak qpt];exact hrq1
   have kp1:Keep S H0 (upd (upd H0 pn (.lst [V.int (es.length:Int)])) pt (.lst (xs++[.ref pn]))):=(Keep.of sn).trans (Keep.upd n5);generalize hG1:upd (upd H0 pn (.lst [V.int (es.length:Int)])) pt (.lst (xs++[.ref pn]))=G1 at C1 hrq2 kp1;refine⟨_,rfl,_,rfl,_,_,rfl,rfl,_,rfl,rq,_,rfl,SqL.of hrq2,fun b1 hb1=>?_⟩;rw[cutA];have t1:=ai hb1 (.lst ((ring.take a++[L]).map iV));refine⟨_,rfl,_,rfl,(by show 2<=sizeLine;decide),fun b2 hb2=>?_⟩
   have t2:=ai hb2 (.lst ([2*es.length+o,2*es.length+1-o].map iV));refine⟨b1,b2,(ring.take a++[L]).map iV,[2*es.length+o,2*es.length+1-o].map iV,rfl,rfl,SqL.of (t2 _ _ ae),SqL.of ae,(by rw[NR,NR,NT,Ou];exact OG (au (by simp;omega))),fun b3 hb3=>?_⟩
   have t3:=ai hb3 (.lst ((ring.take a++[L]).map iV++[2*es.length+o,2*es.length+1-o].map iV));have t03:=(t1.trans t2).trans t3;refine⟨_,rfl,_,rfl,_,_,rfl,rfl,_,rfl,rq,_,rfl,SqL.of (t03 _ _ hrq2),fun b4 hb4=>?_⟩;rw[cutB a (by omega)]
   have t4:=ai hb4 (.lst ((ring.drop (a+1)).map iV));refine⟨b3,b4,_,_,rfl,rfl,SqL.of (t4 _ _ ae),SqL.of ae,(by rw[NT,NR,NR,NT,Ou,NR,OX];exact OG (au (by simp;omega))),fun b5 hb5=>?_⟩
   have hlist:(ring.take a++[L]).map iV++[2*es.length+o,2*es.length+1-o].map iV++(ring.drop (a+1)).map iV=(ring.take a++L::(2*es.length+o)::(2*es.length+1-o)::ring.drop (a+1)).map iV:=by simp
   rw[hlist];have t5:=ai hb5 (.lst ((ring.take a++L::(2*es.length+o)::(2*es.length+1-o)::ring.drop (a+1)).map iV));have t04:=t03.trans t4;have t05:=t04.trans t5;have C5:=C1.same t05;obtain⟨w1,w2,w3,w4,w5,w6⟩:=C1.new (cy t04 hb5);have C6:=C5.updR (yB C5.rz (W:=W) (b:=b5) (by rintro((z | z | z) | z | z);exact w1 z;exact w2 z;exact w3 z;exact w5 z;exact w4 z) ae)
   refine⟨_,rfl,_,rfl,pr,zs,_,W,rfl,rfl,C5.hr,sf (by omega),?_⟩
   have hrq6:=(ak (o:=.lst (zs.set W (.ref b5))) qpr).trans (t05 _ _ hrq2);have kp6:=(kp1.trans (Keep.of t05)).trans (Keep.upd (q:=pr) (o:=.lst (zs.set W (.ref b5))) n6);have tsl:hd es L<ts.length:=by rw[wf.len];exact k4
   obtain⟨p1',u1,u2,u3⟩:=C6.rx.2 (hd es L) l (by rw[NX tsl];exact k5)
   refine⟨pe,pt,p1',rq,_,_,_,_,_,_,_,_,a,L,hd es L,xs.length,es.length,o,xs++[.ref pn],ys,ring,l,rfl,o2,C6.ht,u1,u3,k6,by omega,fun x hx=>by have:=sm1 x hx;omega,hrq6,hL,fun z=>u2 (.inl z),C6.he,by omega,fun t ht=>?_⟩
   obtain⟨C7,kp7⟩:=C6.fin u1 (ins l (l.idxOf (L/2)+1) es.length) ht (if o=0 then(hd es L,xs.length) else(xs.length,hd es L));rw[Lw];have hne:hd es L≠xs.length:=by omega
   have hS:=GD (e:=if o=0 then(hd es L,xs.length) else(xs.length,hd es L)) (w:=W) g part (hrW.trans (congrArg some (vk hL))) rfl (by rw[xl];exact Hm) k5
   rw[← xl,(Lc o2 hne).1,(Lc o2 hne).2]at hS;rw[Ro _ _ tsl]at C7;exact kN _ (xs.length+1) _ _ _ _ (kp6.trans kp7) ⟨⟨_,_,_,C7⟩,hS.1,hS.2⟩ (by rw[NT];omega) (by rw[NT];exact NY _) (by omega)
  ·refine iteF ?_;refine⟨_,rfl,_,rfl,rfl,_,rfl,ite2 (fun z=>absurd z e1) (fun _=>?_)⟩;have hne:hd es L≠hd es R:=fun z=>e1 (decide_eq_true (by rw[z]))
   have alt:a<b:=by
    rcases Nat.lt_or_ge a b with z | z
    ·exact z
    ·have:a=b:=by omega
     subst this;rw[hL]at hR
     cases hR
     exact absurd rfl hne
   refine⟨_,rfl,_,rfl,_,rfl,_,rfl,rq,_,_,_,rfl,rfl,SqL.of hrq,aD hRV,_,rfl,pt,p2,xs,hd es R,R,es.length,l',rfl,SqL.of C.ht,z1,z3,k6',by omega,fun x hx=>by have:=sm2 x hx;omega,?_⟩
   obtain⟨C1,np2⟩:=C.put z1 (ins l' (l'.idxOf (R/2)+1) es.length);have hrq2:(upd H0 p2 (.lst ((ins l' (l'.idxOf (R/2)+1) es.length).map iV))) rq=some (.lst (ring.map iV)):=by rw[ak (show rq≠p2 from fun z=>qxs (z▸NV z1))];exact hrq
   have kp1:Keep S H0 (upd H0 p2 (.lst ((ins l' (l'.idxOf (R/2)+1) es.length).map iV))):=Keep.upd np2;generalize hG1:upd H0 p2 (.lst ((ins l' (l'.idxOf (R/2)+1) es.length).map iV))=G1 at C1 hrq2 kp1;refine⟨_,rfl,_,rfl,_,_,rfl,rfl,_,rfl,rq,_,rfl,SqL.of hrq2,fun b1 hb1=>?_⟩;rw[cutA];have t1:=ai hb1 (.lst ((ring.take a++[L]).map iV));refine⟨_,rfl,(by show 1<=sizeLine;decide),fun b2 hb2=>?_⟩
   have t2:=ai hb2 (.lst ([2*es.length+o].map iV));refine⟨b1,b2,(ring.take a++[L]).map iV,[2*es.length+o].map iV,rfl,rfl,SqL.of (t2 _ _ ae),SqL.of ae,(by rw[NR,NR,NT,Ou];exact OG (au (by simp;omega))),fun b3 hb3=>?_⟩
   have t3:=ai hb3 (.lst ((ring.take a++[L]).map iV++[2*es.length+o].map iV));have t03:=(t1.trans t2).trans t3;refine⟨_,rfl,_,rfl,_,_,rfl,rfl,_,rfl,rq,_,rfl,SqL.of (t03 _ _ hrq2),fun b4 hb4=>?_⟩;rw[cutB b bl];have t4:=ai hb4 (.lst ((ring.drop (b+1)).map iV));refine⟨b3,b4,_,_,rfl,rfl,SqL.of (t4 _ _ ae),SqL.of ae,(by rw[NT,NR,NR,NT,Ou,NR,OX];exact OG (au (by simp;omega))),fun b5 hb5=>?_⟩
   have hlist:(ring.take a++[L]).map iV++[2*es.length+o].map iV++(ring.drop (b+1)).map iV=(ring.take a++L::(2*es.length+o)::ring.drop (b+1)).map iV:=by simp
   rw[hlist];have t5:=ai hb5 (.lst ((ring.take a++L::(2*es.length+o)::ring.drop (b+1)).map iV));have t04:=t03.trans t4;have t05:=t04.trans t5;have C5:=C1.same t05;obtain⟨w1,w2,w3,w4,w5,w6⟩:=C1.new (cy t04 hb5);have C6:=C5.updR (yB C5.rz (W:=W) (b:=b5) (by rintro((z | z | z) | z | z);exact w1 z;exact w2 z;exact w3 z;exact w5 z;exact w4 z) ae)
   refine⟨_,rfl,_,rfl,pr,zs,_,W,rfl,rfl,C5.hr,sf (by omega),?_⟩
   have hrq6:=(ak (o:=.lst (zs.set W (.ref b5))) qpr).trans (t05 _ _ hrq2);have kp6:=(kp1.trans (Keep.of t05)).trans (Keep.upd (q:=pr) (o:=.lst (zs.set W (.ref b5))) n6);generalize hG6:upd _ pr (HO.lst (zs.set W (.ref b5)))=G6 at C6 hrq6 kp6;refine⟨_,rfl,.inl ⟨rfl,_,SqL.of C6.hr⟩,_,rfl,_,rfl,_,_,rfl,rfl,_,rfl,_,rfl,_,_,rfl,rfl,_,rfl,rq,_,rfl,SqL.of hrq6,fun b6 hb6=>?_⟩;have cutM:cutV (ring.map iV) (some ((a:Int)+1)) (some ((b:Int)+1))=(((ring.drop (a+1)).take (b-a-1)++[R]).map iV):=by
    rw[show(a:Int)+1=((a+1:Nat):Int) by omega,show(b:Int)+1=((b+1:Nat):Int) by omega,Nx (by rw[rlen];omega) (by rw[rlen];omega),← mid_at hR alt,QM,QN,show b+1-(a+1)=b-a by omega]
   rw[cutM];have t6:=ai hb6 (.lst (((ring.drop (a+1)).take (b-a-1)++[R]).map iV));refine⟨_,rfl,(by show 1<=sizeLine;decide),fun b7 hb7=>?_⟩
   have t7:=ai hb7 (.lst ([2*es.length+1-o].map iV));refine⟨b6,b7,((ring.drop (a+1)).take (b-a-1)++[R]).map iV,[2*es.length+1-o].map iV,rfl,rfl,SqL.of (t7 _ _ ae),SqL.of ae,(by rw[NR,NR,NT,Ou,OX];exact OG (au (by simp;omega))),fun b8 hb8=>?_⟩
   have hlist2:((ring.drop (a+1)).take (b-a-1)++[R]).map iV++[2*es.length+1-o].map iV=((ring.drop (a+1)).take (b-a-1)++[R,2*es.length+1-o]).map iV:=by simp
   rw[hlist2];have t8:=ai hb8 (.lst (((ring.drop (a+1)).take (b-a-1)++[R,2*es.length+1-o]).map iV));have t67:=t6.trans t7;have t68:=t67.trans t8;have C8:=C6.same t68;obtain⟨x1,x2,x3,x4,x5,x6⟩:=C6.new (cy t67 hb8);have C9:=C8.updR (C8.rz.snoc (q:=b8) (by rintro((z | z | z) | z | z);exact x1 z;exact x2 z;exact x3 z;exact x5 z;exact x4 z) ae)
   refine⟨pr,zs.set W (.ref b5),_,rfl,rfl,C8.hr,au (by rw[OT];omega),?_⟩
   have hrq9:=(ak (o:=.lst (zs.set W (.ref b5)++[.ref b8])) qpr).trans (t68 _ _ hrq6);have kp9:=(kp6.trans (Keep.of t68)).trans (Keep.upd (q:=pr) (o:=.lst (zs.set W (.ref b5)++[.ref b8])) n6);obtain⟨p1',u1,u2,u3⟩:=C9.rx.2 (hd es L) l (by rw[QJ (Ne.symm hne)];exact k5)
   refine⟨pe,pt,p1',rq,_,_,_,_,_,_,_,_,a,L,hd es L,hd es R,es.length,o,xs,ys,ring,l,rfl,o2,C9.ht,u1,u3,k6,by omega,fun x hx=>by have:=sm1 x hx;omega,hrq9,hL,fun z=>u2 (.inl z),C9.he,by omega,fun t ht=>?_⟩
   obtain⟨C10,kp10⟩:=C9.fin u1 (ins l (l.idxOf (L/2)+1) es.length) ht (if o=0 then(hd es L,hd es R) else(hd es R,hd es L));rw[Lw];have hS:=GF (e:=if o=0 then(hd es L,hd es R) else(hd es R,hd es L)) (w:=W) g part (hrW.trans (congrArg some (GG hL hR alt))) rfl rfl hne Hm k5 k5';rw[(Lc o2 hne).1,(Lc o2 hne).2]at hS;rw[List.set_comm _ _ (Ne.symm hne)]at C10;exact kN _ m _ _ _ _ (kp9.trans kp10) ⟨⟨_,_,_,C10⟩,hS.1,hS.2⟩ (by rw[NT];omega) (by rw[NT];exact NY _) mP
 have zl:zs.length=rg.length:=C.rz.1;have mf:=zM g;have rg0:0<rg.length:=by
  rcases Nat.eq_zero_or_pos rg.length with z | z
  ·have:=part.all 0 (by omega)
   rw[Qv.mp z]at this
   cases this
  ·exact z
 have rgl:rg.length<=es.length+2:=by
  obtain⟨rs,q1,q2⟩:=g.part;have:=part.same q1;omega
 refine⟨_,rfl,_,_,rfl,rfl,(by show(0:Int)<1000000007;decide),_,_,rfl,rfl,.inr ⟨by decide,by decide⟩,_,_,rfl,rfl,(by show(0:Int)<2147483647;decide),?_⟩
 have o0:(0:Int)<=c%1000000007*48271%2147483647:=Pk _ (by decide)
 have o1:c%1000000007*48271%2147483647<2147483647:=Pe _ (by decide)
 refine⟨_,rfl,_,_,rfl,rfl,⟨by decide,by decide⟩,_,rfl,pr,zs,rfl,.inl (SqL.of C.hr),_,_,rfl,rfl,(by show(0:Int)<(zs.length:Int);omega),?_⟩
 refine⟨_,rfl,_,_,rfl,rfl,⟨by decide,by decide⟩,_,rfl,pr,zs,rfl,.inl (SqL.of C.hr),_,_,rfl,rfl,⟨(by show(0:Int)<(zs.length:Int);omega),(by show(zs.length:Int)<1073741824;ac_rfl)⟩,?_⟩
 dsimp only;generalize c%1000000007*48271%2147483647=M at o0 o1;obtain⟨W,hW,Wl⟩:∃ W:Nat,M/2%(zs.length:Int)=(W:Int)/\W<rg.length:=by
  have h0:=Pk (M/2) (show(zs.length:Int)≠0 by omega)
  have h1:=Pe (M/2) (show(0:Int)<(zs.length:Int) by omega)
  exact⟨_,(PM h0).symm,by omega⟩
 obtain⟨R,hR⟩:∃ R:Nat,M/2/(zs.length:Int)=(R:Int):=⟨_,(PM (Int.ediv_nonneg (by omega) (by omega))).symm⟩
 rw[hW,hR];obtain⟨ring,hring⟩:∃ r,rg[W]?=some r:=⟨_,NQ Wl⟩;obtain⟨rq,q1,q2,q3⟩:=C.rz.2 W ring hring;have cr:=part.cr ring (NV hring);have rle:ring.length<=2*es.length:=fJ cr.nd cr.lt;have rlen:(ring.map iV).length=ring.length:=NR _;have rpos:0<ring.length:=by
  obtain⟨d,hd⟩:=cr.ne;exact Qi hd
 have lpos:(0:Int)<((ring.map iV).length:Int):=by omega
 refine⟨_,rfl,_,rfl,pr,zs,_,_,rfl,rfl,SqL.of C.hr,aD q1,?_⟩;refine⟨_,rfl,_,rfl,rq,_,rfl,.inl (SqL.of q3),_,_,rfl,rfl,lpos,?_⟩;dsimp only;obtain⟨a,ha,al⟩:∃ a:Nat,(R:Int)%((ring.map iV).length:Int)=(a:Int)/\a<ring.length:=by
  have h0:=Pk (R:Int) (show((ring.map iV).length:Int)≠0 by omega)
  have h1:=Pe (R:Int) lpos;exact⟨_,(PM h0).symm,by omega⟩
 rw[ha];refine⟨_,rfl,?_⟩;refine⟨_,rfl,_,_,rfl,rfl,(by show(0:Int)<2;decide),rfl,_,rfl,ite2 (fun c1=>?_) (fun c1=>?_)⟩
 ·have bpos:(0:Int)<((ring.map iV).length:Int)-(a:Int):=by omega
  refine⟨_,rfl,_,rfl,_,rfl,rq,_,rfl,.inl (SqL.of q3),_,_,rfl,rfl,⟨lpos,(by show((ring.map iV).length:Int)<1073741824;ac_rfl)⟩,_,rfl,rq,_,rfl,.inl (SqL.of q3),_,rfl,_,_,rfl,rfl,_,_,rfl,rfl,bpos,_,_,rfl,rfl,?_⟩
  dsimp only;obtain⟨d,hd,dl⟩:∃ d:Nat,(R:Int)/((ring.map iV).length:Int)%(((ring.map iV).length:Int)-(a:Int))=(d:Int)/\a+d<ring.length:=by
   have h0:=Pk ((R:Int)/((ring.map iV).length:Int)) (show((ring.map iV).length:Int)-(a:Int)≠0 by omega)
   have h1:=Pe ((R:Int)/((ring.map iV).length:Int)) bpos;exact⟨_,(PM h0).symm,by omega⟩
  rw[hd,show(a:Int)+(d:Int)=((a+d:Nat):Int) by omega]
  exact⟨S,c,pe,pt,pr,rq,P,m,W,a,a+d,_,_,_,_,_,_,_,ys,xs,zs,es,ts,rg,ring,rfl,C,g,part,few,mP,q1,hring,q3,by omega,dl,fun _=>kk,kk⟩
 ·exact⟨S,c,pe,pt,pr,rq,P,m,W,a,a,_,_,_,_,_,_,_,ys,xs,zs,es,ts,rg,ring,rfl,C,g,part,few,mP,q1,hring,q3,NY _,al,fun _=>kk,kk⟩
end
def Ba:Sp:=fun vs H Q _=>∃(c:Int)(m:Nat),vs = [.int c,.int (m:Int)]/\m<=100/\∀(q:Addr)(o:List Nat)(H':Hp),Same H H'->H q=none->H' q=some (.lst (o.map iV))->o.length=m->o.Nodup->(∀ x∈o,x<m)->Q (.ref q) H'
def vw(K:NS):Sp:=fun vs H Q _=>∃(a:Addr)(P:Nat)(cs:List Int),vs = [.ref a,.int (P:Int)]/\SqL K H a (cs.map V.int)/\cs.length<=62/\2<=P /\
 ∀(t pe pt pr:Addr)(m:Nat)(es:En)(ts rg:List (List Nat))(H':Hp),Same H H'->H' t=some (.tup [.ref pe,.ref pt,.ref pr])->GwA (fun p=>H p≠none) H' pe pt pr m es ts rg->0<es.length->es.length<=cs.length+1->m<=P->Q (.ref t) H'
theorem JW:Part (fol [(0,1)] [[0],[0]]) 2 [[0,1]]:=by
 refine⟨fun r hr=>?_,by decide,fun d hd=>?_⟩
 ·have:r = [0,1]:=by simpa using hr
  subst this;exact⟨⟨0,[1],rfl,by decide,(by show fol [(0,1)] [[0],[0]] 1=0;decide)⟩,fun d hd=>by simp at hd ⊢;omega,by decide⟩
 ·simp;omega
theorem Keep.same{H H1 H2:Hp}(s:Same H H1)(k:Keep (fun p=>H p≠none) H1 H2):Same H H2:=fun p o h=>k p o (fun z=>by rw[z]at h;cases h) (s p o h)
section
variable{P:Program}{w:World}{K:NS}{mg:Str->Option Value}{base:Heap}
theorem eF:aA ["cell","many","order","mixed","k"] ["cell","many"] (ah dP):=by ac_nf
theorem Kg{f:Addr}{fd:FuncData} (F:Fun K "_law_order" "_law_order" dP f fd) (T:Txt mg):FnOk P w K mg base CX0 1 f fd ["cell","many"] Ba:=by
 refine F.ok eF (fun vs H Q E h=>?_) (fun cdv A outer s H vs Q E hr h=>?_)
 ·obtain⟨c,m,rfl,_⟩:=h;rfl
 obtain⟨c,m,rfl,hm,k⟩:=h
 refine⟨_,(af (av (i:=2) eF.nd rfl (Or.inl rfl) (bj ag))
   (af (av (i:=3) eF.nd rfl (Or.inl rfl) (aq a8 (pv 0) aj))
   (af (cA PassesOwn.never rfl (aW rfl T.n_range (aa (pv 1) ag)) (aX (i:=4) eF.nd rfl (Or.inl rfl)) (af (av (i:=3) eF.nd rfl (Or.inl rfl) (aq a8 (aq bq (aq gA (pv 3) aj) (aq gA aj (pv 4))) aj))
   (ao (bp (iF OE Sa R9 zk (pv 2) (aa (aq a8 (pv 3) (aq bq (pv 4) aj)) (aa (pv 4) ag)))))))
   (ao (aG (pv 2)))))),?_⟩
 refine⟨(by show 0<=sizeLine;decide),fun q hq=>?_⟩
 refine⟨_,rfl,_,_,rfl,rfl,(by show(0:Int)<1000000007;decide),?_⟩
 refine⟨_,rfl,_,rfl,by omega,by omega,cn (n:=(m:Int).toNat) (fun i σ H2=>∃(M:Int),∃ v4 o,σ = [some (.int c),some (.int (m:Int)),some (.ref q),some (.int M),v4]/\Same H H2/\H2 q=some (.lst (o.map iV))/\o.length=i/\o.Nodup/\∀ x∈o,x<i) ⟨_,_,[],rfl,ai hq _,ae,rfl,PQ,fun x hx=>nomatch hx⟩ ?_ ?_⟩
 ·rintro i σ H2 hi ⟨M,v4,o,rfl,s2,hq2,ol,nd,lt⟩;rw[Ob]at hi;have e0:(0:Int)+(i:Int)=(i:Int):=Po _;rw[e0];have hlen:(o.map iV).length=i:=by rw[NR];exact ol
  refine⟨_,rfl,_,_,rfl,rfl,.inr ⟨by decide,by decide⟩,_,rfl,_,_,rfl,rfl,.inl ⟨by decide,by decide⟩,_,_,rfl,rfl,_,_,rfl,rfl,(by show(0:Int)<2147483647;decide),?_⟩
  refine⟨_,rfl,.inl ⟨rfl,_,SqL.of hq2⟩,_,rfl,_,rfl,_,_,rfl,rfl,_,_,rfl,rfl,(by show(0:Int)<(i:Int)+1;omega),_,rfl,q,_,_,_,rfl,rfl,hq2,(LN _ _).1,(by rw[hlen];exact(LN _ _).2),au (by omega),?_⟩
  rw[insV];refine⟨_,_,_,rfl,bf s2 hq _,ae,by rw[Nj,ol],Ii nd fun z=>by have:=lt i z;omega,fun x hx=>?_⟩
  rcases Cz.mp hx with z | z
  ·omega
  ·have:=lt x z;omega
 ·rintro σ H2 ⟨M,v4,o,rfl,s2,hq2,ol,nd,lt⟩;rw[Ob]at ol lt;exact⟨_,rfl,k q o H2 s2 hq hq2 ol nd lt⟩
theorem eG:aA ["cells","places","ends","turns","rings","cell"] ["cells","places"] (ah dS):=by ac_nf
theorem Kj{f fs:Addr}{fd ds:FuncData} (F:Fun K "_law_grown" "_law_grown" dS f fd) (G_law_step:Cal P w K mg base 2 "_law_step" ["cell","ends","turns","rings","places"] GK fs ds):FnOk P w K mg base CX0 3 f fd ["cells","places"] (vw K):=by
 refine F.ok eG (fun vs H Q E h=>?_) (fun cdv A outer s H vs Q E hr h=>?_)
 ·obtain⟨a,P,cs,rfl,_⟩:=h;rfl
 obtain⟨a,P,cs,rfl,hS,h62,P2,kk⟩:=h;have hcl:(cs.map V.int).length=cs.length:=NR _
 refine⟨_,(af (av (i:=2) eG.nd rfl (Or.inl rfl) (bj (aa (i9 (aa aj (aa aj ag))) ag)))
   (af (av (i:=3) eG.nd rfl (Or.inl rfl) (bj (aa (bj (aa aj ag)) (aa (bj (aa aj ag)) ag))))
   (af (av (i:=4) eG.nd rfl (Or.inl rfl) (bj (aa (bj (aa aj (aa aj ag))) ag)))
   (af (cA PassesOwn.never rfl (br (pv 0)) (aX (i:=5) eG.nd rfl (Or.inl rfl)) (ao (bp (aB G_law_step.ok (hr.mono (by decide)) rfl G_law_step.mg G_law_step.kp G_law_step.bn .nil bb (aa (pv 5) (aa (pv 2) (aa (pv 3) (aa (pv 4) (aa (pv 1) ag)))))))))
   (ao (aG (i9 (aa (pv 2) (aa (pv 3) (aa (pv 4) ag)))))))))),?_⟩
 refine⟨(by show 2<=sizeLine;decide),fun t0 ht0=>⟨(by show 1<=sizeLine;decide),fun pe hpe=>?_⟩⟩
 refine⟨(by show 1<=sizeLine;decide),fun p0 hp0=>⟨(by show 1<=sizeLine;decide),fun p1 hp1=>⟨(by show 2<=sizeLine;decide),fun pt hpt=>?_⟩⟩⟩
 refine⟨(by show 2<=sizeLine;decide),fun r0 hr0=>⟨(by show 1<=sizeLine;decide),fun pr hpr=>?_⟩⟩
 have s1:=ai ht0 (.tup [.int 0,.int 1]);have s2:=ai hpe (.lst [.ref t0]);have s3:=ai hp0 (.lst [.int 0]);have s4:=ai hp1 (.lst [.int 0]);have s5:=ai hpt (.lst [.ref p0,.ref p1]);have s6:=ai hr0 (.lst [.int 0,.int 1]);have s7:=ai hpr (.lst [.ref r0]);have s12:=s1.trans s2;have s13:=s12.trans s3;have s14:=s13.trans s4;have s15:=s14.trans s5;have s16:=s15.trans s6;have s17:=s16.trans s7;have s37:=((s3.trans s4).trans s5).trans (s6.trans s7);have s47:=(s4.trans s5).trans (s6.trans s7);have s57:=s5.trans (s6.trans s7);have s67:=s6.trans s7;have l_t0:=(s2.trans s37) _ _ (ae (a:=t0) (o:=.tup [.int 0,.int 1]));have l_pe:=s37 _ _ (ae (a:=pe) (o:=.lst [.ref t0]));have l_p0:=s47 _ _ (ae (a:=p0) (o:=.lst [.int 0]));have l_p1:=s57 _ _ (ae (a:=p1) (o:=.lst [.int 0]));have l_pt:=s67 _ _ (ae (a:=pt) (o:=.lst [.ref p0,.ref p1]));have l_r0:=s7 _ _ (ae (a:=r0) (o:=.lst [.int 0,.int 1]));have n_pe:=cy s1 hpe;have n_p0:=cy s12 hp0;have n_p1:=cy s13 hp1;have n_pt:=cy s14 hpt;have n_r0:=cy s15 hr0;have n_pr:=cy s16 hpr;have d1:∀{x:Addr}{G G':Hp}{o:HO},G x=some o->Same G G'->∀{y},G' y=none->y≠x:=fun h s y z e=>by
  rw[e,s _ _ h]at z;cases z
 have e1:p0≠pe:=d1 ae (fun _ _ z=>z) hp0;have e2:p1≠pe:=d1 ae s3 hp1;have e3:pt≠pe:=d1 ae (s3.trans s4) hpt;have e4:r0≠pe:=d1 ae ((s3.trans s4).trans s5) hr0;have e5:pr≠pe:=d1 ae (((s3.trans s4).trans s5).trans s6) hpr;have e6:p1≠p0:=d1 ae (fun _ _ z=>z) hp1;have e7:pt≠p0:=d1 ae s4 hpt;have e8:r0≠p0:=d1 ae (s4.trans s5) hr0;have e9:pr≠p0:=d1 ae ((s4.trans s5).trans s6) hpr;have e10:pt≠p1:=d1 ae (fun _ _ z=>z) hpt;have e11:r0≠p1:=d1 ae s5 hr0;have e12:pr≠p1:=d1 ae (s5.trans s6) hpr;have e13:r0≠pt:=d1 ae (fun _ _ z=>z) hr0;have e14:pr≠pt:=d1 ae s6 hpr;have e15:pr≠r0:=d1 ae (fun _ _ z=>z) hpr;have C0:GwC (fun p=>H p≠none) (upd (upd (upd (upd (upd (upd (upd H t0 (.tup [.int 0,.int 1])) pe (.lst [.ref t0])) p0 (.lst [.int 0])) p1 (.lst [.int 0])) pt (.lst [.ref p0,.ref p1])) r0 (.lst [.int 0,.int 1])) pr (.lst [.ref r0])) pe pt pr [.ref t0] [.ref p0,.ref p1] [.ref r0] [(0,1)] [[0],[0]] [[0,1]]:=by
  refine⟨l_pe,⟨rfl,fun i e z=>?_⟩,l_pt,⟨rfl,fun i l z=>?_⟩,fun i j p z1 z2=>?_,ae,⟨rfl,fun i l z=>?_⟩,⟨Ne.symm e3,Ne.symm e5,Ne.symm e14,fun z=>z n_pe,fun z=>z n_pt,fun z=>z n_pr⟩,fun p sp z=>sp (cy s17 z)⟩
  ·match i,z with
   |0,z=>cases z;exact⟨t0,rfl,l_t0⟩
   |i+1,z=>cases z
  ·match i,z with
   |0,z=>cases z;exact⟨p0,rfl,by rintro(y | y | y | y);exact e1 y;exact e7 y.symm;exact e9 y.symm;exact y n_p0,l_p0⟩
   |1,z=>cases z;exact⟨p1,rfl,by rintro(y | y | y | y);exact e2 y;exact e10 y.symm;exact e12 y.symm;exact y n_p1,l_p1⟩
   |i+2,z=>cases z
  ·match i,z1,j,z2 with
   |0,z1,0,z2=>rfl
   |1,z1,1,z2=>rfl
   |0,z1,1,z2=>cases z1;cases z2;exact absurd rfl e6
   |1,z1,0,z2=>cases z1;cases z2;exact absurd rfl e6
   |i+2,z1,_,_=>cases z1
   |0,_,j+2,z2=>cases z2
   |1,_,j+2,z2=>cases z2
  ·match i,z with
   |0,z =>
    cases z
    refine⟨r0,rfl,?_,l_r0⟩;rintro((y | y | y) | y | y)
    ·exact e4 y
    ·exact e13 y
    ·exact e15 y.symm
    ·have:r0=p0∨r0=p1:=by simpa using y
     rcases this with y | y
     ·exact e8 y
     ·exact e11 y
    ·exact y n_r0
   |i+1,z=>cases z
 refine⟨_,rfl,a,rfl,⟨_,s17.seq hS⟩,gH (xs:=cs.map V.int) (fun i σ H5=>∃ v5 m es ts rg,σ = [some (.ref a),some (.int (P:Int)),some (.ref pe),some (.ref pt),some (.ref pr),v5]/\Same H H5/\GwA (fun p=>H p≠none) H5 pe pt pr m es ts rg/\0<es.length/\es.length<=i+1/\m<=P)
  ⟨_,2,[(0,1)],[[0],[0]],[[0,1]],rfl,s17,⟨⟨_,_,_,C0⟩,LV,JW⟩,Nat.one_pos,NY _,P2⟩ (fun i σ H5 _ ⟨_,_,_,_,_,_,z,_⟩=>z.seq hS) ?_ ?_⟩
 ·rintro i x σ H5 hx ⟨v5,m,es,ts,rg,rfl,s5,gw,e0,ei,mP⟩;rw[NZ]at hx;obtain⟨c,hc,rfl⟩:=O0.mp hx;have hil:i<cs.length:=(NP.mp hc).1;refine⟨_,rfl,_,rfl,_,rfl,_,rfl,_,rfl,_,c,pe,pt,pr,P,m,es,ts,rg,rfl,gw,e0,by omega,mP,fun m' es' ts' rg' H' kp gw' l1 l2 mP'=>?_⟩
  exact⟨_,m',es',ts',rg',rfl,kp.same s5,gw',by omega,by omega,mP'⟩
 ·rintro σ H5 ⟨v5,m,es,ts,rg,rfl,s5,gw,e0,ei,mP⟩;rw[hcl]at ei;refine⟨_,rfl,_,rfl,_,rfl,(by show 3<=sizeLine;decide),fun t ht=>?_⟩
  have sn:=ai ht (.tup [.ref pe,.ref pt,.ref pr]);obtain⟨⟨ys,xs,zs,C⟩,g,part⟩:=gw;exact kk t pe pt pr m es ts rg _ (s5.trans sn) ae ⟨⟨ys,xs,zs,C.same sn⟩,g,part⟩ e0 ei mP
end
def cutp(c:Int)(p n:Nat):Nat:=(c%1009*((p:Int)+1)%(n:Int)).toNat
def rowN(c:Int)(o2:List Nat)(p:Nat)(l:List Nat):List Nat:=(l.drop (cutp c p l.length)++l.take (cutp c p l.length)).map (ofL o2)
def en2(o1 o2:List Nat)(es:En):En:=(Oz es.length).map fun j=>(ofL o1 ((es[o2.idxOf j]?).getD (0,0)).1,ofL o1 ((es[o2.idxOf j]?).getD (0,0)).2)
def ts2(c:Int)(o1 o2:List Nat)(ts:List (List Nat)):List (List Nat):=(Oz ts.length).map fun j=>rowN c o2 (o1.idxOf j) ((ts[o1.idxOf j]?).getD [])
theorem Ik{o:List Nat}(nd:o.Nodup){k:Nat}(h:k<o.length):o.idxOf (ofL o k)=k:=by
 have e:o[k]?=some (ofL o k):=by unfold ofL;rw[NQ h];rfl
 exact Ea nd (CA (NV e)) e
theorem ren_of{m:Nat}{es:En}{ts:List (List Nat)}{c:Int}{o1 o2:List Nat}(w:bW m es ts)(l1:o1.length=m)(n1:o1.Nodup)(b1:∀ x∈o1,x<m)(l2:o2.length=es.length)(n2:o2.Nodup)(b2:∀ x∈o2,x<es.length) :
  Ren m es (en2 o1 o2 es) ts (ts2 c o1 o2 ts) (ofL o1) (ofL o2):=by
 have B1:=EB l1 n1 b1;have B2:=EB l2 n2 b2;refine⟨B1,B2,by simp[en2],by simp[ts2,w.len],fun k e h=>?_,fun p l h=>?_⟩
 ·have hk:=(NP.mp h).1
  unfold en2;rw[NZ,Ph (B2.lt k hk)];show some (ofL o1 ((es[o2.idxOf (ofL o2 k)]?).getD (0,0)).1,ofL o1 ((es[o2.idxOf (ofL o2 k)]?).getD (0,0)).2)=_;rw[Ik n2 (by omega),h]
  rfl
 ·have hp:p<m:=by rw[← w.len];exact(NP.mp h).1
  refine⟨l.take (cutp c p l.length),l.drop (cutp c p l.length),(OF _ _).symm,?_⟩;unfold ts2;rw[NZ,Ph (by rw[w.len];exact B1.lt p hp)]
  show some (rowN c o2 (o1.idxOf (ofL o1 p)) ((ts[o1.idxOf (ofL o1 p)]?).getD []))=_;rw[Ik n1 (by omega),h]
  rfl
theorem Gr.rows{m:Nat}{es:En}{ts:List (List Nat)}(g:Gr m es ts)(h2:2<=m){p:Nat}{l:List Nat}(h:ts[p]?=some l):0<l.length:=by
 have hp:p<m:=by rw[← g.w.len];exact(NP.mp h).1
 cases l with
 |cons a l=>exact Nat.succ_pos _
 |nil =>
  exfalso;have no:∀ e∈es,e.1≠p/\e.2≠p:=fun e he=>by
   obtain⟨t,ht⟩:=OS.mp he;refine⟨fun z=>?_,fun z=>?_⟩
   ·exact nomatch (g.w.mem p [] h t).mpr ⟨e,ht,.inl z⟩
   ·exact nomatch (g.w.mem p [] h t).mpr ⟨e,ht,.inr z⟩
  have:=g.conn (fun x=>x=p) (fun e he=>⟨fun z=>absurd z (no e he).1,fun z=>absurd z (no e he).2⟩) p (if p=0 then 1 else 0) hp (by split<;>omega) rfl
  have this':(if p=0 then 1 else 0)=p:=this;split at this'<;>omega
theorem cut_hi{xs:List V}{c:Nat}(h:c<=xs.length):cutV xs (some (c:Int)) none=xs.drop c:=by
 unfold cutV;rw[HT.sIx_nat,PH h];show(xs.drop c).take (xs.length-c)=_;exact OV (by rw[OX];exact NY _)
theorem cut_lo{xs:List V}{c:Nat}(h:c<=xs.length):cutV xs none (some (c:Int))=xs.take c:=by
 unfold cutV;rw[HT.sIx_nat,PH h];show(xs.drop 0).take (c-0)=_;rw[QC,Nat.sub_zero]
structure WebP(H:Hp)(pe pt:Addr)(m:Nat)(es:En)(ts:List (List Nat)):Prop where
 en:∃ ys,H pe=some (.lst ys)/\c6 H ys es
 tu:∃ xs,H pt=some (.lst xs)/\cf H xs ts
 g:Gr m es ts
theorem WebP.mono{H H':Hp}{pe pt:Addr}{m:Nat}{es:En}{ts:List (List Nat)}(h:WebP H pe pt m es ts)(s:Same H H'):WebP H' pe pt m es ts:=by
 obtain⟨⟨ys,a,b⟩,⟨xs,c,d⟩,g⟩:=h;exact⟨⟨ys,s _ _ a,b.mono s⟩,⟨xs,s _ _ c,d.mono s⟩,g⟩
theorem at30{u v x:V}:atI [u,v,x] 0=some u:=rfl
theorem at31{u v x:V}:atI [u,v,x] 1=some v:=rfl
theorem at32{u v x:V}:atI [u,v,x] 2=some x:=rfl
structure TxtM(mg:Str->Option Value):Prop extends Txt mg where
 n_max:mg "max" = none
def L8(H:Hp)(pr:Addr)(rg:List (List Nat)):Prop:=∃ zs,H pr=some (.lst zs)/\cf H zs rg
theorem JE{m:Nat}{es es2:En}{ts ts2 rs:List (List Nat)}{π σ:Nat->Nat}(R:Ren m es es2 ts ts2 π σ)(g:Gr m es ts)(p:Part (fol es ts) (2*es.length) rs):Part (fol es2 ts2) (2*es2.length) (rs.map (QW (Phi σ))):=by
 have flt:∀ d∈rs.flatten,d<2*es.length:=fun d hd=>by
  obtain⟨r,h1,h2⟩:=OY.mp hd;exact(p.cr r h1).lt d h2
 have hfl:(rs.map (QW (Phi σ))).flatten=rs.flatten.map (Phi σ):=List.map_flatten.symm;refine⟨fun q hq=>?_,?_,fun d hd=>?_⟩
 ·obtain⟨r,hr,rfl⟩:=OL.mp hq;have c:=p.cr r hr;obtain⟨x,l,rfl,ch⟩:=c.ch;refine⟨⟨Phi σ x,l.map (Phi σ),rfl,nv ch fun t ht=>R.fol g.w (c.lt t ht)⟩,fun d hd=>?_,rH c.nd fun a ha b hb=>tS R.si (c.lt a ha) (c.lt b hb)⟩;obtain⟨t,ht,rfl⟩:=OL.mp hd;have h1:=c.lt t ht;have h2:=R.si.lt (t/2) (by omega)
  rw[R.l1];unfold Phi;omega
 ·rw[hfl];exact rH p.nd fun a ha b hb=>tS R.si (flt a ha) (flt b hb)
 ·rw[R.l1]at hd;obtain⟨k,hk,e⟩:=R.si.sur (d/2) (by omega)
  rw[hfl];refine OL.mpr ⟨2*k+d%2,p.all _ (by omega),?_⟩
  unfold Phi;rw[show(2*k+d%2)/2=k by omega,e]
  omega
def GL:Sp:=fun vs H Q _=>∃(t pe pt pr:Addr)(c:Int)(m:Nat)(es:En)(ts rg:List (List Nat)),vs = [.ref t,.int c]/\H t=some (.tup [.ref pe,.ref pt,.ref pr])/\WebP H pe pt m es ts/\L8 H pr rg/\Part (fol es ts) (2*es.length) rg/\2<=m/\es.length<=63 /\
 ∀(t' pe' pt' pr':Addr)(es':En)(ts' rg':List (List Nat))(H':Hp),Same H H'->H' t'=some (.tup [.ref pe',.ref pt',.ref pr'])->WebP H' pe' pt' m es' ts'->L8 H' pr' rg'->Part (fol es' ts') (2*es'.length) rg'->es'.length=es.length->Q (.ref t') H'
section
variable{P:Program}{w:World}{K:NS}{mg:Str->Option Value}{base:Heap}
theorem aF:aA ["grown","cell","places","ties","ends","k","turns","p","row","cut","rings","ring"] ["grown","cell"] (ah bE):=by ac_nf
theorem ok_ren{f fo:Addr}{fd fdo:FuncData} (F:Fun K "_law_renumbered" "_law_renumbered" bE f fd) (T:TxtM mg) (G_law_order:Cal P w K mg base 1 "_law_order" ["cell","many"] Ba fo fdo):FnOk P w K mg base CX0 2 f fd ["grown","cell"] GL:=by
 refine F.ok aF (fun vs H Q E h=>?_) (fun cdv A outer s H vs Q E hr h=>?_)
 ·obtain⟨t,pe,pt,pr,c,m,es,ts,rg,rfl,_⟩:=h;rfl
 obtain⟨t,pe,pt,pr,c,m,es,ts,rg,rfl,ht,⟨⟨ys,hpe,en⟩,⟨xs,hpt,tu⟩,g⟩,⟨us,hpr,ru⟩,part,h2,h31,kk⟩:=h;have w':=g.w;have mf:=zM g;have hyl:ys.length=es.length:=en.1;have hxl:xs.length=m:=by rw[tu.1,w'.len]
 refine⟨_,(af (av (i:=2) aF.nd rfl (Or.inl rfl) (aB G_law_order.ok (hr.mono (by decide)) rfl G_law_order.mg G_law_order.kp G_law_order.bn .nil bb (aa (pv 1) (aa (aw ar (by rfl) T.n_len bo (aa (aN bD (pv 0) aj (fun _ _=>rfl)) ag)) ag))))
   (af (av (i:=3) aF.nd rfl (Or.inr rfl) (aB G_law_order.ok (hr.mono (by decide)) rfl G_law_order.mg G_law_order.kp G_law_order.bn .nil bb (aa (aq bu (pv 1) aj) (aa (aw ar (by rfl) T.n_len bo (aa (aN bD (pv 0) aj (fun _ _=>rfl)) ag)) ag))))
   (af (av (i:=4) aF.nd rfl (Or.inl rfl) (fF gP (by rfl) T.n_list i5 (aa (aN bD (pv 0) aj (fun _ _=>rfl)) ag)))
   (af (cA PassesOwn.never rfl (aW rfl T.n_range (aa (aw ar (by rfl) T.n_len bo (aa (pv 4) ag)) ag)) (aX (i:=5) aF.nd rfl (Or.inl rfl)) (ao (yD (i9 (aa (aN aH (pv 2) (aN bD (aN aH (aN bD (pv 0) aj (fun _ _=>rfl)) (pv 5) (fun _ _=>rfl)) aj (fun _ _=>rfl)) (fun _ _=>rfl)) (aa (aN aH (pv 2) (aN bD (aN aH (aN bD (pv 0) aj (fun _ _=>rfl)) (pv 5) (fun _ _=>rfl)) aj (fun _ _=>rfl)) (fun _ _=>rfl)) ag))) (yP (pv 4) (aN aH (pv 3) (pv 5) (fun _ _=>rfl)) mJ))))
   (af (av (i:=6) aF.nd rfl (Or.inl rfl) (fF gP (by rfl) T.n_list i5 (aa (aN bD (pv 0) aj (fun _ _=>rfl)) ag)))
   (af (cA PassesOwn.never rfl (aW rfl T.n_range (aa (aw ar (by rfl) T.n_len bo (aa (pv 6) ag)) ag)) (aX (i:=7) aF.nd rfl (Or.inl rfl)) (af (ir (i:=8) rfl aF.nd rfl rfl (fr:=[("ties",3)]) (by exact bF.one (by rfl) (by decide) (by rfl) (by decide) (by rfl) (by decide) (by rfl) (by rfl) (by decide) (by rfl)) (br (aN aH (aN bD (pv 0) aj (fun _ _=>rfl)) (pv 7) (fun _ _=>rfl))) (fun C ex s H=>(aN (kr (K:=K) rfl) (pv 1) (pv 0) (fun _ _=>rfl))))
   (af (av (i:=9) aF.nd rfl (Or.inl rfl) (aq a8 (aq gA (aq a8 (pv 1) aj) (aq bq (pv 7) aj)) (aw (sU rfl) (by rfl) T.n_max IQ (aa aj (aa (aw ar (by rfl) T.n_len bo (aa (pv 8) ag)) ag)))))
   (ao (yD (aq op_cat (gy jn (pv 8) (gU (pv 9)) nX) (gy jn (pv 8) nX (gU (pv 9)))) (yP (pv 6) (aN aH (pv 2) (pv 7) (fun _ _=>rfl)) mJ))))))
   (af (av (i:=10) aF.nd rfl (Or.inl rfl) (bj ag))
   (af (cA PassesOwn.never rfl (br (aN bD (pv 0) aj (fun _ _=>rfl))) (aX (i:=11) aF.nd rfl (Or.inl rfl)) (ao (bp (iF OE OQ OP bx (pv 10) (aa (dj rfl (fr:=[("ties",3)]) (by exact bF.one (by rfl) (by decide) (by rfl) (by decide) (by rfl) (by decide) (by rfl) (by rfl) (by decide) (by rfl)) (br (pv 11)) (fun C ex s H=>(aq bq (aq gA aj (aN (kr (K:=K) rfl) (pv 1) (aq bu (pv 0) aj) (fun _ _=>rfl))) (aq a8 (pv 0) aj)))) ag)))))
   (ao (aG (i9 (aa (pv 4) (aa (pv 6) (aa (pv 10) ag)))))))))))))),?_⟩
 refine⟨_,rfl,_,rfl,t,_,1,_,rfl,rfl,SqT.of ht,at31,pt,xs,rfl,.inl (SqL.of hpt),c,m,(by rw[hxl];rfl),by omega,fun q1 o1 H1 s1 _ h1 l1 n1 b1=>?_⟩
 refine⟨_,rfl,_,_,rfl,rfl,⟨by decide,by decide⟩,_,rfl,t,_,0,_,rfl,rfl,SqT.of (s1 _ _ ht),at30,pe,ys,rfl,.inl (SqL.of (s1 _ _ hpe)),_,es.length,(by rw[hyl];rfl),by omega,fun q2 o2 H2 s2 _ h2' l2 n2 b2=>?_⟩
 have s12:=s1.trans s2;have R:=ren_of (c:=c) w' l1 n1 b1 l2 n2 b2;have h1':=s2 _ _ h1;refine⟨_,rfl,t,_,0,_,rfl,rfl,SqT.of (s12 _ _ ht),at30,pe,ys,rfl,.inl (SqL.of (s12 _ _ hpe)),fun qe hqe=>?_⟩;have s3:=ai hqe (.lst ys);have s13:=s12.trans s3;have h23:=s3 _ _ h2';have h13:=s3 _ _ h1';have get1:∀ k,k<m->(o1.map iV)[k]?=some (iV (ofL o1 k)):=fun k hk=>by
  rw[NZ];unfold ofL;rw[NQ (by omega)];rfl
 have get2:∀ k,k<es.length->(o2.map iV)[k]?=some (iV (ofL o2 k)):=fun k hk=>by
  rw[NZ];unfold ofL;rw[NQ (by omega)];rfl
 have hqe0:H qe=none:=by
  cases y:H qe with
  |none=>rfl
  |some o=>rw[s12 _ _ y]at hqe;cases hqe
 refine⟨_,rfl,qe,ys,rfl,.inl (SqL.of ae),_,rfl,by omega,by omega,cn (n:=(ys.length:Int).toNat) (fun i σ H5=>∃ v5 v6 v7 v8 v9 v10 v11 zs,σ = [some (.ref t),some (.int c),some (.ref q1),some (.ref q2),some (.ref qe),v5,v6,v7,v8,v9,v10,v11]/\Same H2 H5/\H5 qe=some (.lst zs)/\zs.length=es.length/\∀(k:Nat)(e:Nat×Nat),k<i->es[k]?=some e->∃ p,zs[ofL o2 k]?=some (.ref p)/\H5 p=some (.tup [iV (ofL o1 e.1),iV (ofL o1 e.2)]))
  ⟨_,_,_,_,_,_,_,ys,rfl,s3,ae,hyl,fun k e z=>absurd z (P5 _)⟩ ?_ ?_⟩
 ·rintro i σ H5 hi ⟨v5,v6,v7,v8,v9,v10,v11,zs,rfl,s5,hz,zl,inv⟩;rw[Ob,hyl]at hi;have e0:(0:Int)+(i:Int)=(i:Int):=Po _;rw[e0];have s15:=s12.trans s5;obtain⟨e,he⟩:∃ e,es[i]?=some e:=⟨_,NQ hi⟩;obtain⟨p,x1,x2⟩:=(en.mono s15).2 i e he;obtain⟨a1,a2,_⟩:=w'.ends e (NV he);have b2':=R.si.lt i hi;refine⟨_,rfl,_,rfl,t,_,0,_,rfl,rfl,SqT.of (s15 _ _ ht),at30,_,rfl,pe,ys,_,_,rfl,rfl,SqL.of (s15 _ _ hpe),aD x1,p,_,0,_,rfl,rfl,SqT.of x2,at0,q1,_,_,_,rfl,rfl,SqL.of (s5 _ _ h1'),aD (get1 _ a1),_,rfl,_,rfl,t,_,0,_,rfl,rfl,SqT.of (s15 _ _ ht),at30,_,rfl,pe,ys,_,_,rfl,rfl,SqL.of (s15 _ _ hpe),aD x1,p,_,1,_,rfl,rfl,SqT.of x2,at1,q1,_,_,_,rfl,rfl,SqL.of (s5 _ _ h1'),aD (get1 _ a2),(by show 2<=sizeLine;decide),fun tt htt=>?_⟩
  have sn:=ai htt (.tup [iV (ofL o1 e.1),iV (ofL o1 e.2)]);refine⟨_,rfl,_,rfl,_,rfl,q2,_,_,_,rfl,rfl,SqL.of (sn _ _ (s5 _ _ h2')),aD (get2 _ hi),qe,zs,_,ofL o2 i,rfl,rfl,sn _ _ hz,sf (by omega),?_⟩
  refine⟨_,_,_,_,_,_,_,_,rfl,bf (s5.trans sn) hqe _,ae,by rw[OT];exact zl,fun k e' hk hek=>?_⟩
  by_cases z:k=i
  ·subst z;rw[he]at hek
   cases hek
   exact⟨tt,by rw[OM,if_pos rfl,if_pos (by omega)],by rw[ak (fun z=>by rw[z,hz]at htt;cases htt)];exact ae⟩
  ·obtain⟨p',u1,u2⟩:=inv k e' (by omega) hek
   have hkl:k<es.length:=(NP.mp hek).1;refine⟨p',by rw[OM,if_neg (fun y=>z (R.si.inj _ _ hkl hi y.symm))];exact u1,?_⟩
   rw[ak (fun z=>by rw[z,hz]at u2;cases u2)]
   exact sn _ _ u2
 rintro σ H5 ⟨v5,v6,v7,v8,v9,v10,v11,zs,rfl,s5,hz,zl,inv⟩;rw[Ob,hyl]at inv;have s15:=s12.trans s5
 have enN:c6 H5 zs (en2 o1 o2 es):=⟨by rw[zl,R.l1],fun j x h=>by
  obtain⟨k,e,rfl,h4,rfl⟩:=R.es' h
  exact inv k e (NP.mp h4).1 h4⟩
 refine⟨_,rfl,t,_,1,_,rfl,rfl,SqT.of (s15 _ _ ht),at31,pt,xs,rfl,.inl (SqL.of (s15 _ _ hpt)),fun qt hqt=>?_⟩;have s6:=ai hqt (.lst xs);have s16:=s15.trans s6
 refine⟨_,rfl,qt,xs,rfl,.inl (SqL.of ae),_,rfl,by omega,by omega,cn (n:=(xs.length:Int).toNat) (fun i σ H7=>∃ v5 v7 v8 v9 v10 v11 ws,σ = [some (.ref t),some (.int c),some (.ref q1),some (.ref q2),some (.ref qe),v5,some (.ref qt),v7,v8,v9,v10,v11]/\Same H5 H7/\H7 qt=some (.lst ws)/\ws.length=m/\∀(p:Nat)(l:List Nat),p<i->ts[p]?=some l->∃ q,ws[ofL o1 p]?=some (.ref q)/\H7 q=some (.lst ((rowN c o2 p l).map iV))/\q≠qt)
  ⟨_,_,_,_,_,_,xs,rfl,s6,ae,hxl,fun k e z=>absurd z (P5 _)⟩ ?_ ?_⟩
 ·rintro i σ H7 hi ⟨w5,w7,w8,w9,w10,w11,ws,rfl,s7,hw,wl,inv2⟩;rw[Ob,hxl]at hi;have e0:(0:Int)+(i:Int)=(i:Int):=Po _;rw[e0];have s17:=s15.trans s7;have s27:=s5.trans s7;obtain⟨l,hl⟩:∃ l,ts[i]?=some l:=⟨_,NQ (by rw[w'.len];exact hi)⟩
  obtain⟨p,x1,x2⟩:=(tu.mono s17).2 i l hl;have lpos:=g.rows h2 hl;have llt:∀ k∈l,k<es.length:=fun k hk=>pf w' hl hk;have lle:l.length<=es.length:=fJ (w'.nd _ _ hl) llt;have llen:(l.map iV).length=l.length:=NR _;refine⟨_,rfl,t,_,1,_,rfl,rfl,SqT.of (s17 _ _ ht),at31,_,rfl,pt,xs,_,_,rfl,rfl,SqL.of (s17 _ _ hpt),aD x1,p,rfl,⟨_,SqL.of x2⟩,bM (K:=K) (xs:=l.map iV) (fun j zs H8=>H8=H7/\zs=((l.map (ofL o2)).map iV).take j) (by rw[llen];exact OG (au (by omega))) ⟨rfl,rfl⟩ (fun j zs H8 _ z=>z.1▸SqL.of x2) ?_ ?_⟩
  ·rintro j x zs H8 hx ⟨rfl,rfl⟩;rw[NZ]at hx;obtain⟨k,hk,rfl⟩:=O0.mp hx;refine⟨_,rfl,_,rfl,q2,_,_,_,rfl,rfl,SqL.of (s27 _ _ h2'),aD (get2 _ (llt k (NV hk))),rfl,?_⟩;rw[O7,NZ,NZ,hk];rfl
  rintro zs H8 hzl ⟨rfl,rfl⟩ D hD;rw[llen,OV (by rw[NR,NR];exact NY _)]
  have sD:=ai hD (.lst ((l.map (ofL o2)).map iV));have dlen:((l.map (ofL o2)).map iV).length=l.length:=by rw[NR,NR]
  have dpos:(0:Int)<(((l.map (ofL o2)).map iV).length:Int):=by omega
  have mx1:(if(((l.map (ofL o2)).map iV).length:Int) > 1 then(((l.map (ofL o2)).map iV).length:Int) else 1)=(((l.map (ofL o2)).map iV).length:Int):=by split<;>omega
  have c0:=Pk c (show(1009:Int)≠0 by decide)
  have c1:=Pe c (show(0:Int)<1009 by decide)
  refine⟨_,rfl,_,_,rfl,rfl,(by show(0:Int)<1009;decide),_,rfl,_,_,rfl,rfl,_,_,rfl,rfl,.inl ⟨by show -(2^64:Int)<c%1009;omega,by show c%1009<(2^64:Int);omega⟩,_,rfl,D,_,rfl,.inl (SqL.of ae),_,_,rfl,_,_,rfl,rfl,(by rw[mx1];exact dpos),?_⟩
  rw[mx1];have u0:=Pk (c%1009*((i:Int)+1)) (show(((l.map (ofL o2)).map iV).length:Int)≠0 by omega)
  have u1:=Pe (c%1009*((i:Int)+1)) dpos;have hcut:c%1009*((i:Int)+1)%(((l.map (ofL o2)).map iV).length:Int)=((cutp c i l.length:Nat):Int):=by
   unfold cutp;rw[dlen]at u0 ⊢;exact(PM u0).symm
  have cle:cutp c i l.length<=((l.map (ofL o2)).map iV).length:=by omega
  refine⟨_,rfl,_,rfl,_,rfl,D,_,rfl,SqL.of ae,fun b1' hb1=>?_⟩;rw[hcut,cut_hi cle];have sB:=ai hb1 (.lst (((l.map (ofL o2)).map iV).drop (cutp c i l.length)));refine⟨_,rfl,_,rfl,_,rfl,D,_,rfl,SqL.of (sB _ _ ae),fun b2' hb2=>?_⟩;rw[hcut,cut_lo cle];have sC:=ai hb2 (.lst (((l.map (ofL o2)).map iV).take (cutp c i l.length)));refine⟨b1',b2',_,_,rfl,rfl,sC _ _ ae,ae,by rw[OX,Ou];exact OG (au (by omega)),fun b3 hb3=>?_⟩
  have hrow:((l.map (ofL o2)).map iV).drop (cutp c i l.length)++((l.map (ofL o2)).map iV).take (cutp c i l.length)=(rowN c o2 i l).map iV:=by
   unfold rowN;rw[Oo,Oo,QN,QN,QM,QM]
  rw[hrow];have sE:=ai hb3 (.lst ((rowN c o2 i l).map iV));have sAll:=((sD.trans sB).trans sC).trans sE;refine⟨_,rfl,_,rfl,_,rfl,q1,_,_,_,rfl,rfl,SqL.of (sAll _ _ (s27 _ _ h1')),aD (get1 _ hi),qt,ws,_,ofL o1 i,rfl,rfl,sAll _ _ hw,sf (by rw[wl];exact R.pi.lt i hi),?_⟩
  have b3t:b3≠qt:=fun z=>by rw[z,((sD.trans sB).trans sC) _ _ hw]at hb3;cases hb3
  refine⟨_,_,_,_,_,_,_,rfl,bf (s7.trans sAll) hqt _,ae,by rw[OT];exact wl,fun p' l' hp' hl'=>?_⟩
  by_cases z:p'=i
  ·subst z;rw[hl]at hl'
   cases hl'
   exact⟨b3,by rw[OM,if_pos rfl,if_pos (by rw[wl];exact R.pi.lt p' hi)],by rw[ak b3t];exact ae,b3t⟩
  ·obtain⟨q,u1,u2,u3⟩:=inv2 p' l' (by omega) hl'
   have hpl:p'<m:=by rw[← w'.len];exact(NP.mp hl').1
   exact⟨q,by rw[OM,if_neg (fun y=>z (R.pi.inj _ _ hpl hi y.symm))];exact u1,by rw[ak u3];exact sAll _ _ u2,u3⟩
 rintro σ H7 ⟨w5,w7,w8,w9,w10,w11,ws,rfl,s7,hw,wl,inv2⟩;rw[Ob,hxl]at inv2
 have tuN:cf H7 ws (ts2 c o1 o2 ts):=⟨by rw[wl,R.l2],fun j L h=>by
  have hj:j<m:=by rw[← R.l2];exact(NP.mp h).1
  obtain⟨p,hp,rfl⟩:=R.pi.sur j hj;obtain⟨l,hl⟩:∃ l,ts[p]?=some l:=⟨_,NQ (by rw[w'.len];exact hp)⟩
  obtain⟨q,z1,z2,_⟩:=inv2 p l hp hl;refine⟨q,z1,?_⟩;unfold ts2 at h;rw[NZ,Ph (by rw[w'.len];exact R.pi.lt p hp)]at h
  have h':some (rowN c o2 (o1.idxOf (ofL o1 p)) ((ts[o1.idxOf (ofL o1 p)]?).getD []))=some L:=h;rw[Ik n1 (by omega),hl]at h'
  cases h'
  exact z2⟩
 have s17:=s15.trans s7;refine⟨(by show 0<=sizeLine;decide),fun qr hqr=>?_⟩
 have s8:=ai hqr (.lst []);have ru8:=ru.mono (s17.trans s8);have ul:us.length=rg.length:=ru.1;have rgl:rg.length<=es.length+2:=by
  obtain⟨rs,x1,x2⟩:=g.part;have:=part.same x1;omega
 have ringp:∀(r:List Nat),r∈rg->r.length<=2*es.length/\∀ d∈r,d<2*es.length:=fun r hr=>⟨fJ (part.cr r hr).nd (part.cr r hr).lt,(part.cr r hr).lt⟩;have h2s:=s5.trans s7
 refine⟨_,rfl,t,_,2,_,rfl,rfl,SqT.of ((s17.trans s8) _ _ ht),at32,pr,rfl,⟨us,SqL.of ((s17.trans s8) _ _ hpr)⟩,gH (xs:=us) (fun i σ H9=>∃ v5 v7 v8 v9 v11 ws2,σ = [some (.ref t),some (.int c),some (.ref q1),some (.ref q2),some (.ref qe),v5,some (.ref qt),v7,v8,v9,some (.ref qr),v11]/\Same H7 H9/\H9 qr=some (.lst ws2)/\cC (fun p=>p=qr) H9 ws2 ((rg.map (QW (Phi (ofL o2)))).take i))
  ⟨_,_,_,_,_,[],rfl,s8,ae,⟨rfl,fun i l z=>by simp at z⟩⟩ (fun i σ H9 _ ⟨_,_,_,_,_,_,_,z,_⟩=>SqL.of ((s17.trans z) _ _ hpr)) ?_ ?_⟩
 ·rintro i x σ H9 hx ⟨w5',w7',w8',w9',w11',ws2,rfl,s9,hq9,rx9⟩;have hi:i<rg.length:=by rw[← ul];exact(NP.mp hx).1
  obtain⟨r,hr⟩:∃ r,rg[i]?=some r:=⟨_,NQ hi⟩;obtain⟨p,x1,x2⟩:=(ru.mono (s17.trans s9)).2 i r hr;rw[hx]at x1
  cases x1
  obtain⟨rl,rlt⟩:=ringp r (NV hr);have rlen:(r.map iV).length=r.length:=NR _;have wsl:ws2.length=i:=by rw[rx9.1,Ou,NR];omega
  refine⟨_,rfl,.inl ⟨rfl,_,SqL.of hq9⟩,_,rfl,p,rfl,⟨_,SqL.of x2⟩,bM (K:=K) (xs:=r.map iV) (fun j zs H8=>H8=H9/\zs=((r.map (Phi (ofL o2))).map iV).take j) (by rw[rlen];exact OG (au (by omega))) ⟨rfl,rfl⟩ (fun j zs H8 _ z=>z.1▸SqL.of x2) ?_ ?_⟩
  ·rintro j x zs H8 hx ⟨rfl,rfl⟩;rw[NZ]at hx;obtain⟨d,hd,rfl⟩:=O0.mp hx;have dl:=rlt d (NV hd);have e2:(d:Int)/2=((d/2:Nat):Int):=by omega
   refine⟨_,rfl,_,rfl,_,_,rfl,rfl,⟨by decide,by decide⟩,q2,_,_,_,rfl,rfl,SqL.of ((h2s.trans s9) _ _ h2'),(by rw[e2];exact aD (get2 _ (by omega))),_,_,rfl,rfl,.inl ⟨by decide,by decide⟩,_,rfl,_,_,rfl,rfl,(by show(0:Int)<2;decide),_,_,rfl,rfl,rfl,?_⟩
   rw[O7,NZ,NZ,hd];have:V.int (2*((ofL o2 (d/2):Nat):Int)+(d:Int)%2)=iV (Phi (ofL o2) d):=by
    unfold Phi iV;congr 1
   simpa[iV] using this
  rintro zs H8 hzl ⟨rfl,rfl⟩ D hD;rw[rlen,OV (by rw[NR,NR];exact NY _)]
  have sD:=ai hD (.lst ((r.map (Phi (ofL o2))).map iV));have Dq:D≠qr:=fun z=>by rw[z,hq9]at hD;cases hD
  refine⟨qr,ws2,_,rfl,rfl,sD _ _ hq9,au (by omega),?_⟩
  have hqr7:H7 qr=none:=hqr;refine⟨_,_,_,_,_,_,rfl,bf (s9.trans sD) hqr7 _,ae,?_⟩;have tk:(rg.map (QW (Phi (ofL o2)))).take (i+1)=(rg.map (QW (Phi (ofL o2)))).take i++[r.map (Phi (ofL o2))]:=by
   rw[O7,NZ,hr];rfl
  rw[tk];refine cC.mono (cC.snoc (cC.mono rx9 fun b u _ z=>sD _ _ z) Dq ae) fun b u n z=>?_;rw[ak n];exact z
 rintro σ H9 ⟨w5',w7',w8',w9',w11',ws2,rfl,s9,hq9,rx9⟩;rw[ul,OV (by rw[NR];exact NY _)]at rx9
 have s19:=s17.trans s9;refine⟨_,rfl,_,rfl,_,rfl,(by show 3<=sizeLine;decide),fun t' ht'=>?_⟩
 have sT:=ai ht' (.tup [.ref qe,.ref qt,.ref qr]);have s79:=s9.trans sT;exact kk t' qe qt qr (en2 o1 o2 es) (ts2 c o1 o2 ts) _ _ (s19.trans sT) ae ⟨⟨zs,s79 _ _ (s7 _ _ hz),(enN.mono s7).mono s79⟩,⟨ws,s79 _ _ hw,tuN.mono s79⟩,R.gr g⟩ ⟨ws2,sT _ _ hq9,rx9.off.mono sT⟩ (JE R g part) R.l1
end
theorem bt_min:bootBuiltins "min" = some (.builtin "min"):=by decide
theorem Iw{S:Addr->Prop}{H:Hp}{xs:List V}{ts:List (List Nat)}{q:Addr}(h:cC S H xs ts)(D:Dist xs)(hq:H q=none):Dist (xs++[.ref q]):=by
 have old:∀(j:Nat)(p:Addr),j<xs.length->(xs++[V.ref q])[j]?=some (.ref p)->xs[j]?=some (.ref p)/\p≠q:=fun j p hj e=>by
  rw[NX hj]at e;obtain⟨p',a1,_,a3⟩:=h.2 j _ (NQ (by rw[← h.1];exact hj))
  rw[e]at a1
  cases a1
  exact⟨e,ax a3 hq⟩
 have new:∀(j:Nat)(p:Addr),¬ j<xs.length->(xs++[V.ref q])[j]?=some (.ref p)->j=xs.length/\p=q:=fun j p hj e=>by
  have:=(NP.mp e).1;rw[NT,Of]at this;have hj2:j=xs.length:=by omega
  subst hj2;rw[NW (NY _),OA]at e
  cases e
  exact⟨rfl,rfl⟩
 intro j k p e1 e2;by_cases hj:j<xs.length
 ·obtain⟨u1,u2⟩:=old j p hj e1;by_cases hk:k<xs.length
  ·exact D j k p u1 (old k p hk e2).1
  ·exact absurd (new k p hk e2).2 u2
 ·obtain⟨u1,u2⟩:=new j p hj e1;by_cases hk:k<xs.length
  ·exact absurd u2 (old k p hk e2).2
  ·rw[u1,(new k p hk e2).1]
abbrev Kn:=List (Int×Int)
def gm(H:Hp)(ws:List V)(ks:Kn):Prop:=ws.length=ks.length/\∀(i:Nat)(k:Int×Int),ks[i]?=some k->(k.1=0∨k.1=1)/\0<=k.2/\∃ p,ws[i]?=some (.ref p)/\H p=some (.tup [.int k.1,.int k.2])
theorem gm.mono{H H':Hp}{ws:List V}{ks:Kn}(h:gm H ws ks)(s:Same H H'):gm H' ws ks:=⟨h.1,fun i k z=>by
 obtain⟨a,b,p,c,d⟩:=h.2 i k z
 exact⟨a,b,p,c,s _ _ d⟩⟩
theorem gm.snoc{H:Hp}{ws:List V}{ks:Kn}{k:Int×Int}{p:Addr}(t:gm H ws ks)(h:H p=some (.tup [.int k.1,.int k.2]))(h1:k.1=0∨k.1=1)(h2:0<=k.2):gm H (ws++[.ref p]) (ks++[k]):=by
 refine⟨by rw[NT,NT,t.1];rfl,fun j x ej=>?_⟩
 by_cases hj:j<ks.length
 ·rw[NX hj]at ej;obtain⟨u,v,p,a1,a2⟩:=t.2 j x ej;exact⟨u,v,p,by rw[NX (by rw[t.1];exact hj)];exact a1,a2⟩
 ·rw[NW (by omega)]at ej
  have hj2:j=ks.length:=by
   have:=(NP.mp ej).1;rw[Of]at this;omega
  subst hj2;rw[OA]at ej
  cases ej
  exact⟨h1,h2,p,by rw[← t.1,NW (NY _),OA];rfl,h⟩
theorem Gr.two{m:Nat}{es:En}{ts:List (List Nat)}(g:Gr m es ts)(h:0<es.length):2<=m:=by
 obtain⟨a,b,c⟩:=g.w.ends _ (NV (NQ h));omega
def Bd(K:NS):Sp:=fun vs H Q _=>∃(a lm:Addr)(n:Nat)(ns Ls:List Int),vs = [.ref a,.int (n:Int),.ref lm]/\SqL K H a (ns.map V.int)/\ns.length<=63/\SqL K H lm (Ls.map V.int)/\0<Ls.length/\Ls.length<1000/\(∀ x∈Ls,1<=x/\x<=10^(30:Int).toNat+1)/\0<n/\n<=100 /\
 ∀(q:Addr)(ws:List V)(ks:Kn)(H':Hp),Same H H'->H' q=some (.lst ws)->gm H' ws ks->ks.length=n->(∀ k∈ks,k.2<=10^(30:Int).toNat)->Q (.ref q) H'
section
variable{P:Program}{w:World}{K:NS}{mg:Str->Option Value}{base:Heap}
theorem gu:aA ["script","many","limits","limit","totals","k"] ["script","many","limits"] (ah dQ):=by ac_nf
theorem Ki{f fc:Addr}{fd dc:FuncData} (F:Fun K "_law_kinds" "_law_kinds" dQ f fd) (T:Txt mg) (G_law_cell:Cal P w K mg base 1 "_law_cell" ["script","k"] (DT K) fc dc):FnOk P w K mg base CX0 2 f fd ["script","many","limits"] (Bd K):=by
 refine F.ok gu (fun vs H Q E h=>?_) (fun cdv A outer s H vs Q E hr h=>?_)
 ·obtain⟨a,lm,n,ns,Ls,rfl,_⟩:=h;rfl
 obtain⟨a,lm,n,ns,Ls,rfl,hS,h63,hL,L0,L1,Lb,n0,n100,kk⟩:=h;have hlen:(ns.map V.int).length=ns.length:=NR _;have llen:(Ls.map V.int).length=Ls.length:=NR _;have lpos:(0:Int)<((Ls.map V.int).length:Int):=by omega
 refine⟨_,(af (av (i:=3) gu.nd rfl (Or.inl rfl) (aN aH (pv 2) (aq a8 (aB G_law_cell.ok (hr.mono (by decide)) rfl G_law_cell.mg G_law_cell.kp G_law_cell.bn .nil bb (aa (pv 0) (aa aj ag))) (aw ar (by rfl) T.n_len bo (aa (pv 2) ag))) (fun _ _=>rfl)))
   (af (ir (i:=4) rfl gu.nd rfl rfl (fr:=[]) (by exact bF.plain (by rfl) (by decide) (by rfl) (by decide) (by rfl) (by decide)) (aW rfl T.n_range (aa (pv 1) ag)) (fun C ex s H=>aj))
   (af (cA PassesOwn.never rfl (aW rfl T.n_range (aa (aw ar (by rfl) T.n_len bo (aa (pv 0) ag)) ag)) (aX (i:=5) gu.nd rfl (Or.inl rfl)) (ao (yD (aq a8 (aq bq (aq gA (aN aH (pv 4) (aq a8 (pv 5) (pv 1)) (fun _ _=>rfl)) aj) (aN aH (pv 0) (pv 5) (fun _ _=>rfl))) (aq gA aj (pv 3))) (yP (pv 4) (aq a8 (pv 5) (pv 1)) mJ))))
   (ao (aG (dj rfl (fr:=[]) (by exact bF.plain (by rfl) (by decide) (by rfl) (by decide) (by rfl) (by decide)) (br (pv 4)) (fun C ex s H=>(i9 (aa (aq a8 (pv 0) aj) (aa (aq bu (pv 0) aj) ag)))))))))),?_⟩
 obtain⟨i,hi,il⟩:∃ i:Nat,xJ ns 1%((Ls.map V.int).length:Int)=(i:Int)/\i<Ls.length:=by
  have h0:=Pk (xJ ns 1) (show((Ls.map V.int).length:Int)≠0 by omega)
  have h1:=Pe (xJ ns 1) lpos;exact⟨_,(PM h0).symm,by omega⟩
 obtain⟨L,hLi⟩:∃ L,Ls[i]?=some L:=⟨_,NQ il⟩;obtain⟨b1,b2⟩:=Lb L (NV hLi);have lpos2:(0:Int)<2*L:=by omega
 refine⟨_,rfl,_,rfl,a,1,ns,rfl,hS,_,rfl,lm,_,rfl,.inl hL,_,_,rfl,rfl,lpos,lm,_,_,_,rfl,rfl,hL,(by rw[hi];exact aD (v:=.int L) (by rw[NZ,hLi];rfl)),?_⟩
 refine⟨_,rfl,_,rfl,by omega,by ac_rfl,fB (n:=(n:Int).toNat) (fun j ys H2=>H2=H/\ys=(PN j (0:Int)).map V.int) (by rw[Ob];exact OG (au (by omega))) ⟨rfl,rfl⟩ (fun j ys H2 _ ⟨z1,z2⟩=>?_) ?_⟩
 ·subst z1 z2;refine⟨rfl,?_⟩;rw[List.replicate_succ',Oo];rfl
 rintro ys H2 _ ⟨rfl,rfl⟩ q hq;rw[Ob];have s1:=ai hq (.lst ((PN n (0:Int)).map V.int))
 refine⟨_,rfl,a,_,rfl,.inl (s1.seq hS),_,rfl,by omega,by ac_rfl,cn (n:=((ns.map V.int).length:Int).toNat) (fun j σ H3=>∃(v5:Option V)(xs:List Int),σ = [some (.ref a),some (.int (n:Int)),some (.ref lm),some (.int L),some (.ref q),v5]/\Same H2 H3/\H3 q=some (.lst (xs.map V.int))/\xs.length=n/\∀ x∈xs,0<=x/\x<2*L)
  ⟨_,PN n 0,rfl,s1,ae,List.length_replicate,fun x hx=>by rw[List.eq_of_mem_replicate hx];omega⟩ ?_ ?_⟩
 ·rintro j σ H3 hj ⟨v5,xs,rfl,s3,hq3,xl,xb⟩;rw[Ob,hlen]at hj;have e0:(0:Int)+(j:Int)=(j:Int):=Po _;rw[e0];have npos:(0:Int)<(n:Int):=by omega
  have jm:(j:Int)%(n:Int)=((j%n:Nat):Int):=by omega
  have jl:j%n<n:=Se _ n0;obtain⟨x,hx⟩:∃ x,xs[j%n]?=some x:=⟨_,NQ (by omega)⟩
  have hxV:(xs.map V.int)[j%n]?=some (.int x):=by rw[NZ,hx];rfl
  have hsV:(ns.map V.int)[j]?=some (.int ns[j]):=by rw[NZ,NQ hj];rfl
  refine⟨_,rfl,_,rfl,_,rfl,_,_,rfl,rfl,npos,q,_,_,_,rfl,rfl,SqL.of hq3,(by rw[jm];exact aD hxV),_,_,rfl,rfl,.inr ⟨by decide,by decide⟩,_,rfl,_,rfl,a,_,_,_,rfl,rfl,s3.seq hS,aD hsV,_,_,rfl,rfl,_,rfl,_,_,rfl,rfl,.inl ⟨by decide,by decide⟩,_,_,rfl,rfl,lpos2,?_⟩
  have xlen:(xs.map V.int).length=xs.length:=NR _;refine⟨_,rfl,_,rfl,_,rfl,_,_,rfl,rfl,npos,q,xs.map V.int,_,j%n,rfl,rfl,hq3,(by rw[jm];exact sf (by omega)),?_⟩
  refine⟨_,xs.set (j%n) ((x*5+ns[j])%(2*L)),rfl,bf s3 hq _,?_,by rw[OT];exact xl,fun y hy=>?_⟩
  ·rw[ae,List.map_set]
  ·rcases QY hy with z | z
   ·exact xb y z
   ·rw[z];exact⟨Pk _ (by omega),Pe _ lpos2⟩
 rintro σ H3 ⟨v5,xs,rfl,s3,hq3,xl,xb⟩;have xlen:(xs.map V.int).length=xs.length:=NR _;refine⟨_,rfl,q,rfl,⟨_,SqL.of hq3⟩,bM (K:=K) (xs:=xs.map V.int) (fun j zs H4=>Same H3 H4/\∃ ks:Kn,gm H4 zs ks/\ks.length=j/\∀ k∈ks,k.2<=10^(30:Int).toNat) (by rw[xlen];exact OG (au (by omega))) ⟨fun _ _ z=>z,[],⟨rfl,fun i k z=>by simp at z⟩,rfl,fun k z=>nomatch z⟩ (fun j zs H4 _ z=>SqL.of (z.1 _ _ hq3)) ?_ ?_⟩
 ·rintro j v zs H4 hv ⟨s4,ks,tk,kl,kb⟩;rw[NZ]at hv;obtain⟨x,hx,rfl⟩:=O0.mp hv;obtain⟨x0,x1⟩:=xb x (NV hx);refine⟨_,rfl,_,_,rfl,rfl,(by show(0:Int)<2;decide),_,rfl,_,_,rfl,rfl,⟨by decide,by decide⟩,(by show 2<=sizeLine;decide),fun t ht=>?_⟩
  have sn:=ai ht (.tup [.int (x%2),.int (x/2)]);refine⟨s4.trans sn,ks++[(x%2,x/2)],(tk.mono sn).snoc ae (by show x%2=0∨x%2=1;omega) (by show 0<=x/2;omega),by rw[NT,kl];rfl,fun k hk=>?_⟩
  rcases N0.mp hk with z | z
  ·exact kb k z
  ·rw[Ol.mp z];show x/2<=_;generalize (10:Int)^(30:Int).toNat=Z at b2 ⊢;omega
 rintro zs H4 _ ⟨s4,ks,tk,kl,kb⟩ D hD;have sD:=ai hD (.lst zs);exact kk D zs ks _ ((s3.trans s4).trans sD) ae (tk.mono sD) (by rw[kl,xlen,xl]) kb
end
theorem andN(a b:Nat):Builtin.bitAnd (a:Int) (b:Int)=((a&&&b:Nat):Int):=by
 rw[PyProof.Rows.bitAnd_pp (RE _) (RE _),Ob,Ob]
theorem orN(a b:Nat):Builtin.bitOr (a:Int) (b:Int)=((a|||b:Nat):Int):=by
 rw[PyProof.Rows.bitOr_and,andN];have q:=PyProof.Rows.nat_or_add_and a b;omega
theorem shlN(p:Nat):(1:Int)*2^((p:Nat):Int).toNat=((2^p:Nat):Int):=by
 rw[Int.one_mul,Ob,Int.natCast_pow];rfl
theorem Jn{M p q:Nat}:(M&&&(2^p|||2^q)=0↔M.testBit p=false/\M.testBit q=false)/\(M|||(2^p|||2^q)=M->M.testBit p=true/\M.testBit q=true):=by
 have b1:∀ i,(2^p|||2^q).testBit i=(decide (p=i)||decide (q=i)):=fun i=>by rw[Ru,Qt,Qt]
 refine⟨⟨fun h=>?_,fun⟨h1,h2⟩=>?_⟩,fun h=>?_⟩
 ·have h1:=congrArg (fun z=>RW z p) h
  have h2:=congrArg (fun z=>RW z q) h;simp only[Rb,b1,Q6]at h1 h2;constructor
  ·simpa using h1
  ·simpa using h2
 ·refine Qp fun i=>?_;rw[Rb,b1,Q6];by_cases z1:p=i
  ·subst z1;rw[h1];rfl
  ·by_cases z2:q=i
   ·subst z2;rw[h2];rfl
   ·simp[z1,z2]
 ·have h1:=congrArg (fun z=>RW z p) h
  have h2:=congrArg (fun z=>RW z q) h;simp only[Ru (x:=M),b1]at h1 h2;constructor
  ·simpa using h1.symm
  ·simpa using h2.symm
theorem Iu{M m:Nat}(h:M<2^m)(k:∀ p,p<m->M.testBit p=true):M=2^m-1:=by
 refine Qp fun i=>?_;rw[Nat.testBit_two_pow_sub_one];by_cases z:i<m
 ·rw[k i z,decide_eq_true z]
 ·rw[decide_eq_false z];exact Nat.testBit_lt_two_pow (OO h (Rm (by decide) (by omega)))
def A7(K:NS):Sp:=fun vs H Q _=>∃(a:Addr)(ys:List V)(m:Nat)(es:En)(ts:List (List Nat)),vs = [.int 0,.ref a]/\SqL K H a ys/\c6 H ys es/\Gr m es ts/\2<=m/\m<=60/\Q (.int ((2^m-1:Nat):Int)) H
section
variable{P:Program}{w:World}{K:NS}{mg:Str->Option Value}{base:Heap}
theorem cO:aA ["start","pairs","mask","ahead","one","two","ends"] ["start","pairs"] (ah ic):=by ac_nf
theorem E5{f:Addr}{fd:FuncData} (F:Fun K "reached" "reached" ic f fd):FnOk P w K mg base CX0 1 f fd ["start","pairs"] (A7 K):=by
 refine F.ok cO (fun vs H Q E h=>?_) (fun cdv A outer s H vs Q E hr h=>?_)
 ·obtain⟨a,ys,m,es,ts,rfl,_⟩:=h;rfl
 obtain⟨a,ys,m,es,ts,rfl,hS,hE,g,m2,m40,kk⟩:=h
 refine⟨_,(af (av (i:=2) cO.nd rfl (Or.inl rfl) (aq ja aj (pv 0)))
   (af (av (i:=3) cO.nd rfl (Or.inl rfl) aj)
   (af (mR PassesOwn.never (aE wa (pv 2) (pv 3) (aK _)) (af (av (i:=3) cO.nd rfl (Or.inl rfl) (pv 2))
   (ao (cA PassesOwn.never rfl (br (pv 1)) (Hg rfl (kd (aX (i:=4) cO.nd rfl (Or.inl rfl)) (kd (aX (i:=5) cO.nd rfl (Or.inl rfl)) BG))) (af (av (i:=6) cO.nd rfl (Or.inl rfl) (aq op_or (aq ja aj (pv 4)) (aq ja aj (pv 5))))
   (ao (b9 (aE wa (aq Ho (pv 2) (pv 6)) aj (aK _)) (ao (av (i:=2) cO.nd rfl (Or.inl rfl) (aq op_or (pv 2) (pv 6)))) aR)))))))
   (ao (aG (pv 2)))))),?_⟩
 refine⟨_,rfl,_,_,rfl,rfl,⟨by decide,by decide,by decide⟩,?_⟩
 have p2:∀ p,p<m->2^p<2^m:=fun p hp=>Rl (by decide) hp
 refine DN (fun σ H2=>∃(M Ah:Nat),∃ v4 v5 v6,H2=H/\σ = [some (.int 0),some (.ref a),some (.int (M:Int)),some (.int (Ah:Int)),v4,v5,v6]/\M.testBit 0=true/\M<2^m/\(M=Ah->∀ e∈es,M.testBit e.1=M.testBit e.2))
  (fun σ _=>match σ with | [_,_,some (.int M),some (.int Ah),_,_,_]=>2*((2^m:Nat)-M).toNat+(if M=Ah then 0 else 1) | _=>0) ⟨1,0,_,_,_,rfl,rfl,by decide,Nat.one_lt_two_pow (by omega),fun z=>absurd z (by decide)⟩ ?_ ?_
 ·rintro σ H2 ⟨M,Ah,v4,v5,v6,rfl,rfl,b0,hM,cl⟩;refine⟨_,rfl,_,rfl,rfl,_,rfl,?_⟩;refine ite2 (fun c=>?_) (fun c=>?_)
  ·have c':M≠Ah:=fun z=>by
    rw[decide_eq_true (show V.int (M:Int)=V.int (Ah:Int) by rw[z])]at c
    cases c
   refine⟨_,rfl,?_⟩;refine⟨_,rfl,a,rfl,⟨_,hS⟩,gH (K:=K) (xs:=ys) (fun i σ H3=>∃(M':Nat),∃ v4 v5 v6,H3=H2/\σ = [some (.int 0),some (.ref a),some (.int (M':Int)),some (.int (M:Int)),v4,v5,v6]/\M'.testBit 0=true/\M'<2^m/\M<=M'/\(M'=M->∀(j:Nat)(e:Nat×Nat),j<i->es[j]?=some e->M.testBit e.1=M.testBit e.2)) ⟨M,_,_,_,rfl,rfl,b0,hM,NY _,fun _ j e z=>absurd z (P5 _)⟩ (fun i σ H3 _ ⟨_,_,_,_,z,_⟩=>z▸hS) ?_ ?_⟩
   ·rintro i x σ H3 hx ⟨M',v4,v5,v6,rfl,rfl,b0',hM',hle,cl'⟩;have hi:i<es.length:=by rw[← hE.1];exact(NP.mp hx).1
    obtain⟨e,he⟩:∃ e,es[i]?=some e:=⟨_,NQ hi⟩;obtain⟨p,x1,x2⟩:=hE.2 i e he;rw[hx]at x1
    cases x1
    obtain⟨e1,e2,_⟩:=g.w.ends e (NV he);obtain⟨t1,t2⟩:=Jn (M:=M') (p:=e.1) (q:=e.2);refine⟨p,_,rfl,SqT.of x2,rfl,_,_,rfl,_,_,rfl,rfl,?_⟩;refine⟨_,rfl,_,_,rfl,rfl,⟨by omega,by omega,by decide⟩,_,rfl,_,_,rfl,rfl,⟨by omega,by omega,by decide⟩,_,_,rfl,rfl,?_⟩
    have eo:Builtin.bitOr (1*2^((e.1:Nat):Int).toNat) (1*2^((e.2:Nat):Int).toNat)=((2^e.1|||2^e.2:Nat):Int):=by rw[shlN,shlN,orN]
    refine⟨_,rfl,_,rfl,_,_,rfl,rfl,rfl,_,rfl,?_⟩;have step:∀ M'':Nat,M'<=M''->(M''=M'->M'.testBit e.1=M'.testBit e.2)->M''=M->∀(j:Nat)(x:Nat×Nat),j<i+1->es[j]?=some x->M.testBit x.1=M.testBit x.2:=fun M'' h1 h2 h3 j x hj hx'=>by
     have e3:M'=M:=by omega
     by_cases z:j=i
     ·subst z;rw[he]at hx'
      cases hx'
      have:=h2 (by omega)
      rwa[e3]at this
     ·exact cl' e3 j x (by omega) hx'
    refine ite2 (fun c=>?_) (fun c=>?_)
    ·refine⟨_,rfl,_,rfl,_,_,rfl,rfl,?_⟩;refine⟨M'|||(2^e.1|||2^e.2),some (iV e.1),some (iV e.2),some (V.int (Builtin.bitOr (1*2^((e.1:Nat):Int).toNat) (1*2^((e.2:Nat):Int).toNat))),rfl,?_,?_,Nat.or_lt_two_pow hM' (Nat.or_lt_two_pow (p2 _ e1) (p2 _ e2)),O6 hle Nat.left_le_or,step _ Nat.left_le_or fun z=>?_⟩
     ·show[some (V.int 0),some (V.ref a),some (V.int (Builtin.bitOr (M':Int) (Builtin.bitOr (1*2^((e.1:Nat):Int).toNat) (1*2^((e.2:Nat):Int).toNat)))),some (V.int (M:Int)),some (iV e.1),some (iV e.2),some (V.int (Builtin.bitOr (1*2^((e.1:Nat):Int).toNat) (1*2^((e.2:Nat):Int).toNat)))]=_;rw[eo,orN]
     ·rw[Ru,b0'];rfl
     ·obtain⟨u1,u2⟩:=t2 z;rw[u1,u2]
    ·refine⟨M',_,_,_,rfl,rfl,b0',hM',hle,step M' (NY _) fun _=>?_⟩;have c3:M'&&&(2^e.1|||2^e.2)=0:=by
      by_cases z:M'&&&(2^e.1|||2^e.2)=0
      ·exact z
      ·refine absurd ?_ c;rw[decide_eq_false (fun y=>z ?_)]
       ·rfl
       ·have y':=V.int.inj y
        rw[eo,andN]at y';omega
     obtain⟨u1,u2⟩:=t1.mp c3;rw[u1,u2]
   ·rintro σ H3 ⟨M',v4,v5,v6,rfl,rfl,b0',hM',hle,cl'⟩;rw[hE.1]at cl';refine⟨⟨M',M,_,_,_,rfl,rfl,b0',hM',fun z e he=>?_⟩,?_⟩
    ·obtain⟨j,hj⟩:=OS.mp he;have:=cl' z j e (NP.mp hj).1 hj;rw[z];exact this
    ·show 2*(((2^m:Nat):Int)-(M':Int)).toNat+(if(M':Int)=(M:Int) then 0 else 1)<2*(((2^m:Nat):Int)-(M:Int)).toNat+(if(M:Int)=(Ah:Int) then 0 else 1);rw[if_neg (show ¬ (M:Int)=(Ah:Int) from fun z=>c' (by omega))]
     have hMi:(M':Int)<((2^m:Nat):Int):=by exact_mod_cast hM'
     have hMj:(M:Int)<=(M':Int):=by omega
     generalize ((2^m:Nat):Int)=Z at hMi ⊢;split<;>omega
  ·have c':M=Ah:=by
    by_cases z:M=Ah
    ·exact z
    ·exact absurd (by rw[decide_eq_false (fun y=>z (by have:=V.int.inj y;omega))];rfl) c
   have full:=Iu hM fun p hp=>by
    have:=g.conn (fun x=>M.testBit x=true) (fun e he=>by rw[cl c' e he]) 0 p (by omega) hp b0
    exact this
   refine⟨_,rfl,?_⟩;rw[full];exact kk
 ·rintro σ H2 Q1 Q2 hi ⟨v',e,b',e2,z1,c',e3,q'⟩;exact⟨v',e,b',e2,z1,c',e3,hi _ _ q'⟩
end
theorem uE:∀{a b:List Int},a.Perm b->a.Pairwise (·<=·)->b.Pairwise (·<=·)->a=b
 |[],b,h,_,_=>(List.nil_perm.mp h).symm▸rfl
 |x::a,[],h,_,_=>absurd h.length_eq (by simp)
 |x::a,y::b,h,pa,pb=>by
  obtain⟨a1,a2⟩:=QV.mp pa;obtain⟨b1,b2⟩:=QV.mp pb;have h1:x<=y:=by
   rcases NU.mp (h.mem_iff.mpr (Og ..):y∈x::a)with z | z
   ·rw[z];exact Pr _
   ·exact a1 y z
  have h2:y<=x:=by
   rcases NU.mp (h.mem_iff.mp (Og ..):x∈y::b)with z | z
   ·rw[z];exact Pr _
   ·exact b1 x z
  have e:x=y:=Int.le_antisymm h1 h2;subst e;rw[uE (List.Perm.cons_inv h) a2 b2]
def cI(l:List Nat):List Int:=l.map fun(p:Nat)=>((p:Nat):Int)
theorem cI_V(l:List Nat):(cI l).map V.int=l.map iV:=by unfold cI;rw[Qm];rfl
theorem Mv{l r:List Nat}{out:List Int}(hp:out.Perm (cI l))(hs:out.Pairwise (·<=·))(nl:l.Nodup)(pr:r.Pairwise (· < ·))(hm:∀ t,t∈l↔t∈r):out=cI r:=by
 have nr:r.Nodup:=pr.imp fun h=>Ot h;have q:(cI l).Perm (cI r):=((Qo nl nr).mpr hm).map _;refine uE (hp.trans q) hs ?_;unfold cI;exact List.Pairwise.map _ (fun a b h=>by omega) pr
theorem Ij{l:List Nat}{n:Nat}:ins l l.length n=l++[n]:=by
 unfold ins;rw[Pb,List.drop_length]
def A9(K:NS):Sp:=fun vs H Q _=>∃(a:Addr)(xs:List V)(m:Nat)(es:En),vs = [.int (m:Int),.ref a]/\SqL K H a xs/\eX K H xs es/\(∀ e∈es,e.1<m/\e.2<m)/\Q .non H
def vp(K:NS):Sp:=fun vs H Q _=>∃(a b:Addr)(xs zs:List V)(m:Nat)(es:En)(ts:List (List Nat)),vs = [.int (m:Int),.ref a,.ref b]/\SqL K H a xs/\eX K H xs es/\SqL K H b zs/\cf H zs ts/\bW m es ts/\es.length<=40/\m<=60/\∀ H',Same H H'->Q .non H'
def A8(K:NS):Sp:=fun vs H Q _=>∃(a:Addr)(xs:List V)(m:Nat)(es:En)(ts:List (List Nat)),vs = [.int (m:Int),.ref a]/\SqL K H a xs/\eX K H xs es/\Gr m es ts/\2<=m/\m<=60/\es.length<=40/\∀ H',Same H H'->Q .non H'
section
variable{P:Program}{w:World}{K:NS}{mg:Str->Option Value}{base:Heap}
theorem kP:aA ["many","ties","tie"] ["many","ties"] (ah cx):=by ac_nf
theorem Kf{f:Addr}{fd:FuncData} (F:Fun K "refuse_ends" "refuse_ends" cx f fd):FnOk P w K mg base CX0 1 f fd ["many","ties"] (A9 K):=by
 refine F.ok kP (fun vs H Q E h=>?_) (fun cdv A outer s H vs Q E hr h=>?_)
 ·obtain⟨a,xs,m,es,rfl,_⟩:=h;rfl
 obtain⟨a,xs,m,es,rfl,hS,hT,hm,k⟩:=h;refine⟨_,(ao (cA PassesOwn.never rfl (br (pv 1)) (aX (i:=2) kP.nd rfl (Or.inl rfl)) (ao (b9 (PW.pt (G4 (aE E3 (cY (pv 2) rfl) (pv 0) (aK _)) (yC (aE E3 (cY (pv 2) rfl) (pv 0) (aK _))))) (ao iD) aR)))),?_⟩;refine⟨_,rfl,a,rfl,⟨_,hS⟩,gH (K:=K) (xs:=xs) (fun i σ H2=>∃ v2,σ = [some (.int (m:Int)),some (.ref a),v2]/\H2=H) ⟨_,rfl,rfl⟩ (fun i σ H2 _ ⟨_,_,z⟩=>z▸hS) ?_ ?_⟩
 ·rintro i x σ H2 hx ⟨v2,rfl,rfl⟩;have hi:i<es.length:=by rw[← hT.1];exact(NP.mp hx).1
  obtain⟨e,he⟩:∃ e,es[i]?=some e:=⟨_,NQ hi⟩;obtain⟨p,C,dx,st,x1,x2,x3⟩:=hT.2 i e he;rw[hx]at x1
  cases x1
  obtain⟨e1,e2⟩:=hm e (NV he);refine⟨_,rfl,p,C,dx,_,_,rfl,x2,x3.cl,x3.n1,mH _ _ _,_,rfl,_,_,rfl,rfl,_,rfl,?_⟩;refine ite2 (fun c=>absurd (of_decide_eq_true c) (by omega)) (fun _=>?_)
  refine⟨_,rfl,p,C,dx,_,_,rfl,x2,x3.cl,x3.n2,qX _ _ _,_,rfl,_,_,rfl,rfl,_,rfl,?_⟩;refine ite2 (fun c=>absurd (of_decide_eq_true c) (by omega)) (fun _=>?_)
  exact⟨_,rfl,rfl⟩
 ·rintro σ H2 ⟨v2,rfl,rfl⟩;exact k
theorem da:aA ["many","ties","turns","ending","number","tie"] ["many","ties","turns"] (ah bX):=by ac_nf
theorem Hs{f:Addr}{fd:FuncData} (F:Fun K "refuse_turns" "refuse_turns" bX f fd) (T:Txt mg):FnOk P w K mg base CX0 1 f fd ["many","ties","turns"] (vp K):=by
 refine F.ok da (fun vs H Q E h=>?_) (fun cdv A outer s H vs Q E hr h=>?_)
 ·obtain⟨a,b,xs,zs,m,es,ts,rfl,_⟩:=h;rfl
 obtain⟨a,b,xs,zs,m,es,ts,rfl,hS,hT,hB,hR,w',few,m40,kk⟩:=h;have hu64:=hr.units
 refine⟨_,(af (ir (i:=3) rfl da.nd rfl rfl (fr:=[]) (by exact bF.plain (by rfl) (by decide) (by rfl) (by decide) (by rfl) (by decide)) (aW rfl T.n_range (aa (pv 0) ag)) (fun C ex s H=>(bj ag)))
   (af (cA PassesOwn.never rfl (He rfl T.n_enumerate (aa (pv 1) ag)) (Hg rfl (kd (aX (i:=4) da.nd rfl (Or.inl rfl)) (kd (aX (i:=5) da.nd rfl (Or.inl rfl)) BG))) (af (bp (iF OE OQ OP bx (aN aH (pv 3) (cY (pv 5) rfl) (fun _ _=>rfl)) (aa (pv 4) ag)))
   (ao (bp (iF OE OQ OP bx (aN aH (pv 3) (cY (pv 5) rfl) (fun _ _=>rfl)) (aa (pv 4) ag))))))
   (ao (b9 (aE (op_neD hu64) (dj rfl (fr:=[]) (by exact bF.plain (by rfl) (by decide) (by rfl) (by decide) (by rfl) (by decide)) (br (pv 2)) (fun C ex s H=>(aw (Aj (K:=K) rfl) (by rfl) T.n_sorted nH (aa (pv 0) ag)))) (pv 3) (aK _)) (ao iD) aR)))),?_⟩
 refine⟨_,rfl,_,rfl,by omega,by omega,fB (n:=(m:Int).toNat) (fun i ys H2=>Same H H2/\cC (fun p=>H p≠none) H2 ys (PN i [])/\Dist ys) (by rw[Ob];exact OG (au (by omega))) ⟨fun _ _ e=>e,⟨rfl,fun i l e=>by simp at e⟩,fun i j p e=>by simp at e⟩ ?_ ?_⟩
 ·rintro i ys H2 hi ⟨s2,rx,D⟩;refine⟨(by show 0<=sizeLine;decide),fun l hl=>?_⟩
  have s3:=ai hl (.lst []);refine⟨s2.trans s3,?_,Iw rx D hl⟩;rw[List.replicate_succ'];refine(rx.mono fun b u _ z=>s3 _ _ z).snoc (fun z=>z ?_) ae
  cases y:H l with
  |none=>rfl
  |some o=>rw[s2 _ _ y]at hl;cases hl
 rintro ys H2 hyl ⟨s2,rx,D⟩ pn hpn;rw[Ob]at rx;have s3:=ai hpn (.lst ys);have hpn0:H pn=none:=by
  cases y:H pn with
  |none=>rfl
  |some o=>rw[s2 _ _ y]at hpn;cases hpn
 have rx3:cC (fun p=>p=pn∨H p≠none) (upd H2 pn (.lst ys)) ys (PN m []):=⟨rx.1,fun i l z=>by
  obtain⟨p,a1,a2,a3⟩:=rx.2 i l z;have n2:p≠pn:=ax a3 hpn
  exact⟨p,a1,by rintro(y | y);exact n2 y;exact a2 y,s3 _ _ a3⟩⟩
 refine⟨_,rfl,a,rfl,⟨_,(s2.trans s3).seq hS⟩,Ek (K:=K) (xs:=xs) (fun i σ H5=>∃ v4 v5 rows,σ = [some (.int (m:Int)),some (.ref a),some (.ref b),some (.ref pn),v4,v5]/\Same H H5/\H5 pn=some (.lst ys)/\cC (fun p=>p=pn∨H p≠none) H5 ys rows/\bW m (es.take i) rows/\∀ r∈rows,r.Pairwise (· < ·))
  ⟨_,_,_,rfl,s2.trans s3,ae,rx3,Jo m,fun r hr=>by rw[(List.mem_replicate.mp hr).2];exact Q4⟩ (fun i σ H5 _ ⟨_,_,_,_,z,_⟩=>z.seq hS) ?_ ?_⟩
 ·rintro i x σ H5 T2 hx ⟨v4,v5,rows,rfl,s5,hpn5,rx5,w5,pw⟩ hT2;have hi:i<es.length:=by rw[← hT.1];exact(NP.mp hx).1
  obtain⟨e,he⟩:∃ e,es[i]?=some e:=⟨_,NQ hi⟩;obtain⟨p,C,dx,st,x1,x2,x3⟩:=hT.2 i e he;rw[hx]at x1
  cases x1
  have sT:=ai hT2 (.tup [.int (i:Int),.ref p]);have s6:=s5.trans sT;have x6:=s6 _ _ x2;obtain⟨e1,e2,e3⟩:=w'.ends e (NV he);have til:(es.take i).length=i:=by rw[Ou];omega
  have rlen:=w5.len;obtain⟨l,hl⟩:∃ l,rows[e.1]?=some l:=⟨_,NQ (by omega)⟩
  obtain⟨l',hl'⟩:∃ l,rows[e.2]?=some l:=⟨_,NQ (by omega)⟩
  have rx6:cC (fun p=>p=pn∨H p≠none) (upd H5 T2 (.tup [.int (i:Int),.ref p])) ys rows:=rx5.mono fun b u _ z=>sT _ _ z;obtain⟨p1,y1,y2,y3⟩:=rx6.2 _ _ hl;obtain⟨p2,z1,z2,z3⟩:=rx6.2 _ _ hl';have no_S:∀{p:Addr},¬ (p=pn∨H p≠none)->H p=none/\p≠pn:=fun{p} n=>by
   refine⟨?_,fun z=>n (.inl z)⟩
   cases y:H p with
   |none=>rfl
   |some o=>exact absurd (.inr (by rw[y];exact fun z=>nomatch z)) n
  obtain⟨hp1,np1⟩:=no_S y2;obtain⟨hp2,np2⟩:=no_S z2;have n12:p2≠p1:=fun y=>by rw[y]at z1;exact e3 (D _ _ p1 y1 z1)
  have ll:∀{q:Nat}{r:List Nat},rows[q]?=some r->∀ t∈r,t<i:=fun{q r} h t ht=>by
   have:=pf w5 h ht;omega
  have lle:∀{q:Nat}{r:List Nat},rows[q]?=some r->r.length<=40:=fun{q r} h=>by
   have:=fJ (w5.nd _ _ h) (ll h);omega
  have f1:=lle hl;have f2:=lle hl';have hpn6:=sT _ _ hpn5;refine⟨T2,_,rfl,SqT.of ae,rfl,_,_,rfl,_,_,rfl,rfl,?_⟩;refine⟨_,rfl,_,rfl,p,C,dx,_,_,rfl,x6,x3.cl,x3.n1,mH _ _ _,pn,ys,_,_,rfl,rfl,SqL.of hpn6,aD y1,.inl ⟨rfl,_,SqL.of y3⟩,_,rfl,p1,_,_,rfl,rfl,y3,au (by rw[NR];omega),?_⟩
  have e1':(l.map iV)++[V.int (i:Int)]=(l++[i]).map iV:=by rw[Oo];rfl
  rw[e1'];have x7:(upd (upd H5 T2 (.tup [.int (i:Int),.ref p])) p1 (.lst ((l++[i]).map iV))) p=some (.ins C dx (tf (e.1:Int) (e.2:Int) st)):=by rw[ak (fun z=>by rw[z]at x2;rw[x2]at hp1;cases hp1)];exact x6
  have hpn7:(upd (upd H5 T2 (.tup [.int (i:Int),.ref p])) p1 (.lst ((l++[i]).map iV))) pn=some (.lst ys):=by rw[ak np1.symm];exact hpn6
  have z7:(upd (upd H5 T2 (.tup [.int (i:Int),.ref p])) p1 (.lst ((l++[i]).map iV))) p2=some (.lst (l'.map iV)):=by rw[ak n12];exact z3
  refine⟨_,rfl,_,rfl,p,C,dx,_,_,rfl,x7,x3.cl,x3.n2,qX _ _ _,pn,ys,_,_,rfl,rfl,SqL.of hpn7,aD z1,.inl ⟨rfl,_,SqL.of z7⟩,_,rfl,p2,_,_,rfl,rfl,z7,au (by rw[NR];omega),?_⟩
  have e2':(l'.map iV)++[V.int (i:Int)]=(l'++[i]).map iV:=by rw[Oo];rfl
  rw[e2'];refine⟨_,_,(rows.set e.1 (l++[i])).set e.2 (l'++[i]),rfl,bf (bf s6 hp1 _) hp2 _,by rw[ak np2.symm];exact hpn7,(rx6.set D y1).set D z1,?_,fun r hr=>?_⟩
  ·have q:=w5.put (k:=l.length) (j:=l'.length) e1 e2 e3 hl hl'
   rw[Ij,Ij,til]at q;rw[O7,he];exact q
  ·have app:∀{q:Nat}{r:List Nat},rows[q]?=some r->(r++[i]).Pairwise (· < ·):=fun{q r} h=>O8.mpr ⟨pw r (NV h),Qu _ _,fun x hx y hy=>by
    have:=ll h x hx;have:y=i:=by simpa using hy
    omega⟩
   rcases QY hr with z | z
   ·rcases QY z with z | z
    ·exact pw r z
    ·rw[z];exact app hl
   ·rw[z];exact app hl'
 rintro σ H5 ⟨v4,v5,rows,rfl,s5,hpn5,rx5,w5,pw⟩;rw[hT.1,Pb]at w5;have hzl:zs.length=m:=by rw[hR.1,w'.len]
 refine⟨_,rfl,b,rfl,⟨_,s5.seq hB⟩,bM (K:=K) (xs:=zs) (fun i vs H6=>Same H5 H6/\cf H6 vs (rows.take i)) (OG (au (by omega))) ⟨fun _ _ e=>e,rfl,fun i l e=>by simp at e⟩ (fun i vs H6 _ z=>(s5.trans z.1).seq hB) ?_ ?_⟩
 ·rintro i x vs H6 hx ⟨s6,rz⟩;have hi:i<ts.length:=by rw[← hR.1];exact(NP.mp hx).1
  obtain⟨l,hl⟩:∃ l,ts[i]?=some l:=⟨_,NQ hi⟩;obtain⟨r,hr'⟩:∃ r,rows[i]?=some r:=⟨_,NQ (by rw[w5.len,← w'.len];exact hi)⟩
  obtain⟨p,a1,a2⟩:=(hR.mono (s5.trans s6)).2 i l hl;rw[hx]at a1
  cases a1
  have hll:l.length<=40:=O6 (fJ (w'.nd _ _ hl) fun t ht=>pf w' hl ht) few;refine⟨_,rfl,p,cI l,rfl,(by rw[cI_V];exact SqL.of a2),(by unfold cI;rw[NR];omega),fun q out hq hp hs=>?_⟩
  have eo:=Mv hp hs (w'.nd _ _ hl) (pw r (NV hr')) fun t=>(w'.mem i l hl t).trans (w5.mem i r hr' t).symm;subst eo;have s7:=ai hq (.lst ((cI r).map V.int));refine⟨s6.trans s7,?_⟩;rw[show rows.take (i+1)=rows.take i++[r] by rw[O7,hr'];rfl]
  exact(rz.mono s7).snoc (by rw[ae,cI_V])
 rintro vs H6 _ ⟨s6,rz⟩ D' hD';rw[hzl,← w5.len,Pb]at rz;have s7:=ai hD' (.lst vs);have s67:=s6.trans s7;refine⟨_,rfl,_,GZ (SqL.of ae) (rz.mono s7),GZ (SqL.of (s67 _ _ hpn5)) (rx5.off.mono s67),Bt rows,_,rfl,iteF ?_⟩;exact kk _ (s5.trans s67)
theorem pU:aA ["many","ties"] ["many","ties"] (ah bJ):=by ac_nf
theorem Kd{f fr:Addr}{fd fdr:FuncData} (F:Fun K "refuse_parted" "refuse_parted" bJ f fd) (G_reached:Cal P w K mg base 1 "reached" ["start","pairs"] (A7 K) fr fdr):FnOk P w K mg base CX0 2 f fd ["many","ties"] (A8 K):=by
 refine F.ok pU (fun vs H Q E h=>?_) (fun cdv A outer s H vs Q E hr h=>?_)
 ·obtain⟨a,xs,m,es,ts,rfl,_⟩:=h;rfl
 obtain⟨a,xs,m,es,ts,rfl,hS,hT,g,m2,m40,few,kk⟩:=h;have hul:xs.length=es.length:=hT.1;refine⟨_,(ao (b9 (aE wa (aB G_reached.ok (hr.mono (by decide)) rfl G_reached.mg G_reached.kp G_reached.bn .nil bb (aa aj (aa (dj rfl (fr:=[]) (by exact bF.plain (by rfl) (by decide) (by rfl) (by decide) (by rfl) (by decide)) (br (pv 1)) (fun C ex s H=>(i9 (aa (jq (K:=K) rfl (pv 0) rfl) (aa (jq (K:=K) rfl (pv 0) rfl) ag))))) ag))) (aq kS (aq ja aj (pv 0)) aj) (aK _)) (ao iD) aR)),?_⟩
 refine⟨_,rfl,a,rfl,⟨_,hS⟩,bM (K:=K) (xs:=xs) (fun i zs H11=>Same H H11/\c6 H11 zs (es.take i)) (OG (au (by omega))) ⟨fun _ _ e=>e,rfl,fun i l e=>by simp at e⟩ (fun i zs H11 _ z=>z.1.seq hS) ?_ ?_⟩
 ·rintro i x zs H11 hx ⟨s11,ez⟩;have hi:i<es.length:=by rw[← hT.1];exact(NP.mp hx).1
  obtain⟨e,he⟩:∃ e,es[i]?=some e:=⟨_,NQ hi⟩;obtain⟨p,C,dx,st,a1,a2,a3⟩:=(hT.mono s11).2 i e he;rw[hx]at a1
  cases a1
  refine⟨_,rfl,p,C,dx,_,_,rfl,a2,a3.cl,a3.n1,mH _ _ _,_,rfl,p,C,dx,_,_,rfl,a2,a3.cl,a3.n2,qX _ _ _,(by show 2<=sizeLine;decide),fun g hg=>?_⟩
  have s12:=ai hg (.tup [iV e.1,iV e.2]);refine⟨s11.trans s12,?_⟩;rw[show es.take (i+1)=es.take i++[e] by rw[O7,he];rfl]
  exact(ez.mono s12).snoc ae
 rintro zs H11 _ ⟨s11,ez⟩ D hD;rw[hT.1,Pb]at ez;have s12:=ai hD (.lst zs);refine⟨D,zs,m,es,ts,rfl,SqL.of ae,ez.mono s12,g,m2,m40,_,rfl,_,_,rfl,rfl,⟨by omega,by omega,by decide⟩,_,_,rfl,rfl,rfl,_,rfl,?_⟩
 refine iteNS ?_ (kk _ (s11.trans s12));show V.int _=V.int _;rw[shlN];have:=Nat.two_pow_pos m;congr 1;omega
end
def cls(PL PS:Addr)(push:Bool):Addr:=if push=true then PS else PL
def qK(PL PS:Addr)(H:Hp)(xs:List V)(es:En)(ks:Kn):Prop:=xs.length=es.length/\∀(i:Nat)(e:Nat×Nat)(k:Int×Int),es[i]?=some e->ks[i]?=some k->∃ p dx,xs[i]?=some (.ref p)/\H p=some (.ins (cls PL PS (decide (k.1=1))) dx (tf (e.1:Int) (e.2:Int) k.2))
theorem qK.mono{PL PS:Addr}{H H':Hp}{xs:List V}{es:En}{ks:Kn}(t:qK PL PS H xs es ks)(h:Same H H'):qK PL PS H' xs es ks:=⟨t.1,fun i e k q r=>by
 obtain⟨p,dx,a,b⟩:=t.2 i e k q r
 exact⟨p,dx,a,h _ _ b⟩⟩
structure CW(K:NS)(C:Addr):Prop where
 cl:Cls K C
 n1:gQ K C "many"
 n2:gQ K C "ties"
 n3:gQ K C "turns"
 n4:gQ K C "rounds"
 n5:gQ K C "sides"
theorem kc(k:Str)(v:V):∀ fs:List (Str×V),(putF k v fs).length<=fs.length+1
 |[]=>NY _
 | (a,b)::r=>by
  show(if a=k then(a,v)::r else(a,b)::putF k v r).length<=_;have:=kc k v r;split<;>simp only[OJ]<;>omega
theorem none_of{H H':Hp}{b:Addr}(s:Same H H')(z:H' b=none):H b=none:=by
 cases y:H b with
 |none=>rfl
 |some o=>rw[s _ _ y]at z;cases z
structure WebG(S:Addr->Prop)(H:Hp)(fs:List (Str×V))(m:Nat)(es:En)(ts rs:List (List Nat)):Prop where
 many:fs.lookup ("many" : Str)=some (.int (m:Int))
 turns:∃ q z,fs.lookup ("turns" : Str)=some (.ref q)/\¬ S q/\H q=some (.lst z)/\cC S H z ts
 rounds:∃ q z,fs.lookup ("rounds" : Str)=some (.ref q)/\H q=some (.lst z)/\cf H z rs
 sides:∃ q z,fs.lookup ("sides" : Str)=some (.ref q)/\H q=some (.lst z)/\oX H z es.length rs
 part:gn (fol es ts) (2*es.length) (2*es.length) rs
theorem oX.mono{H H':Hp}{z:List V}{n:Nat}{rs:List (List Nat)}(h:oX H z n rs)(s:Same H H'):oX H' z n rs:=⟨h.1,fun i hi=>by
 obtain⟨t,a,b,r,r',y1,y2,y3⟩:=h.2 i hi
 exact⟨t,a,b,r,r',y1,s _ _ y2,y3⟩⟩
theorem WebG.mono{S S':Addr->Prop}{H H':Hp}{fs:List (Str×V)}{m:Nat}{es:En}{ts rs:List (List Nat)}(h:WebG S H fs m es ts rs)(s:Same H H')(i:∀ a,S' a->S a):WebG S' H' fs m es ts rs:=by
 obtain⟨a,⟨q,z,b1,b0,b2,b3⟩,⟨q',z',c1,c2,c3⟩,⟨q2,z2,d1,d2,d3⟩,e⟩:=h;refine⟨a,⟨q,z,b1,fun y=>b0 (i _ y),s _ _ b2,b3.1,fun j l y=>?_⟩,⟨q',z',c1,s _ _ c2,c3.mono s⟩,⟨q2,z2,d1,s _ _ d2,d3.mono s⟩,e⟩;obtain⟨r,y1,y2,y3⟩:=b3.2 j l y;exact⟨r,y1,fun x=>y2 (i _ x),s _ _ y3⟩
def nP(K:NS):Sp:=fun vs H Q _=>∃(p C dx qt qh:Addr)(m:Nat)(xs zs:List V)(es:En)(ts:List (List Nat)),vs = [.ref p,.int (m:Int),.ref qt,.ref qh]/\H p=some (.ins C dx [])/\CW K C/\H qt=some (.lst xs)/\eX K H xs es/\H qh=some (.lst zs)/\cf H zs ts/\Gr m es ts/\0<es.length/\es.length<=40 /\
 ∀(fs:List (Str×V))(q1:Addr)(rs:List (List Nat))(H':Hp),H' p=some (.ins C dx fs)->WebG (fun a=>H a≠none) H' fs m es ts rs->H q1=none->fs.lookup ("ties" : Str)=some (.ref q1)->H' q1=some (.lst xs)->(∀ q o,H q=some o->q≠p->H' q=some o)->Q .non H'
theorem eX.keep{K:NS}{H G:Hp}{xs:List V}{es:En}{p C dx:Addr}(t:eX K H xs es)(hp:H p=some (.ins C dx []))(k:∀ q u,q≠p->H q=some u->G q=some u):eX K G xs es:=⟨t.1,fun i e z=>by
 obtain⟨q,C',dx',s,a,b,d⟩:=t.2 i e z;refine⟨q,C',dx',s,a,k _ _ (fun z=>?_) b,d⟩;rw[z,hp]at b;have e1:([]:List (Str×V))=tf (e.1:Int) (e.2:Int) s:=by
  injection b with b;injection b
 have e2:=mH (e.1:Int) (e.2:Int) s;rw[← e1]at e2
 cases e2⟩
section
variable{P:Program}{w:World}{K:NS}{mg:Str->Option Value}{base:Heap}
theorem mO:aA ["self","many","ties","turns","rounds"] ["self","many","ties","turns"] (ah cW):=by ac_nf
theorem J1{f f1 f2 f3 f4 f5:Addr}{fd d1 d2 d3 d4 d5:FuncData} (F:Fun K "__init__" "Web.__init__" cW f fd) (T:Txt mg) (G_refuse_ends:Cal P w K mg base 1 "refuse_ends" ["many","ties"] (A9 K) f1 d1) (G_refuse_turns:Cal P w K mg base 1 "refuse_turns" ["many","ties","turns"] (vp K) f2 d2) (G_refuse_parted:Cal P w K mg base 2 "refuse_parted" ["many","ties"] (A8 K) f3 d3) (G_rounds_of:Cal P w K mg base 4 "rounds_of" ["ties","turns"] (vo K) f4 d4) (G_sides_of:Cal P w K mg base 1 "sides_of" ["ties","rounds"] (A4 K) f5 d5) :
  FnOk P w K mg base CX0 5 f fd ["self","many","ties","turns"] (nP K):=by
 refine F.ok mO (fun vs H Q E h=>?_) (fun cdv A outer s H vs Q E hr h=>?_)
 ·obtain⟨p,C,dx,qt,qh,m,xs,zs,es,ts,rfl,_⟩:=h;rfl
 obtain⟨p,C,dx,qt,qh,m,xs,zs,es,ts,rfl,hp,cw,hqt,hT,hqh,hR,g,e0,few,kk⟩:=h;have w':=g.w;have m2:=g.two e0;have mf:=zM g;have hul:xs.length=es.length:=hT.1;have hzl:zs.length=m:=by rw[hR.1,w'.len]
 have pl:∀{q:Addr}{ys:List V},H q=some (.lst ys)->q≠p:=fun{q ys} h z=>by rw[z,hp]at h;cases h
 refine⟨_,(af (bp (aB G_refuse_ends.ok (hr.mono (by decide)) rfl G_refuse_ends.mg G_refuse_ends.kp G_refuse_ends.bn .nil bb (aa (pv 1) (aa (pv 2) ag))))
   (af (bp (aB G_refuse_turns.ok (hr.mono (by decide)) rfl G_refuse_turns.mg G_refuse_turns.kp G_refuse_turns.bn .nil bb (aa (pv 1) (aa (pv 2) (aa (pv 3) ag)))))
   (af (bp (aB G_refuse_parted.ok (hr.mono (by decide)) rfl G_refuse_parted.mg G_refuse_parted.kp G_refuse_parted.bn .nil bb (aa (pv 1) (aa (pv 2) ag))))
   (af (av (i:=4) mO.nd rfl (Or.inl rfl) (aB G_rounds_of.ok (hr.mono (by decide)) rfl G_rounds_of.mg G_rounds_of.kp G_rounds_of.bn .nil bb (aa (pv 2) (aa (pv 3) ag))))
   (af (b9 (aE wa (aq bq (aq kS (pv 1) (aw ar (by rfl) T.n_len bo (aa (pv 2) ag))) (aw ar (by rfl) T.n_len bo (aa (pv 4) ag))) aj (aK _)) (ao iD) aR)
   (af (o8 (pv 0) (pv 1) rfl)
   (af (o8 (pv 0) (fF gP (by rfl) T.n_list i5 (aa (pv 2) ag)) rfl)
   (af (o8 (pv 0) (dj rfl (fr:=[]) (by exact bF.plain (by rfl) (by decide) (by rfl) (by decide) (by rfl) (by decide)) (br (pv 3)) (fun C ex s H=>(fF (oG (K:=K) rfl) (by rfl) T.n_list i5 (aa (pv 0) ag)))) rfl)
   (af (o8 (pv 0) (pv 4) rfl)
   (ao (o8 (pv 0) (aB G_sides_of.ok (hr.mono (by decide)) rfl G_sides_of.mg G_sides_of.kp G_sides_of.bn .nil bb (aa (pv 2) (aa (pv 4) ag))) rfl))))))))))),?_⟩
 refine⟨_,rfl,_,rfl,qt,xs,m,es,rfl,SqL.of hqt,hT,fun e he=>⟨(w'.ends e he).1,(w'.ends e he).2.1⟩,?_⟩;refine⟨_,rfl,_,rfl,_,rfl,qt,qh,xs,zs,m,es,ts,rfl,SqL.of hqt,hT,SqL.of hqh,hR,w',few,by omega,fun H1 s1=>?_⟩
 refine⟨_,rfl,_,rfl,qt,xs,m,es,ts,rfl,SqL.of (s1 _ _ hqt),hT.mono s1,g,m2,by omega,few,fun H2 s2=>?_⟩
 have s12:=s1.trans s2;refine⟨_,rfl,_,rfl,qt,qh,m,es,ts,rfl,⟨⟨xs,SqL.of (s12 _ _ hqt),hT.mono s12⟩,⟨zs,SqL.of (s12 _ _ hqh),hR.mono s12⟩,w',by omega⟩,fun qr vs rs H3 s3 hqr hrs ro=>?_⟩
 have s13:=s12.trans s3;have cnt:m+rs.length=es.length+2:=by
  obtain⟨rs',p',c⟩:=g.part;rw[← p'.same ro.part];exact c
 have hvl:vs.length=rs.length:=hrs.1;refine⟨_,rfl,_,rfl,qt,xs,rfl,.inl (SqL.of (s13 _ _ hqt)),_,_,rfl,rfl,_,rfl,qr,vs,rfl,.inl (SqL.of hqr),_,_,rfl,rfl,rfl,_,rfl,?_⟩;refine iteNS (congrArg V.int (by omega)) ?_
 have hp3:=s13 _ _ hp;refine⟨_,rfl,_,rfl,p,C,dx,[],rfl,hp3,cw.cl,cw.n1,(by show 0<1000;decide),?_⟩
 have keep:∀{G:Hp}{o:HO}{q:Addr}{u:HO},q≠p->G q=some u->(upd G p o) q=some u:=fun n z=>by rw[ak n];exact z
 refine⟨_,rfl,qt,xs,rfl,.inl (SqL.of (keep (pl hqt) (s13 _ _ hqt))),fun q1 hq1=>?_⟩;have n1p:q1≠p:=fun z=>by rw[z,ae]at hq1;cases hq1
 have t4:=ai hq1 (.lst xs);refine⟨_,rfl,p,C,dx,_,rfl,t4 _ _ ae,cw.cl,cw.n2,?_,?_⟩
 ·have:=kc "many" (.int (m:Int)) ([]:List (Str×V));simp only[Qb]at this;omega
 have t1:∀ q u,q≠p->H3 q=some u->(upd (upd (upd H3 p (.ins C dx (putF "many" (.int (m:Int)) []))) q1 (.lst xs)) p (.ins C dx (putF "ties" (.ref q1) (putF "many" (.int (m:Int)) [])))) q=some u:=fun q u n z=>keep n (t4 _ _ (keep n z));have q1a:(upd (upd (upd H3 p (.ins C dx (putF "many" (.int (m:Int)) []))) q1 (.lst xs)) p (.ins C dx (putF "ties" (.ref q1) (putF "many" (.int (m:Int)) [])))) q1=some (.lst xs):=keep n1p ae;have pa:(upd (upd (upd H3 p (.ins C dx (putF "many" (.int (m:Int)) []))) q1 (.lst xs)) p (.ins C dx (putF "ties" (.ref q1) (putF "many" (.int (m:Int)) [])))) p=some (.ins C dx (putF "ties" (.ref q1) (putF "many" (.int (m:Int)) []))):=ae;generalize upd (upd (upd H3 p (.ins C dx (putF "many" (.int (m:Int)) []))) q1 (.lst xs)) p (.ins C dx (putF "ties" (.ref q1) (putF "many" (.int (m:Int)) [])))=H4 at t1 q1a pa;have lk:(putF "ties" (.ref q1) (putF "many" (.int (m:Int)) []):List (Str×V)).lookup ("ties" : Str)=some (.ref q1):=by rw[az,if_pos rfl]
 have ln:(putF "ties" (.ref q1) (putF "many" (.int (m:Int)) []):List (Str×V)).length<=2:=by
  have a1:=kc "many" (.int (m:Int)) ([]:List (Str×V));have a2:=kc "ties" (.ref q1) (putF "many" (.int (m:Int)) ([]:List (Str×V)));simp only[Qb]at a1;omega
 have lkm:(putF "ties" (.ref q1) (putF "many" (.int (m:Int)) []):List (Str×V)).lookup ("many" : Str)=some (.int (m:Int)):=by rw[az,if_neg (by decide),az,if_pos rfl]
 generalize (putF "ties" (.ref q1) (putF "many" (.int (m:Int)) []):List (Str×V))=fs at pa lk ln lkm;have hqh4:=t1 _ _ (pl hqh) (s13 _ _ hqh);have new4:∀{b:Addr},H4 b=none->H b=none:=fun{b} z=>by
  cases y:H b with
  |none=>rfl
  |some o =>
   by_cases n:b=p
   ·rw[n,pa]at z;cases z
   ·rw[t1 _ _ n (s13 _ _ y)]at z;cases z
 have new1:H q1=none:=by
  cases y:H q1 with
  |none=>rfl
  |some o=>rw[keep n1p (s13 _ _ y)]at hq1;cases hq1
 refine⟨_,rfl,qh,rfl,⟨_,SqL.of hqh4⟩,bM (K:=K) (xs:=zs) (fun i ys H5=>Same H4 H5/\cC (fun a=>H a≠none) H5 ys (ts.take i)) (OG (au (by omega))) ⟨fun _ _ e=>e,rfl,fun i l e=>by simp at e⟩ (fun i _ H5 _ z=>SqL.of (z.1 _ _ hqh4)) ?_ ?_⟩
 ·rintro i x ys H5 hx ⟨s5,rz⟩;have hi:i<ts.length:=by rw[← hR.1];exact(NP.mp hx).1
  obtain⟨l,hl⟩:∃ l,ts[i]?=some l:=⟨_,NQ hi⟩;obtain⟨r,a1,a2⟩:=hR.2 i l hl;rw[hx]at a1
  cases a1
  refine⟨_,rfl,r,_,rfl,.inl (SqL.of (s5 _ _ (t1 _ _ (pl a2) (s13 _ _ a2)))),fun g hg=>⟨s5.trans (ai hg _),?_⟩⟩;rw[show ts.take (i+1)=ts.take i++[l] by rw[O7,hl];rfl]
  exact(rz.mono fun b u _ z=>ai hg _ _ _ z).snoc (fun z=>z (new4 (none_of s5 hg))) ae
 rintro ys H5 _ ⟨s5,rz⟩ D hD;rw[hR.1,Pb]at rz;have hDp:D≠p:=fun z=>by rw[z,s5 _ _ pa]at hD;cases hD
 have s6:=s5.trans (ai hD (.lst ys));refine⟨_,rfl,p,C,dx,fs,rfl,s6 _ _ pa,cw.cl,cw.n3,by omega,?_⟩
 have ln1:=kc "turns" (.ref D) fs;have lk1:(putF "turns" (.ref D) fs).lookup ("ties" : Str)=some (.ref q1):=by rw[az,if_neg (by decide)];exact lk
 refine⟨_,rfl,_,rfl,p,C,dx,_,rfl,ae,cw.cl,cw.n4,by omega,?_⟩
 have ln2:=kc "rounds" (.ref qr) (putF "turns" (.ref D) fs);have lk2:(putF "rounds" (.ref qr) (putF "turns" (.ref D) fs)).lookup ("ties" : Str)=some (.ref q1):=by rw[az,if_neg (by decide)];exact lk1
 have t7:∀ q u,q≠p->H3 q=some u->(upd (upd (upd H5 D (.lst ys)) p (.ins C dx (putF "turns" (.ref D) fs))) p (.ins C dx (putF "rounds" (.ref qr) (putF "turns" (.ref D) fs)))) q=some u:=fun q u n z=>keep n (keep n (s6 _ _ (t1 q u n z)));have q17:(upd (upd (upd H5 D (.lst ys)) p (.ins C dx (putF "turns" (.ref D) fs))) p (.ins C dx (putF "rounds" (.ref qr) (putF "turns" (.ref D) fs)))) q1=some (.lst xs):=keep n1p (keep n1p (s6 _ _ q1a));have p7:(upd (upd (upd H5 D (.lst ys)) p (.ins C dx (putF "turns" (.ref D) fs))) p (.ins C dx (putF "rounds" (.ref qr) (putF "turns" (.ref D) fs)))) p=some (.ins C dx (putF "rounds" (.ref qr) (putF "turns" (.ref D) fs))):=ae;have D7:(upd (upd (upd H5 D (.lst ys)) p (.ins C dx (putF "turns" (.ref D) fs))) p (.ins C dx (putF "rounds" (.ref qr) (putF "turns" (.ref D) fs)))) D=some (.lst ys):=keep hDp (keep hDp ae);have u7:∀ q u,q≠p->H5 q=some u->(upd (upd (upd H5 D (.lst ys)) p (.ins C dx (putF "turns" (.ref D) fs))) p (.ins C dx (putF "rounds" (.ref qr) (putF "turns" (.ref D) fs)))) q=some u:=fun q u n z=>keep n (keep n (ai hD _ _ _ z));generalize upd (upd (upd H5 D (.lst ys)) p (.ins C dx (putF "turns" (.ref D) fs))) p (.ins C dx (putF "rounds" (.ref qr) (putF "turns" (.ref D) fs)))=H7 at t7 q17 p7 D7 u7;have pl3:∀{q:Addr}{ys:List V},H3 q=some (.lst ys)->q≠p:=fun{q ys} h z=>by rw[z,hp3]at h;cases h
 have rs7:cf H7 vs rs:=⟨hrs.1,fun i l z=>by
  obtain⟨r,a1,a2⟩:=hrs.2 i l z
  exact⟨r,a1,t7 _ _ (pl3 a2) a2⟩⟩
 have T7:eX K H7 xs es:=(hT.mono s13).keep hp3 t7;refine⟨_,rfl,_,rfl,qt,qr,xs,vs,es,_,rs,rfl,SqL.of (t7 _ _ (pl hqt) (s13 _ _ hqt)),T7,by omega,SqL.of (t7 _ _ (pl3 hqr) hqr),rs7,ro,fun q5 z5 H8 s8 hq5 hs5=>?_⟩
 refine⟨_,rfl,p,C,dx,_,rfl,s8 _ _ p7,cw.cl,cw.n5,by omega,?_⟩
 have n5p:q5≠p:=fun z=>by rw[z,s8 _ _ p7]at hq5;cases hq5
 have hqr7:=t7 _ _ (pl3 hqr) hqr;refine kk _ q1 rs _ ae ⟨?_,⟨D,ys,?_,fun z=>z (new4 (none_of s5 hD)),keep hDp (s8 _ _ D7),rz.1,fun i l z=>?_⟩,⟨qr,vs,?_,keep (pl3 hqr) (s8 _ _ hqr7),hrs.1,fun i l z=>?_⟩,⟨q5,z5,?_,keep n5p hq5,hs5.1,fun i hi=>?_⟩,ro⟩ new1 (by rw[az,if_neg (by decide)];exact lk2) (keep n1p (s8 _ _ q17)) fun q o z n=>keep n (s8 _ _ (t7 q o n (s13 _ _ z)))
 ·rw[az,if_neg (by decide),az,if_neg (by decide),az,if_neg (by decide)]
  exact lkm
 ·rw[az,if_neg (by decide),az,if_neg (by decide),az,if_pos rfl]
 ·obtain⟨r,a1,a0,a2⟩:=rz.2 i l z;have nr:r≠p:=fun z=>by rw[z,s5 _ _ pa]at a2;cases a2
  exact⟨r,a1,a0,keep nr (s8 _ _ (u7 r _ nr a2))⟩
 ·rw[az,if_neg (by decide),az,if_pos rfl]
 ·obtain⟨r,a1,a2⟩:=hrs.2 i l z;exact⟨r,a1,keep (pl3 a2) (s8 _ _ (t7 _ _ (pl3 a2) a2))⟩
 ·rw[az,if_pos rfl]
 ·obtain⟨t,a,b,r,r',y1,y2,y3⟩:=hs5.2 i hi;exact⟨t,a,b,r,r',y1,keep (fun z=>by rw[z,s8 _ _ p7]at y2;cases y2) y2,y3⟩
theorem qK.at{PL PS:Addr}{H:Hp}{xs:List V}{es:En}{ks:Kn}(t:qK PL PS H xs es ks)(kl:ks.length=es.length)(TL:CT K PL)(TS:CT K PS):eX K H xs es:=⟨t.1,fun i e z=>by
 have hi:=(NP.mp z).1;obtain⟨k,hk⟩:∃ k,ks[i]?=some k:=⟨_,NQ (by omega)⟩
 obtain⟨p,dx,a,b⟩:=t.2 i e k z hk;refine⟨p,_,dx,k.2,a,b,?_⟩;unfold cls;split
 ·exact TS
 ·exact TL⟩
def WebF(S:Addr->Prop)(PL PS WC:Addr)(H:Hp)(p:Addr)(m:Nat)(es:En)(ts rs:List (List Nat))(ks:Kn):Prop:=∃ dx fs q1 xs,H p=some (.ins WC dx fs)/\WebG S H fs m es ts rs/\¬ S q1/\fs.lookup ("ties" : Str)=some (.ref q1)/\H q1=some (.lst xs)/\qK PL PS H xs es ks
def Bb(PL PS WC:Addr):Sp:=fun vs H Q _=>∃(t pe pt pr pk:Addr)(m:Nat)(es:En)(ts:List (List Nat))(ks:Kn),vs = [.ref t,.ref pk]/\H t=some (.tup [.ref pe,.ref pt,.ref pr])/\WebP H pe pt m es ts/\(∃ ws,H pk=some (.lst ws)/\gm H ws ks)/\es.length<=30/\ks.length=es.length/\0<es.length /\
 ∀(p:Addr)(rs:List (List Nat))(H':Hp),Same H H'->WebF (fun a=>H a≠none) PL PS WC H' p m es ts rs ks->Q (.ref p) H'
theorem j9:aA ["grown","kinds","ties","k","end"] ["grown","kinds"] (ah ij):=by ac_nf
theorem MN{f fI PL PS WC fW:Addr}{fd fdI fdW:FuncData} (F:Fun K "_law_web" "_law_web" ij f fd) (T:Txt mg) (M_Pull:Mak P w K mg base 1 "Pull" ["self","one","two","strength"] (o7 K) PL fI fdI) (M_Push:Mak P w K mg base 1 "Push" ["self","one","two","strength"] (o7 K) PS fI fdI) (TL:CT K PL) (TS:CT K PS)
  (M_Web:Mak P w K mg base 5 "Web" ["self","many","ties","turns"] (nP K) WC fW fdW) (cw:CW K WC):FnOk P w K mg base CX0 7 f fd ["grown","kinds"] (Bb PL PS WC):=by
 refine F.ok j9 (fun vs H Q E h=>?_) (fun cdv A outer s H vs Q E hr h=>?_)
 ·obtain⟨t,pe,pt,pr,pk,m,es,ts,ks,rfl,_⟩:=h;rfl
 obtain⟨t,pe,pt,pr,pk,m,es,ts,ks,rfl,ht,⟨⟨ys,hpe,hE⟩,⟨xs,hpt,hR⟩,g⟩,⟨ws,hpk,tk⟩,few,kl,e0',kk⟩:=h;have hwl:ws.length=es.length:=by rw[tk.1,kl]
 have hyl:ys.length=es.length:=hE.1;have mf:=zM g;have hxm:xs.length=m:=by rw[hR.1,g.w.len]
 refine⟨_,(af (av (i:=2) j9.nd rfl (Or.inl rfl) (bj ag))
   (af (cA PassesOwn.never rfl (aW rfl T.n_range (aa (aw ar (by rfl) T.n_len bo (aa (pv 1) ag)) ag)) (aX (i:=3) j9.nd rfl (Or.inl rfl)) (af (av (i:=4) j9.nd rfl (Or.inl rfl) (aN aH (aN bD (pv 0) aj (fun _ _=>rfl)) (pv 3) (fun _ _=>rfl)))
   (ao (b9 (aE gW (aN bD (aN aH (pv 1) (pv 3) (fun _ _=>rfl)) aj (fun _ _=>rfl)) aj (aK _)) (ao (bp (iF OE OQ OP bx (pv 2) (aa (lj M_Push.mkc M_Push.ok (hr.mono (by decide)) rfl M_Push.mg M_Push.bn .nil bb (aa (aN bD (pv 4) aj (fun _ _=>rfl)) (aa (aN bD (pv 4) aj (fun _ _=>rfl)) (aa (aN bD (aN aH (pv 1) (pv 3) (fun _ _=>rfl)) aj (fun _ _=>rfl)) ag)))) ag)))) (ao (bp (iF OE OQ OP bx (pv 2) (aa (lj M_Pull.mkc M_Pull.ok (hr.mono (by decide)) rfl M_Pull.mg M_Pull.bn .nil bb (aa (aN bD (pv 4) aj (fun _ _=>rfl)) (aa (aN bD (pv 4) aj (fun _ _=>rfl)) (aa (aN bD (aN aH (pv 1) (pv 3) (fun _ _=>rfl)) aj (fun _ _=>rfl)) ag)))) ag))))))))
   (ao (aG (lj M_Web.mkc M_Web.ok (hr.mono (by decide)) rfl M_Web.mg M_Web.bn .nil bb (aa (aw ar (by rfl) T.n_len bo (aa (aN bD (pv 0) aj (fun _ _=>rfl)) ag)) (aa (pv 2) (aa (dj rfl (fr:=[]) (by exact bF.plain (by rfl) (by decide) (by rfl) (by decide) (by rfl) (by decide)) (br (aN bD (pv 0) aj (fun _ _=>rfl))) (fun C ex s H=>(fF (oG (K:=K) rfl) (by rfl) T.n_list i5 (aa (pv 0) ag)))) ag)))))))),?_⟩
 refine⟨(by show 0<=sizeLine;decide),fun q hq=>?_⟩
 have s1:=ai hq (.lst []);refine⟨_,rfl,pk,ws,rfl,.inl (SqL.of (s1 _ _ hpk)),_,rfl,by omega,by omega,cn (n:=(ws.length:Int).toNat) (fun i σ H2=>∃ v2 v3 us,σ = [some (.ref t),some (.ref pk),some (.ref q),v2,v3]/\Same H H2/\H2 q=some (.lst us)/\qK PL PS H2 us (es.take i) ks) ⟨_,_,[],rfl,s1,ae,rfl,fun i e k z=>by simp at z⟩ ?_ ?_⟩
 ·rintro i σ H2 hi ⟨v2,v3,us,rfl,s2,hq2,tt⟩;rw[Ob,hwl]at hi;have e0:(0:Int)+(i:Int)=(i:Int):=Po _;rw[e0];obtain⟨e,he⟩:∃ e,es[i]?=some e:=⟨_,NQ hi⟩;obtain⟨k,hk⟩:∃ k,ks[i]?=some k:=⟨_,NQ (by omega)⟩
  obtain⟨_,_,ne⟩:=g.w.ends e (NV he);obtain⟨p,x1,x2⟩:=(hE.mono s2).2 i e he;obtain⟨k1,k2,pk',y1,y2⟩:=(tk.mono s2).2 i k hk;have ul:us.length=i:=by rw[tt.1,Ou];omega
  refine⟨_,rfl,t,_,0,_,rfl,rfl,SqT.of (s2 _ _ ht),at30,_,rfl,pe,ys,_,_,rfl,rfl,SqL.of (s2 _ _ hpe),aD x1,?_⟩;refine⟨_,rfl,_,rfl,pk,ws,_,_,rfl,rfl,SqL.of (s2 _ _ hpk),aD y1,pk',_,0,_,rfl,rfl,SqT.of y2,at0,rfl,_,rfl,?_⟩;have fin:∀(x dx:Addr)(H':Hp),Same H2 H'->H' x=some (.ins (cls PL PS (decide (k.1=1))) dx (tf (e.1:Int) (e.2:Int) k.2))->∃ v2 v3 zs,([some (.ref t),some (.ref pk),some (.ref q),some (.int (i:Int)),some (.ref p)]:St) = [some (.ref t),some (.ref pk),some (.ref q),v2,v3]/\Same H (upd H' q (.lst (us++[.ref x])))/\(upd H' q (.lst (us++[.ref x]))) q=some (.lst zs)/\qK PL PS (upd H' q (.lst (us++[.ref x]))) zs (es.take (i+1)) ks:=fun x dx H' s4 h1=>by
   refine⟨_,_,_,rfl,bf (s2.trans s4) hq _,ae,by rw[NT,ul,Ou];simp;omega,fun j e' k' hj hk'=>?_⟩
   have hqn:∀{b:Addr}{C dx:Addr}{fs:List (Str×V)},H' b=some (.ins C dx fs)->b≠q:=fun z y=>by rw[y,s4 _ _ hq2]at z;cases z
   rw[Pd]at hj;by_cases z:j<i
   ·rw[if_pos (by omega)]at hj
    obtain⟨p',dx',a1,a2⟩:=(tt.mono s4).2 j e' k' (by rw[Pd,if_pos z];exact hj) hk'
    exact⟨p',dx',by rw[NX (by omega)];exact a1,by rw[ak (hqn a2)];exact a2⟩
   ·by_cases z2:j=i
    ·subst z2;rw[if_pos (by omega),he]at hj
     cases hj
     rw[hk]at hk'
     cases hk'
     exact⟨x,dx,by rw[← ul,NW (NY _),OA];rfl,by rw[ak (hqn h1)];exact h1⟩
    ·rw[if_neg (by omega)]at hj
     cases hj
  refine ite2 (fun c=>?_) (fun c=>?_)
  ·have c':k.1=1:=V.int.inj (of_decide_eq_true c)
   refine⟨_,rfl,.inl ⟨rfl,_,SqL.of hq2⟩,_,rfl,p,_,0,_,rfl,rfl,SqT.of x2,at0,_,rfl,p,_,1,_,rfl,rfl,SqT.of x2,at1,_,rfl,_,rfl,pk,ws,_,_,rfl,rfl,SqL.of (s2 _ _ hpk),aD y1,pk',_,1,_,rfl,rfl,SqT.of y2,at1,?_⟩;intro x dx nx ndx nex;refine⟨x,PS,dx,_,_,_,rfl,ae,TS,by omega,by omega,by omega,k2,fun H' h1 h2=>?_⟩
   have s4:Same H2 H':=fun b o z=>h2 b o (by rw[ak (ax z nx),ak (ax z ndx)];exact z) (ax z nx)
   refine⟨rfl,q,us,_,rfl,rfl,s4 _ _ hq2,au (by omega),fin x dx H' s4 ?_⟩
   rw[decide_eq_true c'];exact h1
  ·have c':¬ k.1=1:=fun z=>c (decide_eq_true (by rw[z]))
   refine⟨_,rfl,.inl ⟨rfl,_,SqL.of hq2⟩,_,rfl,p,_,0,_,rfl,rfl,SqT.of x2,at0,_,rfl,p,_,1,_,rfl,rfl,SqT.of x2,at1,_,rfl,_,rfl,pk,ws,_,_,rfl,rfl,SqL.of (s2 _ _ hpk),aD y1,pk',_,1,_,rfl,rfl,SqT.of y2,at1,?_⟩;intro x dx nx ndx nex;refine⟨x,PL,dx,_,_,_,rfl,ae,TL,by omega,by omega,by omega,k2,fun H' h1 h2=>?_⟩
   have s4:Same H2 H':=fun b o z=>h2 b o (by rw[ak (ax z nx),ak (ax z ndx)];exact z) (ax z nx)
   refine⟨rfl,q,us,_,rfl,rfl,s4 _ _ hq2,au (by omega),fin x dx H' s4 ?_⟩
   rw[decide_eq_false c'];exact h1
 rintro σ H2 ⟨v2,v3,us,rfl,s2,hq2,tt⟩;rw[Ob,hwl,Pb]at tt;have hpt2:=s2 _ _ hpt;refine⟨_,rfl,t,_,1,_,rfl,rfl,SqT.of (s2 _ _ ht),at31,pt,xs,rfl,.inl (SqL.of hpt2),_,rfl,_,rfl,t,_,1,_,rfl,rfl,SqT.of (s2 _ _ ht),at31,pt,rfl,⟨_,SqL.of hpt2⟩,bM (K:=K) (xs:=xs) (fun i zs H3=>Same H2 H3/\cf H3 zs (ts.take i)) (OG (au (by omega))) ⟨fun _ _ e=>e,rfl,fun i l e=>by simp at e⟩ (fun i zs H3 _ z=>SqL.of (z.1 _ _ hpt2)) ?_ ?_⟩
 ·rintro i x zs H3 hx ⟨s3,rz⟩;have hi:i<ts.length:=by rw[← hR.1];exact(NP.mp hx).1
  obtain⟨l,hl⟩:∃ l,ts[i]?=some l:=⟨_,NQ hi⟩;obtain⟨p,a1,a2⟩:=(hR.mono (s2.trans s3)).2 i l hl;rw[hx]at a1
  cases a1
  refine⟨_,rfl,p,_,rfl,.inl (SqL.of a2),fun g hg=>?_⟩;have s4:=ai hg (.lst (l.map iV));refine⟨s3.trans s4,?_⟩;rw[show ts.take (i+1)=ts.take i++[l] by rw[O7,hl];rfl]
  exact(rz.mono s4).snoc ae
 rintro zs H3 _ ⟨s3,rz⟩ D hD;rw[hR.1,Pb]at rz;have s4:=ai hD (.lst zs);have s24:=s3.trans s4;intro x dx nx ndx nex;have up:∀ b o,(upd H3 D (.lst zs)) b=some o->(upd (upd (upd H3 D (.lst zs)) dx (.own x)) x (.ins WC dx [])) b=some o:=fun b o z=>by rw[ak (ax z nx),ak (ax z ndx)];exact z
 refine⟨x,WC,dx,q,D,m,us,zs,es,ts,(by rw[hxm];rfl),ae,cw,up _ _ (s24 _ _ hq2),((tt.at kl TL TS).mono s24).mono up,up _ _ ae,(rz.mono s4).mono up,g,e0',by omega,fun fs q1 rs H' h1 hg hn h2 h3 h4=>⟨rfl,?_⟩⟩
 have s5:Same H2 H':=fun b o z=>h4 b o (up _ _ (s24 _ _ z)) (ax (s24 _ _ z) nx)
 have up0:∀ a,H a≠none->(upd (upd (upd H3 D (.lst zs)) dx (.own x)) x (.ins WC dx [])) a≠none:=fun a z y=>z (by
  cases u:H a with
  |none=>rfl
  |some o=>rw[up _ _ (s24 _ _ (s2 _ _ u))]at y;cases y)
 exact kk x rs H' (s2.trans s5) ⟨dx,fs,q1,us,h1,hg.mono (fun _ _ z=>z) up0,fun z=>up0 _ z hn,h2,h3,tt.mono s5⟩
end
theorem L6:bootBuiltins "sum" = some (.builtin "sum"):=by decide
theorem pe_or{X:Cx}{e:Expr}{t1 t2:TE}(h1:PE X e t1)(h2:PE X e t2):PE X e (fun σ H Q=>t1 σ H Q∨t2 σ H Q):=fun pins s σ H Q I h=>h.elim (h1 pins s σ H Q I) (h2 pins s σ H Q I)
def bit(l a:Int):Int:=l/2^a.toNat%2
theorem Gp(x y:Int):Builtin.bitAnd (Builtin.bitXor x y) 1=(x%2+y%2)%2:=by
 have e:Builtin.bitAnd (Builtin.bitXor x y) 1=Builtin.bitXor x y%2:=PySem.W.kbt_mask _ 1;rw[e,PyProof.Rows.bitXor_and];omega
def unp(push:Bool)(a b l:Int):Bool:=!decide (V.int ((bit l a+bit l b)%2)=V.int (if push=true then 1 else 0))
def yd(push:Bool):Sp:=fun vs H Q _=>∃ p,vs = [.ref p]/\Q (.int (if push=true then 1 else 0)) H
def TieAt(H:Hp)(p C:Addr)(a b s:Int):Prop:=∃ dx,H p=some (.ins C dx (tf a b s))
def DR(C:Addr)(push:Bool):Sp:=fun vs H Q _=>∃ p a b s l,vs = [.ref p,.int l]/\TieAt H p C a b s/\0<=a/\0<=b/\Q (.bl (unp push a b l)) H
def qY(C:Addr)(push:Bool):Sp:=fun vs H Q _=>∃ p a b s l,vs = [.ref p,.int l]/\TieAt H p C a b s/\0<=a/\0<=b/\Q (.int (if unp push a b l=true then s else 0)) H
def U(es:En)(ks:Kn)(l:Int)(t:Nat):Bool:=match es[t]?,ks[t]? with | some e,some k=>unp (decide (k.1=1)) (e.1:Int) (e.2:Int) l | _,_=>false
theorem U_at{es:En}{ks:Kn}{l:Int}{t:Nat}{e:Nat×Nat}{k:Int×Int}(h1:es[t]?=some e)(h2:ks[t]?=some k):U es ks l t=unp (decide (k.1=1)) (e.1:Int) (e.2:Int) l:=by unfold U;rw[h1,h2]
def stg(ks:Kn)(t:Nat):Int:=match ks[t]? with | some k=>k.2 | none=>0
def prL(ks:Kn)(u:Nat->Bool)(i:Nat):List Int:=(Oz i).map fun t=>if u t=true then stg ks t else 0
theorem DZ(ks:Kn)(u:Nat->Bool)(i:Nat):prL ks u (i+1)=prL ks u i++[if u i=true then stg ks i else 0]:=by
 unfold prL;rw[Pc,Oo];rfl
theorem bitN(N a:Nat):bit (N:Int) (a:Int)=if N.testBit a=true then 1 else 0:=by
 unfold bit;rw[Ob,Nat.testBit_eq_decide_div_mod_eq];have e:((N:Int)/2^a%2)=((N/2^a%2:Nat):Int):=by
  rw[Int.natCast_emod,Int.natCast_ediv,Int.natCast_pow];rfl
 rw[e];by_cases z:N/2^a%2=1
 ·rw[z,decide_eq_true rfl];rfl
 ·rw[decide_eq_false z];have:N/2^a%2=0:=by omega
  rw[this];rfl
theorem xa(m n:Nat):(m^^^n)+2*(m&&&n)=m+n:=by
 have h:=PyProof.Rows.nat_or_add_and m n;have h2:(m|||n)=(m^^^n)+(m&&&n):=by
  have e:(m^^^n)+(m&&&n)=(m^^^n)|||(m&&&n):=by
   have q:=PyProof.Rows.nat_or_add_and (m^^^n) (m&&&n);have z:(m^^^n)&&&(m&&&n)=0:=by
    apply Qp;intro i;simp only[Rb,RV,Q6]
    cases m.testBit i<;>cases n.testBit i<;>rfl
   omega
  rw[e];apply Qp;intro i;simp only[Rb,RV,Ru]
  cases m.testBit i<;>cases n.testBit i<;>rfl
 omega
theorem xorN(a b:Nat):Builtin.bitXor (a:Int) (b:Int)=((a^^^b:Nat):Int):=by
 rw[PyProof.Rows.bitXor_and,andN];have q:=xa a b;omega
structure Jd(PL PS WC:Addr)(H:Hp)(p:Addr)(es:En)(ks:Kn):Prop where
 w:∃ dx fs q1 xs,H p=some (.ins WC dx fs)/\fs.lookup ("ties" : Str)=some (.ref q1)/\H q1=some (.lst xs)/\qK PL PS H xs es ks
 kl:ks.length=es.length
 few:es.length<=30
theorem Jd.mono{PL PS WC:Addr}{H H':Hp}{p:Addr}{es:En}{ks:Kn}(h:Jd PL PS WC H p es ks)(s:Same H H'):Jd PL PS WC H' p es ks:=by
 obtain⟨⟨dx,fs,q1,xs,a,b,c,d⟩,k,f⟩:=h;exact⟨⟨dx,fs,q1,xs,s _ _ a,b,s _ _ c,d.mono s⟩,k,f⟩
def GH(PL PS WC:Addr):Sp:=fun vs H Q _=>∃(p:Addr)(es:En)(ks:Kn)(l:Int),vs = [.ref p,.int l]/\Jd PL PS WC H p es ks/\∀ H',Same H H'->Q (.int (prL ks (U es ks l) es.length).sum) H'
theorem LS(d:Nat):∀ l:List Nat,inV (iV d) (l.map iV)=decide (d∈l)
 |[]=>rfl
 |x::l=>by
  have ih:=LS d l;unfold inV at ih ⊢;rw[OW,Qz,ih];have e:eqV (iV x) (iV d)=decide (x=d):=by
   show((x:Int) == (d:Int))=_;by_cases h:x=d
   ·subst h;simp
   ·have h2:¬ (x:Int)=(d:Int):=fun z=>h (by omega)
    rw[beq_eq_false_iff_ne.mpr h2,decide_eq_false h]
  rw[e];by_cases h:x=d
  ·subst h;simp
  ·have h3:¬ d=x:=fun z=>h z.symm
   simp[h,h3]
theorem Nm(l:List Nat):(l.map iV).all xg=true:=by
 rw[QG];intro x hx;obtain⟨y,_,rfl⟩:=OL.mp hx;rfl
section
variable{P:Program}{w:World}{K:NS}{mg:Str->Option Value}{base:Heap}
theorem Bq:aA ["self"] ["self"] (ah fA):=by ac_nf
theorem JZ{f:Addr}{fd:FuncData} (F:Fun K "wish" "Tie.wish" fA f fd):FnOk P w K mg base CX0 1 f fd ["self"] (yd false):=by
 refine F.ok Bq (fun vs H Q E h=>?_) (fun cdv A outer s H vs Q E hr h=>?_)
 ·obtain⟨p,rfl,_⟩:=h;rfl
 obtain⟨p,rfl,k⟩:=h;exact⟨_,(ao (aG aj)),k⟩
theorem yA:aA ["self"] ["self"] (ah dZ):=by ac_nf
theorem JY{f:Addr}{fd:FuncData} (F:Fun K "wish" "Push.wish" dZ f fd):FnOk P w K mg base CX0 1 f fd ["self"] (yd true):=by
 refine F.ok yA (fun vs H Q E h=>?_) (fun cdv A outer s H vs Q E hr h=>?_)
 ·obtain⟨p,rfl,_⟩:=h;rfl
 obtain⟨p,rfl,k⟩:=h;exact⟨_,(ao (aG aj)),k⟩
theorem vI:aA ["found"] ["found"] (ah cR):=by ac_nf
theorem Hu{f:Addr}{fd:FuncData} (F:Fun K "_law_number" "_law_number" cR f fd) (T:Txt mg):FnOk P w K mg base CX0 1 f fd ["found"] Ms:=by
 refine F.ok vI (fun vs H Q E h=>?_) (fun cdv A outer s H vs Q E hr h=>?_)
 ·obtain⟨i,rfl,_⟩:=h;rfl
 obtain⟨i,rfl,k⟩:=h;refine⟨_,(ao (aG (LK (aw xM (by rfl) T.n_isinstance bT (aa (pv 0) (aa (vZ (v:=.ty "int") rfl T.n_int bt_int rfl) ag))) (LG (Hj (aw xM (by rfl) T.n_isinstance bT (aa (pv 0) (aa (vZ (v:=.ty "bool") rfl T.n_bool NC rfl) ag)))))))),?_⟩
 refine⟨_,rfl,_,_,_,_,_,rfl,TyOf.int i,Or.inl ⟨_,rfl,rfl⟩,kit_ii K,_,rfl,iteT ?_⟩;exact⟨_,rfl,_,_,_,_,_,rfl,TyOf.int i,Or.inl ⟨_,rfl,rfl⟩,kit_ib K,_,rfl,k⟩
theorem i8:aA ["self","laying","unlike"] ["self","laying"] (ah bL):=by ac_nf
theorem Hq{f C fw:Addr}{fd fdw:FuncData}{push:Bool} (F:Fun K "unpleased" "Tie.unpleased" bL f fd) (T:CT K C) (m_wish:Met P w K mg base 1 C "wish" ["self"] (yd push) fw fdw):FnOk P w K mg base CX0 2 f fd ["self","laying"] (DR C push):=by
 refine F.ok i8 (fun vs H Q E h=>?_) (fun cdv A outer s H vs Q E hr h=>?_)
 ·obtain⟨p,a,b,s,l,rfl,_⟩:=h;rfl
 obtain⟨p,a,b,st,l,rfl,⟨dx,hp⟩,ha,hb,k⟩:=h;have CL:=T.cl
 refine⟨_,(af (av (i:=2) i8.nd rfl (Or.inl rfl) (aq Ho (aq yR (aq D6 (pv 1) (cY (pv 0) rfl)) (aq D6 (pv 1) (cY (pv 0) rfl))) aj))
   (ao (aG (iE wa (pv 2) (JQ (pv 0) CL m_wish.me m_wish.ok (hr.mono (by decide)) m_wish.bn .nil bb) (aK _))))),?_⟩
 refine⟨_,rfl,_,rfl,p,C,dx,_,_,rfl,hp,T.cl,T.n1,mH _ _ _,_,_,rfl,rfl,ha,?_⟩;refine⟨_,rfl,_,rfl,p,C,dx,_,_,rfl,hp,T.cl,T.n2,qX _ _ _,_,_,rfl,rfl,hb,?_⟩;refine⟨_,_,rfl,rfl,_,_,rfl,rfl,?_⟩;refine⟨_,rfl,_,rfl,p,dx,_,rfl,hp,Jq _ _ _ (by decide) (by decide) (by decide),p,rfl,?_⟩
 refine⟨rfl,?_⟩;have e:=Gp (l/2^a.toNat) (l/2^b.toNat);have k':Q (V.bl (unp push a b l)) H:=k;unfold unp bit at k';rw[← e]at k';exact k'
theorem yz:aA ["self","laying"] ["self","laying"] (ah dY):=by ac_nf
theorem D8{f C fw:Addr}{fd fdw:FuncData}{push:Bool} (F:Fun K "price" "Tie.price" dY f fd) (T:CT K C) (m_unpleased:Met P w K mg base 2 C "unpleased" ["self","laying"] (DR C push) fw fdw):FnOk P w K mg base CX0 3 f fd ["self","laying"] (qY C push):=by
 refine F.ok yz (fun vs H Q E h=>?_) (fun cdv A outer s H vs Q E hr h=>?_)
 ·obtain⟨p,a,b,s,l,rfl,_⟩:=h;rfl
 obtain⟨p,a,b,st,l,rfl,⟨dx,hp⟩,ha,hb,k⟩:=h;have CL:=T.cl;refine⟨_,(ao (aG (vX (mQ (BJ (pv 0) CL m_unpleased.me m_unpleased.ok (hr.mono (by decide)) m_unpleased.bn .nil bb (aa (pv 1) ag))) (cY (pv 0) rfl) aj))),?_⟩
 refine⟨_,rfl,p,dx,_,rfl,hp,Jq _ _ _ (by decide) (by decide) (by decide),_,rfl,p,a,b,st,l,rfl,⟨dx,hp⟩,ha,hb,_,rfl,?_⟩
 refine ite2 (fun c=>?_) (fun c=>?_)
 ·refine⟨_,rfl,p,C,dx,_,_,rfl,hp,T.cl,T.n3,Gz _ _ _,?_⟩;rw[if_pos c]at k;exact k
 ·rw[if_neg c]at k;exact k
theorem JA:aA ["web","laying"] ["web","laying"] (ah nR):=by ac_nf
theorem MJ{f PL PS WC f0 f1:Addr}{fd d0 d1:FuncData} (F:Fun K "worth" "worth" nR f fd) (T:Txt mg) (cw:CW K WC) (TL:CT K PL) (TS:CT K PS) (r0:Met P w K mg base 3 PL "price" ["self","laying"] (qY PL false) f0 d0) (r1:Met P w K mg base 3 PS "price" ["self","laying"] (qY PS true) f1 d1) :
  FnOk P w K mg base CX0 4 f fd ["web","laying"] (GH PL PS WC):=by
 refine F.ok JA (fun vs H Q E h=>?_) (fun cdv A outer s H vs Q E hr h=>?_)
 ·obtain⟨p,es,ks,l,rfl,_⟩:=h;rfl
 obtain⟨p,es,ks,l,rfl,⟨⟨dx,fs,q1,xs,hp,hlk,hq1,tk⟩,kl,few⟩,kk⟩:=h;have CL0:=TL.cl;have CL1:=TS.cl;have hxl:xs.length=es.length:=tk.1;refine⟨_,(ao (aG (aw (EA rfl) (by rfl) T.n_sum L6 (aa (dj rfl (fr:=[("laying",1)]) (by exact bF.one (by rfl) (by decide) (by rfl) (by decide) (by rfl) (by decide) (by rfl) (by rfl) (by decide) (by rfl)) (br (cY (pv 0) rfl)) (fun C ex s H=>(pe_or (BJ (pv 0) CL0 r0.me r0.ok (hr.mono (by decide)) r0.bn .nil bb (aa (pv 1) ag)) (BJ (pv 0) CL1 r1.me r1.ok (hr.mono (by decide)) r1.bn .nil bb (aa (pv 1) ag))))) ag)))),?_⟩
 refine⟨_,rfl,p,WC,dx,fs,_,rfl,hp,cw.cl,cw.n2,hlk,q1,rfl,⟨_,SqL.of hq1⟩,bM (K:=K) (xs:=xs) (fun i ys H2=>H2=H/\ys=(prL ks (U es ks l) i).map V.int) (OG (au (by omega))) ⟨rfl,rfl⟩ (fun i ys H2 _ z=>z.1▸SqL.of hq1) ?_ ?_⟩
 ·rintro i x ys H2 hx ⟨rfl,rfl⟩;have hi:i<es.length:=by rw[← tk.1];exact(NP.mp hx).1
  obtain⟨e,he⟩:∃ e,es[i]?=some e:=⟨_,NQ hi⟩;obtain⟨k,hk⟩:∃ k,ks[i]?=some k:=⟨_,NQ (by omega)⟩
  obtain⟨p',dx',x1,x2⟩:=tk.2 i e k he hk;rw[hx]at x1
  cases x1
  have hU:=U_at (l:=l) he hk;have hs:stg ks i=k.2:=by unfold stg;rw[hk]
  have tail:∀ v:Int,v=(if U es ks l i=true then stg ks i else 0)->H2=H2/\(prL ks (U es ks l) i).map V.int++[V.int v]=(prL ks (U es ks l) (i+1)).map V.int:=fun v hv=>by
   rw[DZ,← hv,Oo];exact⟨rfl,rfl⟩
  by_cases c:k.1=1
  ·rw[decide_eq_true c]at x2 hU;refine .inr ⟨_,rfl,p',dx',_,rfl,x2,Jq _ _ _ (by decide) (by decide) (by decide),_,rfl,p',_,_,_,l,rfl,⟨dx',x2⟩,by omega,by omega,?_⟩
   exact tail _ (by rw[hU,hs])
  ·rw[decide_eq_false c]at x2 hU;refine .inl ⟨_,rfl,p',dx',_,rfl,x2,Jq _ _ _ (by decide) (by decide) (by decide),_,rfl,p',_,_,_,l,rfl,⟨dx',x2⟩,by omega,by omega,?_⟩
   exact tail _ (by rw[hU,hs])
 ·rintro ys H2 _ ⟨rfl,rfl⟩ D hD;rw[hxl];exact⟨D,_,rfl,SqL.of ae,kk _ (ai hD _)⟩
end
def JH(ks:Kn)(t:Nat):Bool:=match ks[t]? with | some k=>decide (k.1=1) | none=>false
def UN(es:En)(ks:Kn)(L t:Nat):Bool:=match es[t]? with | some e=>(L.testBit e.1 ^^ L.testBit e.2 ^^ JH ks t) | none=>false
theorem NL{es:En}{ks:Kn}{L t:Nat}{e:Nat×Nat}(h:es[t]?=some e):UN es ks L t=(L.testBit e.1 ^^ L.testBit e.2 ^^ JH ks t):=by unfold UN;rw[h]
theorem vN{ks:Kn}{t:Nat}{k:Int×Int}(h:ks[t]?=some k):JH ks t=decide (k.1=1):=by unfold JH;rw[h]
theorem uC{ks:Kn}{t:Nat}{k:Int×Int}(h:ks[t]?=some k):stg ks t=k.2:=by unfold stg;rw[h]
def wS(es:En)(ks:Kn)(L:Nat):Nat->Int
 |0=>0
 |i+1=>if UN es ks L i=true then wS es ks L i+stg ks i else wS es ks L i
def wT(es:En)(ks:Kn)(L:Nat):Int:=wS es ks L es.length
def aM(es:En)(ks:Kn)(m:Nat):List Int:=(Oz (2^m)).map (wT es ks)
theorem d8(es:En)(ks:Kn)(m:Nat):(aM es ks m).length=2^m:=by unfold aM;rw[NR,OR]
theorem sL{es:En}{ks:Kn}{m L:Nat}(h:L<2^m):(aM es ks m)[L]?=some (wT es ks L):=by unfold aM;rw[NZ,Ph h];rfl
theorem xorI{a b:Nat}(L:Nat):Builtin.bitAnd (Builtin.bitXor ((L:Int)/2^((a:Nat):Int).toNat) ((L:Int)/2^((b:Nat):Int).toNat)) 1=if(L.testBit a ^^ L.testBit b)=true then 1 else 0:=by
 rw[Gp];have h1:=bitN L a;have h2:=bitN L b;unfold bit at h1 h2;rw[h1,h2]
 cases L.testBit a<;>cases L.testBit b<;>rfl
theorem UN_is{es:En}{ks:Kn}{L k:Nat}{e:Nat×Nat}{kk:Int×Int}(he:es[k]?=some e)(hk:ks[k]?=some kk)(k1:kk.1=0∨kk.1=1):(!decide (V.int (if(L.testBit e.1 ^^ L.testBit e.2)=true then 1 else 0)=V.int kk.1))=UN es ks L k:=by
 rw[NL he,vN hk];rcases k1 with z | z
 ·rw[z]
  cases L.testBit e.1<;>cases L.testBit e.2<;>rfl
 ·rw[z]
  cases L.testBit e.1<;>cases L.testBit e.2<;>rfl
theorem mS{m:Nat}(h:m<=10):(0:Int)<((2^m:Nat):Int)/\((2^m:Nat):Int)<=1024/\(2:Nat)^m<=1024/\0<2^m:=by
 have p2:(2:Nat)^m<=2^10:=Rm (by decide) h
 have e:(2:Nat)^10=1024:=by decide
 rw[e]at p2;have p0:0<2^m:=Nat.two_pow_pos m;exact⟨by omega,by omega,p2,p0⟩
def Js(K:NS):Sp:=fun vs H Q _=>∃(pe pk:Addr)(ys ws:List V)(es:En)(ks:Kn)(L:Nat),vs = [.ref pe,.ref pk,.int (L:Int)]/\SqL K H pe ys/\c6 H ys es/\SqL K H pk ws/\gm H ws ks/\ks.length=es.length/\es.length<=900/\Q (.int (wT es ks L)) H
def Be:Sp:=fun vs H Q _=>∃(t pe pt pr pk:Addr)(m:Nat)(es:En)(ts:List (List Nat))(ks:Kn),vs = [.ref t,.ref pk]/\H t=some (.tup [.ref pe,.ref pt,.ref pr])/\WebP H pe pt m es ts/\(∃ ws,H pk=some (.lst ws)/\gm H ws ks)/\ks.length=es.length/\es.length<=900/\m<=10/\∀(q:Addr)(H':Hp),Same H H'->H q=none->H' q=some (.lst ((aM es ks m).map V.int))->Q (.ref q) H'
section
variable{P:Program}{w:World}{K:NS}{mg:Str->Option Value}{base:Heap}
theorem eE:aA ["ends","kinds","laying","found","k","unlike"] ["ends","kinds","laying"] (ah dN):=by ac_nf
theorem JX{f:Addr}{fd:FuncData} (F:Fun K "_law_worth" "_law_worth" dN f fd) (T:Txt mg):FnOk P w K mg base CX0 1 f fd ["ends","kinds","laying"] (Js K):=by
 refine F.ok eE (fun vs H Q E h=>?_) (fun cdv A outer s H vs Q E hr h=>?_)
 ·obtain⟨pe,pk,ys,ws,es,ks,L,rfl,_⟩:=h;rfl
 obtain⟨pe,pk,ys,ws,es,ks,L,rfl,hpe,hE,hpk,tk,kl,e9,kk⟩:=h;have hyl:ys.length=es.length:=hE.1
 refine⟨_,(af (av (i:=3) eE.nd rfl (Or.inl rfl) aj)
   (af (cA PassesOwn.never rfl (aW rfl T.n_range (aa (aw ar (by rfl) T.n_len bo (aa (pv 0) ag)) ag)) (aX (i:=4) eE.nd rfl (Or.inl rfl)) (af (av (i:=5) eE.nd rfl (Or.inl rfl) (aq Ho (aq yR (aq D6 (pv 2) (aN bD (aN aH (pv 0) (pv 4) (fun _ _=>rfl)) aj (fun _ _=>rfl))) (aq D6 (pv 2) (aN bD (aN aH (pv 0) (pv 4) (fun _ _=>rfl)) aj (fun _ _=>rfl)))) aj))
   (ao (b9 (aE wa (pv 5) (aN bD (aN aH (pv 1) (pv 4) (fun _ _=>rfl)) aj (fun _ _=>rfl)) (aK _)) (ao (av (i:=3) eE.nd rfl (Or.inl rfl) (aq bq (pv 3) (aN bD (aN aH (pv 1) (pv 4) (fun _ _=>rfl)) aj (fun _ _=>rfl))))) aR))))
   (ao (aG (pv 3))))),?_⟩
 refine⟨_,rfl,pe,ys,rfl,.inl hpe,_,rfl,by omega,by omega,cn (n:=(ys.length:Int).toNat) (fun i σ H2=>∃(v4 v5:Option V),σ = [some (.ref pe),some (.ref pk),some (.int (L:Int)),some (.int (wS es ks L i)),v4,v5]/\H2=H) ⟨_,_,rfl,rfl⟩ ?_ ?_⟩
 ·rintro k σ H2 hk ⟨v4,v5,rfl,rfl⟩;rw[Ob,hyl]at hk;have e0:(0:Int)+(k:Int)=(k:Int):=Po _;rw[e0];obtain⟨e,he⟩:∃ e,es[k]?=some e:=⟨_,NQ hk⟩;obtain⟨kk',hk'⟩:∃ x,ks[k]?=some x:=⟨_,NQ (by omega)⟩
  obtain⟨p,x1,x2⟩:=hE.2 k e he;obtain⟨k1,k2,pk',y1,y2⟩:=tk.2 k kk' hk';refine⟨_,rfl,_,rfl,_,rfl,pe,ys,_,_,rfl,rfl,hpe,aD x1,p,_,0,_,rfl,rfl,SqT.of x2,at0,_,_,rfl,rfl,(show(0:Int)<=(e.1:Int) by omega),_,rfl,_,rfl,_,rfl,pe,ys,_,_,rfl,rfl,hpe,aD x1,p,_,1,_,rfl,rfl,SqT.of x2,at1,_,_,rfl,rfl,(show(0:Int)<=(e.2:Int) by omega),_,_,rfl,rfl,_,_,rfl,rfl,?_⟩
  dsimp only;rw[xorI];refine⟨_,rfl,_,rfl,_,rfl,pk,ws,_,_,rfl,rfl,hpk,aD y1,pk',_,0,_,rfl,rfl,SqT.of y2,at0,rfl,_,rfl,ite2 (fun c=>?_) (fun c=>?_)⟩
  ·have cu:UN es ks L k=true:=(UN_is he hk' k1).symm.trans c
   refine⟨_,rfl,_,rfl,_,rfl,pk,ws,_,_,rfl,rfl,hpk,aD y1,pk',_,1,_,rfl,rfl,SqT.of y2,at1,_,_,rfl,rfl,?_⟩;refine⟨some (.int (k:Int)),some (.int (if(L.testBit e.1 ^^ L.testBit e.2)=true then 1 else 0)),?_,rfl⟩;have h1:wS es ks L (k+1)=wS es ks L k+kk'.2:=by
    show(if UN es ks L k=true then _ else _)=_;rw[if_pos cu,uC hk']
   rw[h1];rfl
  ·have cu:¬ UN es ks L k=true:=fun z=>c ((UN_is he hk' k1).trans z)
   refine⟨some (.int (k:Int)),some (.int (if(L.testBit e.1 ^^ L.testBit e.2)=true then 1 else 0)),?_,rfl⟩;have h1:wS es ks L (k+1)=wS es ks L k:=by
    show(if UN es ks L k=true then _ else _)=_;rw[if_neg cu]
   rw[h1];rfl
 ·rintro σ H2 ⟨v4,v5,rfl,rfl⟩;rw[Ob,hyl];exact⟨_,rfl,kk⟩
theorem yw:aA ["grown","kinds"] ["grown","kinds"] (ah dU):=by ac_nf
theorem Kl{f fw:Addr}{fd dw:FuncData} (F:Fun K "_law_costs" "_law_costs" dU f fd) (T:Txt mg) (G_law_worth:Cal P w K mg base 1 "_law_worth" ["ends","kinds","laying"] (Js K) fw dw):FnOk P w K mg base CX0 2 f fd ["grown","kinds"] Be:=by
 refine F.ok yw (fun vs H Q E h=>?_) (fun cdv A outer s H vs Q E hr h=>?_)
 ·obtain⟨t,pe,pt,pr,pk,m,es,ts,ks,rfl,_⟩:=h;rfl
 obtain⟨t,pe,pt,pr,pk,m,es,ts,ks,rfl,ht,⟨⟨ys,hpe,hE⟩,⟨xs,hpt,hR⟩,g⟩,⟨ws,hpk,tk⟩,kl,e9,m10,kk⟩:=h;have hxl:xs.length=m:=by rw[hR.1,g.w.len]
 obtain⟨q1,q2,q3,q4⟩:=mS m10;refine⟨_,(ao (aG (qN rfl (fr:=[("kinds",1),("grown",0)]) (xs:=["laying"]) (oY.of (by rfl) (by decide) (by rfl) (by decide) (by intro p hp;simp only[NU,O4,or_false]at hp;rcases hp with rfl | rfl<;>exact⟨rfl,rfl⟩) (by decide) (by intro p hp;simp only[NU,O4,or_false]at hp;rcases hp with rfl | rfl<;>rfl)) (aW rfl T.n_range (aa (aq ja aj (aw ar (by rfl) T.n_len bo (aa (aN bD (pv 0) aj (fun _ _=>rfl)) ag))) ag)) (fun C ex s H=>(aX (i:=0) (show(["laying","kinds","grown"]:List Str).Nodup from by decide) rfl (Or.inl rfl))) (fun C ex s H=>G7) (fun C ex s H=>(aB G_law_worth.ok (hr.mono (by decide)) rfl G_law_worth.mg G_law_worth.kp G_law_worth.bn .nil bb (aa (aN (Ng (K:=K) rfl) (pv 2) aj (fun _ _=>rfl)) (aa (pv 1) (aa (pv 0) ag)))))))),?_⟩
 have esh:(1:Int)*2^((xs.length:Int)).toNat=((2^m:Nat):Int):=by rw[hxl];exact shlN m
 refine⟨_,rfl,t,_,1,_,rfl,rfl,SqT.of ht,at31,pt,xs,rfl,.inl (SqL.of hpt),_,_,rfl,rfl,⟨by omega,by omega,by decide⟩,((2^m:Nat):Int),congrArg (fun z=>[V.int z]) esh,by omega,by ac_rfl,lW (k:=((2^m:Nat):Int).toNat) (fun i zs H2=>H2=H/\zs=((Oz i).map (wT es ks)).map V.int) (by rw[Ob];exact O6 q3 (by decide)) ⟨rfl,rfl⟩ ?_ ?_ ?_⟩
 ·rintro i zs H2 hi ⟨rfl,rfl⟩;rw[Po];refine⟨rfl,yesT ?_⟩;refine⟨_,rfl,t,_,0,_,rfl,rfl,SqT.of ht,at30,_,rfl,_,rfl,pe,pk,ys,ws,es,ks,i,rfl,SqL.of hpe,hE,SqL.of hpk,tk,kl,e9,rfl,?_⟩;rw[Pc,Oo,Oo];rfl
 ·rintro zs H2 ⟨rfl,rfl⟩ D hD;rw[Ob];exact kk D _ (ai hD _) hD ae
 ·rintro i zs H2 ⟨_,rfl⟩;rw[NR,NR,OR];exact NY _
end
theorem JT{X:Cx}{x:Str}{n:Int}{pos:Pos}(hg:Gl X x)(hm:∃ t,X.mg x=some (.int n t)) (hd:(x == ("__debug__" : Str))=false:=by decide):PE X (.Name x pos) (tC (.int n)):=by
 obtain⟨t,h⟩:=hm;exact vY hg h ⟨t,rfl⟩ hd
inductive Rc(m:Nat)(R:Nat->Nat->Bool)(s:Nat):Nat->Prop
 |base:Rc m R s s
 |step {x p:Nat}:Rc m R s x->p<m->R x (x^^^2^p)=true->Rc m R s (x^^^2^p)
abbrev Ls:=List (Nat×Option Nat)
structure Come(m:Nat)(R:Nat->Nat->Bool)(s:Nat)(L:Ls):Prop where
 hd:L[0]?=some (s,none)
 nd:(L.map (·.1)).Nodup
 lt:∀ n∈L.map (·.1),n<2^m
 par:∀(i n:Nat)(o:Option Nat),L[i]?=some (n,o)->0<i->∃(j x:Nat)(o':Option Nat)(p:Nat),j<i/\L[j]?=some (x,o')/\o=some x/\p<m/\n=x^^^2^p/\R x n=true
def Done(m:Nat)(R:Nat->Nat->Bool)(L:Ls)(n:Nat):Prop:=∀ p,p<m->R n (n^^^2^p)=true->n^^^2^p∈L.map (·.1)
theorem g8{m x p:Nat}(hx:x<2^m)(hp:p<m):x^^^2^p<2^m:=Nat.xor_lt_two_pow hx (Rl (by decide) hp)
theorem Come.one{m:Nat}{R:Nat->Nat->Bool}{s:Nat}(h:s<2^m):Come m R s [(s,none)] :=
 ⟨rfl,Oa.mpr ⟨O4,PQ⟩,fun n hn=>by rw[Ol.mp hn];exact h,fun i n o e h0=>by
  match i,e,h0 with
  |i+1,e,_=>cases e⟩
theorem Come.snoc{m:Nat}{R:Nat->Nat->Bool}{s:Nat}{L:Ls}(h:Come m R s L){x p:Nat}(hx:x∈L.map (·.1))(hp:p<m)(hR:R x (x^^^2^p)=true)(hn:x^^^2^p∉L.map (·.1)):Come m R s (L++[(x^^^2^p,some x)]):=by
 obtain⟨⟨x',o'⟩,hm,rfl⟩:=OL.mp hx;obtain⟨j,hj⟩:=OS.mp hm;have jl:=(NP.mp hj).1;have l0:0<L.length:=(NP.mp h.hd).1;refine⟨by rw[NX l0];exact h.hd,?_,fun n hn'=>?_,fun i n o e h0=>?_⟩
 ·rw[Oo];refine Oh.mpr ⟨h.nd,Oa.mpr ⟨O4,PQ⟩,fun a ha b hb e=>?_⟩;rw[Ol.mp hb]at e;have e':a=x'^^^2^p:=e;exact hn (by rw[← e'];exact ha)
 ·rw[Oo]at hn';rcases N0.mp hn' with z | z
  ·exact h.lt n z
  ·rw[Ol.mp z];exact g8 (h.lt _ hx) hp
 ·by_cases c:i<L.length
  ·rw[NX c]at e;obtain⟨j',x',o',p',a1,a2,a3⟩:=h.par i n o e h0;exact⟨j',x',o',p',a1,by rw[NX (by omega)];exact a2,a3⟩
  ·have:i<(L++[(x'^^^2^p,some x')]).length:=(NP.mp e).1
   rw[NT,Of]at this;have:i=L.length:=by omega
   subst this;rw[NW (NY _),OA]at e
   cases e
   exact⟨j,x',o',p,jl,by rw[NX jl];exact hj,rfl,hp,rfl,hR⟩
theorem Come.sound{m:Nat}{R:Nat->Nat->Bool}{s:Nat}{L:Ls}(h:Come m R s L):∀(k i n:Nat)(o:Option Nat),i<=k->L[i]?=some (n,o)->Rc m R s n:=by
 intro k;induction k with
 |zero =>
  intro i n o hi e;have:i=0:=by omega
  subst this;rw[h.hd]at e
  cases e
  exact .base
 |succ k ih =>
  intro i n o hi e;by_cases h0:0<i
  ·obtain⟨j,x,o',p,a1,a2,a3,a4,a5,a6⟩:=h.par i n o e h0;subst a5;exact .step (ih j x o' (by omega) a2) a4 a6
  ·exact ih i n o (by omega) e
theorem Come.all{m:Nat}{R:Nat->Nat->Bool}{s:Nat}{L:Ls}(h:Come m R s L)(hd:∀ n∈L.map (·.1),Done m R L n)(n:Nat):n∈L.map (·.1)↔Rc m R s n:=by
 constructor
 ·intro hn;obtain⟨⟨x,o⟩,hm,rfl⟩:=OL.mp hn;obtain⟨j,hj⟩:=OS.mp hm;exact h.sound j j x o (NY _) hj
 ·intro r;induction r with
  |base=>exact OL.mpr ⟨(s,none),NV h.hd,rfl⟩
  |step _ hp hR ih=>exact hd _ ih _ hp hR
theorem Come.len{m:Nat}{R:Nat->Nat->Bool}{s:Nat}{L:Ls}(h:Come m R s L):L.length<=2^m:=by
 have:=fJ h.nd h.lt;rw[NR]at this;exact this
def oNV:Option Nat->V
 |none=>.non
 |some x=>.int (x:Int)
def kvL(L:Ls):List (Key×V):=L.map fun x=>(Sum.inl (x.1:Int),oNV x.2)
theorem HQ(L:Ls):(kvL L).length=L.length:=NR ..
theorem Cn(L:Ls)(n:Nat):(valV (kvL L) (Sum.inl (n:Int))).isSome=decide (n∈L.map (·.1)):=by
 rw[← j8];unfold kvL;induction L with
 |nil=>rfl
 |cons x L ih =>
  rw[OW,Qz,ih,OW];by_cases c:x.1=n
  ·subst c;simp
  ·have c2:¬ (Sum.inl (x.1:Int):Key)=Sum.inl (n:Int):=fun z=>c (by have:=Sum.inl.inj z;omega)
   have c3:¬ n=x.1:=fun z=>c z.symm;simp[c2,c3]
theorem HP{L:Ls}{n x:Nat}(h:n∉L.map (·.1)):putK (kvL L) (Sum.inl (n:Int)) (.int (x:Int))=kvL (L++[(n,some x)]):=by
 have:valV (kvL L) (Sum.inl (n:Int))=none:=by
  have e:=Cn L n;rw[decide_eq_false h]at e
  cases z:valV (kvL L) (Sum.inl (n:Int)) with
  |none=>rfl
  |some v=>rw[z]at e;cases e
 rw[JG _ this];unfold kvL;rw[Oo];rfl
theorem Done.mono{m:Nat}{R:Nat->Nat->Bool}{L:Ls}{n:Nat}(h:Done m R L n)(y:Nat×Option Nat):Done m R (L++[y]) n:=fun p hp hR=>by
 rw[Oo];exact OH _ (h p hp hR)
def gs(m L:Nat):List Nat:=(Oz m).map fun p=>L^^^2^p
structure uB(m:Nat)(R:Nat->Nat->Bool)(s:Nat)(L:Ls)(rest fw:List Nat):Prop where
 c:Come m R s L
 rk:∀ n∈rest,n∈L.map (·.1)
 fk:∀ n∈fw,n∈L.map (·.1)
 dn:∀ n∈L.map (·.1),n∉rest->n∉fw->Done m R L n
def Half(m:Nat)(R:Nat->Nat->Bool)(L:Ls)(x j:Nat):Prop:=∀ p,p<j->R x (x^^^2^p)=true->x^^^2^p∈L.map (·.1)
theorem uB.put{m:Nat}{R:Nat->Nat->Bool}{s:Nat}{L:Ls}{rest fw:List Nat}(h:uB m R s L rest fw){x p:Nat}(hx:x∈rest)(hp:p<m)(hR:R x (x^^^2^p)=true)(hn:x^^^2^p∉L.map (·.1)):uB m R s (L++[(x^^^2^p,some x)]) rest (fw++[x^^^2^p]):=by
 have mo:∀ n,n∈L.map (·.1)->n∈(L++[(x^^^2^p,some x)]).map (·.1):=fun n z=>by rw[Oo];exact OH _ z
 have ls:x^^^2^p∈(L++[(x^^^2^p,some x)]).map (·.1):=by rw[Oo];exact Oi _ (Ol.mpr rfl)
 refine⟨h.c.snoc (h.rk x hx) hp hR hn,fun n z=>mo n (h.rk n z),fun n z=>?_,fun n z z1 z2=>?_⟩
 ·rcases N0.mp z with z | z
  ·exact mo n (h.fk n z)
  ·rw[Ol.mp z];exact ls
 ·rw[Oo]at z;rcases N0.mp z with z | z
  ·exact(h.dn n z z1 fun y=>z2 (OH _ y)).mono _
  ·exact absurd (Oi _ (Ol.mpr (Ol.mp z))) z2
theorem uB.next{m:Nat}{R:Nat->Nat->Bool}{s:Nat}{L:Ls}{x:Nat}{rest fw:List Nat}(h:uB m R s L (x::rest) fw)(hh:Half m R L x m):uB m R s L rest fw :=
 ⟨h.c,fun n z=>h.rk n (Oe _ z),h.fk,fun n z z1 z2=>by
  by_cases c:n=x
  ·subst c;exact hh
  ·exact h.dn n z (fun y=>(NU.mp y).elim c z1) z2⟩
theorem U_UN{es:En}{ks:Kn}{L t:Nat}(h1:t<es.length)(kl:ks.length=es.length)(kin:∀ k∈ks,k.1=0∨k.1=1):U es ks (L:Int) t=UN es ks L t:=by
 obtain⟨e,he⟩:∃ e,es[t]?=some e:=⟨_,NQ h1⟩;obtain⟨k,hk⟩:∃ k,ks[t]?=some k:=⟨_,NQ (by omega)⟩
 rw[U_at he hk,NL he,vN hk];unfold unp;rw[bitN,bitN];rcases kin k (NV hk)with z | z
 ·rw[z]
  cases L.testBit e.1<;>cases L.testBit e.2<;>rfl
 ·rw[z]
  cases L.testBit e.1<;>cases L.testBit e.2<;>rfl
theorem LD{es:En}{ks:Kn}{L:Nat}(kl:ks.length=es.length)(kin:∀ k∈ks,k.1=0∨k.1=1):∀ n:Nat,n<=es.length->(prL ks (U es ks (L:Int)) n).sum=wS es ks L n
 |0,_=>rfl
 |n+1,h=>by
  have ih:=LD (L:=L) kl kin n (by omega)
  rw[DZ,List.sum_append,ih,U_UN (by omega) kl kin]
  show wS es ks L n+((if UN es ks L n=true then stg ks n else 0)+0)=if UN es ks L n=true then wS es ks L n+stg ks n else wS es ks L n;split<;>omega
structure TxtC(mg:Str->Option Value):Prop extends TxtM mg where
 mplc:∃ t,mg "MOST_PLACES" = some (.int 10 t)
structure WebC(PL PS WC:Addr)(H:Hp)(p:Addr)(m:Nat)(es:En)(ks:Kn):Prop where
 w:Jd PL PS WC H p es ks
 many:∃ dx fs,H p=some (.ins WC dx fs)/\fs.lookup ("many" : Str)=some (.int (m:Int))
 m10:m<=10
 kin:∀ k∈ks,k.1=0∨k.1=1
theorem WebC.mono{PL PS WC:Addr}{H H':Hp}{p:Addr}{m:Nat}{es:En}{ks:Kn}(h:WebC PL PS WC H p m es ks)(s:Same H H'):WebC PL PS WC H' p m es ks:=by
 obtain⟨a,⟨dx,fs,b,c⟩,d,e⟩:=h;exact⟨a.mono s,⟨dx,fs,s _ _ b,c⟩,d,e⟩
def spAllW(PL PS WC:Addr):Sp:=fun vs H Q _=>∃(p:Addr)(m:Nat)(es:En)(ks:Kn),vs = [.ref p]/\WebC PL PS WC H p m es ks/\∀(q:Addr)(H':Hp),Same H H'->H q=none->H' q=some (.lst ((aM es ks m).map V.int))->Q (.ref q) H'
def vm(PL PS WC:Addr):Sp:=fun vs H Q _=>∃(p:Addr)(m:Nat)(es:En)(ks:Kn)(L:Nat),vs = [.ref p,.int (L:Int)]/\WebC PL PS WC H p m es ks/\∀(q:Addr),H q=none->Q (.ref q) (upd H q (.lst ((gs m L).map iV)))
def lqL:Str:=("come_to_below" : Str)++".<locals>."++"<lambda>"
def lqE:Str:=("falls" : Str)++".<locals>."++"<lambda>"
def LetP(H:Hp)(f:Addr)(m:Nat)(R:Nat->Nat->Bool):Prop:=(∃ cs z,DJ lqL H f cs z/\cs.length=2^m/\∀ x y,R x y=decide (cs.getD y 0<z))∨∃ cs,DK lqE H f cs/\cs.length=2^m/\∀ x y,R x y=decide (cs.getD y 0<=cs.getD x 0)
theorem LetP.mono{H H':Hp}{f:Addr}{m:Nat}{R:Nat->Nat->Bool}(h:LetP H f m R)(s:Same H H'):LetP H' f m R:=by
 rcases h with⟨cs,z,a,b,c⟩ | ⟨cs,a,b,c⟩
 ·exact .inl ⟨cs,z,a.mono s,b,c⟩
 ·exact .inr ⟨cs,a.mono s,b,c⟩
theorem sk{cs:List Int}{k:Nat}(h:k<cs.length):cs[k]?=some (cs.getD k 0):=by rw[OB,NQ h];rfl
def DS(PL PS WC:Addr):Sp:=fun vs H Q _=>∃(p f:Addr)(m s:Nat)(es:En)(ks:Kn)(R:Nat->Nat->Bool),vs = [.ref p,.int (s:Int),.ref f]/\WebC PL PS WC H p m es ks/\LetP H f m R/\s<2^m /\
 ∀(d:Addr)(L:Ls)(H':Hp),Same H H'->H d=none->H' d=some (.dK (kvL L))->Come m R s L->(∀ n,n∈L.map (·.1)↔Rc m R s n)->Q (.ref d) H'
section
variable{P:Program}{w:World}{K:NS}{mg:Str->Option Value}{base:Heap}
theorem vJ:aA ["web"] ["web"] (ah cU):=by ac_nf
theorem vH:aA ["web","laying"] ["web","laying"] (ah cP):=by ac_nf
theorem Hr{f PL PS WC:Addr}{fd:FuncData} (F:Fun K "steps_from" "steps_from" cP f fd) (T:TxtC mg) (cw:CW K WC):FnOk P w K mg base CX0 1 f fd ["web","laying"] (vm PL PS WC):=by
 refine F.ok vH (fun vs H Q E h=>?_) (fun cdv A outer s H vs Q E hr h=>?_)
 ·obtain⟨p,m,es,ks,L,rfl,_⟩:=h;rfl
 obtain⟨p,m,es,ks,L,rfl,wc,kk⟩:=h;obtain⟨dx,fs,hp,lm⟩:=wc.many;have m10:=wc.m10;refine⟨_,(ao (aG (dj rfl (fr:=[("laying",1)]) (by exact bF.one (by rfl) (by decide) (by rfl) (by decide) (by rfl) (by decide) (by rfl) (by rfl) (by decide) (by rfl)) (aW rfl T.n_range (aa (cY (pv 0) rfl) ag)) (fun C ex s H=>(aq yR (pv 1) (aq ja aj (pv 0))))))),?_⟩
 refine⟨_,rfl,p,WC,dx,fs,_,rfl,hp,cw.cl,cw.n1,lm,_,rfl,by omega,by omega,fB (n:=(m:Int).toNat) (fun i zs H2=>H2=H/\zs=((Oz i).map fun p=>L^^^2^p).map iV) (by rw[Ob];exact OG (au (by omega))) ⟨rfl,rfl⟩ ?_ ?_⟩
 ·rintro i zs H2 hi ⟨rfl,rfl⟩;rw[Ob]at hi;rw[Po];refine⟨_,rfl,_,rfl,_,_,rfl,rfl,⟨by omega,by omega,by decide⟩,_,_,rfl,rfl,rfl,?_⟩
  dsimp only;rw[shlN,xorN,Pc,Oo,Oo];rfl
 rintro zs H2 _ ⟨rfl,rfl⟩ D hD;rw[Ob];exact kk D hD
theorem dJ:aA ["web","start","let","ahead","row","further","here","there"] ["web","start","let"] (ah iq):=by ac_nf
theorem MR{f fs' PL PS WC:Addr}{fd ds:FuncData} (F:Fun K "come_to" "come_to" iq f fd) (T:TxtC mg) (G_steps_from:Cal P w K mg base 1 "steps_from" ["web","laying"] (vm PL PS WC) fs' ds):FnOk P w K mg base CX0 2 f fd ["web","start","let"] (DS PL PS WC):=by
 refine F.ok dJ (fun vs H Q E h=>?_) (fun cdv A outer s H vs Q E hr h=>?_)
 ·obtain⟨p,f,m,s,es,ks,R,rfl,_⟩:=h;rfl
 obtain⟨p,fl,m,st,es,ks,R,rfl,wc,lp,hs,kk⟩:=h;have hu:=FH hr;have hu64:=hr.units;have m10:=wc.m10;obtain⟨q1,q2,q3,q4⟩:=mS m10
 refine⟨_,(af (av (i:=3) dJ.nd rfl (Or.inl rfl) (MH (JK (pv 1) Hk MF) rfl rfl (fun z=>by cases z) (by decide)))
   (af (av (i:=4) dJ.nd rfl (Or.inl rfl) (bj (aa (pv 1) ag)))
   (af (mR PassesOwn.never (aE (op_neG hu64) (pv 4) (bj ag) (aK _)) (af (av (i:=5) dJ.nd rfl (Or.inl rfl) (bj ag))
   (af (cA PassesOwn.never rfl (br (pv 4)) (aX (i:=6) dJ.nd rfl (Or.inl rfl)) (ao (cA PassesOwn.never rfl (br (aB G_steps_from.ok (hr.mono (by decide)) rfl G_steps_from.mg G_steps_from.kp G_steps_from.bn .nil bb (aa (pv 0) (aa (pv 6) ag)))) (aX (i:=7) dJ.nd rfl (Or.inl rfl)) (ao (b9 (PW.pt (G5 (G8 (yQ hu (pv 7) (pv 3))) (Bu (mQ (pe_or (JR (lq:=lqL) (i:=2) rfl (Or.inl rfl) (hr.mono (by decide)) (aa (pv 6) (aa (pv 7) ag))) (JS (lq:=lqE) (i:=2) rfl (Or.inl rfl) (hr.mono (by decide)) (aa (pv 6) (aa (pv 7) ag)))))))) (af (Bx hu (pv 3) (pv 7) (pv 6) rfl)
   (ao (bp (iF OE OQ OP bx (pv 5) (aa (pv 7) ag))))) aR)))))
   (ao (av (i:=4) dJ.nd rfl (Or.inl rfl) (pv 5))))))
   (ao (aG (pv 3)))))),?_⟩
 intro d hd;refine⟨_,rfl,ae,[(.inl (st:Int),.non)],rfl,(by show 1<=15;decide),?_⟩
 have sd:Same H (upd (upd H d (.dK [])) d (.dK (pd [] [(.inl (st:Int),.non)]))):=bf (ai hd _) hd _;have hd1:(upd (upd H d (.dK [])) d (.dK (pd [] [(.inl (st:Int),.non)]))) d=some (.dK (kvL [(st,none)])):=by rw[ae];rfl
 generalize upd (upd H d (.dK [])) d (.dK (pd [] [(.inl (st:Int),.non)]))=H1 at sd hd1;refine⟨_,rfl,(by show 1<=sizeLine;decide),fun q hq=>?_⟩
 have sq:=ai hq (.lst [V.int (st:Int)]);refine⟨fun mm σ H'=>∃(L:Ls)(wl:List Nat)(q:Addr)(v5 v6 v7:Option V),mm=2*(2^m-L.length)+(if wl = [] then 0 else 1)/\σ = [some (.ref p),some (.int (st:Int)),some (.ref fl),some (.ref d),some (.ref q),v5,v6,v7]/\Same H H'/\H' d=some (.dK (kvL L))/\H' q=some (.lst (wl.map iV))/\wl.length<=1024/\uB m R st L wl [],⟨_,[(st,none)],[st],q,_,_,_,rfl,rfl,sd.trans sq,sq _ _ hd1,ae,(by show 1<=1024;decide),⟨Come.one hs,fun n hn=>hn,(fun n hn=>nomatch hn),fun n hn h1 _=>absurd hn h1⟩⟩,?_⟩
 rintro mm σ H3 ⟨L,wl,q,v5,v6,v7,rfl,rfl,s3,hd3,hq3,wll,go⟩;refine⟨_,rfl,(by show 0<=sizeLine;exact O5 _),fun l hl=>?_⟩
 have sl:=ai hl (.lst []);refine⟨_,_,cF (SqL.of (sl _ _ hq3)),cF (ps:=[]) (SqL.of ae),bQ _,bQ _,_,rfl,?_⟩;rw[Eo];have s3l:=s3.trans sl;have hd4:=sl _ _ hd3;have hq4:=sl _ _ hq3;generalize upd H3 l (.lst [])=H4 at s3l hd4 hq4;refine ite2 (fun c=>?_) (fun c=>?_)
 ·have ne:wl≠[]:=fun z=>by rw[z,decide_eq_true rfl]at c;cases c
  refine⟨fun σ' H'=>∃(L':Ls)(wl':List Nat)(q:Addr)(v5 v6 v7:Option V),2*(2^m-L'.length)+(if wl' = [] then 0 else 1)<2*(2^m-L.length)+(if wl = [] then 0 else 1)/\σ' = [some (.ref p),some (.int (st:Int)),some (.ref fl),some (.ref d),some (.ref q),v5,v6,v7]/\Same H H'/\H' d=some (.dK (kvL L'))/\H' q=some (.lst (wl'.map iV))/\wl'.length<=1024/\uB m R st L' wl' [],fun σ' H' ⟨L',wl',q',a5,a6,a7,lt,e1,e2,e3,e4,e5,e6⟩=>⟨_,lt,L',wl',q',a5,a6,a7,rfl,e1,e2,e3,e4,e5,e6⟩,?_⟩;refine⟨(by show 0<=sizeLine;exact O5 _),fun fu hfu=>?_⟩
  have sfu:=ai hfu (.lst []);have dfu:d≠fu:=fun z=>by rw[← z,hd4]at hfu;cases hfu
  have qfu:q≠fu:=fun z=>by rw[← z,hq4]at hfu;cases hfu
  have dq:d≠q:=fun z=>by rw[← z,hd4]at hq4;cases hq4
  have hfu0:H fu=none:=cy s3l hfu;have wlen:(wl.map iV).length=wl.length:=NR _;refine⟨_,rfl,q,rfl,⟨_,SqL.of (sfu _ _ hq4)⟩,gH (K:=K) (xs:=wl.map iV) (fun i σ H5=>∃(L':Ls)(fw:List Nat)(v6 v7:Option V),σ = [some (.ref p),some (.int (st:Int)),some (.ref fl),some (.ref d),some (.ref q),some (.ref fu),v6,v7]/\Same H H5/\H5 d=some (.dK (kvL L'))/\H5 q=some (.lst (wl.map iV))/\H5 fu=some (.lst (fw.map iV))/\L'.length=L.length+fw.length/\uB m R st L' (wl.drop i) fw) ⟨L,[],_,_,rfl,s3l.trans sfu,sfu _ _ hd4,sfu _ _ hq4,ae,rfl,go⟩ (fun i σ H5 _ ⟨_,_,_,_,_,_,_,z,_⟩=>SqL.of z) ?_ ?_⟩
  ·rintro i xv σ H5 hxv ⟨L',fw,v6,v7,rfl,s5,hd5,hq5,hf5,ll,go5⟩;rw[NZ]at hxv;obtain⟨x,hx,rfl⟩:=O0.mp hxv;have il:=(NP.mp hx).1;have dr:wl.drop i=x::wl.drop (i+1):=by
    obtain⟨h1,h2⟩:=NP.mp hx;rw[← h2];exact Pw h1
   rw[dr]at go5;have xk:x∈x::wl.drop (i+1):=Og ..;have xlt:=go5.c.lt x (go5.rk x xk);refine⟨_,rfl,_,rfl,p,m,es,ks,x,rfl,wc.mono s5,fun r2 hr2=>?_⟩;have sr:=ai hr2 (.lst ((gs m x).map iV));have r2d:r2≠d:=fun z=>by rw[z,hd5]at hr2;cases hr2
   have r2f:r2≠fu:=fun z=>by rw[z,hf5]at hr2;cases hr2
   have slen:(gs m x).length=m:=by unfold gs;rw[NR,OR]
   refine⟨r2,rfl,⟨_,SqL.of ae⟩,gH (K:=K) (xs:=(gs m x).map iV) (fun j σ H6=>∃(L2:Ls)(fw2:List Nat)(v7:Option V),σ = [some (.ref p),some (.int (st:Int)),some (.ref fl),some (.ref d),some (.ref q),some (.ref fu),some (iV x),v7]/\Same H H6/\H6 d=some (.dK (kvL L2))/\H6 q=some (.lst (wl.map iV))/\H6 fu=some (.lst (fw2.map iV))/\H6 r2=some (.lst ((gs m x).map iV))/\L2.length=L.length+fw2.length/\uB m R st L2 (x::wl.drop (i+1)) fw2/\Half m R L2 x j) ⟨L',fw,_,rfl,s5.trans sr,sr _ _ hd5,sr _ _ hq5,sr _ _ hf5,ae,ll,go5,fun p hp=>absurd hp (P5 _)⟩ (fun j σ H6 _ ⟨_,_,_,_,_,_,_,_,z,_⟩=>SqL.of z) ?_ ?_⟩
   ·rintro j yv σ H6 hyv ⟨L2,fw2,v7,rfl,s6,hd6,hq6,hf6,hr6,ll6,go6,ha6⟩;rw[NZ]at hyv;obtain⟨y,hy,rfl⟩:=O0.mp hyv;have jl:j<m:=by rw[← slen];exact(NP.mp hy).1
    have ey:y=x^^^2^j:=by
     unfold gs at hy;rw[NZ,Ph jl]at hy;exact(Ov hy).symm
    subst ey;have ylt:=g8 xlt jl;have L2l:=go6.c.len;refine⟨_,rfl,_,rfl,d,_,rfl,DGet.k (k:=Sum.inl ((x^^^2^j:Nat):Int)) hd6,_,rfl,?_⟩;rw[Cn];refine ite2 (fun c1=>?_) (fun c1=>?_)
    ·have yn:x^^^2^j∉L2.map (·.1):=fun z=>by rw[decide_eq_true z]at c1;cases c1
     rcases lp.mono s6 with⟨cs,z,ll',cl,hRR⟩ | ⟨cs,ll',cl,hRR⟩
     ·refine .inl ⟨fl,rfl,⟨cs,z,ll'⟩,_,rfl,_,rfl,_,x^^^2^j,cs,_,z,rfl,ll',sk (by omega),_,rfl,?_⟩
      refine ite2 (fun c2=>?_) (fun c2=>?_)
      ·have hR:R x (x^^^2^j)=true:=(hRR x (x^^^2^j)).trans c2
       refine⟨_,rfl,_,rfl,_,rfl,d,_,rfl,DPut.k (k:=Sum.inl ((x^^^2^j:Nat):Int)) hd6 (by rw[HQ];exact PU (O6 L2l q3) (by decide)),?_⟩
       rw[show putK (kvL L2) (Sum.inl ((x^^^2^j:Nat):Int)) (iV x)=kvL (L2++[(x^^^2^j,some x)]) from HP yn];have hf7:(upd H6 d (.dK (kvL (L2++[(x^^^2^j,some x)])))) fu=some (.lst (fw2.map iV)):=by rw[ak (Ne.symm dfu)];exact hf6
       have fl2:fw2.length<=1024:=by omega
       refine⟨_,rfl,.inl ⟨rfl,_,SqL.of hf7⟩,_,rfl,fu,_,_,rfl,rfl,hf7,(by rw[NR];exact PU fl2 (by decide)),?_⟩
       refine⟨L2++[(x^^^2^j,some x)],fw2++[x^^^2^j],_,rfl,bf (bf s6 hd _) hfu0 _,?_,?_,?_,?_,by rw[NT,NT,Of,Of];omega,go6.put xk jl hR yn,fun p hp hRp=>?_⟩
       ·rw[ak dfu];exact ae
       ·rw[ak qfu,ak (Ne.symm dq)];exact hq6
       ·rw[ae,Oo];rfl
       ·rw[ak r2f,ak r2d];exact hr6
       ·rw[Oo];by_cases z:p=j
        ·subst z;exact Oi _ (Ol.mpr rfl)
        ·exact OH _ (ha6 p (by omega) hRp)
      ·have hR:¬ R x (x^^^2^j)=true:=fun z=>c2 ((hRR x (x^^^2^j)).symm.trans z)
       refine⟨L2,fw2,_,rfl,s6,hd6,hq6,hf6,hr6,ll6,go6,fun p hp hRp=>?_⟩;by_cases z:p=j
       ·subst z;exact absurd hRp hR
       ·exact ha6 p (by omega) hRp
     ·refine .inr ⟨fl,rfl,⟨cs,ll'⟩,_,rfl,_,rfl,x,x^^^2^j,cs,_,_,rfl,ll',sk (by omega),sk (by omega),_,rfl,?_⟩
      refine ite2 (fun c2=>?_) (fun c2=>?_)
      ·have hR:R x (x^^^2^j)=true:=(hRR x (x^^^2^j)).trans c2
       refine⟨_,rfl,_,rfl,_,rfl,d,_,rfl,DPut.k (k:=Sum.inl ((x^^^2^j:Nat):Int)) hd6 (by rw[HQ];exact PU (O6 L2l q3) (by decide)),?_⟩
       rw[show putK (kvL L2) (Sum.inl ((x^^^2^j:Nat):Int)) (iV x)=kvL (L2++[(x^^^2^j,some x)]) from HP yn];have hf7:(upd H6 d (.dK (kvL (L2++[(x^^^2^j,some x)])))) fu=some (.lst (fw2.map iV)):=by rw[ak (Ne.symm dfu)];exact hf6
       have fl2:fw2.length<=1024:=by omega
       refine⟨_,rfl,.inl ⟨rfl,_,SqL.of hf7⟩,_,rfl,fu,_,_,rfl,rfl,hf7,(by rw[NR];exact PU fl2 (by decide)),?_⟩
       refine⟨L2++[(x^^^2^j,some x)],fw2++[x^^^2^j],_,rfl,bf (bf s6 hd _) hfu0 _,?_,?_,?_,?_,by rw[NT,NT,Of,Of];omega,go6.put xk jl hR yn,fun p hp hRp=>?_⟩
       ·rw[ak dfu];exact ae
       ·rw[ak qfu,ak (Ne.symm dq)];exact hq6
       ·rw[ae,Oo];rfl
       ·rw[ak r2f,ak r2d];exact hr6
       ·rw[Oo];by_cases z:p=j
        ·subst z;exact Oi _ (Ol.mpr rfl)
        ·exact OH _ (ha6 p (by omega) hRp)
      ·have hR:¬ R x (x^^^2^j)=true:=fun z=>c2 ((hRR x (x^^^2^j)).symm.trans z)
       refine⟨L2,fw2,_,rfl,s6,hd6,hq6,hf6,hr6,ll6,go6,fun p hp hRp=>?_⟩;by_cases z:p=j
       ·subst z;exact absurd hRp hR
       ·exact ha6 p (by omega) hRp
    ·have yi:x^^^2^j∈L2.map (·.1):=by
      by_cases z:x^^^2^j∈L2.map (·.1)
      ·exact z
      ·exact absurd (by rw[decide_eq_false z];rfl) c1
     refine iteF ?_;refine⟨L2,fw2,_,rfl,s6,hd6,hq6,hf6,hr6,ll6,go6,fun p hp hRp=>?_⟩;by_cases z:p=j
     ·subst z;exact yi
     ·exact ha6 p (by omega) hRp
   ·rintro σ H6 ⟨L2,fw2,v7,rfl,s6,hd6,hq6,hf6,hr6,ll6,go6,ha6⟩;rw[NR,slen]at ha6;exact⟨L2,fw2,_,_,rfl,s6,hd6,hq6,hf6,ll6,go6.next ha6⟩
  ·rintro σ H5 ⟨L',fw,v6,v7,rfl,s5,hd5,hq5,hf5,ll,go5⟩;rw[wlen,List.drop_length]at go5;have L2l:=go5.c.len;refine⟨_,rfl,L',fw,fu,_,_,_,?_,rfl,s5,hd5,hf5,by omega,⟨go5.c,go5.fk,(fun n hn=>nomatch hn),fun n hn h1 _=>go5.dn n hn (fun y=>nomatch y) h1⟩⟩
   rw[if_neg ne];by_cases z:fw = []
   ·rw[if_pos z];have:L'.length=L.length:=by rw[z]at ll;exact ll
    omega
   ·rw[if_neg z];have:=List.length_pos_iff.mpr z;omega
 ·have e:wl = []:=by
   by_cases z:wl = []
   ·exact z
   ·refine absurd ?_ c;rw[decide_eq_false (fun y=>z ?_)]
    ·rfl
    ·exact List.map_eq_nil_iff.mp y
  subst e;have al:=go.c.all fun n hn=>go.dn n hn (fun y=>nomatch y) fun y=>nomatch y;exact⟨_,rfl,kk d L _ s3l hd hd4 go.c al⟩
end
structure ErrC(K:NS)(mg:Str->Option Value)(x:Str)(C:Addr):Prop where
 mg:mg x=some (.ref C)
 ec:ExC K C
structure TxtA(mg:Str->Option Value):Prop extends TxtC mg where
 n_all:mg "all" = none
def Wide(WC:Addr)(H:Hp)(p:Addr):Prop:=∃(dx:Addr)(fs:List (Str×V))(m:Nat),H p=some (.ins WC dx fs)/\fs.lookup ("many" : Str)=some (.int (m:Int))/\10<m
def uD(TW PL PS WC:Addr):Sp:=fun vs H Q E=>spAllW PL PS WC vs H Q E∨∃ p:Addr,vs = [.ref p]/\Wide WC H p/\E (.ref TW) none H
def jo(cs:List Int)(m L:Nat):Bool:=(Oz m).all fun p=>decide (cs.getD L 0<=cs.getD (L^^^2^p) 0)
def A6(PL PS WC:Addr):Sp:=fun vs H Q _=>∃(p q:Addr)(m L:Nat)(es:En)(ks:Kn)(cs:List Int),vs = [.ref p,.ref q,.int (L:Int)]/\WebC PL PS WC H p m es ks/\H q=some (.lst (cs.map V.int))/\cs.length=2^m/\L<2^m/\∀ H',Same H H'->Q (.bl (jo cs m L)) H'
def jk(TW PL PS WC:Addr):Sp:=fun vs H Q E=>(∃(p:Addr)(m:Nat)(es:En)(ks:Kn),vs = [.ref p]/\WebC PL PS WC H p m es ks/\∀(q:Addr)(H':Hp),Same H H'->H q=none->H' q=some (.lst (((Oz (2^m)).filter (jo (aM es ks m) m)).map iV))->Q (.ref q) H')∨∃ p:Addr,vs = [.ref p]/\Wide WC H p/\E (.ref TW) none H
def vq:Sp:=fun vs H Q _=>∃(a b:Addr)(l:List Nat),vs = [.ref a,.ref b]/\H a=some (.lst (l.map iV))/\H b=some (.lst (l.map iV))/\l.length<=1024/\Q (.bl true) H
section
variable{P:Program}{w:World}{K:NS}{mg:Str->Option Value}{base:Heap}
theorem MU{f fw TW PL PS WC:Addr}{fd dw:FuncData} (F:Fun K "all_worths" "all_worths" cU f fd) (T:TxtC mg) (cw:CW K WC) (X_TooWide:ErrC K mg "TooWide" TW) (G_worth:Cal P w K mg base 4 "worth" ["web","laying"] (GH PL PS WC) fw dw):FnOk P w K mg base (CXr P w) 5 f fd ["web"] (uD TW PL PS WC):=by
 refine F.okX vJ (fun vs H Q E h=>?_) (fun cdv A outer s H vs Q E hr h=>?_)
 ·rcases h with⟨p,m,es,ks,rfl,_⟩ | ⟨p,rfl,_⟩
  ·rfl
  ·rfl
 refine⟨_,(af (b9 (aE op_gt (cY (pv 0) rfl) (JT rfl T.mplc) (aK _)) (ao (G9 X_TooWide.ec X_TooWide.mg rfl mG rfl rfl (aa pe_str ag))) aR)
   (ao (aG (dj rfl (fr:=[("web",0)]) (by exact bF.one (by rfl) (by decide) (by rfl) (by decide) (by rfl) (by decide) (by rfl) (by rfl) (by decide) (by rfl)) (aW rfl T.n_range (aa (aq ja aj (cY (pv 0) rfl)) ag)) (fun C ex s H=>(aB G_worth.ok (hr.mono (by decide)) rfl G_worth.mg G_worth.kp G_worth.bn .nil bb (aa (pv 1) (aa (pv 0) ag)))))))),?_⟩
 rcases h with⟨p,m,es,ks,rfl,wc,kk⟩ | ⟨p,rfl,⟨dx,fs,m,hp,lm,big⟩,kk⟩
 ·obtain⟨dx,fs,hp,lm⟩:=wc.many;have m10:=wc.m10;obtain⟨q1,q2,q3,q4⟩:=mS m10;refine⟨_,rfl,p,WC,dx,fs,_,rfl,hp,cw.cl,cw.n1,lm,_,_,rfl,rfl,_,rfl,ite2 (fun c=>?_) (fun c=>?_)⟩
  ·exact absurd (of_decide_eq_true c) (by omega)
  refine⟨_,rfl,p,WC,dx,fs,_,rfl,hp,cw.cl,cw.n1,lm,_,_,rfl,rfl,⟨by omega,by omega,by decide⟩,((2^m:Nat):Int),congrArg (fun z=>[V.int z]) (shlN m),by omega,by ac_rfl,fB (n:=((2^m:Nat):Int).toNat) (fun i zs H2=>Same H H2/\zs=((Oz i).map fun L=>wT es ks L).map V.int) (by rw[Ob];exact O6 q3 (by decide)) ⟨fun _ _ e=>e,rfl⟩ ?_ ?_⟩
  ·rintro i zs H2 hi ⟨s2,rfl⟩;rw[Po];refine⟨_,rfl,_,rfl,p,es,ks,(i:Int),rfl,wc.w.mono s2,fun H3 s3=>?_⟩;rw[LD wc.w.kl wc.kin es.length (NY _)];refine⟨s2.trans s3,?_⟩;rw[Pc,Oo,Oo];rfl
  rintro zs H2 _ ⟨s2,rfl⟩ D hD;rw[Ob];exact kk D _ (s2.trans (ai hD _)) (cy s2 hD) ae
 ·refine⟨_,rfl,p,WC,dx,fs,_,rfl,hp,cw.cl,cw.n1,lm,_,_,rfl,rfl,_,rfl,ite2 (fun c=>?_) (fun c=>?_)⟩
  ·exact⟨(by decide:(1:Nat)<=sizeLine),kk⟩
  ·exact absurd (decide_eq_true (by show(10:Int)<(m:Int);omega)) c
theorem JB:aA ["web","costs","laying"] ["web","costs","laying"] (ah nV):=by ac_nf
theorem Ke{f f1 PL PS WC:Addr}{fd d1:FuncData} (F:Fun K "rests" "rests" nV f fd) (T:TxtA mg) (G_steps_from:Cal P w K mg base 1 "steps_from" ["web","laying"] (vm PL PS WC) f1 d1):FnOk P w K mg base CX0 2 f fd ["web","costs","laying"] (A6 PL PS WC):=by
 refine F.ok JB (fun vs H Q E h=>?_) (fun cdv A outer s H vs Q E hr h=>?_)
 ·obtain⟨p,q,m,L,es,ks,cs,rfl,_⟩:=h;rfl
 obtain⟨p,q,m,L,es,ks,cs,rfl,wc,hq,cl,hL,kk⟩:=h;have m10:=wc.m10;refine⟨_,(ao (aG (aw (IM rfl) (by rfl) T.n_all bt_all (aa (qN rfl (fr:=[("laying",2),("costs",1)]) (xs:=["there"]) (oY.of (by rfl) (by decide) (by rfl) (by decide) (by intro p hp;simp only[NU,O4,or_false]at hp;rcases hp with rfl | rfl<;>exact⟨rfl,rfl⟩) (by decide) (by intro p hp;simp only[NU,O4,or_false]at hp;rcases hp with rfl | rfl<;>rfl)) (br (aB G_steps_from.ok (hr.mono (by decide)) rfl G_steps_from.mg G_steps_from.kp G_steps_from.bn .nil bb (aa (pv 0) (aa (pv 2) ag)))) (fun C ex s H=>(aX (i:=0) (show(["there","laying","costs"]:List Str).Nodup from by decide) rfl (Or.inl rfl))) (fun C ex s H=>G7) (fun C ex s H=>(iE E3 (aN (kr (K:=K) rfl) (pv 2) (pv 0) (fun _ _=>rfl)) (aN (kr (K:=K) rfl) (pv 2) (pv 1) (fun _ _=>rfl)) (aK _)))) ag)))),?_⟩
 obtain⟨q1,q2,q3,q4⟩:=mS m10;have sl:(gs m L).length=m:=by unfold gs;rw[NR,OR]
 have svl:((gs m L).map iV).length=m:=by rw[NR,sl]
 have cV:∀ n,n<2^m->(cs.map V.int)[n]?=some (.int (cs.getD n 0)):=fun n hn=>by rw[NZ,sk (by omega)];rfl
 refine⟨_,rfl,_,rfl,p,m,es,ks,L,rfl,wc,fun qs hqs=>⟨qs,rfl,⟨_,SqL.of ae⟩,?_⟩⟩;have ss:=ai hqs (.lst ((gs m L).map iV));refine uP (K:=K) (xs:=(gs m L).map iV) (fun i zs H2=>H2=upd H qs (.lst ((gs m L).map iV))/\zs=((Oz i).map fun p=>decide (cs.getD L 0<=cs.getD (L^^^2^p) 0)).map V.bl) (OG (au (by omega))) ⟨rfl,rfl⟩ (fun i zs H2 _ z=>z.1▸SqL.of ae) ?_ ?_ (fun n zs H7 z=>by rw[z.2,NR,NR,OR];exact NY _)
 ·rintro i x zs H2 hx ⟨rfl,rfl⟩;have il:i<m:=by have:=(NP.mp hx).1;omega
  have ex:x=iV (L^^^2^i):=by
   unfold gs at hx;rw[NZ,NZ,Ph il]at hx;exact(Ov hx).symm
  subst ex;refine⟨rfl,yesT ⟨_,rfl,_,rfl,q,_,_,_,rfl,rfl,SqL.of (ss _ _ hq),aD (cV _ (g8 hL il)),_,rfl,_,rfl,q,_,_,_,rfl,rfl,SqL.of (ss _ _ hq),aD (cV L hL),_,_,rfl,rfl,rfl,?_⟩⟩;rw[Pc,Oo,Oo];rfl
 rintro zs H2 ⟨rfl,rfl⟩ D hD;rw[svl];refine⟨D,_,rfl,SqL.of ae,?_⟩;have e:(QW (fun p=>decide (cs.getD L 0<=cs.getD (L^^^2^p) 0)) (Oz m)).all id=jo cs m L:=by unfold jo;rw[List.all_map];rfl
 rw[e];exact kk _ (ss.trans (ai hD _))
theorem uG:aA ["web","costs"] ["web"] (ah h9):=by ac_nf
theorem E4{f f1 f2 TW PL PS WC:Addr}{fd d1 d2:FuncData} (F:Fun K "resting" "resting" h9 f fd) (T:TxtA mg) (G_all_worths:CalX P w K mg base 5 "all_worths" ["web"] (uD TW PL PS WC) f1 d1) (G_rests:Cal P w K mg base 2 "rests" ["web","costs","laying"] (A6 PL PS WC) f2 d2):FnOk P w K mg base (CXr P w) 6 f fd ["web"] (jk TW PL PS WC):=by
 refine F.okX uG (fun vs H Q E h=>?_) (fun cdv A outer s H vs Q E hr h=>?_)
 ·rcases h with⟨p,m,es,ks,rfl,_⟩ | ⟨p,rfl,_⟩
  ·rfl
  ·rfl
 refine⟨_,(af (av (i:=1) uG.nd rfl (Or.inr rfl) (gz G_all_worths.ok (hr.mono (by decide)) rfl G_all_worths.mg G_all_worths.kp G_all_worths.bn .nil mG rfl (aa (pv 0) ag)))
   (ao (aG (qN rfl (fr:=[("web",0),("costs",1)]) (xs:=["laying"]) (oY.of (by rfl) (by decide) (by rfl) (by decide) (by intro p hp;simp only[NU,O4,or_false]at hp;rcases hp with rfl | rfl<;>exact⟨rfl,rfl⟩) (by decide) (by intro p hp;simp only[NU,O4,or_false]at hp;rcases hp with rfl | rfl<;>rfl)) (aW rfl T.n_range (aa (aw ar (by rfl) T.n_len bo (aa (pv 1) ag)) ag)) (fun C ex s H=>(aX (i:=0) (show(["laying","web","costs"]:List Str).Nodup from by decide) rfl (Or.inl rfl))) (fun C ex s H=>(Bv (mQ (aB G_rests.ok (hr.mono (by decide)) rfl G_rests.mg G_rests.kp G_rests.bn .nil bb (aa (pv 1) (aa (pv 2) (aa (pv 0) ag))))))) (fun C ex s H=>(pv 0)))))),?_⟩
 rcases h with⟨p,m,es,ks,rfl,wc,kk⟩ | ⟨p,rfl,wd,kk⟩
 ·obtain⟨q1,q2,q3,q4⟩:=mS wc.m10;refine⟨_,rfl,.inl ⟨p,m,es,ks,rfl,wc,fun q H1 s1 nq hq=>?_⟩⟩;have cl:=d8 es ks m;have clV:((aM es ks m).map V.int).length=2^m:=by rw[NR,cl]
  refine⟨_,rfl,q,_,rfl,.inl (SqL.of hq),_,rfl,by omega,by ac_rfl,lW (k:=(((aM es ks m).map V.int).length:Int).toNat) (fun i zs H2=>Same H1 H2/\zs=((Oz i).filter (jo (aM es ks m) m)).map iV) (by rw[Ob,clV];exact O6 (show 2^m<=1024 by omega) (by decide)) ⟨fun _ _ e=>e,rfl⟩ ?_ ?_ (fun n zs H7 z=>by
   rw[z.2,NR];have:=P8 (jo (aM es ks m) m) (Oz n);rw[OR]at this
   exact this)⟩
  ·rintro i zs H2 hi ⟨s2,rfl⟩;rw[Ob,clV]at hi;rw[Po];refine⟨rfl,_,rfl,_,rfl,_,rfl,p,q,m,i,es,ks,aM es ks m,rfl,wc.mono (s1.trans s2),s2 _ _ hq,cl,hi,fun H3 s3=>⟨_,rfl,ite2 (fun c=>?_) (fun c=>?_)⟩⟩
   ·refine⟨_,rfl,s2.trans s3,?_⟩;rw[Pc,PX,Qw c,Qc,Oo];rfl
   ·refine⟨s2.trans s3,?_⟩;rw[Pc,PX,Qx c,Qc,Pa]
  rintro zs H2 ⟨s2,rfl⟩ D hD;rw[Ob,clV];exact kk D _ ((s1.trans s2).trans (ai hD _)) (cy (s1.trans s2) hD) ae
 ·exact⟨_,rfl,.inr ⟨p,rfl,wd,kk⟩⟩
theorem mL:aA ["found","due","k"] ["found","due"] (ah cS):=by ac_nf
theorem Hv{f fn:Addr}{fd dn:FuncData} (F:Fun K "_law_listed" "_law_listed" cS f fd) (T:TxtC mg) (G_law_number:Cal P w K mg base 1 "_law_number" ["found"] Ms fn dn):FnOk P w K mg base CX0 2 f fd ["found","due"] vq:=by
 refine F.ok mL (fun vs H Q E h=>?_) (fun cdv A outer s H vs Q E hr h=>?_)
 ·obtain⟨a,b,l,rfl,_⟩:=h;rfl
 obtain⟨a,b,l,rfl,ha,hb,ll,kk⟩:=h
 refine⟨_,(af (b9 (PW.pt (G4 (uJ (mQ (aw xM (by rfl) T.n_isinstance bT (aa (pv 0) (aa (vZ (v:=.ty "list") rfl T.n_list i5 rfl) ag))))) (yC (aE wa (aw ar (by rfl) T.n_len bo (aa (pv 0) ag)) (aw ar (by rfl) T.n_len bo (aa (pv 1) ag)) (aK _))))) (ao (aG BL)) aR)
   (af (cA PassesOwn.never rfl (aW rfl T.n_range (aa (aw ar (by rfl) T.n_len bo (aa (pv 1) ag)) ag)) (aX (i:=2) mL.nd rfl (Or.inl rfl)) (ao (b9 (PW.pt (G4 (uJ (mQ (aB G_law_number.ok (hr.mono (by decide)) rfl G_law_number.mg G_law_number.kp G_law_number.bn .nil bb (aa (aN aH (pv 0) (pv 2) (fun _ _=>rfl)) ag)))) (yC (aE wa (aN aH (pv 0) (pv 2) (fun _ _=>rfl)) (aN aH (pv 1) (pv 2) (fun _ _=>rfl)) (aK _))))) (ao (aG BL)) aR)))
   (ao (aG BL)))),?_⟩
 have lv:(l.map iV).length=l.length:=NR _;refine⟨_,rfl,_,_,_,_,_,rfl,TyOf.lst ha,Or.inl ⟨_,rfl,rfl⟩,kit_ll K,_,rfl,iteF ?_⟩;refine⟨_,rfl,a,_,rfl,.inl (SqL.of ha),_,rfl,b,_,rfl,.inl (SqL.of hb),rfl,_,rfl,ite2 (fun c=>absurd rfl (of_decide_eq_false ((Qd _).mp c))) (fun _=>?_)⟩;refine⟨_,rfl,b,_,rfl,.inl (SqL.of hb),_,rfl,by omega,by omega,cn (n:=((l.map iV).length:Int).toNat) (fun i σ H2=>∃ v2:Option V,σ = [some (.ref a),some (.ref b),v2]/\H2=H) ⟨_,rfl,rfl⟩ ?_ ?_⟩
 ·rintro i σ H2 hi ⟨v2,rfl,rfl⟩;rw[Ob,lv]at hi;rw[Po];obtain⟨n,hn⟩:∃ n,l[i]?=some n:=⟨_,NQ hi⟩;have hnV:(l.map iV)[i]?=some (iV n):=by rw[NZ,hn];rfl
  refine⟨_,rfl,_,rfl,a,_,_,_,rfl,rfl,SqL.of ha,aD hnV,(n:Int),rfl,_,rfl,iteF ?_⟩;refine⟨_,rfl,_,rfl,a,_,_,_,rfl,rfl,SqL.of ha,aD hnV,_,rfl,_,rfl,b,_,_,_,rfl,rfl,SqL.of hb,aD hnV,rfl,_,rfl,ite2 (fun c=>absurd rfl (of_decide_eq_false ((Qd _).mp c))) (fun _=>?_)⟩;exact⟨_,rfl,rfl⟩
 rintro σ H2 ⟨v2,rfl,rfl⟩;exact kk
end
theorem Fun.okT{P:Program}{w:World}{K:NS}{mg:Str->Option Value}{base:Heap}{x qual:Str}{st:Stmt}{f c TT:Addr}{fd:FuncData}{N ps:List Str}{k:Nat}{sp:Sp}(F:Fun K x qual st f fd)(S:aA N ps (ah st))(ht:Py K x=some (c,TT))(hn:Od K mainGlobals x=some (some (.ref f)))
  (len:∀ vs H Q E,sp vs H Q E->vs.length=ps.length)
  (hbody:∀(A:Around)(outer:List Env)(s:Shared)(H:Hp)(vs:List V)(Q:VK)(E:XK),Room k (A.deeper (PyProof.Rows.envOfC qual (ah st) s.heap.objs.size f (.ref c)))->sp vs H Q E ->
   ∃ t,PSs (cxOf CX0 P w K mg base N qual (ah st) f (.ref c) A outer s H E).nox (ay st) t/\t { nx:=fun _ H'=>Q .non H',rt:=Q } (start N vs) H):FnOk P w K mg base CX0 (k+1) f fd ps sp:=by
 obtain⟨oc,od,kV,doc,pm,an,cdv,ct,osl,rfl,lk,hcd⟩:=F.ex;have e:cdv=.ref c:=by
  unfold Py at ht;rw[hn]at ht;simp only[lk]at ht
  cases cdv<;>first | (cases ht;done) | skip
  simp only at ht;split at ht
  ·split at ht
   ·cases ht;rfl
   ·cases ht
  ·cases ht
 subst e;refine K1 lk hcd S len fun A outer s H vs Q E hr hsp=>?_;obtain⟨t,h,q⟩:=hbody A outer s H vs Q E hr hsp;exact⟨t,h.nox,q⟩
theorem Fun.okTX{P:Program}{w:World}{K:NS}{mg:Str->Option Value}{base:Heap}{x qual:Str}{st:Stmt}{f c TT:Addr}{fd:FuncData}{N ps:List Str}{k:Nat}{sp:Sp}(F:Fun K x qual st f fd)(S:aA N ps (ah st))(ht:Py K x=some (c,TT))(hn:Od K mainGlobals x=some (some (.ref f)))
  (len:∀ vs H Q E,sp vs H Q E->vs.length=ps.length)
  (hbody:∀(A:Around)(outer:List Env)(s:Shared)(H:Hp)(vs:List V)(Q:VK)(E:XK),Room k (A.deeper (PyProof.Rows.envOfC qual (ah st) s.heap.objs.size f (.ref c)))->sp vs H Q E ->
   ∃ t,PSs (cxOf (CXr P w) P w K mg base N qual (ah st) f (.ref c) A outer s H E) (ay st) t/\t { nx:=fun _ H'=>Q .non H',rt:=Q } (start N vs) H):FnOk P w K mg base (CXr P w) (k+1) f fd ps sp:=by
 obtain⟨oc,od,kV,doc,pm,an,cdv,ct,osl,rfl,lk,hcd⟩:=F.ex;have e:cdv=.ref c:=by
  unfold Py at ht;rw[hn]at ht;simp only[lk]at ht
  cases cdv<;>first | (cases ht;done) | skip
  simp only at ht;split at ht
  ·split at ht
   ·cases ht;rfl
   ·cases ht
  ·cases ht
 subst e;exact K1 lk hcd S len fun A outer s H vs Q E hr hsp=>hbody A outer s H vs Q E hr hsp
theorem cq{lq:Str}{lp:Pos}{T:Addr}{H H':Hp}(h:Tb lq lp T H)(s:Same H H'):Tb lq lp T H':=by
 rcases h with h | ⟨c,h1,h2⟩
 ·exact .inl (s _ _ h)
 ·exact .inr ⟨c,s _ _ h1,s _ _ h2⟩
theorem Mn{lq:Str}{lp:Pos}{T:Addr}{H:Hp}(h:Tb lq lp T H):H T≠none:=by
 rcases h with h | ⟨c,h1,_⟩
 ·rw[h];exact fun z=>nomatch z
 ·rw[h1];exact fun z=>nomatch z
theorem tb_tbl{lq:Str}{lp:Pos}{T:Addr}{H:Hp}(h:Tb lq lp T H):∃ ps,H T=some (.tbl ps):=by
 rcases h with h | ⟨c,h1,_⟩
 ·exact⟨_,h⟩
 ·exact⟨_,h1⟩
def SmC(H H':Hp):Prop:=∀ b o,(∀ ps,o≠.tbl ps)->H b=some o->H' b=some o
theorem SmC.trans{H H1 H2:Hp}(a:SmC H H1)(b:SmC H1 H2):SmC H H2:=fun c o n e=>b c o n (a c o n e)
theorem SmC.of{H H':Hp}(s:Same H H'):SmC H H':=fun c o _ e=>s c o e
theorem SmC.tbs{lq:Str}{lp:Pos}{T:Addr}{H H':Hp}(t:Tb lq lp T H)(s:TbS T H H'):SmC H H':=fun c o n e=>s c o (fun z=>by
 obtain⟨ps,hp⟩:=tb_tbl t;rw[z,hp]at e
 cases e
 exact n _ rfl) e
theorem SmC.lst{H H':Hp}(s:SmC H H'){b:Addr}{xs:List V}(e:H b=some (.lst xs)):H' b=some (.lst xs):=s _ _ (fun ps z=>by cases z) e
theorem SmC.tup{H H':Hp}(s:SmC H H'){b:Addr}{xs:List V}(e:H b=some (.tup xs)):H' b=some (.tup xs):=s _ _ (fun ps z=>by cases z) e
theorem SmC.ins{H H':Hp}(s:SmC H H'){b C d:Addr}{fs:List (Str×V)}(e:H b=some (.ins C d fs)):H' b=some (.ins C d fs):=s _ _ (fun ps z=>by cases z) e
theorem SmC.seq{K:NS}{H H':Hp}(s:SmC H H'){a:Addr}{xs:List V}(h:SqL K H a xs):SqL K H' a xs:=by
 rcases h with(h | ⟨o,h⟩) | h
 ·exact .inl (.inl (s.lst h))
 ·exact .inl (.inr ⟨o,s _ _ (fun ps z=>by cases z) h⟩)
 ·exact .inr h
theorem WebC.sm{PL PS WC:Addr}{H H':Hp}{p:Addr}{m:Nat}{es:En}{ks:Kn}(h:WebC PL PS WC H p m es ks)(s:SmC H H'):WebC PL PS WC H' p m es ks:=by
 obtain⟨⟨⟨dx0,fs0,q1,xs,a1,a2,a3,a4⟩,a5,a6⟩,⟨dx,fs,b,c⟩,d,e⟩:=h
 exact⟨⟨⟨dx0,fs0,q1,xs,s.ins a1,a2,s.lst a3,a4.1,fun i x k q r=>by
  obtain⟨p',dx',u1,u2⟩:=a4.2 i x k q r
  exact⟨p',dx',u1,s.ins u2⟩⟩,a5,a6⟩,⟨dx,fs,s.ins b,c⟩,d,e⟩
theorem ye{L:Ls}{out:List Int}(nd:(L.map (·.1)).Nodup)(pm:out.Perm (L.map fun x=>(x.1:Int)))(pw:out.Pairwise (·<=·)):∃ on:List Nat,out=on.map (fun n:Nat=>(n:Int))/\on.Pairwise (· < ·)/\∀ n,n∈on↔n∈L.map (·.1):=by
 have ex:∀ l:List Int,(∀ x∈l,∃ n:Nat,x=(n:Int))->∃ on:List Nat,l=on.map fun n:Nat=>(n:Int):=fun l=>by
  induction l with
  |nil=>exact fun _=>⟨[],rfl⟩
  |cons a l ih =>
   intro h;obtain⟨n,rfl⟩:=h a (Og ..);obtain⟨on,e⟩:=ih fun x hx=>h x (Oe _ hx);exact⟨n::on,by rw[OW,← e]⟩
 obtain⟨on,rfl⟩:=ex out fun x hx=>by
  obtain⟨y,_,e⟩:=OL.mp (pm.mem_iff.mp hx);exact⟨y.1,e.symm⟩
 have pm2:on.Perm (L.map (·.1)):=by
  have:=pm.map Int.toNat;rw[Qm,Qm]at this;have e1:on.map (Int.toNat∘fun n:Nat=>(n:Int))=on:=by
   rw[show(Int.toNat∘fun n:Nat=>(n:Int))=id from rfl,List.map_id]
  have e2:L.map (Int.toNat∘fun x:Nat×Option Nat=>(x.1:Int))=L.map (·.1):=rfl;rw[e1,e2]at this;exact this
 refine⟨on,rfl,?_,fun n=>pm2.mem_iff⟩;have nd2:on.Nodup:=pm2.nodup_iff.mpr nd;rw[List.pairwise_map]at pw;refine(List.Pairwise.and pw nd2).imp fun{a b} ⟨h1,h2⟩=>?_;have h1':(a:Int)<=(b:Int):=h1;omega
theorem LU(on:List Nat):(on.map fun n:Nat=>(n:Int)).map V.int=on.map iV:=by
 rw[Qm];rfl
theorem Eh(L:Ls):(kvL L).map (·.1)=(L.map fun x=>(x.1:Int)).map Sum.inl:=by
 unfold kvL;rw[Qm,Qm];rfl
theorem cz{es:En}{ks:Kn}{m L:Nat}(h:L<2^m):(aM es ks m).getD L 0=wT es ks L:=by rw[OB,sL h];rfl
theorem Rc.lt{m:Nat}{R:Nat->Nat->Bool}{s n:Nat}(h:Rc m R s n)(hs:s<2^m):n<2^m:=by
 induction h with
 |base=>exact hs
 |step _ hp _ ih=>exact g8 ih hp
theorem Rc.low{m:Nat}{f:Nat->Int}{z:Int}{s n:Nat}(h:Rc m (fun _ y=>decide (f y<z)) s n)(hs:f s<z):f n<z:=by
 cases h with
 |base=>exact hs
 |step _ _ hR=>exact of_decide_eq_true hR
theorem Ld(ns:List Int)(a b:Nat):∃ cs:List Int,cutV (ns.map V.int) (some (a:Int)) (some (b:Int))=cs.map V.int/\cs.length<=b-a:=by
 refine⟨(ns.drop (min a ns.length)).take (min b ns.length-min a ns.length),?_,?_⟩
 ·unfold cutV;rw[HT.sIx_nat,HT.sIx_nat,NR,QM,QN]
 ·rw[Ou];omega
theorem AX{S:Addr->Prop}{PL PS WC p:Addr}{H:Hp}{m:Nat}{es:En}{ts rs:List (List Nat)}{ks:Kn}(h:WebF S PL PS WC H p m es ts rs ks)(kl:ks.length=es.length)(few:es.length<=30)(m10:m<=10)(kin:∀ k∈ks,k.1=0∨k.1=1):WebC PL PS WC H p m es ks:=by
 obtain⟨dx,fs,q1,xs,a,b,c,d,e,f⟩:=h;exact⟨⟨⟨dx,fs,q1,xs,a,d,e,f⟩,kl,few⟩,⟨dx,fs,a,b.many⟩,m10,kin⟩
def lpL:Pos:=⟨45,31,45,72⟩
def qZ(TT PL PS WC:Addr):Sp:=fun vs H Q _=>∃(p q:Addr)(m st:Nat)(es:En)(ks:Kn)(cs:List Int)(h:Int),vs = [.ref p,.ref q,.int (st:Int),.int h]/\WebC PL PS WC H p m es ks/\H q=some (.lst (cs.map V.int))/\cs.length=2^m/\st<2^m/\Tb lqL lpL TT H /\
 ∀(d:Addr)(L:Ls)(H':Hp),SmC H H'->Tb lqL lpL TT H'->H d=none->H' d=some (.dK (kvL L))->Come m (fun _ y=>decide (cs.getD y 0<h)) st L->(∀ n,n∈L.map (·.1)↔Rc m (fun _ y=>decide (cs.getD y 0<h)) st n)->Q (.ref d) H'
section
variable{P:Program}{w:World}{K:NS}{mg:Str->Option Value}{base:Heap}
theorem pV:aA ["web","costs","start","height"] ["web","costs","start","height"] (ah aO):=by ac_nf
theorem Ko{f f1 c TT PL PS WC:Addr}{fd d1:FuncData} (F:Fun K "come_to_below" "come_to_below" aO f fd) (ht:Py K "come_to_below" = some (c,TT)) (hn:Od K mainGlobals "come_to_below" = some (some (.ref f))) (hcd:Pu base c TT) (hbm:Bm mg base)
  (G_come_to:Cal P w K mg base 2 "come_to" ["web","start","let"] (DS PL PS WC) f1 d1):FnOk P w K mg base CX0 3 f fd ["web","costs","start","height"] (qZ TT PL PS WC):=by
 refine Fun.okT F pV ht hn (fun vs H Q E h=>?_) (fun A outer s H vs Q E hr h=>?_)
 ·obtain⟨p,q,m,st,es,ks,cs,h,rfl,_⟩:=h;rfl
 obtain⟨p,q,m,st,es,ks,cs,z,rfl,wc,hq,cl,hs,tb,kk⟩:=h;have LM:∀ N,LamC (cxOf CX0 P w K mg base N "come_to_below" (ah aO) f (.ref c) A outer s H E).nox c TT lqL ltSc [("height",s.heap.objs.size+2),("costs",s.heap.objs.size+1)]:=fun N=>⟨rfl,hcd,hbm,rfl,rfl⟩;have hcl:∀ N,∀ p∈[(("height" : Str),s.heap.objs.size+2),(("costs" : Str),s.heap.objs.size+1)],(cxOf CX0 P w K mg base N "come_to_below" (ah aO) f (.ref c) A outer s H E).nox.env.cells.lookup p.1=some p.2/\(cxOf CX0 P w K mg base N "come_to_below" (ah aO) f (.ref c) A outer s H E).nox.fn p.1=true/\(cxOf CX0 P w K mg base N "come_to_below" (ah aO) f (.ref c) A outer s H E).nox.env.kindOf p.1=some .cell/\Vis (cxOf CX0 P w K mg base N "come_to_below" (ah aO) f (.ref c) A outer s H E).nox.env.scope p.1:=by
  intro N p hp;rcases NU.mp hp with rfl | hp
  ·exact⟨rfl,rfl,rfl,Or.inr (Or.inl rfl)⟩
  ·rw[Ol.mp hp];exact⟨rfl,rfl,rfl,Or.inr (Or.inl rfl)⟩
 refine⟨_,(ao (aG (D4 (E:=E0) (hcl _) G_come_to.ok (hr.mono (by decide)) rfl G_come_to.mg G_come_to.kp G_come_to.bn .nil (aa (pv 0) (aa (pv 2) (aa (LJ (LM _) rfl) ag)))))),?_⟩
 refine⟨_,rfl,_,rfl,tb,fun fl c' pm ctv H1 nf sm1 tb1 hc' hf=>?_⟩;intro os hos;have hct:=hos (("costs" : Str),s.heap.objs.size+1) (by simp)
 have hch:=hos (("height" : Str),s.heap.objs.size+2) (by simp)
 obtain⟨nct,ov1,ed1,rl1⟩:=hct;obtain⟨nch,ov2,ed2,rl2⟩:=hch;obtain⟨u1,rfl,ru1⟩:=rl1 1 (.ref q) rfl rfl;obtain⟨u2,rfl,ru2⟩:=rl2 3 (.int z) rfl rfl;obtain rfl:u1=Value.ref q:=ru1;obtain⟨tz,rfl⟩:=ru2;have smc:=SmC.tbs tb sm1;have out:∀{b:Addr}{o:HO},H1 b=some o->b∉[(("height" : Str),s.heap.objs.size+2),(("costs" : Str),s.heap.objs.size+1)].map (·.2):=fun{b o} e hb=>by
  rcases NU.mp hb with y | y
  ·rw[y]at e;rw[nch]at e;cases e
  ·rw[Ol.mp y]at e;rw[nct]at e;cases e
 have up:Same H1 (frzH [(("height" : Str),s.heap.objs.size+2),(("costs" : Str),s.heap.objs.size+1)] os H1):=fun b o e=>by rw[cb (out e)];exact e
 refine⟨p,fl,m,st,es,ks,fun _ y=>decide (cs.getD y 0<z),rfl,(wc.sm smc).mono up,.inl ⟨cs,z,⟨c',_,_,q,pm,ctv,os (s.heap.objs.size+1),os (s.heap.objs.size+2),_,_,_,_,_,_,_,up _ _ hf,up _ _ hc',lU (by simp),ed1,lU (by simp),⟨tz,ed2⟩,up _ _ (smc.lst hq)⟩,cl,fun _ _=>rfl⟩,hs,fun d L H2 s2 nd hd co al=>?_⟩
 have s12:=up.trans s2;have cells:∀ b,b∈[(("height" : Str),s.heap.objs.size+2),(("costs" : Str),s.heap.objs.size+1)].map (·.2)->∃ o,H2 b=some (.frz o (.own b)):=fun b hb=>⟨_,s2 _ _ (lU hb)⟩;have dn:d∉[(("height" : Str),s.heap.objs.size+2),(("costs" : Str),s.heap.objs.size+1)].map (·.2):=fun hb=>by
  obtain⟨o,e⟩:=cells d hb;rw[hd]at e
  cases e
 have cs2:Same H1 (cutH [(("height" : Str),s.heap.objs.size+2),(("costs" : Str),s.heap.objs.size+1)] H2):=fun b o e=>by rw[dE (out e)];exact s12 _ _ e
 refine kk d L _ (smc.trans (.of cs2)) (cq tb1 cs2) ?_ (by rw[dE dn];exact hd) co al
 have n1:H1 d=none:=by
  rw[cb dn]at nd;exact nd
 cases y:H d with
 |none=>rfl
 |some o =>
  by_cases c:d=TT
  ·rw[c]at n1;exact absurd n1 (Mn tb1)
  ·rw[sm1 _ _ c y]at n1;cases n1
end
def lpE:Pos:=⟨76,38,76,85⟩
def vx(TW TT PL PS WC:Addr):Sp:=fun vs H Q E=>(∃(p:Addr)(v:V),vs = [.ref p,v]/\Wide WC H p/\E (.ref TW) none H)∨∃(p:Addr)(m st:Nat)(es:En)(ks:Kn),vs = [.ref p,.int (st:Int)]/\WebC PL PS WC H p m es ks/\st<2^m/\Tb lqE lpE TT H /\
 ∀(l:Addr)(on:List Nat)(H':Hp),SmC H H'->Tb lqE lpE TT H'->H' l=some (.lst (on.map iV))->on.Pairwise (· < ·)->(∀ n,n∈on↔Rc m (fun x y=>decide ((aM es ks m).getD y 0<=(aM es ks m).getD x 0)) st n)->Q (.ref l) H'
section
variable{P:Program}{w:World}{K:NS}{mg:Str->Option Value}{base:Heap}
theorem DX:aA ["web","start","costs"] ["web","start"] (ah fE):=by ac_nf
theorem Kk{f f1 f2 c TW TT PL PS WC:Addr}{fd d1 d2:FuncData} (F:Fun K "falls" "falls" fE f fd) (T:TxtC mg) (ht:Py K "falls" = some (c,TT)) (hn:Od K mainGlobals "falls" = some (some (.ref f))) (hcd:Pu base c TT) (hbm:Bm mg base)
  (G_all_worths:CalX P w K mg base 5 "all_worths" ["web"] (uD TW PL PS WC) f2 d2) (G_come_to:Cal P w K mg base 2 "come_to" ["web","start","let"] (DS PL PS WC) f1 d1):FnOk P w K mg base (CXr P w) 6 f fd ["web","start"] (vx TW TT PL PS WC):=by
 refine Fun.okTX F DX ht hn (fun vs H Q E h=>?_) (fun A outer s H vs Q E hr h=>?_)
 ·rcases h with⟨p,v,rfl,_⟩ | ⟨p,m,st,es,ks,rfl,_⟩
  ·rfl
  ·rfl
 have LM:∀ N,LamC (cxOf (CXr P w) P w K mg base N "falls" (ah fE) f (.ref c) A outer s H E) c TT lqE leSc [("costs",s.heap.objs.size+1)]:=fun N=>⟨rfl,hcd,hbm,rfl,rfl⟩;have hcl:∀ N,∀ p∈[(("costs" : Str),s.heap.objs.size+1)],(cxOf (CXr P w) P w K mg base N "falls" (ah fE) f (.ref c) A outer s H E).env.cells.lookup p.1=some p.2/\(cxOf (CXr P w) P w K mg base N "falls" (ah fE) f (.ref c) A outer s H E).fn p.1=true/\(cxOf (CXr P w) P w K mg base N "falls" (ah fE) f (.ref c) A outer s H E).env.kindOf p.1=some .cell/\Vis (cxOf (CXr P w) P w K mg base N "falls" (ah fE) f (.ref c) A outer s H E).env.scope p.1:=by
  intro N p hp;rw[Ol.mp hp];exact⟨rfl,rfl,rfl,Or.inr (Or.inl rfl)⟩
 refine⟨_,(af (av (i:=2) DX.nd rfl (Or.inr rfl) (gz G_all_worths.ok (hr.mono (by decide)) rfl G_all_worths.mg G_all_worths.kp G_all_worths.bn .nil mG rfl (aa (pv 0) ag)))
   (ao (aG (aw (uY rfl) (by rfl) T.n_sorted nH (aa (D4 (E:=E0) (hcl _) G_come_to.ok (hr.mono (by decide)) rfl G_come_to.mg G_come_to.kp G_come_to.bn .nil (aa (pv 0) (aa (pv 1) (aa (LJ (LM _) rfl) ag)))) ag))))),?_⟩
 rcases h with⟨p,v,rfl,wd,kk⟩ | ⟨p,m,st,es,ks,rfl,wc,hs,tb,kk⟩
 ·exact⟨_,rfl,.inr ⟨p,rfl,wd,kk⟩⟩
 refine⟨_,rfl,.inl ⟨p,m,es,ks,rfl,wc,fun q H0 s0 nq hq=>?_⟩⟩;have tb0:=cq tb s0;refine⟨_,rfl,_,rfl,tb0,fun fl c' pm ctv H1 nf sm1 tb1 hc' hf=>?_⟩;intro os hos;obtain⟨nct,ov1,ed1,rl1⟩:=hos (("costs" : Str),s.heap.objs.size+1) (by simp)
 obtain⟨u1,rfl,ru1⟩:=rl1 2 (.ref q) rfl rfl;obtain rfl:u1=Value.ref q:=ru1;have smc:=SmC.tbs tb0 sm1;have out:∀{b:Addr}{o:HO},H1 b=some o->b∉[(("costs" : Str),s.heap.objs.size+1)].map (·.2):=fun{b o} e hb=>by
  rw[Ol.mp hb]at e;rw[nct]at e;cases e
 have up:Same H1 (frzH [(("costs" : Str),s.heap.objs.size+1)] os H1):=fun b o e=>by rw[cb (out e)];exact e
 refine⟨p,fl,m,st,es,ks,fun x y=>decide ((aM es ks m).getD y 0<=(aM es ks m).getD x 0),rfl,((wc.mono s0).sm smc).mono up,.inr ⟨aM es ks m,⟨c',_,q,pm,ctv,os (s.heap.objs.size+1),_,_,_,_,_,_,_,_,_,up _ _ hf,up _ _ hc',lU (by simp),ed1,up _ _ (smc.lst hq)⟩,d8 _ _ _,fun _ _=>rfl⟩,hs,fun d L H2 s2 nd hd co al=>?_⟩
 have s12:=up.trans s2;have dn:d∉[(("costs" : Str),s.heap.objs.size+1)].map (·.2):=fun hb=>by
  have e:=s2 _ _ (lU (os:=os) (H:=H1) hb);rw[hd]at e
  cases e
 have cs2:Same H1 (cutH [(("costs" : Str),s.heap.objs.size+1)] H2):=fun b o e=>by rw[dE (out e)];exact s12 _ _ e
 refine⟨d,kvL L,_,rfl,.inl (by rw[dE dn];exact hd),Eh L,fun l out hl pm pw=>?_⟩
 obtain⟨on,rfl,pw2,mem⟩:=ye co.nd pm pw;rw[LU];have sn:=ai hl (.lst (on.map iV));exact kk l on _ ((SmC.of s0).trans (smc.trans (.of (cs2.trans sn)))) (cq tb1 (cs2.trans sn)) ae pw2 fun n=>(mem n).trans (al n)
end
theorem Rc.mono{m:Nat}{R R':Nat->Nat->Bool}{s n:Nat}(h:Rc m R s n)(hR:∀ x y,R x y=true->R' x y=true):Rc m R' s n:=by
 induction h with
 |base=>exact .base
 |step _ hp h2 ih=>exact .step ih hp (hR _ _ h2)
theorem K2(x p:Nat):(x^^^2^p)^^^2^p=x:=by rw[RB,Nat.xor_self,Nat.xor_zero]
structure WayT(m st goal:Nat)(l:List Nat):Prop where
 hd:l.head?=some st
 ls:l.getLast?=some goal
 nd:l.Nodup
 lt:∀ n∈l,n<2^m
 ad:∀(i x y:Nat),l[i]?=some x->l[i+1]?=some y->∃ p,p<m/\y=x^^^2^p
theorem WayT.rev{m st goal:Nat}{l:List Nat}(h:WayT m st goal l):WayT m goal st l.reverse:=by
 refine⟨by rw[List.head?_reverse];exact h.ls,by rw[List.getLast?_reverse];exact h.hd,List.pairwise_reverse.mpr (h.nd.imp Ne.symm),fun n hn=>h.lt n (RN.mp hn),fun i x y e1 e2=>?_⟩
 have l2:i+1<l.length:=by have:=(NP.mp e2).1;rwa[Rz]at this
 rw[Rj (by omega)]at e1
 rw[Rj l2]at e2;obtain⟨p,hp,e⟩:=h.ad (l.length-1-(i+1)) y x e2 (by rw[show l.length-1-(i+1)+1=l.length-1-i by omega];exact e1)
 exact⟨p,hp,by rw[e,K2]⟩
theorem WayT.st{m st goal:Nat}{l:List Nat}(h:WayT m st goal l):st∈l:=List.mem_of_head? h.hd
structure Bk(m st goal:Nat)(L:Ls)(b:List Nat)(o:Option Nat)(i:Nat):Prop where
 hd:(b++o.toList).head?=some goal
 nd:(b++o.toList).Nodup
 ad:∀(k x y:Nat),(b++o.toList)[k]?=some x->(b++o.toList)[k+1]?=some y->∃ p,p<m/\y=x^^^2^p
 sub:∀ n∈b++o.toList,n∈L.map (·.1)
 at_:match o with | none=>i=0/\b.getLast?=some st | some x=>∃(j:Nat)(o':Option Nat),i=j+1/\L[j]?=some (x,o')/\∀ n∈b,∀(k:Nat)(o'':Option Nat),L[k]?=some (n,o'')->j<k
theorem Come.once{m:Nat}{R:Nat->Nat->Bool}{s:Nat}{L:Ls}(h:Come m R s L){i j n:Nat}{o o':Option Nat}(h1:L[i]?=some (n,o))(h2:L[j]?=some (n,o')):i=j:=by
 obtain⟨l1,e1⟩:=NP.mp h1;obtain⟨l2,e2⟩:=NP.mp h2;have:=(List.nodup_iff_pairwise_ne.mp h.nd);rw[O9]at this;rcases QZ i j with c | c | c
 ·exact absurd (by rw[Q7,Q7,e1,e2]) (this i j (by rw[NR];exact l1) (by rw[NR];exact l2) c)
 ·exact c
 ·exact absurd (by rw[Q7,Q7,e1,e2]) (this j i (by rw[NR];exact l2) (by rw[NR];exact l1) c)
theorem Bk.start{m st goal:Nat}{R:Nat->Nat->Bool}{L:Ls}(h:goal∈L.map (·.1)):∃ i,Bk m st goal L [] (some goal) i:=by
 obtain⟨⟨x,o⟩,hm,rfl⟩:=OL.mp h;obtain⟨j,hj⟩:=OS.mp hm;refine⟨j+1,rfl,Oa.mpr ⟨O4,PQ⟩,fun k x y e1 e2=>?_,fun n hn=>?_,j,o,rfl,hj,fun n hn=>nomatch hn⟩
 ·cases k<;>cases e2
 ·rw[Ol.mp hn];exact h
theorem Bk.step{m st goal:Nat}{R:Nat->Nat->Bool}{L:Ls}(c:Come m R st L){b:List Nat}{x i:Nat}(h:Bk m st goal L b (some x) i):∃(o:Option Nat)(i':Nat),(∃ j:Nat,L[j]?=some (x,o))/\i'<i/\Bk m st goal L (b++[x]) o i':=by
 obtain⟨h1,h2,h3,h4,j,o,rfl,hj,h5⟩:=h;by_cases j0:j=0
 ·subst j0;have:=c.hd;rw[hj]at this
  cases this
  refine⟨none,0,⟨0,hj⟩,Nat.succ_pos _,?_,?_,?_,?_,rfl,by rw[List.getLast?_append];rfl⟩
  ·rw[show(none:Option Nat).toList = [] from rfl,Pa];exact h1
  ·rw[show(none:Option Nat).toList = [] from rfl,Pa];exact h2
  ·rw[show(none:Option Nat).toList = [] from rfl,Pa];exact h3
  ·rw[show(none:Option Nat).toList = [] from rfl,Pa];exact h4
 ·obtain⟨k,x',o',p,kj,hk,rfl,hp,e,hR⟩:=c.par j x o hj (RC j0);have far:∀ n∈b++[x],∀(k':Nat)(o'':Option Nat),L[k']?=some (n,o'')->k<k':=fun n hn k' o'' e'=>by
   rcases N0.mp hn with z | z
   ·have:=h5 n z k' o'' e';omega
   ·rw[Ol.mp z]at e';have:=c.once hj e';omega
  refine⟨some x',k+1,⟨j,hj⟩,by omega,?_,?_,?_,?_,k,o',rfl,hk,far⟩
  ·rw[List.head?_append,show b++[x]=b++(some x).toList from rfl,h1];rfl
  ·refine Oh.mpr ⟨h2,Oa.mpr ⟨O4,PQ⟩,fun a ha d hd e=>?_⟩;have:d=x':=Ol.mp hd;rw[e,this]at ha;exact absurd (far x' ha k o' hk) (Pg _)
  ·intro k' u v e1 e2;have lb:(b++[x]).length=b.length+1:=by rw[NT,Of]
   have l2:=(NP.mp e2).1;rw[NT,lb,show(some x').toList = [x'] from rfl,Of]at l2;rw[NX (by rw[lb];omega)]at e1
   by_cases z:k'+1<b.length+1
   ·rw[NX (by rw[lb];exact z)]at e2
    exact h3 k' u v e1 e2
   ·have z2:k'=b.length:=by omega
    subst z2;rw[NW (NY _),OA]at e1;rw[NW (by rw[lb];exact NY _),lb,OA]at e2
    cases e1
    cases e2
    exact⟨p,hp,by rw[e,K2]⟩
  ·intro n hn;rcases N0.mp hn with z | z
   ·exact h4 n z
   ·rw[Ol.mp z];exact OL.mpr ⟨_,NV hk,rfl⟩
theorem Bk.fin{m st goal:Nat}{R:Nat->Nat->Bool}{L:Ls}(c:Come m R st L){b:List Nat}{i:Nat}(h:Bk m st goal L b none i):WayT m st goal b.reverse/\∀ n∈b.reverse,n∈L.map (·.1):=by
 obtain⟨h1,h2,h3,h4,h5,h6⟩:=h;rw[show(none:Option Nat).toList = [] from rfl,Pa]at h1 h2 h3 h4;exact⟨WayT.rev (st:=goal) (goal:=st) ⟨h1,h6,h2,fun n hn=>c.lt n (h4 n hn),h3⟩,fun n hn=>h4 n (RN.mp hn)⟩
theorem kvL_at{L:Ls}{j x:Nat}{o:Option Nat}(nd:(L.map (·.1)).Nodup)(h:L[j]?=some (x,o)):valV (kvL L) (Sum.inl (x:Int))=some (oNV o):=by
 have hm:=NV h;clear h;induction L with
 |nil=>cases hm
 |cons y L ih =>
  rw[OW,Oa]at nd;rcases NU.mp hm with z | z
  ·subst z;unfold kvL valV;simp
  ·have ne:y.1≠x:=fun e=>nd.1 (by rw[e];exact OL.mpr ⟨_,z,rfl⟩)
   have ih:=ih nd.2 z;have ne2:¬ (Sum.inl (y.1:Int):Key)=Sum.inl (x:Int):=fun e=>ne (by have:=Sum.inl.inj e;omega)
   unfold kvL valV at ih ⊢;rw[OW];simp only[Qn,ne2,decide_false];exact ih
theorem M8{hs:List Int}(pw:hs.Pairwise (· < ·)){k:Nat}{h h' x:Int}(hk:hs[k+1]?=some h)(hk':hs[k]?=some h')(hx:x∈hs)(lt:x<h):x<=h':=by
 obtain⟨i,hi,rfl⟩:=P6 hx;obtain⟨l1,e1⟩:=NP.mp hk;obtain⟨l2,e2⟩:=NP.mp hk';have pg:=O9.mp pw;rcases QZ i k with c | c | c
 ·have:=pg i k hi l2 c
  omega
 ·subst c;omega
 ·by_cases c2:i=k+1
  ·subst c2;omega
  ·have:=pg (k+1) i l1 hi (by omega)
   omega
theorem no_way{m st goal:Nat}{f:Nat->Int}{hs:List Int}{ends:Int}(hst:st<2^m)(hen:f st<=ends/\f goal<=ends/\(ends=f st∨ends=f goal))(pw:hs.Pairwise (· < ·))(mem:∀ x,x∈hs↔(∃ n,n<2^m/\f n=x)/\ends<=x)(hg:goal<2^m){k:Nat}{h:Int}(hk:hs[k]?=some h)
  (no:∀(i:Nat)(h':Int),i<k->hs[i]?=some h'->¬ Rc m (fun _ y=>decide (f y<h'+1)) st goal) (lo:f st<h):¬ Rc m (fun _ y=>decide (f y<h)) st goal:=fun r=>by
 have ein:ends∈hs:=(mem ends).mpr ⟨hen.2.2.elim (fun e=>⟨st,hst,e.symm⟩) fun e=>⟨goal,hg,e.symm⟩,Pr _⟩;have he:ends<=h:=((mem h).mp (NV hk)).2;have lg:=r.low lo
 cases k with
 |zero =>
  obtain⟨i,hi,e⟩:=P6 ein;obtain⟨l1,e1⟩:=NP.mp hk;have h0:h<=ends:=by
   by_cases c:i=0
   ·subst c;omega
   ·have:=O9.mp pw 0 i l1 hi (RC c)
    omega
  rcases hen.2.2 with z | z<;>omega
 |succ k =>
  have l1:=(NP.mp hk).1;obtain⟨h',hk'⟩:∃ h',hs[k]?=some h':=⟨_,NQ (by omega)⟩
  refine no k h' (O3 _) hk' ?_;have all:∀ n,Rc m (fun _ y=>decide (f y<h)) st n->Rc m (fun _ y=>decide (f y<h'+1)) st n:=fun n r=>by
   induction r with
   |base=>exact .base
   | @step x p r2 hp hR ih =>
    refine .step ih hp (decide_eq_true ?_);have hR':f (x^^^2^p)<h:=of_decide_eq_true hR;by_cases c:ends<=f (x^^^2^p)
    ·have:=M8 pw hk hk' ((mem _).mpr ⟨⟨_,g8 (r2.lt hst) hp,rfl⟩,c⟩) hR'
     omega
    ·have he':ends<=h':=((mem h').mp (NV hk')).2
     omega
  exact all _ r
theorem G0{m:Nat}{R:Nat->Nat->Bool}{st:Nat}(hst:st<2^m)(hR:∀ x y,y<2^m->R x y=true):∀ goal,goal<2^m->Rc m R st goal:=by
 have go:∀(k:Nat)(goal:Nat),k<=m->goal<2^m->(∀ p,k<=p->(goal^^^st).testBit p=false)->Rc m R st goal:=fun k=>by
  induction k with
  |zero =>
   intro goal _ _ h;have:goal^^^st=0:=Qp fun i=>by rw[h i (O5 _),Q6]
   have e:goal=st:=by have:=congrArg (·^^^st) this;simpa[RB] using this
   rw[e];exact .base
  |succ k ih =>
   intro goal hk hg h;by_cases c:(goal^^^st).testBit k=true
   ·have hg2:=g8 (p:=k) hg (by omega)
    have r:=ih (goal^^^2^k) (by omega) hg2 fun p hp=>by
     rw[show goal^^^2^k^^^st=(goal^^^st)^^^2^k by rw[RB,Nat.xor_comm (2^k) st,← RB],RV,Qt]
     by_cases e:p=k
     ·subst e;rw[c,decide_eq_true rfl];rfl
     ·rw[h p (by omega),decide_eq_false (fun z=>e z.symm)];rfl
    have:=Rc.step r (show k<m by omega) (hR _ _ (by rw[K2];exact hg))
    rw[K2]at this;exact this
   ·refine ih goal (by omega) hg fun p hp=>?_
    by_cases e:p=k
    ·subst e;simpa using c
    ·exact h p (by omega)
 intro goal hg;refine go m goal (NY _) hg fun p hp=>?_;refine Nat.testBit_lt_two_pow (OO (Nat.xor_lt_two_pow hg hst) (Rm (by decide) hp))
def vn(TW TT PL PS WC:Addr):Sp:=fun vs H Q E=>(∃(p:Addr)(v u:V),vs = [.ref p,v,u]/\Wide WC H p/\E (.ref TW) none H)∨∃(p:Addr)(m st:Nat)(es:En)(ks:Kn)(z:Int),vs = [.ref p,.int (st:Int),.int z]/\WebC PL PS WC H p m es ks/\st<2^m/\Tb lqL lpL TT H /\
 ∀(l:Addr)(on:List Nat)(H':Hp),SmC H H'->Tb lqL lpL TT H'->H' l=some (.lst (on.map iV))->(z<=wT es ks st->on = [])->(wT es ks st<z->on.Pairwise (· < ·)/\∀ n,n∈on↔Rc m (fun _ y=>decide ((aM es ks m).getD y 0<z)) st n)->Q (.ref l) H'
section
variable{P:Program}{w:World}{K:NS}{mg:Str->Option Value}{base:Heap}
theorem DW:aA ["web","start","height","costs"] ["web","start","height"] (ah nU):=by ac_nf
theorem Kc{f f1 f2 TW TT PL PS WC:Addr}{fd d1 d2:FuncData} (F:Fun K "shore" "shore" nU f fd) (T:TxtC mg) (G_all_worths:CalX P w K mg base 5 "all_worths" ["web"] (uD TW PL PS WC) f1 d1) (G_come_to_below:Cal P w K mg base 3 "come_to_below" ["web","costs","start","height"] (qZ TT PL PS WC) f2 d2):FnOk P w K mg base (CXr P w) 6 f fd ["web","start","height"] (vn TW TT PL PS WC):=by
 refine F.okX DW (fun vs H Q E h=>?_) (fun cdv A outer s H vs Q E hr h=>?_)
 ·rcases h with⟨p,v,u,rfl,_⟩ | ⟨p,m,st,es,ks,z,rfl,_⟩
  ·rfl
  ·rfl
 refine⟨_,(af (av (i:=3) DW.nd rfl (Or.inl rfl) (gz G_all_worths.ok (hr.mono (by decide)) rfl G_all_worths.mg G_all_worths.kp G_all_worths.bn .nil mG rfl (aa (pv 0) ag)))
   (af (b9 (aE E3 (aN aH (pv 3) (pv 1) (fun _ _=>rfl)) (pv 2) (aK _)) (ao (aG (bj ag))) aR)
   (ao (aG (aw (uY rfl) (by rfl) T.n_sorted nH (aa (aB G_come_to_below.ok (hr.mono (by decide)) rfl G_come_to_below.mg G_come_to_below.kp G_come_to_below.bn .nil bb (aa (pv 0) (aa (pv 3) (aa (pv 1) (aa (pv 2) ag))))) ag)))))),?_⟩
 rcases h with⟨p,v,u,rfl,wd,kk⟩ | ⟨p,m,st,es,ks,z,rfl,wc,hs,tb,kk⟩
 ·exact⟨_,rfl,.inr ⟨p,rfl,wd,kk⟩⟩
 refine⟨_,rfl,.inl ⟨p,m,es,ks,rfl,wc,fun q H1 s1 nq hq=>?_⟩⟩;have stV:((aM es ks m).map V.int)[st]?=some (.int (wT es ks st)):=by rw[NZ,sL hs];rfl
 refine⟨_,rfl,_,rfl,q,_,_,_,rfl,rfl,SqL.of hq,aD stV,_,rfl,_,_,rfl,rfl,_,rfl,ite2 (fun c=>?_) (fun c=>?_)⟩
 ·have c':z<=wT es ks st:=of_decide_eq_true c
  refine⟨(by show 0<=sizeLine;exact O5 _),fun l hl=>?_⟩
  exact kk l [] _ (.of (s1.trans (ai hl _))) (cq tb (s1.trans (ai hl _))) ae (fun _=>rfl) fun y=>absurd c' (by omega)
 ·have c':wT es ks st<z:=by
   have:¬ z<=wT es ks st:=fun y=>c (decide_eq_true y);omega
  refine⟨_,rfl,_,rfl,_,rfl,_,rfl,p,q,m,st,es,ks,aM es ks m,z,rfl,wc.mono s1,hq,d8 _ _ _,hs,cq tb s1,fun d L H2 sm2 tb2 nd hd co al=>?_⟩;refine⟨d,kvL L,_,rfl,.inl hd,Eh L,fun l out hl pm pw=>?_⟩;obtain⟨on,rfl,pw2,mem⟩:=ye co.nd pm pw;rw[LU];exact kk l on _ ((SmC.of s1).trans (sm2.trans (.of (ai hl _)))) (cq tb2 (ai hl _)) ae (fun y=>absurd c' (by omega)) fun _=>⟨pw2,fun n=>(mem n).trans (al n)⟩
end
structure TxtK(mg:Str->Option Value):Prop extends TxtC mg where
 n_reversed:mg "reversed" = none
 n_set:mg "set" = none
def A3:Sp:=fun vs H Q _=>∃(d:Addr)(m st goal:Nat)(R:Nat->Nat->Bool)(L:Ls),vs = [.ref d,.int (goal:Int)]/\H d=some (.dK (kvL L))/\Come m R st L/\m<=10/\goal∈L.map (·.1) /\
 ∀(q:Addr)(l:List Nat)(H':Hp),Same H H'->H' q=some (.lst (l.map iV))->WayT m st goal l->(∀ n∈l,n∈L.map (·.1))->Q (.ref q) H'
def vt(TT PL PS WC:Addr):Sp:=fun vs H Q _=>∃(p q qh:Addr)(m st goal:Nat)(es:En)(ks:Kn)(cs hs:List Int),vs = [.ref p,.ref q,.ref qh,.int (st:Int),.int (goal:Int)]/\WebC PL PS WC H p m es ks/\H q=some (.lst (cs.map V.int))/\cs.length=2^m/\H qh=some (.lst (hs.map V.int))/\hs.Pairwise (· < ·)/\0<hs.length/\hs.length<=1024/\st<2^m/\Tb lqL lpL TT H/\Rc m (fun _ y=>decide (cs.getD y 0<hs.getD (hs.length-1) 0+1)) st goal /\
 ∀(k:Nat)(h:Int)(H':Hp),SmC H H'->Tb lqL lpL TT H'->hs[k]?=some h->Rc m (fun _ y=>decide (cs.getD y 0<h+1)) st goal->(∀(i:Nat)(h':Int),i<k->hs[i]?=some h'->¬ Rc m (fun _ y=>decide (cs.getD y 0<h'+1)) st goal)->Q (.int h) H'
def vy(TW TT PL PS WC:Addr):Sp:=fun vs H Q E=>(∃(p:Addr)(v u:V),vs = [.ref p,v,u]/\Wide WC H p/\E (.ref TW) none H)∨∃(p:Addr)(m st goal:Nat)(es:En)(ks:Kn),vs = [.ref p,.int (st:Int),.int (goal:Int)]/\WebC PL PS WC H p m es ks/\st<2^m/\goal<2^m/\Tb lqL lpL TT H /\
 ∀(t q:Addr)(l:List Nat)(h:Int)(H':Hp),SmC H H'->Tb lqL lpL TT H'->H' t=some (.tup [.int h,.ref q])->H' q=some (.lst (l.map iV))->WayT m st goal l->(∀ n∈l,wT es ks n<=h)->(wT es ks st<h->¬ Rc m (fun _ y=>decide ((aM es ks m).getD y 0<h)) st goal)->Q (.ref t) H'
section
variable{P:Program}{w:World}{K:NS}{mg:Str->Option Value}{base:Heap}
theorem mK:aA ["ahead","goal","back","here"] ["ahead","goal"] (ah ka):=by ac_nf
theorem J2{f:Addr}{fd:FuncData} (F:Fun K "way_to" "way_to" ka f fd) (T:TxtK mg):FnOk P w K mg base CX0 1 f fd ["ahead","goal"] A3:=by
 refine F.ok mK (fun vs H Q E h=>?_) (fun cdv A outer s H vs Q E hr h=>?_)
 ·obtain⟨d,m,st,goal,R,L,rfl,_⟩:=h;rfl
 obtain⟨d,m,st,goal,R,L,rfl,hd,co,m10,hg,kk⟩:=h;have hu:=FH hr;obtain⟨q1,q2,q3,q4⟩:=mS m10
 refine⟨_,(af (av (i:=2) mK.nd rfl (Or.inl rfl) (bj ag))
   (af (av (i:=3) mK.nd rfl (Or.inl rfl) (pv 1))
   (af (mR PassesOwn.never (aE MI (pv 3) Hk (aK _)) (af (bp (iF OE OQ OP bx (pv 2) (aa (pv 3) ag)))
   (ao (av (i:=3) mK.nd rfl (Or.inl rfl) (BK hu (pv 0) (pv 3) (fun _ _=>rfl))))))
   (ao (aG (E1 rfl rfl T.n_list rfl T.n_reversed (pv 2))))))),?_⟩
 refine⟨(by show 0<=sizeLine;exact O5 _),fun q hq=>?_⟩
 have sq:=ai hq (.lst []);obtain⟨i0,b0⟩:=Bk.start (m:=m) (st:=st) (R:=R) hg;have nq:H q=none:=hq;have dq:d≠q:=fun z=>by rw[← z,hd]at hq;cases hq
 refine⟨_,rfl,fun mm σ H'=>∃(b:List Nat)(o:Option Nat),σ = [some (.ref d),some (.int (goal:Int)),some (.ref q),some (oNV o)]/\Same H H'/\H' q=some (.lst (b.map iV))/\Bk m st goal L b o mm,⟨_,[],some goal,rfl,sq,ae,b0⟩,?_⟩;rintro mm σ H2 ⟨b,o,rfl,s2,hq2,bk⟩;refine⟨_,rfl,rfl,_,rfl,ite2 (fun c=>?_) (fun c=>?_)⟩
 ·obtain⟨x,rfl⟩:∃ x,o=some x:=by
   cases o with
   |none=>exact absurd c (by simp[oNV])
   |some x=>exact⟨x,rfl⟩
  obtain⟨o2,i2,⟨j,hj⟩,lt,bk2⟩:=bk.step co;have bl:b.length<=1024:=O6 (fJ (Oh.mp bk.nd).1 fun n hn=>co.lt n (bk.sub n (OH _ hn))) (by omega)
  refine⟨fun σ' H'=>∃(mm':Nat)(b:List Nat)(o:Option Nat),mm'<mm/\σ' = [some (.ref d),some (.int (goal:Int)),some (.ref q),some (oNV o)]/\Same H H'/\H' q=some (.lst (b.map iV))/\Bk m st goal L b o mm',fun σ' H' ⟨mm',b,o,lt,r⟩=>⟨mm',lt,b,o,r⟩,?_⟩;refine⟨_,rfl,.inl ⟨rfl,_,SqL.of hq2⟩,_,rfl,q,_,_,rfl,rfl,hq2,(by rw[NR];exact PU bl (by decide)),?_⟩
  have hd2:(upd H2 q (.lst (b.map iV++[V.int (x:Int)]))) d=some (.dK (kvL L)):=by rw[ak dq];exact s2 _ _ hd
  have dg:=DGet.k (k:=Sum.inl (x:Int)) hd2;rw[kvL_at co.nd hj]at dg;refine⟨_,rfl,_,rfl,d,_,rfl,dg,i2,b++[x],o2,lt,rfl,bf s2 nq _,?_,bk2⟩;rw[ae,Oo];rfl
 ·obtain rfl:o=none:=by
   cases o with
   |none=>rfl
   |some x=>exact absurd (by simp[oNV]) c
  obtain⟨wy,sub⟩:=bk.fin co;refine⟨_,rfl,q,_,rfl,SqL.of hq2,fun q' hq'=>?_⟩;exact kk q' b.reverse _ (s2.trans (ai hq' _)) (by rw[ae,List.map_reverse]) wy sub
theorem bI:aA ["web","costs","heights","start","goal","lower","upper","middle"] ["web","costs","heights","start","goal"] (ah bY):=by ac_nf
theorem Hw{f f1 TT PL PS WC:Addr}{fd d1:FuncData} (F:Fun K "least_height" "least_height" bY f fd) (T:TxtC mg) (G_come_to_below:Cal P w K mg base 3 "come_to_below" ["web","costs","start","height"] (qZ TT PL PS WC) f1 d1):FnOk P w K mg base CX0 4 f fd ["web","costs","heights","start","goal"] (vt TT PL PS WC):=by
 refine F.ok bI (fun vs H Q E h=>?_) (fun cdv A outer s H vs Q E hr h=>?_)
 ·obtain⟨p,q,qh,m,st,goal,es,ks,cs,hs,rfl,_⟩:=h;rfl
 obtain⟨p,q,qh,m,st,goal,es,ks,cs,hs,rfl,wc,hq,cl,hqh,pw,h0,h1,hst,tb,top,kk⟩:=h;have hu:=FH hr
 refine⟨_,(af (av (i:=5) bI.nd rfl (Or.inl rfl) aj)
   (af (av (i:=6) bI.nd rfl (Or.inl rfl) (aq kS (aw ar (by rfl) T.n_len bo (aa (pv 2) ag)) aj))
   (af (mR PassesOwn.never (aE E2 (pv 5) (pv 6) (aK _)) (af (av (i:=7) bI.nd rfl (Or.inl rfl) (aq bu (aq bq (pv 5) (pv 6)) aj))
   (ao (b9 (G8 (pc_din hu (pv 4) (aB G_come_to_below.ok (hr.mono (by decide)) rfl G_come_to_below.mg G_come_to_below.kp G_come_to_below.bn .nil bb (aa (pv 0) (aa (pv 1) (aa (pv 3) (aa (aq bq (aN aH (pv 2) (pv 7) (fun _ _=>rfl)) aj) ag))))))) (ao (av (i:=6) bI.nd rfl (Or.inl rfl) (pv 7))) (ao (av (i:=5) bI.nd rfl (Or.inl rfl) (aq bq (pv 7) aj)))))))
   (ao (aG (aN aH (pv 2) (pv 5) (fun _ _=>rfl))))))),?_⟩
 have hl:(hs.map V.int).length=hs.length:=NR _;refine⟨_,rfl,qh,_,rfl,.inl (SqL.of hqh),_,_,rfl,rfl,?_⟩;have e0:((hs.map V.int).length:Int)-1=((hs.length-1:Nat):Int):=by omega
 dsimp only;rw[e0];have hV:∀ i,i<hs.length->(hs.map V.int)[i]?=some (.int (hs.getD i 0)):=fun i hi=>by rw[NZ,OB,NQ hi];rfl
 refine⟨fun mm σ H'=>∃(lo up:Nat)(v7:Option V),mm=up-lo/\σ = [some (.ref p),some (.ref q),some (.ref qh),some (.int (st:Int)),some (.int (goal:Int)),some (.int (lo:Int)),some (.int (up:Int)),v7]/\SmC H H'/\Tb lqL lpL TT H'/\lo<=up/\up<hs.length/\Rc m (fun _ y=>decide (cs.getD y 0<hs.getD up 0+1)) st goal/\∀ i,i<lo->¬ Rc m (fun _ y=>decide (cs.getD y 0<hs.getD i 0+1)) st goal,⟨_,0,hs.length-1,_,rfl,rfl,.of fun _ _ e=>e,tb,O5 _,by omega,top,fun i hi=>absurd hi (P5 _)⟩,?_⟩
 rintro mm σ H2 ⟨lo,up,v7,rfl,rfl,sm2,tb2,lu,ul,rc,no⟩;have hqh2:=sm2.lst hqh;refine⟨_,rfl,_,rfl,_,_,rfl,rfl,_,rfl,ite2 (fun c=>?_) (fun c=>?_)⟩
 ·have c':lo<up:=by have:(lo:Int)<(up:Int):=of_decide_eq_true c;omega
  refine⟨fun σ' H'=>∃(lo' up':Nat)(v7:Option V),up'-lo'<up-lo/\σ' = [some (.ref p),some (.ref q),some (.ref qh),some (.int (st:Int)),some (.int (goal:Int)),some (.int (lo':Int)),some (.int (up':Int)),v7]/\SmC H H'/\Tb lqL lpL TT H'/\lo'<=up'/\up'<hs.length/\Rc m (fun _ y=>decide (cs.getD y 0<hs.getD up' 0+1)) st goal/\∀ i,i<lo'->¬ Rc m (fun _ y=>decide (cs.getD y 0<hs.getD i 0+1)) st goal,fun σ' H' ⟨lo',up',v7,a1,a2⟩=>⟨_,a1,lo',up',v7,rfl,a2⟩,?_⟩;refine⟨_,rfl,_,rfl,_,_,rfl,rfl,_,_,rfl,rfl,⟨by decide,by decide⟩,?_⟩
  dsimp only;rw[show((lo:Int)+(up:Int))/2=(((lo+up)/2:Nat):Int) by omega]
  have m1:(lo+up)/2<up:=by omega
  have m2:lo<=(lo+up)/2:=by omega
  generalize (lo+up)/2=mid at m1 m2;refine⟨_,rfl,_,rfl,_,rfl,_,rfl,_,rfl,_,rfl,qh,_,_,_,rfl,rfl,SqL.of hqh2,aD (hV mid (by omega)),_,_,rfl,rfl,p,q,m,st,es,ks,cs,hs.getD mid 0+1,rfl,wc.sm sm2,sm2.lst hq,cl,hst,tb2,fun d L H3 sm3 tb3 nd hd co al=>?_⟩
  refine⟨d,_,rfl,DGet.k (k:=Sum.inl (goal:Int)) hd,_,rfl,?_⟩;rw[Cn L goal];have sm:=sm2.trans sm3;refine ite2 (fun c2=>?_) (fun c2=>?_)
  ·have r:=(al goal).mp (of_decide_eq_true c2)
   exact⟨_,rfl,lo,mid,_,by omega,rfl,sm,tb3,m2,by omega,r,no⟩
  ·refine⟨_,rfl,_,_,rfl,rfl,mid+1,up,some (.int (mid:Int)),by omega,?_,sm,tb3,by omega,ul,rc,fun i hi r=>?_⟩
   ·dsimp only;rw[show(mid:Int)+1=((mid+1:Nat):Int) by omega]
    rfl
   ·refine c2 (decide_eq_true ((al goal).mpr (r.mono fun x y hy=>decide_eq_true ?_)));have h1:cs.getD y 0<hs.getD i 0+1:=of_decide_eq_true hy;have h2:hs.getD i 0<=hs.getD mid 0:=by
     by_cases e:i=mid
     ·subst e;exact Pr _
     ·have:=O9.mp pw i mid (by omega) (by omega) (by omega)
      rw[OB,OB,NQ (show i<hs.length by omega),NQ (show mid<hs.length by omega)]
      exact PJ this
    omega
 ·have c':lo=up:=by
   have:¬ (lo:Int)<(up:Int):=fun z=>c (decide_eq_true z);omega
  subst c';have at_:∀ i,i<hs.length->hs[i]?=some (hs.getD i 0):=fun i hi=>by rw[OB,NQ hi];rfl
  refine⟨_,rfl,_,rfl,qh,_,_,_,rfl,rfl,SqL.of hqh2,aD (hV lo ul),?_⟩;refine kk lo _ H2 sm2 tb2 (at_ lo ul) rc fun i h' hi e=>?_;rw[at_ i (by omega)]at e
  cases e
  exact no i hi
theorem mM:aA ["web","start","goal","costs","ends","heights","height"] ["web","start","goal"] (ah nW):=by ac_nf
theorem Km{f f1 f2 f3 f4 TW TT PL PS WC:Addr}{fd d1 d2 d3 d4:FuncData} (F:Fun K "climb" "climb" nW f fd) (T:TxtK mg) (G_all_worths:CalX P w K mg base 5 "all_worths" ["web"] (uD TW PL PS WC) f1 d1) (G_come_to_below:Cal P w K mg base 3 "come_to_below" ["web","costs","start","height"] (qZ TT PL PS WC) f2 d2) (G_least_height:Cal P w K mg base 4 "least_height" ["web","costs","heights","start","goal"] (vt TT PL PS WC) f3 d3) (G_way_to:Cal P w K mg base 1 "way_to" ["ahead","goal"] A3 f4 d4):FnOk P w K mg base (CXr P w) 6 f fd ["web","start","goal"] (vy TW TT PL PS WC):=by
 refine F.okX mM (fun vs H Q E h=>?_) (fun cdv A outer s H vs Q E hr h=>?_)
 ·rcases h with⟨p,v,u,rfl,_⟩ | ⟨p,m,st,goal,es,ks,rfl,_⟩
  ·rfl
  ·rfl
 have hu:=FH hr
 refine⟨_,(af (av (i:=3) mM.nd rfl (Or.inl rfl) (gz G_all_worths.ok (hr.mono (by decide)) rfl G_all_worths.mg G_all_worths.kp G_all_worths.bn .nil mG rfl (aa (pv 0) ag)))
   (af (av (i:=4) mM.nd rfl (Or.inr rfl) (aw (sU rfl) (by rfl) T.n_max IQ (aa (aN aH (pv 3) (pv 1) (fun _ _=>rfl)) (aa (aN aH (pv 3) (pv 2) (fun _ _=>rfl)) ag))))
   (af (av (i:=5) mM.nd rfl (Or.inl rfl) (aw (F1 rfl rfl rfl) (by rfl) T.n_sorted nH (aa (fF (IJ rfl rfl rfl rfl) (by rfl) T.n_set bt_set (aa (qN rfl (fr:=[("ends",4)]) (xs:=["cost"]) (oY.of (by rfl) (by decide) (by rfl) (by decide) (by intro p hp;simp only[NU,O4,or_false]at hp;rcases hp with rfl<;>exact⟨rfl,rfl⟩) (by decide) (by intro p hp;simp only[NU,O4,or_false]at hp;rcases hp with rfl<;>rfl)) (br (pv 3)) (fun C ex s H=>(aX (i:=0) (show(["cost","ends"]:List Str).Nodup from by decide) rfl (Or.inl rfl))) (fun C ex s H=>(Bv (aE E3 (pv 0) (pv 1) (aK _)))) (fun C ex s H=>(pv 0))) ag)) ag)))
   (af (av (i:=6) mM.nd rfl (Or.inl rfl) (aB G_least_height.ok (hr.mono (by decide)) rfl G_least_height.mg G_least_height.kp G_least_height.bn .nil bb (aa (pv 0) (aa (pv 3) (aa (pv 5) (aa (pv 1) (aa (pv 2) ag)))))))
   (ao (aG (i9 (aa (pv 6) (aa (aB G_way_to.ok (hr.mono (by decide)) rfl G_way_to.mg G_way_to.kp G_way_to.bn .nil bb (aa (aB G_come_to_below.ok (hr.mono (by decide)) rfl G_come_to_below.mg G_come_to_below.kp G_come_to_below.bn .nil bb (aa (pv 0) (aa (pv 3) (aa (pv 1) (aa (aq bq (pv 6) aj) ag))))) (aa (pv 2) ag))) ag))))))))),?_⟩
 rcases h with⟨p,v,u,rfl,wd,kk⟩ | ⟨p,m,st,goal,es,ks,rfl,wc,hst,hg,tb,kk⟩
 ·exact⟨_,rfl,.inr ⟨p,rfl,wd,kk⟩⟩
 have m10:=wc.m10;obtain⟨w1,w2,w3,w4⟩:=mS m10;have cl:=d8 es ks m;have cV:∀ n,n<2^m->((aM es ks m).map V.int)[n]?=some (.int (wT es ks n)):=fun n hn=>by rw[NZ,sL hn];rfl
 refine⟨_,rfl,.inl ⟨p,m,es,ks,rfl,wc,fun q H1 s1 nq hq=>?_⟩⟩;refine⟨_,rfl,_,rfl,q,_,_,_,rfl,rfl,SqL.of hq,aD (cV st hst),_,rfl,_,rfl,q,_,_,_,rfl,rfl,SqL.of hq,aD (cV goal hg),_,_,rfl,?_⟩;have hen:wT es ks st<=(if wT es ks goal > wT es ks st then wT es ks goal else wT es ks st)/\wT es ks goal<=(if wT es ks goal > wT es ks st then wT es ks goal else wT es ks st)/\((if wT es ks goal > wT es ks st then wT es ks goal else wT es ks st)=wT es ks st∨(if wT es ks goal > wT es ks st then wT es ks goal else wT es ks st)=wT es ks goal):=by
  split
  ·exact⟨by omega,by omega,.inr rfl⟩
  ·exact⟨by omega,by omega,.inl rfl⟩
 generalize (if wT es ks goal > wT es ks st then wT es ks goal else wT es ks st)=en at hen;generalize hcs:aM es ks m=cs at hq cl cV;have fw:∀ n,n<2^m->cs.getD n 0=wT es ks n:=fun n hn=>by rw[← hcs];exact cz hn
 refine⟨_,rfl,q,rfl,⟨_,SqL.of hq⟩,uP (K:=K) (xs:=cs.map V.int) (fun i zs H2=>H2=H1/\zs=((cs.take i).filter (fun x=>decide (en<=x))).map V.int) (by rw[NR,cl];exact O6 (show 2^m<=1024 by omega) (by decide)) ⟨rfl,rfl⟩ (fun i zs H2 _ z=>by rw[z.1];exact SqL.of hq) ?_ ?_ (fun n zs H7 z=>by
  rw[z.2,NR];have:=P8 (fun x=>decide (en<=x)) (cs.take n);rw[Ou]at this
  omega)⟩
 ·rintro i x zs H2 hx ⟨rfl,rfl⟩;rw[NZ]at hx;obtain⟨x,hx',rfl⟩:=O0.mp hx;have et:cs.take (i+1)=cs.take i++[x]:=by rw[O7,hx'];rfl
  refine⟨rfl,_,rfl,_,rfl,_,_,rfl,rfl,_,rfl,ite2 (fun c=>?_) (fun c=>?_)⟩
  ·have c':en<=x:=of_decide_eq_true c
   refine⟨_,rfl,rfl,?_⟩;rw[et,PX,Qw (p:=fun x=>decide (en<=x)) (decide_eq_true c'),Qc,Oo];rfl
  ·have c':¬ en<=x:=fun z=>c (decide_eq_true z)
   refine⟨rfl,?_⟩;rw[et,PX,Qx (p:=fun x=>decide (en<=x)) (by rw[decide_eq_false c'];exact Ox),Qc,Pa]
 rintro zs H2 ⟨rfl,rfl⟩ D hD;rw[NR,Pb];have fl:=P8 (fun x=>decide (en<=x)) cs;refine⟨D,_,rfl,SqL.of ae,by omega,fun a ha=>?_⟩
 have sD:=ai hD (.lst ((cs.filter (fun x=>decide (en<=x))).map V.int));have sa:=ai ha (setO P w a ((cs.filter (fun x=>decide (en<=x))).foldl addN []));refine⟨a,_,rfl,ae,fun l hs hl mem0 pw=>?_⟩;have sl:=ai hl (.lst (hs.map V.int));have mem:∀ x,x∈hs↔(∃ n,n<2^m/\cs.getD n 0=x)/\en<=x:=fun x=>by
  rw[mem0,Lr,Ri];constructor
  ·rintro(z | ⟨z1,z2⟩)
   ·cases z
   ·obtain⟨n,hn,e⟩:=P6 z1;refine⟨⟨n,by omega,?_⟩,of_decide_eq_true z2⟩
    rw[OB,NQ hn];exact e
  ·rintro⟨⟨n,hn,e⟩,z⟩;refine .inr ⟨?_,decide_eq_true z⟩;rw[OB,NQ (show n<cs.length by omega)]at e
   rw[← show cs[n]=x from e];exact Pj _
 have hen':cs.getD st 0<=en/\cs.getD goal 0<=en/\(en=cs.getD st 0∨en=cs.getD goal 0):=by rw[fw st hst,fw goal hg];exact hen
 have ein:en∈hs:=(mem en).mpr ⟨hen'.2.2.elim (fun e=>⟨st,hst,e.symm⟩) fun e=>⟨goal,hg,e.symm⟩,Pr _⟩;have h0:0<hs.length:=Qi ein;have h1:hs.length<=1024:=by
  have nd:hs.Nodup:=pw.imp fun h=>Int.ne_of_lt h;have:=List.Nodup.length_le_of_subset (l₂:=cs) nd fun x hx=>by
   obtain⟨⟨n,hn,e⟩,_⟩:=(mem x).mp hx;rw[OB,NQ (show n<cs.length by omega)]at e
   rw[← show cs[n]=x from e];exact Pj _
  omega
 have top:Rc m (fun _ y=>decide (cs.getD y 0<hs.getD (hs.length-1) 0+1)) st goal:=by
  have mx:∀ x∈hs,x<=hs.getD (hs.length-1) 0:=fun x hx=>by
   obtain⟨i,hi,rfl⟩:=P6 hx;rw[OB,NQ (show hs.length-1<hs.length by omega)]
   show hs[i]<=hs[hs.length-1];by_cases e:i=hs.length-1
   ·subst e;exact Pr _
   ·exact PJ (O9.mp pw i (hs.length-1) hi (by omega) (by omega))
  refine G0 hst (fun x y hy=>decide_eq_true ?_) goal hg;have e1:=mx en ein;by_cases c:en<=cs.getD y 0
  ·have:=mx _ ((mem _).mpr ⟨⟨y,hy,rfl⟩,c⟩)
   omega
  ·omega
 have s2:=(sD.trans sa).trans sl;have sm2:=SmC.of (s1.trans s2);refine⟨_,rfl,_,rfl,_,rfl,_,rfl,_,rfl,p,q,l,m,st,goal,es,ks,cs,hs,rfl,wc.sm sm2,s2 _ _ hq,cl,ae,pw,h0,h1,hst,cq tb (s1.trans s2),top,fun k h H3 sm3 tb3 hk rc no=>?_⟩;have sm23:=sm2.trans sm3;refine⟨_,rfl,_,rfl,_,rfl,_,rfl,_,rfl,_,_,rfl,rfl,p,q,m,st,es,ks,cs,h+1,rfl,wc.sm sm23,sm3.lst (s2 _ _ hq),cl,hst,tb3,fun d L H4 sm4 tb4 nd hd co al=>?_⟩;refine⟨_,rfl,d,m,st,goal,_,L,rfl,hd,co,m10,(al goal).mpr rc,fun qw lw H5 s5 hqw wy sub=>⟨(by show 2<=sizeLine;decide),fun t ht=>?_⟩⟩
 have st5:=ai ht (.tup [V.int h,V.ref qw]);have he:en<=h:=((mem h).mp (NV hk)).2;refine kk t qw lw h _ (sm23.trans (sm4.trans (.of (s5.trans st5)))) (cq tb4 (s5.trans st5)) ae (st5 _ _ hqw) wy (fun n hn=>?_) fun lo=>?_
 ·have r:=(al n).mp (sub n hn)
  have:=r.low (f:=fun y=>cs.getD y 0) (by show cs.getD st 0<h+1;omega)
  have h2:cs.getD n 0<h+1:=this;rw[fw n (wy.lt n hn)]at h2;omega
 ·rw[hcs];refine no_way (f:=fun y=>cs.getD y 0) hst hen' pw mem hg hk no ?_;show cs.getD st 0<h;rw[fw st hst];exact lo
end
theorem xO:bootBuiltins "ValueError" = some (.type "ValueError"):=by decide
theorem F2{X:Cx}:jf X (.builtin "isinstance") (fun xs H Q=>∃ x c T b,xs = [.ref x,.ty T]/\H x=some (excO x c)/\ErC X.K c/\Pt X.K (.ref c) (.type T)=some b/\Q (.bl b) H):=by
 intro pins s σ H xs us Q I r h;obtain⟨x,c,T,b,rfl,hx,ec,ek,q⟩:=h;obtain⟨v1,v2,rfl,r1,r2⟩:=EG r
 cases r1
 cases r2
 obtain⟨p,_,_⟩:=(show bN X.prog X.w H s.heap x (excO x c) from I.hok x _ hx);exact Pq (Ei ec) I.kIn p ek (fun z=>nomatch z) fun tk=>⟨.bl b,H,I.tok tk,rfl,q⟩
structure TxtQ(mg:Str->Option Value)(TW TM TR:Addr):Prop extends TxtC mg where
 g_TooWide:mg "TooWide" = some (.ref TW)
 g_TooMany:mg "TooMany" = some (.ref TM)
 g_TooRough:mg "TooRough" = some (.ref TR)
 n_ValueError:mg "ValueError" = none
def Mu(TW WC:Addr):Sp:=fun vs H Q E=>∃(p:Addr)(wh:Int)(v u:V),vs = [.ref p,.int wh,v,u]/\Wide WC H p/\E (.ref TW) none H
def GJ(WC:Addr):Sp:=fun vs H Q _=>∃(p:Addr)(wh a b:Int),vs = [.ref p,.int wh,.int a,.int b]/\Wide WC H p/\∀ H',Same H H'->Q (.bl true) H'
section
variable{P:Program}{w:World}{K:NS}{mg:Str->Option Value}{base:Heap}
theorem yx:aA ["web","which","start","goal"] ["web","which","start","goal"] (ah dX):=by ac_nf
theorem ok_ask{f f1 f2 f3 f4 TW TT T2 PL PS WC:Addr}{fd d1 d2 d3 d4:FuncData} (F:Fun K "_law_asked" "_law_asked" dX f fd) (G_resting:CalX P w K mg base 6 "resting" ["web"] (jk TW PL PS WC) f1 d1) (G_climb:CalX P w K mg base 6 "climb" ["web","start","goal"] (vy TW TT PL PS WC) f2 d2) (G_shore:CalX P w K mg base 6 "shore" ["web","start","height"] (vn TW TT PL PS WC) f3 d3) (G_falls:CalX P w K mg base 6 "falls" ["web","start"] (vx TW T2 PL PS WC) f4 d4):FnOk P w K mg base (CXr P w) 7 f fd ["web","which","start","goal"] (Mu TW WC):=by
 refine F.okX yx (fun vs H Q E h=>?_) (fun cdv A outer s H vs Q E hr h=>?_)
 ·obtain⟨p,wh,v,u,rfl,_⟩:=h;rfl
 obtain⟨p,wh,v,u,rfl,wd,kk⟩:=h
 refine⟨_,(af (b9 (aE gW (pv 1) aj (aK _)) (ao (aG (gz G_resting.ok (hr.mono (by decide)) rfl G_resting.mg G_resting.kp G_resting.bn .nil mG rfl (aa (pv 0) ag)))) aR)
   (af (b9 (aE gW (pv 1) aj (aK _)) (ao (aG (gz G_climb.ok (hr.mono (by decide)) rfl G_climb.mg G_climb.kp G_climb.bn .nil mG rfl (aa (pv 0) (aa (pv 2) (aa (pv 3) ag)))))) aR)
   (af (b9 (aE gW (pv 1) aj (aK _)) (ao (aG (gz G_shore.ok (hr.mono (by decide)) rfl G_shore.mg G_shore.kp G_shore.bn .nil mG rfl (aa (pv 0) (aa (pv 2) (aa (pv 3) ag)))))) aR)
   (ao (aG (gz G_falls.ok (hr.mono (by decide)) rfl G_falls.mg G_falls.kp G_falls.bn .nil mG rfl (aa (pv 0) (aa (pv 2) ag)))))))),?_⟩
 refine⟨_,rfl,rfl,_,rfl,ite2 (fun c=>?_) (fun c=>?_)⟩
 ·exact⟨_,rfl,.inr ⟨p,rfl,wd,kk⟩⟩
 refine⟨_,rfl,rfl,_,rfl,ite2 (fun c=>?_) (fun c=>?_)⟩
 ·exact⟨_,rfl,_,rfl,_,rfl,.inl ⟨p,v,u,rfl,wd,kk⟩⟩
 refine⟨_,rfl,rfl,_,rfl,ite2 (fun c=>?_) (fun c=>?_)⟩
 ·exact⟨_,rfl,_,rfl,_,rfl,.inl ⟨p,v,u,rfl,wd,kk⟩⟩
 ·exact⟨_,rfl,_,rfl,.inl ⟨p,v,rfl,wd,kk⟩⟩
theorem de:aA ["web","which","start","goal","found","e"] ["web","which","start","goal"] (ah bZ):=by ac_nf
theorem MK{f f1 FE TW TM TR WC:Addr}{fd d1:FuncData} (F:Fun K "_law_too_wide" "_law_too_wide" bZ f fd) (T:TxtQ mg TW TM TR) (X_FloorError:ErrC K mg "FloorError" FE) (X_TooWide:ErrC K mg "TooWide" TW) (mTF:PZ K TW (.ref FE)=some true) (eT:ErC K TW) (kTM:Pt K (.ref TW) (.ref TM)=some false) (kTR:Pt K (.ref TW) (.ref TR)=some false) (kTV:Pt K (.ref TW) (.type "ValueError")=some true)
  (G_law_asked:CalX P w K mg base 7 "_law_asked" ["web","which","start","goal"] (Mu TW WC) f1 d1):FnOk P w K mg base CX0 8 f fd ["web","which","start","goal"] (GJ WC):=by
 have hCs:∀ c,c=TW->ExC K c/\PZ K c (.ref FE)=some true:=fun c hc=>by subst hc;exact⟨X_TooWide.ec,mTF⟩
 refine F.ok de (fun vs H Q E h=>?_) (fun cdv A outer s H vs Q E hr h=>?_)
 ·obtain⟨p,wh,a,b,rfl,_⟩:=h;rfl
 obtain⟨p,wh,a,b,rfl,wd,kk⟩:=h
 refine⟨_,(af (av (i:=4) de.nd rfl (Or.inl rfl) Hk)
   (af (JI (ie:=5) (Cs:=(fun c=>c=TW)) rfl rfl rfl de.nd rfl rfl rfl X_FloorError.mg X_FloorError.ec hCs (fun pins XE W ws=>(ao (bp (JU G_law_asked.ok (hr.mono (by decide)) rfl G_law_asked.mg G_law_asked.kp G_law_asked.bn .nil ws rfl (aa (pv 0) (aa (pv 1) (aa (pv 2) (aa (pv 3) ag)))))))) (fun v=>(ao (av (i:=4) de.nd rfl (Or.inl rfl) (pv 5)))))
   (af (b9 (PW.pt (G4 (uJ (mQ (aw IL (by rfl) T.n_isinstance bT (aa (pv 4) (aa (vY (v:=.ref _) rfl T.g_TooWide rfl) ag))))) (yC (uJ (mQ (aw F2 (by rfl) T.n_isinstance bT (aa (pv 4) (aa (vZ (v:=.ty "ValueError") rfl T.n_ValueError xO rfl) ag)))))))) (ao (aG BL)) aR)
   (ao (aG (LK (Hj (aw Ai (by rfl) T.n_isinstance bT (aa (pv 4) (aa (vY (v:=.ref _) rfl T.g_TooMany rfl) ag)))) (LG (Hj (aw Ai (by rfl) T.n_isinstance bT (aa (pv 4) (aa (vY (v:=.ref _) rfl T.g_TooRough rfl) ag))))))))))),?_⟩
 refine⟨_,rfl,_,rfl,_,rfl,_,rfl,p,wh,_,_,rfl,wd,TW,rfl,rfl,fun x hx=>?_⟩;refine⟨_,rfl,?_⟩;refine⟨_,rfl,x,TW,rfl,ae,_,rfl,iteF ?_⟩;refine⟨_,rfl,x,TW,_,true,rfl,ae,eT,kTV,_,rfl,iteF ?_⟩;refine⟨_,rfl,x,TW,TM,false,rfl,ae,eT,kTM,_,rfl,_,rfl,ite2 (fun _=>?_) (fun c=>absurd rfl c)⟩;exact⟨_,rfl,x,TW,TR,false,rfl,ae,eT,kTR,_,rfl,kk _ (ai hx _)⟩
end
theorem CR.from{f:Nat->Nat}{N:Nat}{r:List Nat}(h:CR f N r){d:Nat}(hd:d∈r):∃ tail,CR f N (d::tail)/\iy f d tail d:=by
 obtain⟨A,B,rfl⟩:=Qy hd;have h2:=h.turn (A:=A) (B:=d::B) (by simp)
 obtain⟨x,l,e,c⟩:=h2.ch;rw[PY]at e
 cases e
 exact⟨B++A,h2,c⟩
def esP(k:Nat):En:=(Oz (k+1)).map fun i=>(i,i+1)
def tsP(k:Nat):List (List Nat):=([0]::(Oz k).map fun i=>[i,i+1])++[[k]]
theorem bC(k:Nat):(esP k).length=k+1:=by unfold esP;rw[NR,OR]
theorem K3(k:Nat):esP (k+1)=esP k++[(k+1,k+2)]:=by unfold esP;rw[Pc,Oo];rfl
theorem Jp(k:Nat):tsP (k+1)=(tsP k).set (k+1) [k,k+1]++[[k+1]]:=by
 unfold tsP;rw[Pc,Oo];have hl:([0]::(Oz k).map fun i=>[i,i+1]).length=k+1:=by rw[OJ,NR,OR]
 rw[QE _ _ (by rw[hl];exact NY _),hl,OA]
 rfl
theorem CD:∀ k,Gr (k+2) (esP k) (tsP k):=by
 intro k;induction k with
 |zero=>exact LV
 |succ k g =>
  have el:=bC k;obtain⟨rs,pt,_⟩:=g.part;have hlt:2*k<2*(esP k).length:=by omega
  obtain⟨r,hr,hd'⟩:=OY.mp (pt.all (2*k) hlt);obtain⟨tail,c1,c2⟩:=(pt.cr r hr).from hd';have e0:(esP k)[k]?=some (k,k+1):=by unfold esP;rw[NZ,Ph (O3 _)];rfl
  have h1:hd (esP k) (2*k)=k+1:=by
   unfold hd;rw[show 2*k/2=k by omega,e0]
   simp
  have e1:(tsP k)[k+1]?=some [k]:=by
   unfold tsP;have hl:([0]::(Oz k).map fun i=>[i,i+1]).length=k+1:=by rw[OJ,NR,OR]
   rw[NW (by rw[hl];exact NY _),hl,OA]
   rfl
  have:=Gr.leaf g (left:=2*k) (one:=k+1) (e:=(k+1,k+2)) hlt c1 c2 h1 (.inl rfl) e1;rw[show 2*k/2=k by omega,show[k].idxOf k+1=1 by simp,el]at this
  rw[K3,Jp];exact this
def ksP(k:Nat)(c:Int):Kn:=(Oz (k+1)).map fun i:Nat=>(0,1+(c+(i:Int))%9)
theorem oq(k:Nat)(c:Int):(ksP k c).length=k+1:=by unfold ksP;rw[NR,OR]
theorem ph{k i:Nat}(c:Int)(h:i<k+1):(ksP k c)[i]?=some (0,1+(c+(i:Int))%9):=by unfold ksP;rw[NZ,Ph h];rfl
theorem zO{k i:Nat}(h:i<k+1):(esP k)[i]?=some (i,i+1):=by unfold esP;rw[NZ,Ph h];rfl
def Jt(PL PS WC:Addr):Sp:=fun vs H Q _=>∃(k:Nat)(c:Int),vs = [.int ((k+2:Nat):Int),.int c]/\k<=38 /\
 ∀(p:Addr)(rs:List (List Nat))(H':Hp),Same H H'->WebF (fun a=>H a≠none) PL PS WC H' p (k+2) (esP k) (tsP k) rs (ksP k c)->Q (.ref p) H'
section
variable{P:Program}{w:World}{K:NS}{mg:Str->Option Value}{base:Heap}
theorem bH:aA ["many","cell","ties","k","turns"] ["many","cell"] (ah ba):=by ac_nf
theorem ok_row{f fI PL PS WC fW:Addr}{fd fdI fdW:FuncData} (F:Fun K "_law_row_of_places" "_law_row_of_places" ba f fd) (T:Txt mg) (M_Pull:Mak P w K mg base 1 "Pull" ["self","one","two","strength"] (o7 K) PL fI fdI) (TL:CT K PL) (TS:CT K PS)
  (M_Web:Mak P w K mg base 5 "Web" ["self","many","ties","turns"] (nP K) WC fW fdW) (cw:CW K WC):FnOk P w K mg base CX0 7 f fd ["many","cell"] (Jt PL PS WC):=by
 refine F.ok bH (fun vs H Q E h=>?_) (fun cdv A outer s H vs Q E hr h=>?_)
 ·obtain⟨k,c,rfl,_⟩:=h;rfl
 obtain⟨k,cc,rfl,k38,kk⟩:=h
 refine⟨_,(af (av (i:=2) bH.nd rfl (Or.inl rfl) (bj ag))
   (af (cA PassesOwn.never rfl (aW rfl T.n_range (aa (aq kS (pv 0) aj) ag)) (aX (i:=3) bH.nd rfl (Or.inl rfl)) (ao (bp (iF OE OQ OP bx (pv 2) (aa (lj M_Pull.mkc M_Pull.ok (hr.mono (by decide)) rfl M_Pull.mg M_Pull.bn .nil bb (aa (pv 3) (aa (aq bq (pv 3) aj) (aa (aq bq aj (aq a8 (aq bq (pv 1) (pv 3)) aj)) ag)))) ag)))))
   (af (av (i:=4) bH.nd rfl (Or.inl rfl) (aq lx (aq lx (bj (aa (bj (aa aj ag)) ag)) (dj rfl (fr:=[]) (by exact bF.plain (by rfl) (by decide) (by rfl) (by decide) (by rfl) (by decide)) (aW rfl T.n_range (aa (aq kS (pv 0) aj) ag)) (fun C ex s H=>(bj (aa (pv 0) (aa (aq bq (pv 0) aj) ag)))))) (bj (aa (bj (aa (aq kS (pv 0) aj) ag)) ag))))
   (ao (aG (lj M_Web.mkc M_Web.ok (hr.mono (by decide)) rfl M_Web.mg M_Web.bn .nil bb (aa (pv 0) (aa (pv 2) (aa (pv 4) ag))))))))),?_⟩
 refine⟨(by show 0<=sizeLine;decide),fun q hq=>?_⟩
 have s1:=ai hq (.lst []);have n1:((k+2:Nat):Int)-1=((k+1:Nat):Int):=by omega
 refine⟨_,rfl,_,_,rfl,rfl,((k+1:Nat):Int),congrArg (fun z=>[V.int z]) n1,by omega,by omega,cn (n:=((k+1:Nat):Int).toNat) (fun i σ H2=>∃ v3 us,σ = [some (.int ((k+2:Nat):Int)),some (.int cc),some (.ref q),v3,none]/\Same H H2/\H2 q=some (.lst us)/\qK PL PS H2 us ((esP k).take i) (ksP k cc)) ⟨_,[],rfl,s1,ae,rfl,fun i e k z=>by simp at z⟩ ?_ ?_⟩
 ·rintro i σ H2 hi ⟨v3,us,rfl,s2,hq2,tt⟩;rw[Ob]at hi;rw[Po];have he:=zO hi;have hk:=ph cc hi;have el:=bC k;have ul:us.length=i:=by rw[tt.1,Ou];omega
  have fin:∀(x dx:Addr)(H':Hp),Same H2 H'->H' x=some (.ins PL dx (tf (i:Int) ((i+1:Nat):Int) (1+(cc+(i:Int))%9)))->∃ v3 zs,([some (.int ((k+2:Nat):Int)),some (.int cc),some (.ref q),some (.int (i:Int)),none]:St) = [some (.int ((k+2:Nat):Int)),some (.int cc),some (.ref q),v3,none]/\Same H (upd H' q (.lst (us++[.ref x])))/\(upd H' q (.lst (us++[.ref x]))) q=some (.lst zs)/\qK PL PS (upd H' q (.lst (us++[.ref x]))) zs ((esP k).take (i+1)) (ksP k cc):=fun x dx H' s4 h1=>by
   refine⟨_,_,rfl,bf (s2.trans s4) hq _,ae,by rw[NT,ul,Ou];simp;omega,fun j e' k' hj hk'=>?_⟩
   have hqn:∀{b:Addr}{C dx:Addr}{fs:List (Str×V)},H' b=some (.ins C dx fs)->b≠q:=fun z y=>by rw[y,s4 _ _ hq2]at z;cases z
   rw[Pd]at hj;by_cases z:j<i
   ·rw[if_pos (by omega)]at hj
    obtain⟨p',dx',a1,a2⟩:=(tt.mono s4).2 j e' k' (by rw[Pd,if_pos z];exact hj) hk'
    exact⟨p',dx',by rw[NX (by omega)];exact a1,by rw[ak (hqn a2)];exact a2⟩
   ·by_cases z2:j=i
    ·subst z2;rw[if_pos (by omega),he]at hj
     cases hj
     rw[hk]at hk'
     cases hk'
     exact⟨x,dx,by rw[← ul,NW (NY _),OA];rfl,by rw[ak (hqn h1)];exact h1⟩
    ·rw[if_neg (by omega)]at hj
     cases hj
  refine⟨_,rfl,.inl ⟨rfl,_,SqL.of hq2⟩,_,rfl,_,rfl,_,_,rfl,rfl,_,rfl,_,rfl,_,_,rfl,rfl,_,_,rfl,rfl,(by show(0:Int)<9;decide),_,_,rfl,rfl,?_⟩
  intro x dx nx ndx nex;refine⟨x,PL,dx,_,_,_,rfl,ae,TL,by omega,by omega,by omega,by omega,fun H' h1 h2=>?_⟩
  have s4:Same H2 H':=fun b o z=>h2 b o (by rw[ak (ax z nx),ak (ax z ndx)];exact z) (ax z nx)
  refine⟨rfl,q,us,_,rfl,rfl,s4 _ _ hq2,au (by omega),fin x dx H' s4 ?_⟩
  rw[show((i+1:Nat):Int)=(i:Int)+1 by omega]
  exact h1
 rintro σ H2 ⟨v3,us,rfl,s2,hq2,tt⟩;rw[Ob,← bC k,Pb]at tt;refine⟨(by show 1<=sizeLine;decide),fun a1 ha1=>⟨(by show 1<=sizeLine;decide),fun b1 hb1=>?_⟩⟩
 have sa:=ai ha1 (.lst [V.int 0]);have sb:=ai hb1 (.lst [V.ref a1]);have n2:((k+2:Nat):Int)-2=((k:Nat):Int):=by omega
 refine⟨_,rfl,_,_,rfl,rfl,((k:Nat):Int),congrArg (fun z=>[V.int z]) n2,by omega,by omega,fB (n:=((k:Nat):Int).toNat) (fun i zs H3=>Same (upd (upd H2 a1 (.lst [V.int 0])) b1 (.lst [V.ref a1])) H3/\cf H3 zs ((Oz i).map fun i=>[i,i+1])) (by rw[Ob];exact OG (au (by omega))) ⟨fun _ _ e=>e,rfl,fun i l e=>by simp at e⟩ ?_ ?_⟩
 ·rintro i zs H3 hi ⟨s3,rz⟩;rw[Po];refine⟨_,rfl,_,rfl,_,_,rfl,rfl,(by show 2<=sizeLine;decide),fun g hg=>?_⟩
  have s4:=ai hg (.lst [V.int (i:Int),V.int ((i:Int)+1)]);refine⟨s3.trans s4,?_⟩;rw[Pc,Oo];refine(rz.mono s4).snoc ?_;show(upd H3 g _) g=some (.lst [iV i,iV (i+1)]);rw[ae];rfl
 rintro zs H3 _ ⟨s3,rz⟩ D hD;rw[Ob]at rz;have sD:=ai hD (.lst zs);have zl:zs.length=k:=by rw[rz.1,NR,OR]
 refine⟨b1,D,[V.ref a1],zs,rfl,rfl,SqL.of (sD _ _ (s3 _ _ ae)),SqL.of ae,(by show 1+zs.length<=sizeLine;rw[zl];exact OG (au (by omega))),fun c1 hc1=>?_⟩
 have sc:=ai hc1 (.lst ([V.ref a1]++zs));refine⟨_,rfl,_,_,rfl,rfl,(by show 1<=sizeLine;decide),fun d1 hd1=>⟨(by show 1<=sizeLine;decide),fun e1 he1=>?_⟩⟩
 have sd1:=ai hd1 (.lst [V.int (((k+2:Nat):Int)-2)]);have se:=ai he1 (.lst [V.ref d1]);refine⟨c1,e1,[V.ref a1]++zs,[V.ref d1],rfl,rfl,SqL.of (se _ _ (sd1 _ _ ae)),SqL.of ae,(by rw[NT,zl];show 1+k+1<=sizeLine;exact OG (au (by omega))),fun t1 ht1=>?_⟩
 have st:=ai ht1 (.lst (([V.ref a1]++zs)++[V.ref d1]));have sX:=sD.trans (sc.trans (sd1.trans (se.trans st)));have sH:=sa.trans (sb.trans (s3.trans sX));have r0:=(rz.mono sX);have ha:=sX _ _ (s3 _ _ (sb _ _ ae));have hdk:=st _ _ (se _ _ (ae (H:=upd (upd H3 D (.lst zs)) c1 (.lst ([V.ref a1]++zs))) (a:=d1) (o:=.lst [V.int (((k+2:Nat):Int)-2)])));have hqT:=sH _ _ hq2;have ttT:=(tt.at (by rw[oq,bC]) TL TS).mono sH
 have tkT:=tt.mono sH;have htT:(upd (upd (upd (upd (upd H3 D (.lst zs)) c1 (.lst ([V.ref a1]++zs))) d1 (.lst [V.int (((k+2:Nat):Int)-2)])) e1 (.lst [V.ref d1])) t1 (.lst (([V.ref a1]++zs)++[V.ref d1]))) t1=some (.lst (([V.ref a1]++zs)++[V.ref d1])):=ae;generalize (upd (upd (upd (upd (upd H3 D (.lst zs)) c1 (.lst ([V.ref a1]++zs))) d1 (.lst [V.int (((k+2:Nat):Int)-2)])) e1 (.lst [V.ref d1])) t1 (.lst (([V.ref a1]++zs)++[V.ref d1])))=HT at sX sH r0 ha hdk hqT ttT tkT htT ⊢;have rows:cf HT (([V.ref a1]++zs)++[V.ref d1]) (tsP k):=by
  have r1:cf HT ([V.ref a1]++zs) ([0]::(Oz k).map fun i=>[i,i+1]):=⟨by show zs.length+1=(QW (fun i=>[i,i+1]) (Oz k)).length+1;rw[zl,NR,OR],fun i l e=>by
   cases i with
   |zero=>cases e;exact⟨a1,rfl,ha⟩
   |succ i=>exact r0.2 i l e⟩
  refine r1.snoc (l:=[k]) ?_;rw[hdk,n2];rfl
 refine⟨_,rfl,_,rfl,_,rfl,?_⟩;intro x dx nx ndx nex;have up:∀ b o,HT b=some o->(upd (upd HT dx (.own x)) x (.ins WC dx [])) b=some o:=fun b o z=>by rw[ak (ax z nx),ak (ax z ndx)];exact z
 refine⟨x,WC,dx,q,t1,k+2,us,_,esP k,tsP k,rfl,ae,cw,up _ _ hqT,ttT.mono up,up _ _ htT,rows.mono up,CD k,by rw[bC];omega,by rw[bC];omega,fun fs q1 rs H' h1 hg hn h2 h3 h4=>⟨rfl,?_⟩⟩
 have s5:Same HT H':=fun b o z=>h4 b o (up _ _ z) (ax z nx)
 have up0:∀ a,H a≠none->(upd (upd HT dx (.own x)) x (.ins WC dx [])) a≠none:=fun a z y=>z (by
  cases u:H a with
  |none=>rfl
  |some o=>rw[up _ _ (sH _ _ (s2 _ _ u))]at y;cases y)
 exact kk x rs H' (s2.trans (sH.trans s5)) ⟨dx,fs,q1,us,h1,hg.mono (fun _ _ z=>z) up0,fun z=>up0 _ z hn,h2,h3,tkT.mono s5⟩
end
theorem Mj{es:En}{ks:Kn}{L:Nat}(nn:∀ i,0<=stg ks i):∀ i,0<=wS es ks L i
 |0=>Pr _
 |i+1=>by
  have h1:=Mj (es:=es) (ks:=ks) (L:=L) nn i;have h2:=nn i;show 0<=if UN es ks L i=true then wS es ks L i+stg ks i else wS es ks L i;split<;>omega
theorem Mm{es:En}{ks:Kn}{L i:Nat}(nn:∀ i,0<=stg ks i)(u:UN es ks L i=true):∀ j,i<j->stg ks i<=wS es ks L j
 |0,h=>absurd h (P5 _)
 |j+1,h=>by
  show stg ks i<=if UN es ks L j=true then wS es ks L j+stg ks j else wS es ks L j;have h2:=nn j;by_cases c:i=j
  ·subst c;have h1:=Mj (es:=es) (ks:=ks) (L:=L) nn i;rw[if_pos u];omega
  ·have h1:=Mm (L:=L) nn u j (by omega)
   split<;>omega
theorem AY{es:En}{ks:Kn}{L:Nat}:∀ i,(∀ j,j<i->UN es ks L j=false∨stg ks j=0)->wS es ks L i=0
 |0,_=>rfl
 |i+1,h=>by
  have h1:=AY (L:=L) i fun j hj=>h j (by omega)
  show(if UN es ks L i=true then wS es ks L i+stg ks i else wS es ks L i)=0;rcases h i (O3 _)with z | z
  ·rw[if_neg (by rw[z];exact Ox)];exact h1
  ·split<;>omega
def sumS(ks:Kn)(i:Nat):Int:=((Oz i).map (stg ks)).sum
theorem wS_le{es:En}{ks:Kn}{L:Nat}(nn:∀ i,0<=stg ks i):∀ i,wS es ks L i<=sumS ks i
 |0=>Pr _
 |i+1=>by
  have h1:=wS_le (es:=es) (ks:=ks) (L:=L) nn i;have h2:=nn i;show(if UN es ks L i=true then wS es ks L i+stg ks i else wS es ks L i)<=sumS ks (i+1);have e:sumS ks (i+1)=sumS ks i+stg ks i:=by unfold sumS;rw[Pc,Oo,List.sum_append];simp
  rw[e];split<;>omega
theorem Mr{k i:Nat}(c:Int)(h:i<k+1):1<=stg (ksP k c) i:=by rw[uC (ph c h)];show 1<=1+(c+(i:Int))%9;omega
theorem yc(k:Nat)(c:Int)(i:Nat):0<=stg (ksP k c) i:=by
 by_cases h:i<k+1
 ·have:=Mr c h;omega
 ·unfold stg;rw[P9 (by rw[oq];omega)]
  exact Pr _
theorem UN_P{k i:Nat}(c:Int)(L:Nat)(h:i<k+1):UN (esP k) (ksP k c) L i=(L.testBit i ^^ L.testBit (i+1)):=by
 rw[NL (zO h),vN (ph c h)];simp
theorem Mi(k:Nat)(c:Int):wT (esP k) (ksP k c) 0=0:=AY _ fun j hj=>.inl (by
 rw[bC]at hj;rw[UN_P c 0 hj]
 simp)
theorem wT_Pn(k:Nat)(c:Int)(L:Nat):0<=wT (esP k) (ksP k c) L:=Mj (yc k c) _
theorem wT_P1{k p:Nat}(c:Int)(h:p<k+2):1<=wT (esP k) (ksP k c) (2^p):=by
 have el:=bC k;by_cases z:p<k+1
 ·have u:UN (esP k) (ksP k c) (2^p) p=true:=by
   rw[UN_P c _ z,Sd,Qt];simp
  exact RK (Mr c z) (Mm (yc k c) u _ (by omega))
 ·have e:p=k+1:=by omega
  subst e;have u:UN (esP k) (ksP k c) (2^(k+1)) k=true:=by
   rw[UN_P c _ (O3 _),Sd,Qt];simp
  exact RK (Mr c (O3 _)) (Mm (yc k c) u _ (by omega))
theorem rest_P(k:Nat)(c:Int):jo (aM (esP k) (ksP k c) (k+2)) (k+2) 0=true:=by
 unfold jo;rw[QG];intro p hp;have hp':=P0.mp hp;have pos:0<2^(k+2):=Nat.pow_pos (by decide)
 rw[decide_eq_true_iff,cz pos,cz (g8 pos hp'),Mi];exact wT_Pn _ _ _
theorem rc_P{k:Nat}(c:Int){R:Nat->Nat->Bool}(hR:∀ y,y<2^(k+2)->R 0 y=true->wT (esP k) (ksP k c) y<1):∀ n,Rc (k+2) R 0 n↔n=0:=fun n=>by
 constructor
 ·intro r;induction r with
  |base=>rfl
  | @step x p _ hp h ih =>
   subst ih;rw[Nat.zero_xor]at h ⊢;have h1:=hR _ (Rl (by decide) hp) h
   have h2:=wT_P1 c hp;omega
 ·intro e;rw[e];exact .base
theorem ED{on l:List Nat}(h:on.Pairwise (· < ·))(h2:l.Pairwise (· < ·))(mem:∀ n,n∈on↔n∈l):on=l:=by
 have nd:on.Nodup:=h.imp fun h=>Ot h;have nd2:l.Nodup:=h2.imp fun h=>Ot h;exact((Qo nd nd2).mpr mem).eq_of_pairwise (fun a b _ _ x y=>absurd x (Nat.not_lt_of_lt y)) h h2
theorem IZ{on:List Nat}(h:on.Pairwise (· < ·))(mem:∀ n,n∈on↔n=0):on = [0]:=ED h (Qu _ _) fun n=>(mem n).trans Ol.symm
theorem Ax{on:List Nat}{N:Nat}(h:on.Pairwise (· < ·))(mem:∀ n,n∈on↔n<N):on=Oz N:=ED h List.pairwise_lt_range fun n=>(mem n).trans P0.symm
theorem IG{m st p:Nat}{es:En}{ks:Kn}{l:List Nat}{h:Int}(hst:st<2^m)(hp:p<m)(wy:WayT m st (st^^^2^p) l)(le:∀ n∈l,wT es ks n<=h)(no:wT es ks st<h->¬ Rc m (fun _ y=>decide ((aM es ks m).getD y 0<h)) st (st^^^2^p)):h=if wT es ks (st^^^2^p) > wT es ks st then wT es ks (st^^^2^p) else wT es ks st:=by
 have h1:=le st wy.st;have h2:=le _ (RN.mp wy.rev.st);have h3:¬ (wT es ks st<h/\wT es ks (st^^^2^p)<h):=fun⟨a,b⟩=>no a (.step .base hp (decide_eq_true (by rw[cz (g8 hst hp)];exact b)))
 split<;>omega
section
variable{X:Cx}
open PyProof.Rows
theorem mT{e:Expr}{te:TE}{p p2 pos pos2:Pos}(hc:X.calm=true) (hg:Gl X "list") (hm:X.mg "list" = none) (hg2:Gl X "range") (hm2:X.mg "range" = none) (he:PE X e te)
  (h1:starEach [.Call (.Name "range" p2) [e] [] pos2] X.env = [(false,eval (.Call (.Name "range" p2) [e] [] pos2) X.env)]:=by rfl) (h2:starEach [e] X.env=(false,eval e X.env)::starEach [] X.env:=by rfl) :
  PE X (.Call (.Name "list" p) [.Call (.Name "range" p2) [e] [] pos2] [] pos) (fun σ H Q=>te σ H fun x H1=>∃ n:Nat,x=.int (n:Int)/\n<=2000/\∀ q,H1 q=none->Q (.ref q) (upd H1 q (.lst ((Oz n).map fun(i:Nat)=>V.int ((i:Nat):Int))))):=by
 intro pins s σ H Q I h;refine wpAny_Call_Name_kw (mV I hg hm i5 ?_);refine PyProof.Rows.callWith_type1 ?_ h1 rfl;rw[h1];refine Calls.spliced_cons ?_;refine wpAny_Call_Name_kw (mV I hg2 hm2 boot_range ?_);refine PyProof.Rows.callWith_type1 ?_ h2 rfl;rw[h2];refine Calls.spliced_cons (thn (he pins s σ H _ I h) fun u s1 ⟨x,H1,I1,r1,q1⟩=>?_);obtain⟨n,rfl,hn,q⟩:=q1;obtain⟨t,rfl⟩:=r1;refine Calls.spliced_nil ?_;refine call_range_1 ?_;refine Calls.spliced_nil ?_;have I2:Inv X pins σ H1 { s1 with heap:=s1.heap.push { cls:=.type "range",data:=.fields #[.int 0 s1.toks,.int (n:Int) t,.int 1 (s1.toks+1)] },toks:=s1.toks+1+1 }:=I1.kept fun b o e=>Heap.get?_push_of_some _ e;refine call_list_range (n:=n) (I.ok.hd hc) (IsRange.new ..) (small_one (by omega) (by omega) (by omega) (by omega)) (by rw[rangeSize_one];split<;>omega) (by omega) fun h' tk acc' c' hk hS hacc=>?_
 have I3:Inv X pins σ H1 { s1 with heap:=h',toks:=tk }:=I2.kept (t':=tk) fun b o e=>hk b o e;have fS:=I2.fpOk (H':=H1) (NY _) (I2.hok.fresh (NY _));have hz:((Oz n).map fun(i:Nat)=>V.int ((i:Nat):Int)).length<=sizeLine:=by
  rw[NR,OR];exact O6 hn (by decide)
 have hv:Vals ((Oz n).map fun(i:Nat)=>V.int ((i:Nat):Int)) acc'.toList:=by
  refine Gu (by rw[NR,OR,OI,hacc.1]) fun i y u a b=>?_
  rw[Pf]at b;obtain⟨tk',e⟩:=hacc.2 i u b;rw[NZ]at a;obtain⟨j,a1,a2⟩:=O0.mp a;have hi:i<n:=by
   have:=(NP.mp a1).1;rwa[OR]at this
  rw[Ph hi]at a1
  cases a1
  subst a2;subst e;exact⟨tk',by rw[Po,Int.mul_one]⟩
 have I4:=I3.track (o:=.lst ((Oz n).map fun(i:Nat)=>V.int ((i:Nat):Int))) fS ⟨hz,acc'.toList,c',hv,by rw[Array.toArray_toList];exact hS⟩
 exact⟨.ref _,_,I4,rfl,q _ fS.1⟩
end
theorem c6.sm{H H':Hp}{ys:List V}{es:En}(h:c6 H ys es)(s:SmC H H'):c6 H' ys es:=⟨h.1,fun i e q=>by
 obtain⟨p,a,b⟩:=h.2 i e q
 exact⟨p,a,s.tup b⟩⟩
theorem gm.sm{H H':Hp}{ws:List V}{ks:Kn}(h:gm H ws ks)(s:SmC H H'):gm H' ws ks:=⟨h.1,fun i k q=>by
 obtain⟨a,b,p,c,d⟩:=h.2 i k q
 exact⟨a,b,p,c,s.tup d⟩⟩
def A5(T1 T2:Addr):Sp:=fun vs H Q _=>∃(n:Nat)(c:Int),vs = [.int (n:Int),.int c]/\7<=n/\n<=10/\Tb lqL lpL T1 H/\Tb lqE lpE T2 H/\∀ H',SmC H H'->Q (.bl true) H'
def restW(T1 T2:Addr):TS:=fun D σ H=>∃(n k:Nat)(c:Int),σ = [some (.int (n:Int)),some (.int c),some (.int ((k+2:Nat):Int)),none,none,none,none,none,none,none]/\5<=k/\k<=8/\Tb lqL lpL T1 H/\Tb lqE lpE T2 H/\∀ H',SmC H H'->D.rt (.bl true) H'
def ks0(k:Nat):Kn:=(Oz (k+1)).map fun _=>(0,0)
theorem Nb(k:Nat):(ks0 k).length=k+1:=by unfold ks0;rw[NR,OR]
theorem LP{k i:Nat}(h:i<k+1):(ks0 k)[i]?=some (0,0):=by unfold ks0;rw[NZ,Ph h];rfl
theorem wT_0(k L:Nat):wT (esP k) (ks0 k) L=0:=AY _ fun j hj=>.inr (by rw[bC]at hj;rw[uC (LP hj)])
section
variable{P:Program}{w:World}{K:NS}{mg:Str->Option Value}{base:Heap}
theorem aP:aA ["places","cell","many","web","start","most","still","goal","ends","kinds"] ["places","cell"] (ah bK):=by ac_nf
theorem Kb{f fr f1 f2 f3 f4 f5 fI fW TW T1 T2 PL PS WC:Addr}{fd dr d1 d2 d3 d4 d5 dI dW:FuncData} (F:Fun K "_law_short_row" "_law_short_row" bK f fd) (T:TxtK mg) (cw:CW K WC) (TL:CT K PL) (TS:CT K PS) (G_law_row_of_places:Cal P w K mg base 7 "_law_row_of_places" ["many","cell"] (Jt PL PS WC) fr dr) (G_resting:CalX P w K mg base 6 "resting" ["web"] (jk TW PL PS WC) f1 d1) (G_climb:CalX P w K mg base 6 "climb" ["web","start","goal"] (vy TW T1 PL PS WC) f2 d2) (G_shore:CalX P w K mg base 6 "shore" ["web","start","height"] (vn TW T1 PL PS WC) f3 d3) (G_falls:CalX P w K mg base 6 "falls" ["web","start"] (vx TW T2 PL PS WC) f4 d4) (G_law_worth:Cal P w K mg base 1 "_law_worth" ["ends","kinds","laying"] (Js K) f5 d5) (M_Pull:Mak P w K mg base 1 "Pull" ["self","one","two","strength"] (o7 K) PL fI dI) (M_Web:Mak P w K mg base 5 "Web" ["self","many","ties","turns"] (nP K) WC fW dW):FnOk P w K mg base CX0 8 f fd ["places","cell"] (A5 T1 T2):=by
 refine F.ok aP (fun vs H Q E h=>?_) (fun cdv A outer s H vs Q E hr h=>?_)
 ·obtain⟨n,c,rfl,_⟩:=h;rfl
 obtain⟨n,c,rfl,n7,n10,tb1,tb2,kk⟩:=h;have hu64:=hr.units
 refine⟨_,(af (av (i:=2) aP.nd rfl (Or.inl rfl) (pv 0))
   (af (b9 (aE gW (aq a8 (pv 1) aj) aj (aK _)) (ao (av (i:=2) aP.nd rfl (Or.inl rfl) (aw (IK rfl) (by rfl) T.n_min bt_min (aa (pv 0) (aa aj ag))))) aR)
   (rh (t2:=restW T1 T2) (af (av (i:=3) aP.nd rfl (Or.inl rfl) (aB G_law_row_of_places.ok (hr.mono (by decide)) rfl G_law_row_of_places.mg G_law_row_of_places.kp G_law_row_of_places.bn .nil bb (aa (pv 2) (aa (aq bu (pv 1) aj) ag))))
   (af (b9 (aE gW (aq a8 (pv 1) aj) aj (aK _)) (ao (aG (iE Hn aj (aB G_resting.ok (hr.mono (by decide)) rfl G_resting.mg G_resting.kp G_resting.bn .nil o9 (aa (pv 3) ag)) (by with_unfolding_all rfl)))) aR)
   (af (b9 (aE gW (aq a8 (pv 1) aj) aj (aK _)) (ao (aG (iE (yS hu64) (aB G_falls.ok (hr.mono (by decide)) rfl G_falls.mg G_falls.kp G_falls.bn .nil o9 (aa (pv 3) (aa aj ag))) (bj (aa aj ag)) (aK _)))) aR)
   (af (av (i:=4) aP.nd rfl (Or.inl rfl) (aq a8 (aq bu (pv 1) aj) (aq ja aj (pv 2))))
   (af (b9 (aE gW (aq a8 (pv 1) aj) aj (aK _)) (ao (aG (iE (yS hu64) (aB G_shore.ok (hr.mono (by decide)) rfl G_shore.mg G_shore.kp G_shore.bn .nil o9 (aa (pv 3) (aa aj (aa aj ag)))) (bj (aa aj ag)) (aK _)))) aR)
   (af (b9 (aE gW (aq a8 (pv 1) aj) aj (aK _)) (af (av (i:=5) aP.nd rfl (Or.inl rfl) (aw (EA rfl) (by rfl) T.n_sum L6 (aa (dj rfl (fr:=[]) (by exact bF.plain (by rfl) (by decide) (by rfl) (by decide) (by rfl) (by decide)) (br (cY (pv 3) rfl)) (fun C ex s H=>(jq (K:=K) rfl (pv 0) rfl))) ag)))
   (ao (aG (iE (yS hu64) (aB G_shore.ok (hr.mono (by decide)) rfl G_shore.mg G_shore.kp G_shore.bn .nil o9 (aa (pv 3) (aa (pv 4) (aa (aq bq (pv 5) aj) ag)))) (mT rfl rfl T.n_list rfl T.n_range (aq ja aj (pv 2))) (aK _))))) aR)
   (af (b9 (aE gW (aq a8 (pv 1) aj) aj (aK _)) (af (av (i:=6) aP.nd rfl (Or.inl rfl) (lj M_Web.mkc M_Web.ok (hr.mono (by decide)) rfl M_Web.mg M_Web.bn .nil bb (aa (pv 2) (aa (dj rfl (fr:=[]) (by exact bF.plain (by rfl) (by decide) (by rfl) (by decide) (by rfl) (by decide)) (br (cY (pv 3) rfl)) (fun C ex s H=>(lj M_Pull.mkc M_Pull.ok (hr.mono (by decide)) rfl M_Pull.mg M_Pull.bn .nil bb (aa (jq (K:=K) rfl (pv 0) rfl) (aa (jq (K:=K) rfl (pv 0) rfl) (aa aj ag)))))) (aa (dj rfl (fr:=[]) (by exact bF.plain (by rfl) (by decide) (by rfl) (by decide) (by rfl) (by decide)) (br (cY (pv 3) rfl)) (fun C ex s H=>(fF (oG (K:=K) rfl) (by rfl) T.n_list i5 (aa (pv 0) ag)))) ag)))))
   (ao (aG (iE (yS hu64) (aB G_falls.ok (hr.mono (by decide)) rfl G_falls.mg G_falls.kp G_falls.bn .nil o9 (aa (pv 6) (aa (pv 4) ag))) (mT rfl rfl T.n_list rfl T.n_range (aq ja aj (pv 2))) (aK _))))) aR)
   (af (b9 (aE gW (aq a8 (pv 1) aj) aj (aK _)) (ao (aG (iE (yS hu64) (aB G_shore.ok (hr.mono (by decide)) rfl G_shore.mg G_shore.kp G_shore.bn .nil o9 (aa (pv 3) (aa (pv 4) (aa (aq kS aj (aq a8 (aq bu (pv 1) aj) (aq LL aj aj))) ag)))) (bj ag) (aK _)))) aR)
   (af (av (i:=7) aP.nd rfl (Or.inl rfl) (aq yR (pv 4) (aq ja aj (aq a8 (aq bu (pv 1) aj) (pv 2)))))
   (af (ir (i:=8) rfl aP.nd rfl rfl (fr:=[]) (by exact bF.plain (by rfl) (by decide) (by rfl) (by decide) (by rfl) (by decide)) (br (cY (pv 3) rfl)) (fun C ex s H=>(i9 (aa (jq (K:=K) rfl (pv 0) rfl) (aa (jq (K:=K) rfl (pv 0) rfl) ag)))))
   (af (ir (i:=9) rfl aP.nd rfl rfl (fr:=[]) (by exact bF.plain (by rfl) (by decide) (by rfl) (by decide) (by rfl) (by decide)) (br (cY (pv 3) rfl)) (fun C ex s H=>(i9 (aa aj (aa (jq (K:=K) rfl (pv 0) rfl) ag)))))
   (ao (aG (iE gW (aN bD (aB G_climb.ok (hr.mono (by decide)) rfl G_climb.mg G_climb.kp G_climb.bn .nil o9 (aa (pv 3) (aa (pv 4) (aa (pv 7) ag)))) aj (fun _ _=>rfl)) (aw (sU rfl) (by rfl) T.n_max IQ (aa (aB G_law_worth.ok (hr.mono (by decide)) rfl G_law_worth.mg G_law_worth.kp G_law_worth.bn .nil bb (aa (pv 8) (aa (pv 9) (aa (pv 4) ag)))) (aa (aB G_law_worth.ok (hr.mono (by decide)) rfl G_law_worth.mg G_law_worth.kp G_law_worth.bn .nil bb (aa (pv 8) (aa (pv 9) (aa (pv 7) ag)))) ag))) (aK _))))))))))))))) (fun D0 S0 H0 h0=>?restw)))),?_⟩
 case restw =>
  clear kk tb1 tb2 n7 n10;obtain⟨n,k,c,rfl,k5,k8,tb1,tb2,kk⟩:=h0;refine⟨_,rfl,_,rfl,_,_,rfl,rfl,⟨by decide,by decide⟩,k,c/4,rfl,by omega,fun p rs H1 s1 wf=>?_⟩
  have kl:(ksP k (c/4)).length=(esP k).length:=by rw[oq,bC]
  have kin:∀ x∈ksP k (c/4),x.1=0∨x.1=1:=fun x hx=>by
   unfold ksP at hx;obtain⟨i,_,rfl⟩:=OL.mp hx;exact .inl rfl
  have wc:=AX wf kl (by rw[bC];omega) (by omega) kin
  have sm1:=SmC.of s1;have tb11:=cq tb1 s1;have tb21:=cq tb2 s1;have pos:0<2^(k+2):=Nat.pow_pos (by decide)
  obtain⟨q1,q2,q3,q4⟩:=mS (show k+2<=10 by omega)
  refine⟨_,rfl,_,_,rfl,rfl,(by show(0:Int)<4;decide),rfl,_,rfl,ite2 (fun c0=>?_) (fun c0=>?_)⟩
  ·refine⟨_,rfl,.inl ⟨p,k+2,_,_,rfl,wc,fun q H2 s2 nq hq=>?_⟩⟩;refine⟨q,_,rfl,.inl (SqL.of hq),rfl,Nm _,?_⟩;have e:inV (iV 0) (((Oz (2^(k+2))).filter (jo (aM (esP k) (ksP k (c/4)) (k+2)) (k+2))).map iV)=true:=by
    rw[LS];exact decide_eq_true (Ri.mpr ⟨P0.mpr pos,rest_P k (c/4)⟩)
   have k2:=kk H2 (sm1.trans (.of s2));rw[show V.bl true=V.bl (inV (iV 0) (((Oz (2^(k+2))).filter (jo (aM (esP k) (ksP k (c/4)) (k+2)) (k+2))).map iV)) by rw[e]]at k2
   exact k2
  refine⟨_,rfl,_,_,rfl,rfl,(by show(0:Int)<4;decide),rfl,_,rfl,ite2 (fun c1=>?_) (fun c1=>?_)⟩
  ·refine⟨_,rfl,.inr ⟨p,k+2,0,_,_,rfl,wc,pos,tb21,fun l on H2 sm2 _ hl pw al=>?_⟩⟩
   have e:=IZ pw fun n=>(al n).trans (rc_P (c/4) (fun y hy h=>by
    have h2:(aM (esP k) (ksP k (c/4)) (k+2)).getD y 0<=(aM (esP k) (ksP k (c/4)) (k+2)).getD 0 0:=of_decide_eq_true h;rw[cz hy,cz pos,Mi]at h2
    omega) n)
   subst e;refine⟨(by show 1<=sizeLine;decide),fun l0 hl0=>?_⟩
   have sl0:=ai hl0 (.lst [V.int 0]);exact⟨_,cF (ps:=[0]) (SqL.of (sl0 _ _ hl)),cF (ps:=[0]) (SqL.of ae),bQ _,kk _ (sm1.trans (sm2.trans (.of sl0)))⟩
  have st_of:∃ st:Nat,(c/36)%(1*2^((k+2:Nat):Int).toNat)=(st:Int)/\st<2^(k+2):=by
   have e:(1:Int)*2^((k+2:Nat):Int).toNat=((2^(k+2):Nat):Int):=shlN (k+2);rw[e];have h0:=Pk (c/36) (show((2^(k+2):Nat):Int)≠0 by omega)
   have h1:=Pe (c/36) (show(0:Int)<((2^(k+2):Nat):Int) by omega)
   exact⟨_,(PM h0).symm,by omega⟩
  obtain⟨st,hste,hst⟩:=st_of;refine⟨_,rfl,_,_,rfl,rfl,⟨by decide,by decide⟩,_,rfl,_,_,rfl,rfl,⟨by omega,by ac_rfl,by decide⟩,_,_,rfl,rfl,(by show(0:Int)<1*2^((k+2:Nat):Int).toNat;rw[shlN];omega),?_⟩
  dsimp only;rw[hste];refine⟨_,rfl,_,_,rfl,rfl,(by show(0:Int)<16;decide),rfl,_,rfl,ite2 (fun c2=>?_) (fun c2=>?_)⟩
  ·refine⟨_,rfl,.inr ⟨p,k+2,0,_,_,1,rfl,wc,pos,tb11,fun l on H2 sm2 _ hl on1 on2=>?_⟩⟩;obtain⟨pw,al⟩:=on2 (by rw[Mi];decide)
   have e:=IZ pw fun n=>(al n).trans (rc_P (c/4) (fun y hy h=>by
    have h2:(aM (esP k) (ksP k (c/4)) (k+2)).getD y 0<1:=of_decide_eq_true h;rw[cz hy]at h2
    exact h2) n)
   subst e;refine⟨(by show 1<=sizeLine;decide),fun l0 hl0=>?_⟩
   have sl0:=ai hl0 (.lst [V.int 0]);exact⟨_,cF (ps:=[0]) (SqL.of (sl0 _ _ hl)),cF (ps:=[0]) (SqL.of ae),bQ _,kk _ (sm1.trans (sm2.trans (.of sl0)))⟩
  obtain⟨dx,fs,qt,xt,u1,b0,nS,u2,u3,u4⟩:=id wf;have xtl:xt.length=k+1:=by rw[u4.1,bC]
  have tie:∀(i:Nat)(x:V),xt[i]?=some x->∃ p' dx',x=.ref p'/\H1 p'=some (.ins PL dx' (tf (i:Int) ((i+1:Nat):Int) (stg (ksP k (c/4)) i)))/\i<k+1:=fun i x hx=>by
   have hi:i<k+1:=by rw[← xtl];exact(NP.mp hx).1
   obtain⟨p',dx',a1,a2⟩:=u4.2 i _ _ (zO hi) (ph (c/4) hi);rw[hx]at a1
   cases a1
   exact⟨p',dx',rfl,by rw[uC (ph (c/4) hi)];exact a2,hi⟩
  refine⟨_,rfl,_,_,rfl,rfl,(by show(0:Int)<16;decide),rfl,_,rfl,ite2 (fun c3=>?_) (fun c3=>?_)⟩
  ·refine⟨_,rfl,p,WC,dx,fs,_,rfl,u1,cw.cl,cw.n2,u2,qt,rfl,⟨_,SqL.of u3⟩,bM (K:=K) (xs:=xt) (fun i zs H2=>H2=H1/\zs=((Oz i).map (stg (ksP k (c/4)))).map V.int) (OG (au (by omega))) ⟨rfl,rfl⟩ (fun i zs H2 _ y=>y.1▸SqL.of u3) ?_ ?_⟩
   ·rintro i x zs H2 hx ⟨rfl,rfl⟩;obtain⟨p',dx',rfl,x2,hi⟩:=tie i x hx;refine⟨_,rfl,p',PL,dx',_,_,rfl,x2,TL.cl,TL.n3,Gz _ _ _,rfl,?_⟩;rw[Pc,Oo,Oo];rfl
   rintro zs H2 _ ⟨rfl,rfl⟩ D hD;rw[xtl];have sD:=ai hD (.lst (((Oz (k+1)).map (stg (ksP k (c/4)))).map V.int));refine⟨D,_,rfl,SqL.of ae,?_⟩;have most:∀ L,wT (esP k) (ksP k (c/4)) L<((Oz (k+1)).map (stg (ksP k (c/4)))).sum+1:=fun L=>by
    have h1:=wS_le (es:=esP k) (L:=L) (yc k (c/4)) (esP k).length;have h2:wT (esP k) (ksP k (c/4)) L<=((Oz (esP k).length).map (stg (ksP k (c/4)))).sum:=h1;rw[bC]at h2;omega
   refine⟨_,rfl,_,rfl,_,rfl,_,_,rfl,rfl,.inr ⟨p,k+2,st,_,_,_,rfl,wc.mono sD,hst,cq tb11 sD,fun l on H3 sm3 _ hl on1 on2=>?_⟩⟩;obtain⟨pw,al⟩:=on2 (most st);have e:=Ax (N:=2^(k+2)) pw fun n=>(al n).trans ⟨fun r=>r.lt hst,fun hn=>G0 hst (fun x y hy=>decide_eq_true (by rw[cz hy];exact most y)) n hn⟩
   subst e;refine⟨_,rfl,_,_,rfl,rfl,⟨by omega,by ac_rfl,by decide⟩,2^(k+2),congrArg V.int (shlN (k+2)),by omega,fun q hq=>?_⟩
   have sq:=ai hq (.lst ((Oz (2^(k+2))).map fun(i:Nat)=>V.int ((i:Nat):Int)));exact⟨_,cF (SqL.of (sq _ _ hl)),cF (ps:=Oz (2^(k+2))) (SqL.of ae),bQ _,kk _ (sm1.trans ((SmC.of sD).trans (sm3.trans (.of sq))))⟩
  refine⟨_,rfl,_,_,rfl,rfl,(by show(0:Int)<16;decide),rfl,_,rfl,ite2 (fun c4=>?_) (fun c4=>?_)⟩
  ·obtain⟨qh,zh,v1,v2,v3,v4⟩:=b0.turns;have zl:zh.length=(tsP k).length:=v4.1;have tl:(tsP k).length=k+2:=(CD k).w.len;refine⟨_,rfl,_,rfl,p,WC,dx,fs,_,rfl,u1,cw.cl,cw.n2,u2,qt,rfl,⟨_,SqL.of u3⟩,bM (K:=K) (xs:=xt) (fun i zs H2=>Same H1 H2/\qK PL PS H2 zs ((esP k).take i) (ks0 k)) (OG (au (by omega))) ⟨fun _ _ e=>e,rfl,fun i e k q=>by simp at q⟩ (fun i zs H2 _ y=>SqL.of (y.1 _ _ u3)) ?_ ?_⟩
   ·rintro i x zs H2 hx ⟨s2,tt⟩;obtain⟨p',dx',rfl,x2,hi⟩:=tie i x hx;have x9:=s2 _ _ x2;refine⟨_,rfl,p',PL,dx',_,_,rfl,x9,TL.cl,TL.n1,mH _ _ _,_,rfl,p',PL,dx',_,_,rfl,x9,TL.cl,TL.n2,qX _ _ _,?_⟩;intro xn dn nx ndx nex;refine⟨xn,PL,dn,_,_,_,rfl,ae,TL,by omega,by omega,by omega,by omega,fun H' h1 h2=>⟨rfl,?_⟩⟩
    have s4:Same H2 H':=fun b o z=>h2 b o (by rw[ak (ax z nx),ak (ax z ndx)];exact z) (ax z nx)
    have ul:zs.length=i:=by rw[tt.1,Ou,bC];omega
    refine⟨s2.trans s4,by rw[NT,Of,ul,Ou,bC];omega,fun jj e' k' hj' hk'=>?_⟩
    rw[Pd]at hj';by_cases z:jj<i
    ·rw[if_pos (by omega)]at hj'
     obtain⟨pp,dd,a1,a2⟩:=(tt.mono s4).2 jj e' k' (by rw[Pd,if_pos z];exact hj') hk'
     exact⟨pp,dd,by rw[NX (NP.mp a1).1];exact a1,a2⟩
    ·by_cases z2:jj=i
     ·subst z2;rw[if_pos (by omega),zO hi]at hj'
      cases hj'
      rw[LP hi]at hk'
      cases hk'
      exact⟨xn,dn,by rw[← ul,NW (NY _),OA];rfl,h1⟩
     ·rw[if_neg (by omega)]at hj'
      cases hj'
   rintro us H2 _ ⟨s2,tt⟩ D hD;rw[xtl,← bC k,Pb]at tt;have sD:=ai hD (.lst us);have s2D:=s2.trans sD;have hqh:=s2D _ _ v3;refine⟨_,rfl,p,WC,dx,fs,_,rfl,s2D _ _ u1,cw.cl,cw.n3,v1,qh,rfl,⟨_,SqL.of hqh⟩,bM (K:=K) (xs:=zh) (fun i zs H3=>Same (upd H2 D (.lst us)) H3/\cf H3 zs ((tsP k).take i)) (OG (au (by omega))) ⟨fun _ _ e=>e,rfl,fun i l e=>by simp at e⟩ (fun i zs H3 _ z=>SqL.of (z.1 _ _ hqh)) ?_ ?_⟩
   ·rintro i x zs H3 hx ⟨s3,rz⟩;have hi:i<(tsP k).length:=by rw[← zl];exact(NP.mp hx).1
    obtain⟨l,hl⟩:∃ l,(tsP k)[i]?=some l:=⟨_,NQ hi⟩;obtain⟨pp,a1,_,a2⟩:=v4.2 i l hl;rw[hx]at a1
    cases a1
    refine⟨_,rfl,pp,_,rfl,.inl (SqL.of (s3 _ _ (s2D _ _ a2))),fun g hg=>?_⟩;have s4:=ai hg (.lst (l.map iV));refine⟨s3.trans s4,?_⟩;rw[show(tsP k).take (i+1)=(tsP k).take i++[l] by rw[O7,hl];rfl]
    exact(rz.mono s4).snoc ae
   rintro zs H3 _ ⟨s3,rz⟩ D2 hD2;rw[zl,Pb]at rz;have s4:=ai hD2 (.lst zs);have s24:=s3.trans s4;have kl0:(ks0 k).length=(esP k).length:=by rw[Nb,bC]
   intro x dxw nx ndx nex;have up:∀ b o,(upd H3 D2 (.lst zs)) b=some o->(upd (upd (upd H3 D2 (.lst zs)) dxw (.own x)) x (.ins WC dxw [])) b=some o:=fun b o z=>by rw[ak (ax z nx),ak (ax z ndx)];exact z
   refine⟨x,WC,dxw,D,D2,k+2,us,zs,esP k,tsP k,rfl,ae,cw,up _ _ (s24 _ _ ae),((tt.at kl0 TL TS).mono (sD.trans s24)).mono up,up _ _ ae,(rz.mono s4).mono up,CD k,by rw[bC];omega,by rw[bC];omega,fun fsw q1w rsw H' h1 hg hn h2 h3 h4=>⟨rfl,?_⟩⟩
   have s5:Same (upd H3 D2 (.lst zs)) H':=fun b o z=>h4 b o (up _ _ z) (ax z nx);have sAll:Same H1 H':=s2D.trans (s24.trans s5);have wf0:WebF _ PL PS WC H' x (k+2) (esP k) (tsP k) rsw (ks0 k):=⟨dxw,fsw,q1w,us,h1,hg,fun z=>z hn,h2,h3,tt.mono (sD.trans (s24.trans s5))⟩;have wc0:=AX wf0 kl0 (by rw[bC];omega) (by omega) fun y hy=>by
    unfold ks0 at hy;obtain⟨i,_,rfl⟩:=OL.mp hy;exact .inl rfl
   refine⟨_,rfl,_,rfl,.inr ⟨x,k+2,st,_,_,rfl,wc0,hst,cq tb21 sAll,fun l on H6 sm6 _ hl pw al=>?_⟩⟩
   have e:=Ax (N:=2^(k+2)) pw fun n=>(al n).trans ⟨fun r=>r.lt hst,fun hn'=>by
    have hall:∀ n,(aM (esP k) (ks0 k) (k+2)).getD n 0=0:=fun n=>by
     by_cases c:n<2^(k+2)
     ·rw[cz c,wT_0]
     ·rw[OB,P9 (by rw[d8];omega)];rfl
    exact G0 hst (fun x y _=>decide_eq_true (by rw[hall,hall];exact Pr _)) n hn'⟩
   subst e;refine⟨_,rfl,_,_,rfl,rfl,⟨by omega,by ac_rfl,by decide⟩,2^(k+2),congrArg V.int (shlN (k+2)),by omega,fun q hq=>?_⟩
   have sq:=ai hq (.lst ((Oz (2^(k+2))).map fun(i:Nat)=>V.int ((i:Nat):Int)));exact⟨_,cF (SqL.of (sq _ _ hl)),cF (ps:=Oz (2^(k+2))) (SqL.of ae),bQ _,kk _ (sm1.trans ((SmC.of sAll).trans (sm6.trans (.of sq))))⟩
  refine⟨_,rfl,_,_,rfl,rfl,(by show(0:Int)<16;decide),rfl,_,rfl,ite2 (fun c5=>?_) (fun c5=>?_)⟩
  ·refine⟨_,rfl,_,rfl,_,rfl,_,_,rfl,rfl,⟨by decide,by decide⟩,_,_,rfl,rfl,⟨by decide,by decide,by decide⟩,_,_,rfl,rfl,(by show(0:Int)<10^(30:Int).toNat;decide),_,_,rfl,rfl,.inr ⟨p,k+2,st,_,_,_,rfl,wc,hst,tb11,fun l on H2 sm2 _ hl on1 on2=>?_⟩⟩
   have e:=on1 (by
    have h1:=wT_Pn k (c/4) st;have h2:=Pk (c/7) (show(10^(30:Int).toNat:Int)≠0 by decide)
    show(0:Int)-(c/7)%10^(30:Int).toNat<=_;generalize (c/7)%10^(30:Int).toNat=z at h2
    omega)
   subst e;refine⟨(by show 0<=sizeLine;exact O5 _),fun l0 hl0=>?_⟩
   have sl0:=ai hl0 (.lst []);exact⟨_,cF (ps:=[]) (SqL.of (sl0 _ _ hl)),cF (ps:=[]) (SqL.of ae),bQ _,kk _ (sm1.trans (sm2.trans (.of sl0)))⟩
  have mp:(0:Int)<((k+2:Nat):Int):=by omega
  refine⟨_,rfl,_,rfl,_,_,rfl,rfl,⟨by decide,by decide⟩,_,rfl,_,_,rfl,rfl,mp,?_⟩
  obtain⟨j,hje,hj⟩:∃ j:Nat,(c/5)%((k+2:Nat):Int)=(j:Int)/\j<k+2:=by
   have h0:=Pk (c/5) (show((k+2:Nat):Int)≠0 by omega)
   have h1:=Pe (c/5) mp;exact⟨_,(PM h0).symm,by omega⟩
  dsimp only;rw[hje];refine⟨_,_,rfl,rfl,⟨by omega,by omega,by decide⟩,_,_,rfl,rfl,?_⟩
  dsimp only;have ex:Builtin.bitXor (st:Int) (1*2^((j:Nat):Int).toNat)=((st^^^2^j:Nat):Int):=by rw[shlN,xorN]
  rw[ex];refine⟨_,rfl,p,WC,dx,fs,_,rfl,u1,cw.cl,cw.n2,u2,qt,rfl,⟨_,SqL.of u3⟩,bM (K:=K) (xs:=xt) (fun i zs H2=>Same H1 H2/\c6 H2 zs ((esP k).take i)) (OG (au (by omega))) ⟨fun _ _ e=>e,rfl,fun i e q=>by simp at q⟩ (fun i zs H2 _ y=>SqL.of (y.1 _ _ u3)) ?_ ?_⟩
  ·rintro i x zs H2 hx ⟨s2,en⟩;obtain⟨p',dx',rfl,x2,hi⟩:=tie i x hx;have x9:=s2 _ _ x2;refine⟨_,rfl,p',PL,dx',_,_,rfl,x9,TL.cl,TL.n1,mH _ _ _,_,rfl,p',PL,dx',_,_,rfl,x9,TL.cl,TL.n2,qX _ _ _,(by show 2<=sizeLine;decide),fun ta hta=>?_⟩
   have s4:=ai hta (.tup [V.int (i:Int),V.int ((i+1:Nat):Int)]);refine⟨s2.trans s4,?_⟩;rw[show(esP k).take (i+1)=(esP k).take i++[(i,i+1)] by rw[O7,zO hi];rfl]
   exact(en.mono s4).snoc ae
  rintro zs H2 _ ⟨s2,en⟩ D hD;rw[xtl,← bC k,Pb]at en;have sD:=ai hD (.lst zs);have s2D:=s2.trans sD;refine⟨_,rfl,p,WC,dx,fs,_,rfl,s2D _ _ u1,cw.cl,cw.n2,u2,qt,rfl,⟨_,SqL.of (s2D _ _ u3)⟩,bM (K:=K) (xs:=xt) (fun i ws H3=>Same (upd H2 D (.lst zs)) H3/\gm H3 ws ((ksP k (c/4)).take i)) (OG (au (by omega))) ⟨fun _ _ e=>e,rfl,fun i e q=>by simp at q⟩ (fun i ws H3 _ y=>SqL.of (y.1 _ _ (s2D _ _ u3))) ?_ ?_⟩
  ·rintro i x ws H3 hx ⟨s3,tk⟩;obtain⟨p',dx',rfl,x2,hi⟩:=tie i x hx;have x9:=s3 _ _ (s2D _ _ x2);refine⟨_,rfl,p',PL,dx',_,_,rfl,x9,TL.cl,TL.n3,Gz _ _ _,(by show 2<=sizeLine;decide),fun ta hta=>?_⟩
   have s4:=ai hta (.tup [V.int 0,V.int (stg (ksP k (c/4)) i)]);have wl:ws.length=i:=by rw[tk.1,Ou,oq];omega
   refine⟨s3.trans s4,by rw[NT,Of,wl,Ou,oq];omega,fun jj kx hk=>?_⟩
   rw[Pd]at hk;split at hk
   ·rename_i jl;by_cases z:jj=i
    ·subst z;have e:=ph (c/4) hi;rw[hk]at e;have e2:=Ov e;subst e2;have g1:=yc k (c/4) jj;rw[uC (ph (c/4) hi)]at g1;exact⟨.inl rfl,g1,ta,by rw[NW (by omega),wl,OA];rfl,by rw[ae,uC (ph (c/4) hi)]⟩
    ·obtain⟨a1,a2,pp,a3,a4⟩:=tk.2 jj kx (by rw[Pd,if_pos (by omega)];exact hk)
     exact⟨a1,a2,pp,by rw[NX (NP.mp a3).1];exact a3,s4 _ _ a4⟩
   ·cases hk
  rintro ws H3 _ ⟨s3,tk⟩ D2 hD2;rw[xtl,← oq k (c/4),Pb]at tk;have sD2:=ai hD2 (.lst ws);have s3D:=s3.trans sD2;have s1D:=s2D.trans s3D;refine⟨_,rfl,_,rfl,_,rfl,.inr ⟨p,k+2,st,st^^^2^j,_,_,rfl,wc.mono s1D,hst,g8 hst hj,cq tb11 s1D,fun tc qc lc h H5 sm5 _ htc hqc wy le no=>⟨tc,_,0,_,rfl,rfl,SqT.of htc,rfl,?_⟩⟩⟩;have smE:SmC H2 H5:=(SmC.of (sD.trans s3D)).trans sm5;have smK:SmC H3 H5:=(SmC.of sD2).trans sm5;have hDE:H5 D=some (.lst zs):=sm5.lst (s3D _ _ ae);have hDK:H5 D2=some (.lst ws):=sm5.lst ae;refine⟨_,rfl,_,rfl,_,rfl,D,D2,zs,ws,esP k,ksP k (c/4),st,rfl,SqL.of hDE,en.sm smE,SqL.of hDK,tk.sm smK,kl,by rw[bC];omega,?_⟩
  refine⟨_,rfl,_,rfl,_,rfl,D,D2,zs,ws,esP k,ksP k (c/4),st^^^2^j,rfl,SqL.of hDE,en.sm smE,SqL.of hDK,tk.sm smK,kl,by rw[bC];omega,_,_,rfl,rfl,?_⟩
  rw[IG hst hj wy le no,decide_eq_true rfl];exact kk _ (sm1.trans ((SmC.of s1D).trans sm5))
 refine⟨_,rfl,_,rfl,_,_,rfl,rfl,(by show(0:Int)<4;decide),rfl,_,rfl,ite2 (fun c0=>?_) (fun c0=>?_)⟩
 ·refine⟨_,rfl,_,_,rfl,n,(if n<8 then n else 8)-2,c,?_,by split<;>omega,by split<;>omega,tb1,tb2,fun H' s=>kk H' s⟩
  have e:(((if n<8 then n else 8)-2+2:Nat):Int)=if(8:Int)<(n:Int) then 8 else(n:Int):=by
   split<;>split<;>omega
  rw[e];rfl
 ·exact⟨n,n-2,c,by rw[show((n-2+2:Nat):Int)=(n:Int) by omega];rfl,by omega,by omega,tb1,tb2,fun H' s=>kk H' s⟩
end
def vv(K:NS)(T1 T2:Addr):Sp:=fun vs H Q _=>∃(a:Addr)(ns:List Int),vs = [.ref a]/\SqL K H a (ns.map V.int)/\ns.length<=63/\Tb lqL lpL T1 H/\Tb lqE lpE T2 H/\∀ H',Q (.bl true) H'
def restLA(K:NS):TS:=fun D σ H=>∃(a:Addr)(ns:List Int)(cl:Int),σ = [some (.ref a),some (.int cl),none,none,none,none,none,none,none,none]/\SqL K H a (ns.map V.int)/\ns.length<=63/\∀ H',D.rt (.bl true) H'
def restLB(K:NS):TS:=fun D σ H=>∃(a:Addr)(ns:List Int)(cl:Int)(v2 v3:Option V),σ = [some (.ref a),some (.int cl),v2,v3,none,none,none,none,none,none]/\SqL K H a (ns.map V.int)/\ns.length<=63/\∀ H',D.rt (.bl true) H'
theorem Eg(cs:List Int)(m L:Nat):(Oz m).filter (fun p=>decide (cs.getD (L^^^2^p) 0<cs.getD L 0)) = []↔jo cs m L=true:=by
 unfold jo;rw[List.filter_eq_nil_iff,QG];constructor
 ·intro h p hp;have:=h p hp;rw[decide_eq_true_iff]at this ⊢;omega
 ·intro h p hp;have:=h p hp;rw[decide_eq_true_iff]at this ⊢;omega
section
variable{P:Program}{w:World}{K:NS}{mg:Str->Option Value}{base:Heap}
theorem kQ:aA ["script","cell","wide","which","grown","kinds","costs","due","laying","lower"] ["script"] (ah vL):=by ac_nf
theorem ok_law{T1 T2 f fG fR fC fK fW fO f1 f2 f3 f4 f5 TW PL PS WC:Addr}{fd dG dR dC dK dW dO d1 d2 d3 d4 d5:FuncData} (F:Fun K "law" "law" vL f fd) (T:TxtM mg) (G_law_grown:Cal P w K mg base 3 "_law_grown" ["cells","places"] (vw K) fG dG) (G_law_renumbered:Cal P w K mg base 2 "_law_renumbered" ["grown","cell"] GL fR dR) (G_law_cell:Cal P w K mg base 1 "_law_cell" ["script","k"] (DT K) fC dC) (G_law_kinds:Cal P w K mg base 2 "_law_kinds" ["script","many","limits"] (Bd K) fK dK) (G_law_costs:Cal P w K mg base 2 "_law_costs" ["grown","kinds"] Be fO dO) (G_law_web:Cal P w K mg base 7 "_law_web" ["grown","kinds"] (Bb PL PS WC) fW dW) (G_law_short_row:Cal P w K mg base 8 "_law_short_row" ["places","cell"] (A5 T1 T2) f1 d1) (G_law_row_of_places:Cal P w K mg base 7 "_law_row_of_places" ["many","cell"] (Jt PL PS WC) f2 d2) (G_law_too_wide:Cal P w K mg base 8 "_law_too_wide" ["web","which","start","goal"] (GJ WC) f3 d3) (G_resting:CalX P w K mg base 6 "resting" ["web"] (jk TW PL PS WC) f4 d4) (G_law_listed:Cal P w K mg base 2 "_law_listed" ["found","due"] vq f5 d5):FnOk P w K mg base CX0 9 f fd ["script"] (vv K T1 T2):=by
 refine F.ok kQ (fun vs H Q E h=>?_) (fun cdv A outer s H vs Q E hr h=>?_)
 ·obtain⟨a,ns,rfl,_⟩:=h;rfl
 obtain⟨a,ns,rfl,hS,h63,tb1,tb2,kk⟩:=h;have hu64:=hr.units
 refine⟨_,(af (av (i:=1) kQ.nd rfl (Or.inl rfl) (aB G_law_cell.ok (hr.mono (by decide)) rfl G_law_cell.mg G_law_cell.kp G_law_cell.bn .nil bb (aa (pv 0) (aa aj ag))))
   (af (b9 (PW.pt (G5 (aE gW (aq a8 (pv 1) aj) aj (aK _)) (Bu (uJ (mQ (aB G_law_short_row.ok (hr.mono (by decide)) rfl G_law_short_row.mg G_law_short_row.kp G_law_short_row.bn .nil bb (aa (aq bq aj (aq a8 (aq bu (pv 1) aj) aj)) (aa (aq bu (pv 1) aj) ag)))))))) (ao (aG BL)) aR)
   (rh (t2:=restLA K) (af (b9 (aE gW (aq a8 (pv 1) aj) aj (aK _)) (af (av (i:=2) kQ.nd rfl (Or.inl rfl) (aB G_law_row_of_places.ok (hr.mono (by decide)) rfl G_law_row_of_places.mg G_law_row_of_places.kp G_law_row_of_places.bn .nil bb (aa (aq bq aj (aq a8 (aq bu (pv 1) aj) aj)) (aa (aq bu (pv 1) aj) ag))))
   (ao (cA PassesOwn.never rfl (aW rfl T.n_range (aa aj ag)) (aX (i:=3) kQ.nd rfl (Or.inl rfl)) (ao (b9 (uJ (mQ (aB G_law_too_wide.ok (hr.mono (by decide)) rfl G_law_too_wide.mg G_law_too_wide.kp G_law_too_wide.bn .nil bb (aa (pv 2) (aa (pv 3) (aa (aq a8 (aq bu (pv 1) aj) aj) (aa (aq a8 (aq bu (pv 1) aj) aj) ag))))))) (ao (aG BL)) aR))))) aR)
   (rh (t2:=restLB K) (af (av (i:=4) kQ.nd rfl (Or.inl rfl) (aB G_law_renumbered.ok (hr.mono (by decide)) rfl G_law_renumbered.mg G_law_renumbered.kp G_law_renumbered.bn .nil bb (aa (aB G_law_grown.ok (hr.mono (by decide)) rfl G_law_grown.mg G_law_grown.kp G_law_grown.bn .nil bb (aa (gy jn (pv 0) (gU aj) (gU aj)) (aa aj ag))) (aa (pv 1) ag))))
   (af (av (i:=5) kQ.nd rfl (Or.inl rfl) (aB G_law_kinds.ok (hr.mono (by decide)) rfl G_law_kinds.mg G_law_kinds.kp G_law_kinds.bn .nil bb (aa (pv 0) (aa (aw ar (by rfl) T.n_len bo (aa (aN bD (pv 4) aj (fun _ _=>rfl)) ag)) (aa (bj (aa aj (aa aj (aa (aq bq (aq LL aj aj) aj) ag)))) ag)))))
   (af (av (i:=6) kQ.nd rfl (Or.inr rfl) (aB G_law_costs.ok (hr.mono (by decide)) rfl G_law_costs.mg G_law_costs.kp G_law_costs.bn .nil bb (aa (pv 4) (aa (pv 5) ag))))
   (af (av (i:=7) kQ.nd rfl (Or.inl rfl) (bj ag))
   (af (cA PassesOwn.never rfl (aW rfl T.n_range (aa (aw ar (by rfl) T.n_len bo (aa (pv 6) ag)) ag)) (aX (i:=8) kQ.nd rfl (Or.inr rfl)) (af (Bw (i:=9) rfl kQ.nd rfl rfl (fr:=[("laying",8),("costs",6)]) (xs:=["p"]) (oY.of (by rfl) (by decide) (by rfl) (by decide) (by intro p hp;simp only[NU,O4,or_false]at hp;rcases hp with rfl | rfl<;>exact⟨rfl,rfl⟩) (by decide) (by intro p hp;simp only[NU,O4,or_false]at hp;rcases hp with rfl | rfl<;>rfl)) (aW rfl T.n_range (aa (aw ar (by rfl) T.n_len bo (aa (aN bD (pv 4) aj (fun _ _=>rfl)) ag)) ag)) (fun C ex s H=>(aX (i:=0) (show(["p","laying","costs"]:List Str).Nodup from by decide) rfl (Or.inl rfl))) (fun C ex s H=>(Bv (aE E2 (aN (kr (K:=K) rfl) (pv 2) (aq yR (pv 1) (aq ja aj (pv 0))) (fun _ _=>rfl)) (aN (kr (K:=K) rfl) (pv 2) (pv 1) (fun _ _=>rfl)) (aK _)))) (fun C ex s H=>(pv 0)))
   (ao (b9 (aE (op_eqG hu64) (pv 9) (bj ag) (aK _)) (ao (bp (iF OE OQ OP bx (pv 7) (aa (pv 8) ag)))) aR))))
   (ao (aG (aB G_law_listed.ok (hr.mono (by decide)) rfl G_law_listed.mg G_law_listed.kp G_law_listed.bn .nil bb (aa (aB G_resting.ok (hr.mono (by decide)) rfl G_resting.mg G_resting.kp G_resting.bn .nil o9 (aa (aB G_law_web.ok (hr.mono (by decide)) rfl G_law_web.mg G_law_web.kp G_law_web.bn .nil bb (aa (pv 4) (aa (pv 5) ag))) ag)) (aa (pv 7) ag)))))))))) (fun D0 S0 H0 h0=>?restb))) (fun D0 S0 H0 h0=>?resta)))),?_⟩
 case restb =>
  clear kk tb1 tb2 hS h63;obtain⟨a,ns,cl,v2,v3,rfl,hS,h63,kk⟩:=h0;obtain⟨cs,hcs,csl⟩:=Ld ns 2 10;refine⟨_,rfl,_,rfl,_,rfl,a,_,rfl,hS,fun b hb=>?_⟩;have sb:=ai hb (.lst (cs.map V.int));rw[show cutV (ns.map V.int) (some 2) (some 10)=cs.map V.int from hcs];refine⟨b,6,cs,rfl,SqL.of ae,by omega,by decide,fun t pe pt pr m es ts rg H1 s1 ht ⟨⟨ys,xs,zs,C⟩,g,part⟩ e0 el mP=>?_⟩
  have s01:=sb.trans s1;refine⟨_,rfl,t,pe,pt,pr,_,m,es,ts,rg,rfl,ht,⟨⟨ys,C.he,C.en⟩,⟨xs,C.ht,C.rx.off⟩,g⟩,⟨zs,C.hr,C.rz.off⟩,part,g.two e0,by omega,fun t' pe' pt' pr' es' ts' rg' H2 s2 ht' wp rp part' el'=>?_⟩
  have s02:=s01.trans s2;obtain⟨⟨ys',hpe',hE'⟩,⟨xs',hpt',hR'⟩,g'⟩:=id wp;have yl':ys'.length=es'.length:=hE'.1;have xl:xs'.length=m:=by rw[hR'.1,g'.w.len]
  refine⟨_,rfl,_,rfl,t',_,0,_,rfl,rfl,SqT.of ht',at30,pe',ys',rfl,.inl (SqL.of hpe'),_,_,rfl,rfl,⟨by decide,by decide,by decide⟩,_,_,rfl,rfl,(by show 3<=sizeLine;decide),fun lm hlm=>?_⟩
  have sl:=ai hlm (.lst [V.int 2,V.int 4,V.int (10^(30:Int).toNat+1)]);have s03:=s02.trans sl;refine⟨a,lm,es'.length,ns,[2,4,10^(30:Int).toNat+1],(by rw[yl'];rfl),s03.seq hS,h63,SqL.of ae,by decide,by decide,fun x hx=>?_,by omega,by omega,fun pk ws ks H4 s4 hpk tk kl kb=>?_⟩
  ·rcases NU.mp hx with z | z
   ·rw[z];decide
   ·rcases NU.mp z with z | z
    ·rw[z];decide
    ·rw[Ol.mp z];exact⟨by decide,Pr _⟩
  have s24:=sl.trans s4;have s04:=s03.trans s4;have mE:m<=10:=by omega
  obtain⟨w1,w2,w3,w4⟩:=mS mE;refine⟨_,rfl,_,rfl,t',pe',pt',pr',pk,m,es',ts',ks,rfl,s24 _ _ ht',wp.mono s24,⟨ws,hpk,tk⟩,kl,by omega,mE,fun qc H5 s5 nqc hqc=>?_⟩
  have s25:=s24.trans s5;have s05:=s04.trans s5;have kin:∀ k∈ks,k.1=0∨k.1=1:=fun k hk=>by
   obtain⟨i,hi⟩:=Rq hk;exact(tk.2 i k hi).1
  have clV:((aM es' ks m).map V.int).length=2^m:=by rw[NR,d8]
  have cV:∀ n,n<2^m->((aM es' ks m).map V.int)[n]?=some (.int ((aM es' ks m).getD n 0)):=fun n hn=>by rw[NZ,sk (by rw[d8];exact hn)];rfl
  refine⟨(by show 0<=sizeLine;exact O5 _),fun qd hqd=>?_⟩
  have sd:=ai hqd (.lst []);refine⟨_,rfl,qc,_,rfl,.inl (SqL.of (sd _ _ hqc)),_,rfl,by omega,by ac_rfl,cn (n:=(((aM es' ks m).map V.int).length:Int).toNat) (fun i σ H6=>∃ v8 v9:Option V,σ = [some (.ref a),some (.int cl),v2,v3,some (.ref t'),some (.ref pk),some (.ref qc),some (.ref qd),v8,v9]/\Same H5 H6/\H6 qd=some (.lst (((Oz i).filter (jo (aM es' ks m) m)).map iV))) ⟨_,_,rfl,sd,ae⟩ ?_ ?_⟩
  ·rintro i σ H6 hi ⟨v8,v9,rfl,s6,hd6⟩;rw[Ob,clV]at hi;rw[Po];have s26:=s25.trans s6
   refine⟨_,rfl,t',_,1,_,rfl,rfl,SqT.of (s26 _ _ ht'),at31,pt',xs',rfl,.inl (SqL.of (s26 _ _ hpt')),_,rfl,by omega,by ac_rfl,lW (k:=((xs'.length:Nat):Int).toNat) (fun j zs H7=>H7=H6/\zs=((Oz j).filter (fun p=>decide ((aM es' ks m).getD (i^^^2^p) 0<(aM es' ks m).getD i 0))).map iV) (by rw[Ob,xl];exact OG (au (by omega))) ⟨rfl,rfl⟩ ?_ ?_ (fun n zs H7 z=>by
    rw[z.2,NR];have:=P8 (fun p=>decide ((aM es' ks m).getD (i^^^2^p) 0<(aM es' ks m).getD i 0)) (Oz n);rw[OR]at this
    exact this)⟩
   ·rintro j zs H7 hj ⟨rfl,rfl⟩;rw[Ob,xl]at hj;rw[Po];refine⟨rfl,_,rfl,_,rfl,_,rfl,_,_,rfl,rfl,⟨by omega,by omega,by decide⟩,_,_,rfl,rfl,?_⟩
    dsimp only;have ex:Builtin.bitXor (i:Int) (1*2^((j:Nat):Int).toNat)=((i^^^2^j:Nat):Int):=by rw[shlN,xorN]
    rw[ex];refine⟨qc,_,_,_,rfl,rfl,SqL.of (s6 _ _ hqc),aD (cV _ (g8 hi hj)),_,rfl,_,rfl,qc,_,_,_,rfl,rfl,SqL.of (s6 _ _ hqc),aD (cV i hi),_,_,rfl,rfl,_,rfl,ite2 (fun c=>?_) (fun c=>?_)⟩
    ·refine⟨_,rfl,rfl,?_⟩;rw[Pc,PX,Qw (p:=fun p=>decide ((aM es' ks m).getD (i^^^2^p) 0<(aM es' ks m).getD i 0)) c,Qc,Oo];rfl
    ·refine⟨rfl,?_⟩;rw[Pc,PX,Qx (p:=fun p=>decide ((aM es' ks m).getD (i^^^2^p) 0<(aM es' ks m).getD i 0)) c,Qc,Pa]
   rintro zs H7 ⟨rfl,rfl⟩ D hD;rw[Ob,xl];have sD:=ai hD (.lst (((Oz m).filter (fun p=>decide ((aM es' ks m).getD (i^^^2^p) 0<(aM es' ks m).getD i 0))).map iV));refine⟨_,rfl,(by show 0<=sizeLine;exact O5 _),fun l0 hl0=>?_⟩
   have sl0:=ai hl0 (.lst []);refine⟨_,_,cF (SqL.of (sl0 _ _ ae)),cF (ps:=[]) (SqL.of ae),bQ _,bQ _,_,rfl,?_⟩;rw[Eo];have sDl:=sD.trans sl0;have hd7:=sDl _ _ hd6;refine ite2 (fun c=>?_) (fun c=>?_)
   ·have e:jo (aM es' ks m) m i=true:=(Eg _ _ _).mp (List.map_eq_nil_iff.mp (of_decide_eq_true c))
    have fl:=P8 (jo (aM es' ks m) m) (Oz i);rw[OR]at fl;refine⟨_,rfl,.inl ⟨rfl,_,SqL.of hd7⟩,_,rfl,qd,_,_,rfl,rfl,hd7,(by rw[NR];exact PU (show _<=1024 by omega) (by decide)),?_⟩
    refine⟨_,_,rfl,bf (s6.trans sDl) hqd _,?_⟩;rw[ae,Pc,PX,Qw e,Qc,Oo];rfl
   ·have e:¬ jo (aM es' ks m) m i=true:=fun z=>c (decide_eq_true (by rw[(Eg _ _ _).mpr z]))
    refine⟨_,_,rfl,s6.trans sDl,?_⟩;rw[Pc,PX,Qx e,Qc,Pa];exact hd7
  rintro σ H6 ⟨v8,v9,rfl,s6,hd6⟩;rw[Ob,clV]at hd6;have s26:=s25.trans s6;have kin:∀ k∈ks,k.1=0∨k.1=1:=fun k hk=>by
   obtain⟨i,hi⟩:=Rq hk;exact(tk.2 i k hi).1
  refine⟨_,rfl,_,rfl,t',pe',pt',pr',pk,m,es',ts',ks,rfl,s26 _ _ ht',wp.mono s26,⟨ws,(s5.trans s6) _ _ hpk,tk.mono (s5.trans s6)⟩,by omega,kl,by omega,fun p rs H7 s7 wf=>?_⟩
  refine .inl ⟨p,m,es',ks,rfl,AX wf kl (by omega) mE kin,fun q H8 s8 nq hq=>?_⟩
  refine⟨_,rfl,q,qd,_,rfl,hq,(s7.trans s8) _ _ hd6,?_,kk _⟩;have:=P8 (jo (aM es' ks m) m) (Oz (2^m));rw[OR]at this;omega
 case resta =>
  clear kk tb1 tb2 hS h63;obtain⟨a,ns,cl,rfl,hS,h63,kk⟩:=h0;refine⟨_,rfl,_,_,rfl,rfl,(by show(0:Int)<5;decide),rfl,_,rfl,ite2 (fun c=>?_) (fun c=>?_)⟩
  ·obtain⟨k,hk,k9,k38⟩:∃ k:Nat,11+(cl/5)%30=((k+2:Nat):Int)/\9<=k/\k<=38:=by
    have h0:=Pk (cl/5) (show(30:Int)≠0 by decide)
    have h1:=Pe (cl/5) (show(0:Int)<30 by decide)
    exact⟨(9+(cl/5)%30).toNat,by omega,by omega,by omega⟩
   refine⟨_,rfl,_,_,rfl,rfl,⟨by decide,by decide⟩,_,_,rfl,rfl,(by show(0:Int)<30;decide),_,_,rfl,rfl,_,rfl,_,_,rfl,rfl,⟨by decide,by decide⟩,k,cl/7,?_,k38,fun p rs H1 s1 wf=>?_⟩
   ·dsimp only;rw[hk];rfl
   have wd:∀ H2,Same H1 H2->Wide WC H2 p:=fun H2 s2=>by
    obtain⟨dx,fs,qt,xt,u1,b0,_⟩:=wf;exact⟨dx,fs,k+2,s2 _ _ u1,b0.many,by omega⟩
   refine⟨_,rfl,by decide,by decide,cn (n:=(4:Int).toNat) (fun i σ H2=>∃ v3:Option V,σ = [some (.ref a),some (.int cl),some (.ref p),v3,none,none,none,none,none,none]/\Same H1 H2) ⟨_,rfl,fun _ _ e=>e⟩ ?_ ?_⟩
   ·rintro i σ H2 hi ⟨v3,rfl,s2⟩;exact⟨_,rfl,_,rfl,_,rfl,_,_,rfl,rfl,⟨by decide,by decide⟩,_,_,rfl,rfl,(by show(0:Int)<2048;decide),_,rfl,_,_,rfl,rfl,⟨by decide,by decide⟩,_,_,rfl,rfl,(by show(0:Int)<2048;decide),p,_,_,_,rfl,wd H2 s2,fun H' s3=>⟨_,rfl,iteF ⟨_,rfl,s2.trans s3⟩⟩⟩
   rintro σ H2 ⟨v3,rfl,s2⟩;exact⟨a,ns,cl,_,_,rfl,(s1.trans s2).seq hS,h63,fun H'=>kk H'⟩
  ·exact⟨a,ns,cl,_,_,rfl,hS,h63,fun H'=>kk H'⟩
 refine⟨_,rfl,a,0,ns,rfl,hS,?_⟩;generalize xJ ns 0=cl;refine⟨_,rfl,_,_,rfl,rfl,(by show(0:Int)<10;decide),rfl,_,rfl,ite2 (fun c=>?_) (fun c=>?_)⟩
 ·obtain⟨n,hn,n7,n10⟩:∃ n:Nat,7+(cl/10)%4=(n:Int)/\7<=n/\n<=10:=by
   have h0:=Pk (cl/10) (show(4:Int)≠0 by decide)
   have h1:=Pe (cl/10) (show(0:Int)<4 by decide)
   exact⟨(7+(cl/10)%4).toNat,by omega,by omega,by omega⟩
  refine⟨_,rfl,_,_,rfl,rfl,⟨by decide,by decide⟩,_,_,rfl,rfl,(by show(0:Int)<4;decide),_,_,rfl,rfl,_,rfl,_,_,rfl,rfl,⟨by decide,by decide⟩,n,cl/40,?_,n7,n10,tb1,tb2,fun H' sm=>⟨_,rfl,iteF ?_⟩⟩
  ·dsimp only;rw[hn];rfl
  ·exact⟨a,ns,cl,rfl,sm.seq hS,h63,fun H'=>kk H'⟩
 ·exact⟨a,ns,cl,rfl,hS,h63,fun H'=>kk H'⟩
end
def tvB(K:NS)(D:Addr):Bool:=Pt K (.ref D) (.type "ValueError") == some true
theorem tv_of{K:NS}{D:Addr}(h:tvB K D=true):Pt K (.ref D) (.type "ValueError")=some true:=by
 unfold tvB at h;exact beq_iff_eq.mp h
theorem DQ{K:NS}{x:Str}{f c T:Addr}{o1 o3:Value}{o2 o4:Option Addr}{o5 o6:Array (Option Value)}{fd:FuncData}{vs:Array Value}(a:Od K mainGlobals x=some (some (.ref f)))(l:K.lookup f=some ⟨o1,o2,.func fd,o5⟩)(e:fd.code=.ref c)(lc:K.lookup c=some ⟨o3,o4,.fields vs,o6⟩)(v:vs[11]?=some (.ref T)):Py K x=some (c,T):=by
 unfold Py;rw[a];simp only[l,e,lc,v]
theorem all_mk{l:RU}{w:World}{K:NS}{h:Heap}{mg:Str->Option Value}{fa gR ug oZ aV bh bg c7 xh gN gJ nu dD eA qR xo xi xm xj ng bO iw bA cJ fY Em nj kE gK iT kz ni fe eu dA cZ kD kC nt kA iY iW cE iX nk iU iZ gL gM i3 eB bR dB Nn:Addr}{cT TT:Addr}{oT:Value}{dT:Option Addr}{vT:Array Value}{sT:Array (Option Value)}{cT2 TT2:Addr}{oT2:Value}{dT2:Option Addr}{vT2:Array Value}{sT2:Array (Option Value)}(X:K.In h)(G:h.Ns mainGlobals mg) (hfa:mg "law" = some (.ref fa))
  {Kq Lm wk xV wb xQ Fd Gj qf qI rC tJ Hy Ja Ku Lq Kr Ln Kt Lp Ks Lo E7 Gb wo xX BU DC qg qJ y4 AG y6 AH MX NK E9 Ge BS DB we xR yT Ay BO Dx E8 Gd uj uA rB tH qa qG wm xW BR DA BQ Dz Fc Gi BP Dy yX AD yV AA nZ oO yW AB Fb Gg yU Az yY AE wg xS wj xU yZ AF rD tK kI kO qb qH od_law L7:Option Addr} {Ju vE vA EO pS ra GU Jy Jv Jx Jw EJ vG Bl pT yr yt Mw EL Bj vB yh Bf EK uh q8 pQ vF Bi Bh EN Bg yo yk nQ ym EM yj yp vC vD yq rb kG pR sl_law:Array (Option Value)} {Kv KL K5 JL Ew Le wz wW xy vS nE xG wq wQ xq vO nz xC Fj FG FT EZ uW FZ qk qu qz pY eO qD rF r8 sy rm jJ sG Hz HV IB Hc Ag IE Kz KQ La JP Ez Li Kw KN K6 JM Ex Lf Ky KP K9 JO xK Lh Kx KO K7 JN Ey Lg Fe Fy FN EU uQ FU wB wY xB vV nG xI B0 Cy CQ BF sS C4 ql qv qA pZ jd qE zg zG zW yL pF Ac zj zH zX yM pG Ad MY Nf Nv MG II NA Fg FA FP EW uT FW BZ Cw CP BE sR C3 wt wR xr vP nA xD y7 zy zP yE pq zY BV Cr CK BA sN CV Ff Fz FO EV uR FV uk ur uv ui kT uw rE r6 sv rj jI sF qi qo qx pW jb qB wA wX xA vU nF xH BY Cv CO BD sQ C2 BX Cu CN BC sP CZ Fi FD FR EY uV FY BW Ct CM BB sO CY zd zD zT yI pC z9 y9 zB zR yG pA z6 n8 ou oE nY iz oF zc zC zS yH pB z8 Fh FC FQ EX uU FX y8 zA zQ yF pz zZ ze zE zU yJ pD Aa wu wU xu vQ nB xE wx wV xw vR nC xF zf zF zV yK pE Ab rG r9 sA rA jK sJ kJ kK kL kH eV kM qj qp qy pX jc qC oc_law LQ LZ LF IH L4:Value}
  {ti_mplc:Tok}
  (i7:Od K mainGlobals "FloorError" = some (some (.ref gR)))
  (oW:Od K mainGlobals "TooMany" = some (some (.ref ug)))
  (mD:Od K mainGlobals "TooRough" = some (some (.ref oZ)))
  (oV:Od K mainGlobals "TooWide" = some (some (.ref aV)))
  (DI:Od K mainGlobals "Pull" = some (some (.ref bh)))
  (DH:Od K mainGlobals "Push" = some (some (.ref bg)))
  (Jc:Od K mainGlobals "Web" = some (some (.ref c7)))
  (jw:Oy K (.ref bh) "__init__" = some (some (.ref bO)))
  (jv:Oy K (.ref bh) "wish" = some (some (.ref iw)))
  (d7:Oy K (.ref bh) "unpleased" = some (some (.ref bA)))
  (iI:Oy K (.ref bh) "price" = some (some (.ref cJ)))
  (ju:Oy K (.ref bg) "__init__" = some (some (.ref bO)))
  (jt:Oy K (.ref bg) "wish" = some (some (.ref fY)))
  (d6:Oy K (.ref bg) "unpleased" = some (some (.ref bA)))
  (iH:Oy K (.ref bg) "price" = some (some (.ref cJ)))
  (lF:Oy K (.ref c7) "__init__" = some (some (.ref cZ)))
  (DD:Od K mainGlobals "worth" = some (some (.ref xh)))
  (Ci:K.lookup xh=some ⟨Kv,Kq,.func (Oq "worth" "worth" (aC nR) (ay nR) (ah nR) .none KL K5 JL Lm Ew Le),Ju⟩)
  (Df:Oj K Ew "worth" = true)
  (wJ:Oc K (.ref xh)=true)
  (jY:Od K mainGlobals "all_worths" = some (some (.ref gN)))
  (jB:K.lookup gN=some ⟨wz,wk,.func (Oq "all_worths" "all_worths" (aC cU) (ay cU) (ah cU) .none wW xy vS xV nE xG),vE⟩)
  (jQ:Oj K nE "all_worths" = true)
  (gF:Oc K (.ref gN)=true)
  (jU:Od K mainGlobals "steps_from" = some (some (.ref gJ)))
  (jx:K.lookup gJ=some ⟨wq,wb,.func (Oq "steps_from" "steps_from" (aC cP) (ay cP) (ah cP) .none wQ xq vO xQ nz xC),vA⟩)
  (jM:Oj K nz "steps_from" = true)
  (gB:Oc K (.ref gJ)=true)
  (tR:Od K mainGlobals "come_to" = some (some (.ref nu)))
  (rY:K.lookup nu=some ⟨Fj,Fd,.func (Oq "come_to" "come_to" (aC iq) (ay iq) (ah iq) .none FG FT EZ Gj uW FZ),EO⟩)
  (tm:Oj K uW "come_to" = true)
  (m8:Oc K (.ref nu)=true)
  (cp:Od K mainGlobals "come_to_below" = some (some (.ref dD)))
  (dk:K.lookup dD=some ⟨qk,qf,.func (Oq "come_to_below" "come_to_below" (aC aO) (ay aO) (ah aO) .none qu qz pY qI eO qD),pS⟩)
  (gb:Oj K eO "come_to_below" = true)
  (dy:Oc K (.ref dD)=true)
  (hX:Od K mainGlobals "least_height" = some (some (.ref eA)))
  (gZ:K.lookup eA=some ⟨rF,rC,.func (Oq "least_height" "least_height" (aC bY) (ay bY) (ah bY) .none r8 sy rm tJ jJ sG),ra⟩)
  (hG:Oj K jJ "least_height" = true)
  (eg:Oc K (.ref eA)=true)
  (xY:Od K mainGlobals "way_to" = some (some (.ref qR)))
  (wH:K.lookup qR=some ⟨Hz,Hy,.func (Oq "way_to" "way_to" (aC ka) (ay ka) (ah ka) .none HV IB Hc Ja Ag IE),GU⟩)
  (xN:Oj K Ag "way_to" = true)
  (qO:Oc K (.ref qR)=true)
  (DG:Od K mainGlobals "climb" = some (some (.ref xo)))
  (Cm:K.lookup xo=some ⟨Kz,Ku,.func (Oq "climb" "climb" (aC nW) (ay nW) (ah nW) .none KQ La JP Lq Ez Li),Jy⟩)
  (Dj:Oj K Ez "climb" = true)
  (wO:Oc K (.ref xo)=true)
  (DE:Od K mainGlobals "shore" = some (some (.ref xi)))
  (Cj:K.lookup xi=some ⟨Kw,Kr,.func (Oq "shore" "shore" (aC nU) (ay nU) (ah nU) .none KN K6 JM Ln Ex Lf),Jv⟩)
  (Dg:Oj K Ex "shore" = true)
  (wK:Oc K (.ref xi)=true)
  (tQ:Od K mainGlobals "falls" = some (some (.ref xm)))
  (wI:K.lookup xm=some ⟨Ky,Kt,.func (Oq "falls" "falls" (aC fE) (ay fE) (ah fE) .none KP K9 JO Lp xK Lh),Jx⟩)
  (Di:Oj K xK "falls" = true)
  (wN:Oc K (.ref xm)=true)
  (DF:Od K mainGlobals "rests" = some (some (.ref xj)))
  (Ck:K.lookup xj=some ⟨Kx,Ks,.func (Oq "rests" "rests" (aC nV) (ay nV) (ah nV) .none KO K7 JN Lo Ey Lg),Jw⟩)
  (Dh:Oj K Ey "rests" = true)
  (wM:Oc K (.ref xj)=true)
  (tL:Od K mainGlobals "resting" = some (some (.ref ng)))
  (rT:K.lookup ng=some ⟨Fe,E7,.func (Oq "resting" "resting" (aC h9) (ay h9) (ah h9) .none Fy FN EU Gb uQ FU),EJ⟩)
  (sV:Oj K uQ "resting" = true)
  (mW:Oc K (.ref ng)=true)
  (jD:K.lookup bO=some ⟨wB,wo,.func (Oq "__init__" "Tie.__init__" (aC cX) (ay cX) (ah cX) .none wY xB vV xX nG xI),vG⟩)
  (jS:Oj K nG "Tie.__init__" = true)
  (jF:Oc K (.ref bO)=true)
  (gG:Qk K (.ref bO)=true)
  (oo:K.lookup iw=some ⟨B0,BU,.func (Oq "wish" "Tie.wish" (aC fA) (ay fA) (ah fA) .none Cy CQ BF DC sS C4),Bl⟩)
  (oN:Oj K sS "Tie.wish" = true)
  (kq:Oc K (.ref iw)=true)
  (ox:Qk K (.ref iw)=true)
  (fQ:K.lookup bA=some ⟨ql,qg,.func (Oq "unpleased" "Tie.unpleased" (aC bL) (ay bL) (ah bL) .none qv qA pZ qJ jd qE),pT⟩)
  (gh:Oj K jd "Tie.unpleased" = true)
  (cm:Oc K (.ref bA)=true)
  (dz:Qk K (.ref bA)=true)
  (lQ:K.lookup cJ=some ⟨zg,y4,.func (Oq "price" "Tie.price" (aC dY) (ay dY) (ah dY) .none zG zW yL AG pF Ac),yr⟩)
  (l9:Oj K pF "Tie.price" = true)
  (fU:Oc K (.ref cJ)=true)
  (iS:Qk K (.ref cJ)=true)
  (lR:K.lookup fY=some ⟨zj,y6,.func (Oq "wish" "Push.wish" (aC dZ) (ay dZ) (ah dZ) .none zH zX yM AH pG Ad),yt⟩)
  (ma:Oj K pG "Push.wish" = true)
  (iR:Oc K (.ref fY)=true)
  (lT:Qk K (.ref fY)=true)
  (Jb:Od K mainGlobals "head" = some (some (.ref Em)))
  (HN:K.lookup Em=some ⟨MY,MX,.func (Oq "head" "head" (aC uI) (ay uI) (ah uI) .none Nf Nv MG NK II NA),Mw⟩)
  (IP:Oj K II "head" = true)
  (k_head:Oc K (.ref Em)=true)
  (tN:Od K mainGlobals "leaving" = some (some (.ref nj)))
  (rV:K.lookup nj=some ⟨Fg,E9,.func (Oq "leaving" "leaving" (aC ig) (ay ig) (ah ig) .none FA FP EW Ge uT FW),EL⟩)
  (sY:Oj K uT "leaving" = true)
  (mY:Oc K (.ref nj)=true)
  (oU:Od K mainGlobals "follower" = some (some (.ref kE)))
  (om:K.lookup kE=some ⟨BZ,BS,.func (Oq "follower" "follower" (aC fq) (ay fq) (ah fq) .none Cw CP BE DB sR C3),Bj⟩)
  (oM:Oj K sR "follower" = true)
  (ko:Oc K (.ref kE)=true)
  (jV:Od K mainGlobals "round_from" = some (some (.ref gK)))
  (jy:K.lookup gK=some ⟨wt,we,.func (Oq "round_from" "round_from" (aC cQ) (ay cQ) (ah cQ) .none wR xr vP xR nA xD),vB⟩)
  (jN:Oj K nA "round_from" = true)
  (gC:Oc K (.ref gK)=true)
  (ml:Od K mainGlobals "rounds_of" = some (some (.ref iT)))
  (lJ:K.lookup iT=some ⟨y7,yT,.func (Oq "rounds_of" "rounds_of" (aC dM) (ay dM) (ah dM) .none zy zP yE Ay pq zY),yh⟩)
  (lX:Oj K pq "rounds_of" = true)
  (iK:Oc K (.ref iT)=true)
  (oP:Od K mainGlobals "sides_of" = some (some (.ref kz)))
  (oa:K.lookup kz=some ⟨BV,BO,.func (Oq "sides_of" "sides_of" (aC fg) (ay fg) (ah fg) .none Cr CK BA Dx sN CV),Bf⟩)
  (oH:Oj K sN "sides_of" = true)
  (ke:Oc K (.ref kz)=true)
  (tM:Od K mainGlobals "reached" = some (some (.ref ni)))
  (rU:K.lookup ni=some ⟨Ff,E8,.func (Oq "reached" "reached" (aC ic) (ay ic) (ah ic) .none Fz FO EV Gd uR FV),EK⟩)
  (sW:Oj K uR "reached" = true)
  (mX:Oc K (.ref ni)=true)
  (i6:Od K mainGlobals "refuse_ends" = some (some (.ref fe)))
  (iJ:K.lookup fe=some ⟨uk,uj,.func (Oq "refuse_ends" "refuse_ends" (aC cx) (ay cx) (ah cx) .none ur uv ui uA kT uw),uh⟩)
  (i4:Oj K kT "refuse_ends" = true)
  (eZ:Oc K (.ref fe)=true)
  (hO:Od K mainGlobals "refuse_turns" = some (some (.ref eu)))
  (gY:K.lookup eu=some ⟨rE,rB,.func (Oq "refuse_turns" "refuse_turns" (aC bX) (ay bX) (ah bX) .none r6 sv rj tH jI sF),q8⟩)
  (g9:Oj K jI "refuse_turns" = true)
  (d9:Oc K (.ref eu)=true)
  (gj:Od K mainGlobals "refuse_parted" = some (some (.ref dA)))
  (fN:K.lookup dA=some ⟨qi,qa,.func (Oq "refuse_parted" "refuse_parted" (aC bJ) (ay bJ) (ah bJ) .none qo qx pW qG jb qB),pQ⟩)
  (fZ:Oj K jb "refuse_parted" = true)
  (du:Oc K (.ref dA)=true)
  (jC:K.lookup cZ=some ⟨wA,wm,.func (Oq "__init__" "Web.__init__" (aC cW) (ay cW) (ah cW) .none wX xA vU xW nF xH),vF⟩)
  (jR:Oj K nF "Web.__init__" = true)
  (jE:Oc K (.ref cZ)=true)
  (jG:Qk K (.ref cZ)=true)
  (oS:Od K mainGlobals "_law_cell" = some (some (.ref kD)))
  (oj:K.lookup kD=some ⟨BY,BR,.func (Oq "_law_cell" "_law_cell" (aC fm) (ay fm) (ah fm) .none Cv CO BD DA sQ C2),Bi⟩)
  (oK:Oj K sQ "_law_cell" = true)
  (ki:Oc K (.ref kD)=true)
  (oR:Od K mainGlobals "_law_head" = some (some (.ref kC)))
  (oi:K.lookup kC=some ⟨BX,BQ,.func (Oq "_law_head" "_law_head" (aC fj) (ay fj) (ah fj) .none Cu CN BC Dz sP CZ),Bh⟩)
  (oJ:Oj K sP "_law_head" = true)
  (kh:Oc K (.ref kC)=true)
  (tP:Od K mainGlobals "_law_put" = some (some (.ref nt)))
  (rX:K.lookup nt=some ⟨Fi,Fc,.func (Oq "_law_put" "_law_put" (aC ik) (ay ik) (ah ik) .none FD FR EY Gi uV FY),EN⟩)
  (tj:Oj K uV "_law_put" = true)
  (m7:Oc K (.ref nt)=true)
  (oQ:Od K mainGlobals "_law_step" = some (some (.ref kA)))
  (og:K.lookup kA=some ⟨BW,BP,.func (Oq "_law_step" "_law_step" (aC fi) (ay fi) (ah fi) .none Ct CM BB Dy sO CY),Bg⟩)
  (oI:Oj K sO "_law_step" = true)
  (kg:Oc K (.ref kA)=true)
  (my:Od K mainGlobals "_law_grown" = some (some (.ref iY)))
  (lN:K.lookup iY=some ⟨zd,yX,.func (Oq "_law_grown" "_law_grown" (aC dS) (ay dS) (ah dS) .none zD zT yI AD pC z9),yo⟩)
  (l6:Oj K pC "_law_grown" = true)
  (iO:Oc K (.ref iY)=true)
  (mv:Od K mainGlobals "_law_order" = some (some (.ref iW)))
  (lL:K.lookup iW=some ⟨y9,yV,.func (Oq "_law_order" "_law_order" (aC dP) (ay dP) (ah dP) .none zB zR yG AA pA z6),yk⟩)
  (lZ:Oj K pA "_law_order" = true)
  (iM:Oc K (.ref iW)=true)
  (eR:Od K mainGlobals "_law_renumbered" = some (some (.ref cE)))
  (eM:K.lookup cE=some ⟨n8,nZ,.func (Oq "_law_renumbered" "_law_renumbered" (aC bE) (ay bE) (ah bE) .none ou oE nY oO iz oF),nQ⟩)
  (eQ:Oj K iz "_law_renumbered" = true)
  (cD:Oc K (.ref cE)=true)
  (mw:Od K mainGlobals "_law_kinds" = some (some (.ref iX)))
  (lM:K.lookup iX=some ⟨zc,yW,.func (Oq "_law_kinds" "_law_kinds" (aC dQ) (ay dQ) (ah dQ) .none zC zS yH AB pB z8),ym⟩)
  (l5:Oj K pB "_law_kinds" = true)
  (iN:Oc K (.ref iX)=true)
  (tO:Od K mainGlobals "_law_web" = some (some (.ref nk)))
  (rW:K.lookup nk=some ⟨Fh,Fb,.func (Oq "_law_web" "_law_web" (aC ij) (ay ij) (ah ij) .none FC FQ EX Gg uU FX),EM⟩)
  (sZ:Oj K uU "_law_web" = true)
  (mZ:Oc K (.ref nk)=true)
  (mq:Od K mainGlobals "_law_worth" = some (some (.ref iU)))
  (lK:K.lookup iU=some ⟨y8,yU,.func (Oq "_law_worth" "_law_worth" (aC dN) (ay dN) (ah dN) .none zA zQ yF Az pz zZ),yj⟩)
  (lY:Oj K pz "_law_worth" = true)
  (iL:Oc K (.ref iU)=true)
  (mz:Od K mainGlobals "_law_costs" = some (some (.ref iZ)))
  (lO:K.lookup iZ=some ⟨ze,yY,.func (Oq "_law_costs" "_law_costs" (aC dU) (ay dU) (ah dU) .none zE zU yJ AE pD Aa),yp⟩)
  (l7:Oj K pD "_law_costs" = true)
  (iP:Oc K (.ref iZ)=true)
  (jW:Od K mainGlobals "_law_number" = some (some (.ref gL)))
  (jz:K.lookup gL=some ⟨wu,wg,.func (Oq "_law_number" "_law_number" (aC cR) (ay cR) (ah cR) .none wU xu vQ xS nB xE),vC⟩)
  (jO:Oj K nB "_law_number" = true)
  (gD:Oc K (.ref gL)=true)
  (jX:Od K mainGlobals "_law_listed" = some (some (.ref gM)))
  (jA:K.lookup gM=some ⟨wx,wj,.func (Oq "_law_listed" "_law_listed" (aC cS) (ay cS) (ah cS) .none wV xw vR xU nC xF),vD⟩)
  (jP:Oj K nC "_law_listed" = true)
  (gE:Oc K (.ref gM)=true)
  (mB:Od K mainGlobals "_law_asked" = some (some (.ref i3)))
  (lP:K.lookup i3=some ⟨zf,yZ,.func (Oq "_law_asked" "_law_asked" (aC dX) (ay dX) (ah dX) .none zF zV yK AF pE Ab),yq⟩)
  (l8:Oj K pE "_law_asked" = true)
  (iQ:Oc K (.ref i3)=true)
  (hZ:Od K mainGlobals "_law_too_wide" = some (some (.ref eB)))
  (g7:K.lookup eB=some ⟨rG,rD,.func (Oq "_law_too_wide" "_law_too_wide" (aC bZ) (ay bZ) (ah bZ) .none r9 sA rA tK jK sJ),rb⟩)
  (hJ:Oj K jK "_law_too_wide" = true)
  (eh:Oc K (.ref eB)=true)
  (cM:Od K mainGlobals "_law_row_of_places" = some (some (.ref bR)))
  (cG:K.lookup bR=some ⟨kJ,kI,.func (Oq "_law_row_of_places" "_law_row_of_places" (aC ba) (ay ba) (ah ba) .none kK kL kH kO eV kM),kG⟩)
  (cL:Oj K eV "_law_row_of_places" = true)
  (bP:Oc K (.ref bR)=true)
  (gk:Od K mainGlobals "_law_short_row" = some (some (.ref dB)))
  (fP:K.lookup dB=some ⟨qj,qb,.func (Oq "_law_short_row" "_law_short_row" (aC bK) (ay bK) (ah bK) .none qp qy pX qH jc qC),pR⟩)
  (f9:Oj K jc "_law_short_row" = true)
  (dv:Oc K (.ref dB)=true)
  (Lv:Od K mainGlobals "law" = some (some (.ref Nn)))
  (Na:K.lookup Nn=some ⟨oc_law,od_law,.func (Oq "law" "law" (aC vL) (ay vL) (ah vL) .none LQ LZ LF L7 IH L4),sl_law⟩)
  (NB:Oj K IH "law" = true)
  (Nd:Oc K (.ref Nn)=true)
  (iA:RA K gR veM "ValueError.__new__" = true)
  (nL:RA K aV veM "ValueError.__new__" = true)
  (cg:PZ K aV (.ref gR)=some true)
  (ga_TooWide:Oy K (.ref aV) "__getattribute__" = some (some (.builtin "BaseException.__getattribute__")))
  (gt_TooWide:Oy K (.ref aV) "__getattr__" = some none)
  (hb_TooWide:PZ K aV (.type "BaseException")=some true)
  (oz:P1 K aV=true)
  (oA:Oy K (.ref aV) "__class__" = some (some (.builtin "object.__class__")))
  (oy:PZ K aV (.type "object")=some true)
  (dt:Pt K (.ref aV) (.ref ug)=some false)
  (cH:Pt K (.ref aV) (.ref oZ)=some false)
  (BI:Qg K bh Str.empty=true)
  (CC:P1 K bh=true)
  (Bz:QB K bh=true)
  (Bs:Oy K (.ref bh) "__setattr__" = some (some (.builtin "object.__setattr__")))
  (B5:QO K bh=true)
  (Cq:Oc K (.ref bh)=true)
  (lE:Oy K (.ref bh) "one" = some none)
  (lD:Oy K (.ref bh) "two" = some none)
  (eJ:Oy K (.ref bh) "strength" = some none)
  (BH:Qg K bg Str.empty=true)
  (CB:P1 K bg=true)
  (By:QB K bg=true)
  (Br:Oy K (.ref bg) "__setattr__" = some (some (.builtin "object.__setattr__")))
  (B4:QO K bg=true)
  (Cp:Oc K (.ref bg)=true)
  (lC:Oy K (.ref bg) "one" = some none)
  (lB:Oy K (.ref bg) "two" = some none)
  (eI:Oy K (.ref bg) "strength" = some none)
  (Hi:Qg K c7 Str.empty=true)
  (Io:P1 K c7=true)
  (Hb:QB K c7=true)
  (GX:Oy K (.ref c7) "__setattr__" = some (some (.builtin "object.__setattr__")))
  (HA:QO K c7=true)
  (HU:Oc K (.ref c7)=true)
  (lA:Oy K (.ref c7) "many" = some none)
  (lz:Oy K (.ref c7) "ties" = some none)
  (jr:Oy K (.ref c7) "turns" = some none)
  (iG:Oy K (.ref c7) "rounds" = some none)
  (js:Oy K (.ref c7) "sides" = some none)
  (hn_:RF K (.builtin "object.__class__") "__get__" = some (some (.builtin "getset_descriptor.__get__")))
  (htk_:RS K (.builtin "object.__class__")=some true)
  (gi_mplc:Od K mainGlobals "MOST_PLACES" = some (some (.int 10 ti_mplc)))
  (kv_:tvB K aV=true)
  (Me:Od K mainGlobals "len" = some none)
  (Mf:Od K mainGlobals "int" = some none)
  (Gm:Od K mainGlobals "bool" = some none)
  (Gk:Od K mainGlobals "list" = some none)
  (AO:Od K mainGlobals "tuple" = some none)
  (AQ:Od K mainGlobals "range" = some none)
  (kY:Od K mainGlobals "enumerate" = some none)
  (jh:Od K mainGlobals "isinstance" = some none)
  (Mc:Od K mainGlobals "min" = some none)
  (Ma:Od K mainGlobals "sum" = some none)
  (vf:Od K mainGlobals "sorted" = some none)
  (Md:Od K mainGlobals "max" = some none)
  (nK:Od K mainGlobals "reversed" = some none)
  (Mb:Od K mainGlobals "set" = some none)
  (Mg:Od K mainGlobals "all" = some none)
  (ji:Od K mainGlobals "ValueError" = some none)
  (tbc:eO=.ref cT) (tbl:K.lookup cT=some ⟨oT,dT,.fields vT,sT⟩) (tbv:vT[11]?=some (.ref TT)) (tbn:K.lookup TT=none)
  (tbc2:xK=.ref cT2) (tbl2:K.lookup cT2=some ⟨oT2,dT2,.fields vT2,sT2⟩) (tbv2:vT2[11]?=some (.ref TT2)) (tbn2:K.lookup TT2=none)
  : ∃ fd:FuncData,(∀(s:Shared)(v:Value),BindsTo s fd ⟨[v],[]⟩ [("script",v)])/\∃ c T c2 T2,Py K "come_to_below" = some (c,T)/\K.lookup T=none/\Py K "falls" = some (c2,T2)/\K.lookup T2=none/\∀ base:Heap,K.In base->base.Ns mainGlobals mg->Pu base c T->Pu base c2 T2->Bm mg base->FnOk l.prog w K mg base CX0 9 fa fd ["script"] (vv K T T2):=by
 have tbi:=DQ cp dk tbc tbl tbv;have tbi2:=DQ tQ wI tbc2 tbl2 tbv2;have e:=hfa.symm.trans (Om X G Lv)
 cases e
 have Jf:=aQ (st:=nR) Ci Df wJ;have ND:=Jf.binds (ps:=["web","laying"]) fun _ _ _ _ _ _ us hl=>by obtain⟨x0,x1,rfl⟩:=fM hl;rfl
 have pN:=aQ (st:=cU) jB jQ gF;have Av:=pN.binds (ps:=["web"]) fun _ _ _ _ _ _ us hl=>by obtain⟨x0,rfl⟩:=Fw hl;rfl
 have pJ:=aQ (st:=cP) jx jM gB;have Aq:=pJ.binds (ps:=["web","laying"]) fun _ _ _ _ _ _ us hl=>by obtain⟨x0,x1,rfl⟩:=fM hl;rfl
 have AN:=aQ (st:=iq) rY tm m8;have IX:=AN.binds (ps:=["web","start","let"]) fun _ _ _ _ _ _ us hl=>by obtain⟨x0,x1,x2,rfl⟩:=rP hl;rfl
 have j6:=aQ (st:=aO) dk gb dy;have tF:=j6.binds (ps:=["web","costs","start","height"]) fun _ _ _ _ _ _ us hl=>by obtain⟨x0,x1,x2,x3,rfl⟩:=Cg hl;rfl
 have kW:=aQ (st:=bY) gZ hG eg;have uy:=kW.binds (ps:=["web","costs","heights","start","goal"]) fun _ _ _ _ _ _ us hl=>by obtain⟨x0,x1,x2,x3,x4,rfl⟩:=M9 hl;rfl
 have EE:=aQ (st:=ka) wH xN qO;have Ll:=EE.binds (ps:=["ahead","goal"]) fun _ _ _ _ _ _ us hl=>by obtain⟨x0,x1,rfl⟩:=fM hl;rfl
 have Jj:=aQ (st:=nW) Cm Dj wO;have NI:=Jj.binds (ps:=["web","start","goal"]) fun _ _ _ _ _ _ us hl=>by obtain⟨x0,x1,x2,rfl⟩:=rP hl;rfl
 have Jg:=aQ (st:=nU) Cj Dg wK;have NF:=Jg.binds (ps:=["web","start","height"]) fun _ _ _ _ _ _ us hl=>by obtain⟨x0,x1,x2,rfl⟩:=rP hl;rfl
 have Ji:=aQ (st:=fE) wI Di wN;have NH:=Ji.binds (ps:=["web","start"]) fun _ _ _ _ _ _ us hl=>by obtain⟨x0,x1,rfl⟩:=fM hl;rfl
 have Jh:=aQ (st:=nV) Ck Dh wM;have NG:=Jh.binds (ps:=["web","costs","laying"]) fun _ _ _ _ _ _ us hl=>by obtain⟨x0,x1,x2,rfl⟩:=rP hl;rfl
 have AI:=aQ (st:=h9) rT sV mW;have IS:=AI.binds (ps:=["web"]) fun _ _ _ _ _ _ us hl=>by obtain⟨x0,rfl⟩:=Fw hl;rfl
 have pP:=aQ (st:=cX) jD jS jF;have pH:=pP.binds (ps:=["self","one","two","strength"]) fun _ _ _ _ _ _ us hl=>by obtain⟨x0,x1,x2,x3,rfl⟩:=Cg hl;rfl
 have ve:=aQ (st:=fA) oo oN kq;have F8:=ve.binds (ps:=["self"]) fun _ _ _ _ _ _ us hl=>by obtain⟨x0,rfl⟩:=Fw hl;rfl
 have gq:=aQ (st:=bL) fQ gh cm;have jT:=gq.binds (ps:=["self","laying"]) fun _ _ _ _ _ _ us hl=>by obtain⟨x0,x1,rfl⟩:=fM hl;rfl
 have mF:=aQ (st:=dY) lQ l9 fU;have tG:=mF.binds (ps:=["self","laying"]) fun _ _ _ _ _ _ us hl=>by obtain⟨x0,x1,rfl⟩:=fM hl;rfl
 have uf:=aQ (st:=dZ) lR ma iR;have Dv:=uf.binds (ps:=["self"]) fun _ _ _ _ _ _ us hl=>by obtain⟨x0,rfl⟩:=Fw hl;rfl
 have L9:=aQ (st:=uI) HN IP k_head;have b_head:=L9.binds (ps:=["ties","dart"]) fun _ _ _ _ _ _ us hl=>by obtain⟨x0,x1,rfl⟩:=fM hl;rfl
 have AK:=aQ (st:=ig) rV sY mY;have IU:=AK.binds (ps:=["ties","number","place"]) fun _ _ _ _ _ _ us hl=>by obtain⟨x0,x1,x2,rfl⟩:=rP hl;rfl
 have vd:=aQ (st:=fq) om oM ko;have F7:=vd.binds (ps:=["ties","turns","dart"]) fun _ _ _ _ _ _ us hl=>by obtain⟨x0,x1,x2,rfl⟩:=rP hl;rfl
 have pK:=aQ (st:=cQ) jy jN gC;have Ar:=pK.binds (ps:=["ties","turns","first"]) fun _ _ _ _ _ _ us hl=>by obtain⟨x0,x1,x2,rfl⟩:=rP hl;rfl
 have tV:=aQ (st:=dM) lJ lX iK;have Dl:=tV.binds (ps:=["ties","turns"]) fun _ _ _ _ _ _ us hl=>by obtain⟨x0,x1,rfl⟩:=fM hl;rfl
 have u5:=aQ (st:=fg) oa oH ke;have F3:=u5.binds (ps:=["ties","rounds"]) fun _ _ _ _ _ _ us hl=>by obtain⟨x0,x1,rfl⟩:=fM hl;rfl
 have AJ:=aQ (st:=ic) rU sW mX;have IT:=AJ.binds (ps:=["start","pairs"]) fun _ _ _ _ _ _ us hl=>by obtain⟨x0,x1,rfl⟩:=fM hl;rfl
 have nJ:=aQ (st:=cx) iJ i4 eZ;have xP:=nJ.binds (ps:=["many","ties"]) fun _ _ _ _ _ _ us hl=>by obtain⟨x0,x1,rfl⟩:=fM hl;rfl
 have kU:=aQ (st:=bX) gY g9 d9;have ux:=kU.binds (ps:=["many","ties","turns"]) fun _ _ _ _ _ _ us hl=>by obtain⟨x0,x1,x2,rfl⟩:=rP hl;rfl
 have jZ:=aQ (st:=bJ) fN fZ du;have tD:=jZ.binds (ps:=["many","ties"]) fun _ _ _ _ _ _ us hl=>by obtain⟨x0,x1,rfl⟩:=fM hl;rfl
 have pO:=aQ (st:=cW) jC jR jE;have Aw:=pO.binds (ps:=["self","many","ties","turns"]) fun _ _ _ _ _ _ us hl=>by obtain⟨x0,x1,x2,x3,rfl⟩:=Cg hl;rfl
 have vc:=aQ (st:=fm) oj oK ki;have F6:=vc.binds (ps:=["script","k"]) fun _ _ _ _ _ _ us hl=>by obtain⟨x0,x1,rfl⟩:=fM hl;rfl
 have u9:=aQ (st:=fj) oi oJ kh;have F5:=u9.binds (ps:=["ends","dart"]) fun _ _ _ _ _ _ us hl=>by obtain⟨x0,x1,rfl⟩:=fM hl;rfl
 have AM:=aQ (st:=ik) rX tj m7;have IW:=AM.binds (ps:=["turns","place","behind","fresh"]) fun _ _ _ _ _ _ us hl=>by obtain⟨x0,x1,x2,x3,rfl⟩:=Cg hl;rfl
 have u6:=aQ (st:=fi) og oI kg;have F4:=u6.binds (ps:=["cell","ends","turns","rings","places"]) fun _ _ _ _ _ _ us hl=>by obtain⟨x0,x1,x2,x3,x4,rfl⟩:=M9 hl;rfl
 have uc:=aQ (st:=dS) lN l6 iO;have Dr:=uc.binds (ps:=["cells","places"]) fun _ _ _ _ _ _ us hl=>by obtain⟨x0,x1,rfl⟩:=fM hl;rfl
 have tZ:=aQ (st:=dP) lL lZ iM;have Dn:=tZ.binds (ps:=["cell","many"]) fun _ _ _ _ _ _ us hl=>by obtain⟨x0,x1,rfl⟩:=fM hl;rfl
 have je:=aQ (st:=bE) eM eQ cD;have qF:=je.binds (ps:=["grown","cell"]) fun _ _ _ _ _ _ us hl=>by obtain⟨x0,x1,rfl⟩:=fM hl;rfl
 have t9:=aQ (st:=dQ) lM l5 iN;have Dp:=t9.binds (ps:=["script","many","limits"]) fun _ _ _ _ _ _ us hl=>by obtain⟨x0,x1,x2,rfl⟩:=rP hl;rfl
 have AL:=aQ (st:=ij) rW sZ mZ;have IV:=AL.binds (ps:=["grown","kinds"]) fun _ _ _ _ _ _ us hl=>by obtain⟨x0,x1,rfl⟩:=fM hl;rfl
 have tW:=aQ (st:=dN) lK lY iL;have Dm:=tW.binds (ps:=["ends","kinds","laying"]) fun _ _ _ _ _ _ us hl=>by obtain⟨x0,x1,x2,rfl⟩:=rP hl;rfl
 have ud:=aQ (st:=dU) lO l7 iP;have Dt:=ud.binds (ps:=["grown","kinds"]) fun _ _ _ _ _ _ us hl=>by obtain⟨x0,x1,rfl⟩:=fM hl;rfl
 have pL:=aQ (st:=cR) jz jO gD;have As:=pL.binds (ps:=["found"]) fun _ _ _ _ _ _ us hl=>by obtain⟨x0,rfl⟩:=Fw hl;rfl
 have pM:=aQ (st:=cS) jA jP gE;have Au:=pM.binds (ps:=["found","due"]) fun _ _ _ _ _ _ us hl=>by obtain⟨x0,x1,rfl⟩:=fM hl;rfl
 have ue:=aQ (st:=dX) lP l8 iQ;have Du:=ue.binds (ps:=["web","which","start","goal"]) fun _ _ _ _ _ _ us hl=>by obtain⟨x0,x1,x2,x3,rfl⟩:=Cg hl;rfl
 have kX:=aQ (st:=bZ) g7 hJ eh;have uz:=kX.binds (ps:=["web","which","start","goal"]) fun _ _ _ _ _ _ us hl=>by obtain⟨x0,x1,x2,x3,rfl⟩:=Cg hl;rfl
 have gp:=aQ (st:=ba) cG cL bP;have mh:=gp.binds (ps:=["many","cell"]) fun _ _ _ _ _ _ us hl=>by obtain⟨x0,x1,rfl⟩:=fM hl;rfl
 have j4:=aQ (st:=bK) fP f9 dv;have tE:=j4.binds (ps:=["places","cell"]) fun _ _ _ _ _ _ us hl=>by obtain⟨x0,x1,rfl⟩:=fM hl;rfl
 have F_law:=aQ (st:=vL) Na NB Nd;refine⟨Oq "law" "law" (aC vL) (ay vL) (ah vL) .none LQ LZ LF L7 IH L4,fun s v=>.of_eq rfl,cT,TT,cT2,TT2,tbi,tbn,tbi2,tbn2,fun base _ _ hcd hcd2 hbm=>?_⟩;have M3:=Om X G DD;have zt:=Om X G jY;have zm:=Om X G jU;have HJ:=Om X G tR;have rM:=Om X G cp;have uo:=Om X G hX;have KC:=Om X G xY;have M7:=Om X G DG;have M4:=Om X G DE;have M6:=Om X G tQ;have M5:=Om X G DF;have HE:=Om X G tL;have m_head:=Om X G Jb;have HG:=Om X G tN;have Ft:=Om X G oU;have zo:=Om X G jV;have B8:=Om X G ml;have Fo:=Om X G oP;have HF:=Om X G tM;have wF:=Om X G i6;have um:=Om X G hO;have rJ:=Om X G gj;have Fs:=Om X G oS;have Fq:=Om X G oR;have HI:=Om X G tP;have Fp:=Om X G oQ;have Cc:=Om X G my;have Ca:=Om X G mv;have qm:=Om X G eR;have Cb:=Om X G mw;have HH:=Om X G tO;have B9:=Om X G mq;have Cd:=Om X G mz;have zp:=Om X G jW;have zr:=Om X G jX;have Ce:=Om X G mB;have uq:=Om X G hZ;have lG:=Om X G cM;have rK:=Om X G gk;have m_law:=Om X G Lv;have zv:=Om X G i7;have HK:=Om X G oW;have Fu:=Om X G mD;have zu:=Om X G oV;have m_Pull:=Om X G DI;have m_Push:=Om X G DH;have m_Web:=Om X G Jc;have mplc:=Om X G gi_mplc;have n_len:=O1 X G Me;have n_int:=O1 X G Mf;have n_bool:=O1 X G Gm;have n_list:=O1 X G Gk;have n_tuple:=O1 X G AO;have n_range:=O1 X G AQ;have n_enumerate:=O1 X G kY;have n_isinstance:=O1 X G jh;have n_min:=O1 X G Mc;have n_sum:=O1 X G Ma;have n_sorted:=O1 X G vf;have n_max:=O1 X G Md;have n_reversed:=O1 X G nK;have n_set:=O1 X G Mb;have n_all:=O1 X G Mg;have n_ValueError:=O1 X G ji;have TL:CT K bh:=⟨⟨BI,CC,Bz,Bs⟩,lE,lD,eJ⟩;have TS:CT K bg:=⟨⟨BH,CB,By,Br⟩,lC,lB,eI⟩;have cw:CW K c7:=⟨⟨Hi,Io,Hb,GX⟩,lA,lz,jr,iG,js⟩;have T:Txt mg:=⟨n_len,n_int,n_bool,n_list,n_tuple,n_range,n_enumerate,n_isinstance,n_min,n_sum,n_sorted⟩;have GI:FnOk l.prog w K mg base CX0 1 bO _ _ (o7 K):=MO pP;have ML:Mak l.prog w K mg base 1 "Pull" _ (o7 K) bh bO _:=⟨⟨B5,jw,gG,Cq⟩,GI,pH,m_Pull⟩;have MS:Mak l.prog w K mg base 1 "Push" _ (o7 K) bg bO _:=⟨⟨B4,ju,gG,Cp⟩,GI,pH,m_Push⟩;have Gh:Cal l.prog w K mg base 1 "head" _ (GP K) Em _:=⟨MP L9,b_head,m_head,k_head⟩;have Gl:Cal l.prog w K mg base 1 "leaving" _ (GO K) nj _:=⟨E6 AK,IU,HG,mY⟩;have Gf:Cal l.prog w K mg base 2 "follower" _ (Mt K) kE _:=⟨BN vd T Gh Gl,F7,Ft,ko⟩;have Gr:Cal l.prog w K mg base 3 "round_from" _ (GQ K) gK _:=⟨MQ pK Gf,Ar,zo,gC⟩;have GR:Cal l.prog w K mg base 4 "rounds_of" _ (vo K) iT _:=⟨Ht tV T Gr,Dl,B8,iK⟩;have GS:Cal l.prog w K mg base 1 "sides_of" _ (A4 K) kz _:=⟨Ka u5 T,F3,Fo,ke⟩;have wL:Met l.prog w K mg base 1 bh "wish" _ (yd false) iw _:=⟨⟨jv,ox,kq⟩,JZ ve,F8⟩;have wS:Met l.prog w K mg base 1 bg "wish" _ (yd true) fY _:=⟨⟨jt,lT,iR⟩,JY uf,Dv⟩;have Ga:Cal l.prog w K mg base 1 "reached" _ (A7 K) ni _:=⟨E5 AJ,IT,HF,mX⟩;have R1:Cal l.prog w K mg base 1 "refuse_ends" _ (A9 K) fe _:=⟨Kf nJ,xP,wF,eZ⟩;have R2:Cal l.prog w K mg base 1 "refuse_turns" _ (vp K) eu _:=⟨Hs kU T,ux,um,d9⟩;have R3:Cal l.prog w K mg base 2 "refuse_parted" _ (A8 K) dA _:=⟨Kd jZ Ga,tD,rJ,du⟩;have WI:FnOk l.prog w K mg base CX0 5 cZ _ _ (nP K):=J1 pO T R1 R2 R3 GR GS;have MW:Mak l.prog w K mg base 5 "Web" _ (nP K) c7 cZ _:=⟨⟨HA,lF,jG,HU⟩,WI,Aw,m_Web⟩;have Gc:Cal l.prog w K mg base 1 "_law_cell" _ (DT K) kD _:=⟨MT vc T,F6,Fs,ki⟩;have L1:Cal l.prog w K mg base 1 "_law_head" _ (Bc K) kC _:=⟨Kh u9,F5,Fq,kh⟩;have L5:Cal l.prog w K mg base 1 "_law_order" _ Ba iW _:=⟨Kg tZ T,Dn,Ca,iM⟩;have TM:TxtM mg:={ T with n_max:=n_max };have N1:Cal l.prog w K mg base 1 "_law_put" _ (GN K) nt _:=⟨ok_put AM,IW,HI,m7⟩;have N2:Cal l.prog w K mg base 2 "_law_step" _ GK kA _:=⟨MM u6 T L1 N1,F4,Fp,kg⟩;have N3:Cal l.prog w K mg base 3 "_law_grown" _ (vw K) iY _:=⟨Kj uc N2,Dr,Cc,iO⟩;have N4:Cal l.prog w K mg base 2 "_law_renumbered" _ GL cE _:=⟨ok_ren je TM L5,qF,qm,cD⟩;have N5:Cal l.prog w K mg base 2 "_law_kinds" _ (Bd K) iX _:=⟨Ki t9 T Gc,Dp,Cb,iN⟩;have N6:Cal l.prog w K mg base 7 "_law_web" _ (Bb bh bg c7) nk _:=⟨MN AL T ML MS TL TS MW cw,IV,HH,mZ⟩;have N7:Cal l.prog w K mg base 1 "_law_number" _ Ms gL _:=⟨Hu pL T,As,zp,gD⟩;have N8:Cal l.prog w K mg base 1 "_law_worth" _ (Js K) iU _:=⟨JX tW T,Dm,B9,iL⟩;have N9:Cal l.prog w K mg base 2 "_law_costs" _ Be iZ _:=⟨Kl ud T N8,Dt,Cd,iP⟩;have TC:TxtC mg:={ TM with mplc:=⟨_,mplc⟩ };have uL:Met l.prog w K mg base 2 bh "unpleased" _ (DR bh false) bA _:=⟨⟨d7,dz,cm⟩,Hq gq TL wL,jT⟩;have uS:Met l.prog w K mg base 2 bg "unpleased" _ (DR bg true) bA _:=⟨⟨d6,dz,cm⟩,Hq gq TS wS,jT⟩;have rL:Met l.prog w K mg base 3 bh "price" _ (qY bh false) cJ _:=⟨⟨iI,iS,fU⟩,D8 mF TL uL,tG⟩;have rS:Met l.prog w K mg base 3 bg "price" _ (qY bg true) cJ _:=⟨⟨iH,iS,fU⟩,D8 mF TS uS,tG⟩;have Gw:Cal l.prog w K mg base 4 "worth" _ (GH bh bg c7) xh _:=⟨MJ Jf T cw TL TS rL rS,ND,M3,wJ⟩;have Gst:Cal l.prog w K mg base 1 "steps_from" _ (vm bh bg c7) gJ _:=⟨Hr pJ TC cw,Aq,zm,gB⟩;have Gco:Cal l.prog w K mg base 2 "come_to" _ (DS bh bg c7) nu _:=⟨MR AN TC Gst,IX,HJ,m8⟩;have TK:TxtK mg:={ TC with n_reversed:=n_reversed,n_set:=n_set };have TA:TxtA mg:={ TC with n_all:=n_all };have XF:ErrC K mg "FloorError" gR:=⟨zv,iA⟩;have XW:ErrC K mg "TooWide" aV:=⟨zu,nL⟩;have TQ:TxtQ mg aV ug oZ:={ TC with g_TooWide:=zu,g_TooMany:=HK,g_TooRough:=Fu,n_ValueError:=n_ValueError };have eT:ErC K aV:=⟨ga_TooWide,gt_TooWide,hb_TooWide,oz,oA,hn_,htk_,oy⟩;have GaX:CalX l.prog w K mg base 5 "all_worths" _ (uD aV bh bg c7) gN _:=⟨MU pN TC cw XW Gw,Av,zt,gF⟩;have Gbe:Cal l.prog w K mg base 3 "come_to_below" _ (qZ TT bh bg c7) dD _:=⟨Ko j6 tbi cp hcd hbm Gco,tF,rM,dy⟩;have Gfa:CalX l.prog w K mg base 6 "falls" _ (vx aV TT2 bh bg c7) xm _:=⟨Kk Ji TC tbi2 tQ hcd2 hbm GaX Gco,NH,M6,wN⟩;have Gre:Cal l.prog w K mg base 2 "rests" _ (A6 bh bg c7) xj _:=⟨Ke Jh TA Gst,NG,M5,wM⟩;have Grg:CalX l.prog w K mg base 6 "resting" _ (jk aV bh bg c7) ng _:=⟨E4 AI TA GaX Gre,IS,HE,mW⟩;have Gsh:CalX l.prog w K mg base 6 "shore" _ (vn aV TT bh bg c7) xi _:=⟨Kc Jg TC GaX Gbe,NF,M4,wK⟩;have Gwt:Cal l.prog w K mg base 1 "way_to" _ A3 qR _:=⟨J2 EE TK,Ll,KC,qO⟩;have Glh:Cal l.prog w K mg base 4 "least_height" _ (vt TT bh bg c7) eA _:=⟨Hw kW TC Gbe,uy,uo,eg⟩;have Gcl:CalX l.prog w K mg base 6 "climb" _ (vy aV TT bh bg c7) xo _:=⟨Km Jj TK GaX Gbe Glh Gwt,NI,M7,wO⟩;have Gli:Cal l.prog w K mg base 2 "_law_listed" _ vq gM _:=⟨Hv pM TC N7,Au,zr,gE⟩;have Gas:CalX l.prog w K mg base 7 "_law_asked" _ (Mu aV c7) i3 _:=⟨ok_ask ue Grg Gcl Gsh Gfa,Du,Ce,iQ⟩;have Gtw:Cal l.prog w K mg base 8 "_law_too_wide" _ (GJ c7) eB _:=⟨MK kX TQ XF XW cg eT dt cH (tv_of kv_) Gas,uz,uq,eh⟩;have Grw:Cal l.prog w K mg base 7 "_law_row_of_places" _ (Jt bh bg c7) bR _:=⟨ok_row gp T ML TL TS MW cw,mh,lG,bP⟩;have Gsr:Cal l.prog w K mg base 8 "_law_short_row" _ (A5 TT TT2) dB _:=⟨Kb j4 TK cw TL TS Grw Grg Gcl Gsh Gfa N8 ML MW,tE,rK,dv⟩;exact ok_law F_law TM N3 N4 Gc N5 N9 N6 Gsr Grw Gtw Grg Gli
theorem walk{l:RU}{q:Program}{loose:List Str}{XP:(Str->Option Value)->Heap->Prop}{YP:World->Heap->Prop}{d:DefRec}{K:Params->NS}(hn:l.most=some 63)(hdf:d.params.defaults = [])
  (hY:∀(w:World)(h:Heap),YP w h->(K w.params).In h) (hrec:((PyProof.Rows.recsOf q).find? (fun e=>e.name == ("come_to_below" : Str))).isSome=true) (hrec2:((PyProof.Rows.recsOf q).find? (fun e=>e.name == ("falls" : Str))).isSome=true)
  (F:∀(w:World)(mg:Str->Option Value)(fa:Addr)(h:Heap),(K w.params).In h->h.Ns mainGlobals mg->mg d.name=some (.ref fa) ->
   ∃ fd:FuncData,(∀(s:Shared)(u:Value),BindsTo s fd ⟨[u],[]⟩ [("script",u)])/\∃ c T c2 T2,Py (K w.params) "come_to_below" = some (c,T)/\(K w.params).lookup T=none/\Py (K w.params) "falls" = some (c2,T2)/\(K w.params).lookup T2=none/\∀ base:Heap,(K w.params).In base->base.Ns mainGlobals mg->Pu base c T->Pu base c2 T2->Bm mg base->FnOk l.prog w (K w.params) mg base CX0 9 fa fd ["script"] (vv (K w.params) T T2)) :
  PySem.W.WalkO q loose XP YP l.row.toRowW d [] (fun f vs=>PySem.call f vs) :=
 L2.walk_ofT2 (n:=63) (k:=9) (x:="script") (CX:=CX0) (sp:=fun K T T2=>vv K T T2) hn (by decide) hdf ⟨rfl,by decide,by decide⟩ hY (Option.some_get hrec).symm (Option.some_get hrec2).symm F (fun _ _ _ _ a ns hl hT hT2 hS=>⟨a,ns,rfl,hS,hl,.inl hT,.inl hT2,fun _=>rfl⟩) fun _ _ _ _ z=>z
end K8
def PySem.W.Fast.tw18113696775691527202:Nat:=0
def PySem.W.Fast.tw16954748421740913250:Nat:=0
def PySem.W.Fast.tw6181150749834307394:Nat:=0
def PySem.W.Fast.tw13019775935605927909:Nat:=0
def PySem.W.Fast.tw14063951399503958918:Nat:=0
def PySem.W.Fast.tw1836773577320358503:Nat:=0
def PySem.W.Fast.tw12921712662300461703:Nat:=0
def PySem.W.Fast.tw13237595957638973546:Nat:=0
def PySem.W.Fast.tw7826117091352430603:Nat:=0
def PySem.W.Fast.tw4906289915627113163:Nat:=0
def PySem.W.Fast.tw8686932443711680141:Nat:=0
def PySem.W.Fast.tw8575101318652942162:Nat:=0
def PySem.W.Fast.tw17634622157242433426:Nat:=0
def PySem.W.Fast.tw16937239821537542549:Nat:=0
def PySem.W.Fast.tw15821444327010862230:Nat:=0
def PySem.W.Fast.tw2379295130277685271:Nat:=0
def PySem.W.Fast.tw6183819558382757339:Nat:=0
def PySem.W.Fast.tw8510924097347926109:Nat:=0
def PySem.W.Fast.tw9486095242596521246:Nat:=0
def PySem.W.Fast.tw1874605775163225951:Nat:=0
namespace PySem.W.Fast
def tw4885050405806888960:=0
def tw15023626073285041216:=0
def tw14715219385613862976:=0
def tw9622954748504153312:=0
def tw13844995630532663616:=0
def tw8635293079531366752:=0
def tw12232734454880193920:=0
def tw9284753304823247264:=0
def tw13684759260050422272:=0
def tw5398610256252626432:=0
def tw597129924373151264:=0
def tw456581028238971488:=0
def tw10328272676998773408:=0
def tw5798791115993380544:=0
def tw17083118891888359200:=0
def tw4708191888029583136:=0
def tw12847463285518015360:=0
def tw14778661087524904864:=0
def tw17042225781633720256:=0
def tw13485009466288815105:=0
def tw11046986492073036833:=0
def tw2187684959583379553:=0
def tw11458652503566394561:=0
def tw7191434726628197601:=0
def tw7421584636466859233:=0
def tw1947859727132943617:=0
def tw6947290592470051105:=0
def tw4329603767690123585:=0
def tw9124801119609841025:=0
def tw15180389775516556673:=0
def tw9195646442240694689:=0
def tw4371773275955706337:=0
def tw16185172696589924865:=0
def tw11131076771557535329:=0
def tw5810658058110428993:=0
def tw18022448332987392897:=0
def tw13491059572920882113:=0
def tw4474208515380430785:=0
def tw14588651431649660865:=0
def tw8521814034997038049:=0
def tw14572508802584778754:=0
def tw17754261816100760578:=0
def tw10186817990238743554:=0
def tw17655864996713959458:=0
def tw11141320001102052482:=0
def tw5395806000337750146:=0
def tw10189208871658881154:=0
def tw2818760168747831458:=0
def tw1780612869513651362:=0
def tw9217958280846833826:=0
def tw15251774368928232674:=0
def tw15625663085001661666:=0
def tw16515139147549408514:=0
def tw11996325482607757666:=0
def tw15520813589172229506:=0
def tw16209391278962822530:=0
def tw4442513285243939266:=0
def tw12625825427109819842:=0
def tw1557629270452357570:=0
def tw8066463568172261858:=0
def tw4196219652440326626:=0
def tw2080666500233896450:=0
def tw14940174600425264674:=0
def tw9276828855053191746:=0
def tw7153245040430210722:=0
def tw18407896813041326946:=0
def tw6214125827462100834:=0
def tw9952414342842608514:=0
def tw10699337221210554274:=0
def tw10317191917095669763:=0
def tw15733164633956762659:=0
def tw16619263794151990339:=0
def tw3540203142806951043:=0
def tw3731147624883864739:=0
def tw2565593535337355491:=0
def tw13032533813041000707:=0
def tw6822289570274793763:=0
def tw2312420560273561923:=0
def tw14995986016866737571:=0
def tw4401580746755251715:=0
def tw18363546359972138595:=0
def tw8503616369977926339:=0
def tw8473593203943494403:=0
def tw3220150287372582755:=0
def tw12949170650184690563:=0
def tw9633082261099772835:=0
def tw17307656421702781891:=0
def tw3371128177791756227:=0
def tw7079845883955383332:=0
def tw15533245316937192612:=0
def tw7864746926616502468:=0
def tw4243325905655781604:=0
def tw14561314229772583364:=0
def tw17319925024328357316:=0
def tw13301039615945844196:=0
def tw4246303264861852196:=0
def tw3841070131611704900:=0
def tw7561230673466698372:=0
def tw33287810719253220:=0
def tw1921284392628491012:=0
def tw10991122180986823588:=0
def tw10535225825865146373:=0
def tw10472118701281456229:=0
def tw11317049386151178341:=0
def tw17012208663240209509:=0
def tw9917638047890014437:=0
def tw17247204942477692133:=0
def tw1821794495236708613:=0
def tw13807833805011705125:=0
def tw4857270979986494981:=0
def tw10295036388396411397:=0
def tw8988454184241562213:=0
def tw13932474782850320037:=0
def tw10274493366426525413:=0
def tw14371739387057334117:=0
def tw11105186394089057125:=0
def tw3194055492002875526:=0
def tw17958705795087033606:=0
def tw4472562329081283878:=0
def tw9529640555060393350:=0
noncomputable def tw5235522471317216646:=0
noncomputable def tw15174534738353136358:=0
noncomputable def tw2434936940795211590:=0
noncomputable def tw892380261957860230:=0
noncomputable def tw4325766488424587142:=0
noncomputable def tw8499096696399401031:=0
noncomputable def tw5759753349791020167:=0
noncomputable def tw5769452828678800551:=0
noncomputable def tw2332715879658281159:=0
noncomputable def tw15735148828840205735:=0
noncomputable def tw5953603875233909159:=0
noncomputable def tw6138861093854924199:=0
noncomputable def tw8505195560974510567:=0
noncomputable def tw7412077156624632359:=0
noncomputable def tw13087546220805855015:=0
noncomputable def tw6266068024154958663:=0
noncomputable def tw10871851405739056967:=0
noncomputable def tw16613866777161726791:=0
noncomputable def tw3082079691482280807:=0
noncomputable def tw18130659012186715015:=0
noncomputable def tw17918151679651354503:=0
noncomputable def tw10735396328648740775:=0
noncomputable def tw2679145891708851143:=0
noncomputable def tw18395508294960064455:=0
noncomputable def tw3300331939228139624:=0
noncomputable def tw4350135365067247784:=0
noncomputable def tw10103694245921086696:=0
noncomputable def tw7007189648720646472:=0
noncomputable def tw4581241212388991304:=0
noncomputable def tw14960846536833887592:=0
noncomputable def tw11610473854068404680:=0
noncomputable def tw14428774040796098088:=0
noncomputable def tw12924468569655357192:=0
noncomputable def tw8739217018368400200:=0
noncomputable def tw13394664790345299880:=0
noncomputable def tw15484171128138325992:=0
noncomputable def tw7082674462654737577:=0
noncomputable def tw6389092351542753449:=0
noncomputable def tw6206627536924864745:=0
noncomputable def tw6245956639224193289:=0
noncomputable def tw2689429398107196745:=0
noncomputable def tw13123972021077153193:=0
noncomputable def tw12805604499726433737:=0
noncomputable def tw5637465471840223849:=0
noncomputable def tw6910148270837962505:=0
noncomputable def tw18278523838087997193:=0
noncomputable def tw4849674921455398665:=0
noncomputable def tw9459491524866948905:=0
noncomputable def tw11315410589755940841:=0
noncomputable def tw1671124398425220202:=0
noncomputable def tw366087507602201738:=0
noncomputable def tw6451134236970336458:=0
noncomputable def tw1737379400847869162:=0
noncomputable def tw4514124259617998122:=0
noncomputable def tw14327143681949418794:=0
noncomputable def tw14745753538037374250:=0
noncomputable def tw17096422357005523274:=0
noncomputable def tw947264446063149386:=0
noncomputable def tw6058673597691141514:=0
noncomputable def tw18197601526166361482:=0
noncomputable def tw10632223016097197546:=0
noncomputable def tw2635621882483383818:=0
noncomputable def tw1662664532258479626:=0
noncomputable def tw9316598066254287434:=0
noncomputable def tw11626853959053948554:=0
noncomputable def tw13058900287888008970:=0
noncomputable def tw14532590279467186986:=0
noncomputable def tw15967798130856129450:=0
noncomputable def tw14316196253891303402:=0
noncomputable def tw6408563761664273419:=0
noncomputable def tw15094118997625801739:=0
noncomputable def tw10798811260590520427:=0
noncomputable def tw16866099736695829643:=0
noncomputable def tw17513165966396983467:=0
noncomputable def tw9483945500728142059:=0
noncomputable def tw5037328692275173643:=0
noncomputable def tw9780864642455804235:=0
noncomputable def tw14619377533663969803:=0
noncomputable def tw11688631332169570827:=0
noncomputable def tw6059970530477891147:=0
noncomputable def tw16856802959472618091:=0
noncomputable def tw9315729236299225835:=0
noncomputable def tw3373764811124397835:=0
noncomputable def tw15201055908581631755:=0
noncomputable def tw9257011815644032843:=0
noncomputable def tw12826754761352713099:=0
noncomputable def tw6871172334355356651:=0
noncomputable def tw1564354932190167019:=0
noncomputable def tw6415578379918825484:=0
noncomputable def tw11687624846707356684:=0
noncomputable def tw4113852235980214316:=0
noncomputable def tw2575230094850944044:=0
noncomputable def tw10518060012073875596:=0
noncomputable def tw13274590465642124460:=0
noncomputable def tw6363631317887064332:=0
noncomputable def tw11321009235213731148:=0
noncomputable def tw5438162726499031404:=0
noncomputable def tw11096654816745876908:=0
noncomputable def tw9781391071062095404:=0
noncomputable def tw2142263139292757708:=0
noncomputable def tw383771615323937580:=0
noncomputable def tw12165661743707151148:=0
noncomputable def tw1611946902837274444:=0
noncomputable def tw16858000982115220332:=0
noncomputable def tw6029030042768419788:=0
noncomputable def tw17807830493959887852:=0
noncomputable def tw17484305345624191021:=0
noncomputable def tw6606256402887485869:=0
noncomputable def tw6186711107839192525:=0
noncomputable def tw16673511915161572013:=0
noncomputable def tw14130829367319784141:=0
noncomputable def tw12521179145635991341:=0
noncomputable def tw12329114707481537485:=0
noncomputable def tw8015648141187310862:=0
noncomputable def tw13570702852901359918:=0
noncomputable def tw11209536173015088462:=0
noncomputable def tw7722412352501842350:=0
noncomputable def tw1569396542221329966:=0
noncomputable def tw2488412908269122158:=0
noncomputable def tw8836498035165142734:=0
noncomputable def tw4594184479411686158:=0
noncomputable def tw17049039543166769966:=0
noncomputable def tw16815219493104874478:=0
noncomputable def tw13853567096808885263:=0
noncomputable def tw7629747117042094159:=0
noncomputable def tw11997201852386548847:=0
noncomputable def tw3877305088323041423:=0
noncomputable def tw13954284038203186383:=0
noncomputable def tw15530725141241349327:=0
noncomputable def tw17662998076129192239:=0
noncomputable def tw16491597615602360751:=0
noncomputable def tw402490938924015279:=0
noncomputable def tw12121765550315250351:=0
noncomputable def tw11560671836556431055:=0
noncomputable def tw4982974054597504719:=0
noncomputable def tw18396312476937586479:=0
noncomputable def tw16771591405765579599:=0
noncomputable def tw15354065574526467120:=0
noncomputable def tw11979115571908423952:=0
noncomputable def tw13777086228023061936:=0
noncomputable def tw6190187005568236976:=0
noncomputable def tw17978626088817979824:=0
noncomputable def tw412773920792174032:=0
noncomputable def tw13856069416489029200:=0
noncomputable def tw15382851415122545232:=0
noncomputable def tw12449390355980113584:=0
noncomputable def tw11628895165952220976:=0
noncomputable def tw18323624700046727024:=0
noncomputable def tw16459914602059022288:=0
noncomputable def tw4901565649751616561:=0
noncomputable def tw702427337621182577:=0
noncomputable def tw2173773614065168529:=0
noncomputable def tw1941022948628796561:=0
noncomputable def tw17504323255664575793:=0
noncomputable def tw8946725900459705745:=0
noncomputable def tw4725159740051772849:=0
noncomputable def tw7108532077360440753:=0
noncomputable def tw4276162686965504465:=0
noncomputable def tw14003127851594439121:=0
noncomputable def tw6232628461516314289:=0
noncomputable def tw735934513771977521:=0
noncomputable def tw16668447651071299505:=0
noncomputable def tw11581733760607816657:=0
noncomputable def tw6165372398845954162:=0
noncomputable def tw11241752860973264018:=0
noncomputable def tw16306499326014168210:=0
noncomputable def tw13655409609400931634:=0
noncomputable def tw12413735286921585010:=0
noncomputable def tw13938201047211700594:=0
noncomputable def tw5882751361560617362:=0
noncomputable def tw17058967334721016274:=0
noncomputable def tw12223156808222900786:=0
noncomputable def tw2133964982137509490:=0
noncomputable def tw9280715608066210482:=0
noncomputable def tw5861823096515050194:=0
noncomputable def tw14220523417190234994:=0
noncomputable def tw2699238323884393362:=0
noncomputable def tw14867642734489076626:=0
noncomputable def tw9006833691572502579:=0
noncomputable def tw14605410727835491379:=0
noncomputable def tw8337885210001666131:=0
noncomputable def tw18430626613222171859:=0
noncomputable def tw2973537385273518323:=0
noncomputable def tw12511938830317531475:=0
noncomputable def tw1685331975181908307:=0
noncomputable def tw17949279435082571379:=0
noncomputable def tw10143895381834316467:=0
noncomputable def tw16730190314501432019:=0
noncomputable def tw12673825847528843987:=0
noncomputable def tw10362475804981460755:=0
noncomputable def tw2214620868347245395:=0
noncomputable def tw1167033144781500243:=0
noncomputable def tw17812561606069386067:=0
noncomputable def tw3319313701477360563:=0
noncomputable def tw5996992941210506195:=0
noncomputable def tw11522391230224326643:=0
noncomputable def tw3459762110631109652:=0
noncomputable def tw6666779982828268564:=0
noncomputable def tw2033730002577673332:=0
noncomputable def tw455179877356714132:=0
noncomputable def tw4352150241471665396:=0
noncomputable def tw1830848291090542900:=0
noncomputable def tw8754658285680834964:=0
noncomputable def tw7192794171869622708:=0
noncomputable def tw13808512656863948244:=0
noncomputable def tw11316850314985614964:=0
noncomputable def tw14551776960871464564:=0
noncomputable def tw8692693673680499316:=0
noncomputable def tw2478765833520667284:=0
noncomputable def tw2806682810797224724:=0
noncomputable def tw14295714185599139636:=0
noncomputable def tw16118969042179912532:=0
noncomputable def tw4796145782958981044:=0
noncomputable def tw665742645124845492:=0
noncomputable def tw15097834481293780117:=0
noncomputable def tw6720258530053018805:=0
noncomputable def tw12407093786213118165:=0
noncomputable def tw806671080333797717:=0
noncomputable def tw11881553499530663253:=0
noncomputable def tw10757503200763071861:=0
noncomputable def tw15008133562053161429:=0
noncomputable def tw17423366186383903285:=0
noncomputable def tw6444234647941659189:=0
noncomputable def tw2868817510579439189:=0
noncomputable def tw15685275663622952533:=0
noncomputable def tw11995683429152335509:=0
noncomputable def tw16219230029909289621:=0
noncomputable def tw8628006768231623381:=0
noncomputable def tw11874338832887414613:=0
noncomputable def tw13617183500031814485:=0
noncomputable def tw2181221224131956629:=0
noncomputable def tw6799740552192936885:=0
noncomputable def tw9863755950898350166:=0
noncomputable def tw4073502907722617974:=0
noncomputable def tw18101947297625808022:=0
noncomputable def tw16388126889633917078:=0
noncomputable def tw3825824820948972694:=0
noncomputable def tw15693021229984663798:=0
noncomputable def tw5547672026242679094:=0
noncomputable def tw6403944015296226678:=0
noncomputable def tw10838892357971904022:=0
noncomputable def tw6514644704917326358:=0
noncomputable def tw13996849304510084630:=0
noncomputable def tw9712532460152291926:=0
noncomputable def tw10442625635604953750:=0
noncomputable def tw17666527570709076630:=0
noncomputable def tw18254999053130297046:=0
noncomputable def tw499133440859369206:=0
noncomputable def tw1381291841358086966:=0
noncomputable def tw9640827188478441270:=0
noncomputable def tw4662227753433456502:=0
noncomputable def tw7736497274359029654:=0
noncomputable def tw3028700122822007766:=0
noncomputable def tw5359942497713251286:=0
noncomputable def tw3459133853546916919:=0
noncomputable def tw581181306866710583:=0
noncomputable def tw15575472705727363159:=0
noncomputable def tw696378470656738455:=0
noncomputable def tw7395066814101273783:=0
noncomputable def tw10869358357576370391:=0
noncomputable def tw9974515431468405111:=0
noncomputable def tw11373617528530782615:=0
noncomputable def tw9644908405173368215:=0
noncomputable def tw9700149420698618295:=0
noncomputable def tw15325178712332431895:=0
noncomputable def tw839326936336172567:=0
noncomputable def tw680183458801488439:=0
noncomputable def tw6799597563144585783:=0
noncomputable def tw17779330751737552503:=0
noncomputable def tw8047114236192550551:=0
noncomputable def tw8389047746194936503:=0
noncomputable def tw10135254058822005495:=0
noncomputable def tw10339463917259292503:=0
noncomputable def tw13603709514354561911:=0
noncomputable def tw6268009524558521239:=0
noncomputable def tw1193660496791661527:=0
noncomputable def tw10574433311458333752:=0
noncomputable def tw1259980697273092504:=0
noncomputable def tw17586212584125209112:=0
noncomputable def tw15502426634170739288:=0
noncomputable def tw6599242428623684216:=0
noncomputable def tw8374242600067161720:=0
noncomputable def tw14468071465205474104:=0
noncomputable def tw1116682583066960728:=0
noncomputable def tw2068050302899676024:=0
noncomputable def tw15485181715230933976:=0
noncomputable def tw169302279408281625:=0
noncomputable def tw10246480585998994521:=0
noncomputable def tw6873231790086118489:=0
noncomputable def tw14534347518645797113:=0
noncomputable def tw18055046027406008697:=0
noncomputable def tw1418599808551675257:=0
noncomputable def tw3375077214686268825:=0
noncomputable def tw8731921964433448761:=0
noncomputable def tw10059759968891277145:=0
noncomputable def tw16743831332479775641:=0
noncomputable def tw3485583257825256377:=0
noncomputable def tw12711922133634812889:=0
noncomputable def tw933402381316837498:=0
noncomputable def tw6028245875064497370:=0
noncomputable def tw10128165666876856570:=0
noncomputable def tw7225280927355311354:=0
noncomputable def tw15785219865002856730:=0
noncomputable def tw4305389712035384698:=0
noncomputable def tw8063818955134666138:=0
noncomputable def tw17382103680750961082:=0
noncomputable def tw3320779541613809146:=0
noncomputable def tw2348378829320134202:=0
noncomputable def tw453256847826420314:=0
noncomputable def tw14902415851571340890:=0
noncomputable def tw15951102218215061274:=0
noncomputable def tw13161126532637935386:=0
noncomputable def tw208715446407480122:=0
noncomputable def tw12726300319066185562:=0
noncomputable def tw12337267607878933370:=0
noncomputable def tw17271223032259255194:=0
noncomputable def tw17224689008201440379:=0
noncomputable def tw8117606942124503195:=0
noncomputable def tw12014366364865445019:=0
noncomputable def tw13997412338242046139:=0
noncomputable def tw7602417787883707:=0
noncomputable def tw11637490135245591867:=0
noncomputable def tw10192194666518510939:=0
noncomputable def tw6425430838670550363:=0
noncomputable def tw15680987445226566043:=0
noncomputable def tw1615767377395910075:=0
noncomputable def tw12095490708849520123:=0
noncomputable def tw16417859717989929499:=0
noncomputable def tw1425588857689711163:=0
noncomputable def tw15949053229749422779:=0
noncomputable def tw16675912506359906011:=0
noncomputable def tw15120767185923420955:=0
noncomputable def tw11204417658908308379:=0
noncomputable def tw13362187407644165083:=0
noncomputable def tw1275615619790456827:=0
noncomputable def tw15040471271949953116:=0
noncomputable def tw6449877836933481564:=0
noncomputable def tw8330632367357318300:=0
noncomputable def tw15779825690783207708:=0
noncomputable def tw3681934801703002396:=0
noncomputable def tw9149052499105532252:=0
noncomputable def tw10256301705190831484:=0
noncomputable def tw5281944150324229532:=0
noncomputable def tw8459241648607791580:=0
noncomputable def tw833070716932348444:=0
noncomputable def tw1768176481380165244:=0
noncomputable def tw9238641201768049308:=0
noncomputable def tw9099091417572618972:=0
noncomputable def tw1775560988399427324:=0
noncomputable def tw3179246215888623388:=0
noncomputable def tw12153375836263172956:=0
noncomputable def tw2148797723484411740:=0
noncomputable def tw9130430349947390876:=0
noncomputable def tw1846301855222293468:=0
noncomputable def tw11987841342119395324:=0
noncomputable def tw12290282228729195516:=0
noncomputable def tw4574568016631906333:=0
noncomputable def tw7171256297092870205:=0
noncomputable def tw9002975811573576797:=0
noncomputable def tw11637559617997207645:=0
noncomputable def tw2019352850115210365:=0
noncomputable def tw6215035473217895613:=0
noncomputable def tw3730930813207005501:=0
noncomputable def tw8141991639719473469:=0
noncomputable def tw8165305841690037661:=0
noncomputable def tw6474572731312783773:=0
noncomputable def tw7680313646684669373:=0
noncomputable def tw12259608987440545245:=0
noncomputable def tw7303114886971826941:=0
noncomputable def tw8070702799556855581:=0
noncomputable def tw824400684968185693:=0
noncomputable def tw13549931308790655869:=0
noncomputable def tw7910597687708662653:=0
noncomputable def tw12029553102144454557:=0
noncomputable def tw11737297680633923678:=0
noncomputable def tw8053873970810923102:=0
noncomputable def tw12286520384325528766:=0
noncomputable def tw3414740815613303454:=0
noncomputable def tw12471456829600535230:=0
noncomputable def tw6764907567101558494:=0
noncomputable def tw12440828422967026398:=0
noncomputable def tw7395222280755524318:=0
noncomputable def tw3223504044720969470:=0
noncomputable def tw3690987514846040862:=0
noncomputable def tw16084218347219888926:=0
noncomputable def tw9192178651457840958:=0
noncomputable def tw7931827762939990111:=0
noncomputable def tw3540306062086109503:=0
noncomputable def tw3351265698241834335:=0
noncomputable def tw14290367317191444895:=0
noncomputable def tw5107513816993189439:=0
noncomputable def tw257992110446018143:=0
noncomputable def tw1002100159524560511:=0
noncomputable def tw2117725812531901087:=0
noncomputable def tw2031807039531559679:=0
noncomputable def tw13156621813294120799:=0
noncomputable def tw16612060039172753311:=0
noncomputable def tw4137109523250589695:=0
noncomputable def tw8435743264781301759:=0
noncomputable def tw544469531403395540:=0
end PySem.W.Fast
open PySem PySem.W PyProof.Rows
set_option maxRecDepth 100000 in
set_option maxHeartbeats 0 in
theorem PySem.Challenge.cw_spinfloor_k53_what_rests_holds : PySem.Challenge.rw_spinfloor_k53_what_rests.Holds := by
 w_on;o_law;k_head;(case hw=>w_witness2);k_fill;refine K8.walk (l:=PySem.Challenge.rw_spinfloor_k53_what_rests) rfl rfl (fun w h Y=>PySem.W.km_in_of Y) ?R ?R2 ?F;(case R|R2=>kernel_rfl)
 case F =>
  intro w mg fa h KX G hmg;refine' K8.all_mk KX G hmg ?i7 ?oW ?mD ?oV ?DI ?DH ?Jc ?jw ?jv ?d7 ?iI ?ju ?jt ?d6 ?iH ?lF ?DD ?Ci ?Df ?wJ ?jY ?jB ?jQ ?gF ?jU ?jx ?jM ?gB ?tR ?rY ?tm ?m8 ?cp ?dk ?gb ?dy ?hX ?gZ ?hG ?eg ?xY ?wH ?xN ?qO ?DG ?Cm ?Dj ?wO ?DE ?Cj ?Dg ?wK ?tQ ?wI ?Di ?wN ?DF ?Ck ?Dh ?wM ?tL ?rT ?sV ?mW ?jD ?jS ?jF ?gG ?oo ?oN ?kq ?ox ?fQ ?gh ?cm ?dz ?lQ ?l9 ?fU ?iS ?lR ?ma ?iR ?lT ?Jb ?HN ?IP ?k_head ?tN ?rV ?sY ?mY ?oU ?om ?oM ?ko ?jV ?jy ?jN ?gC ?ml ?lJ ?lX ?iK ?oP ?oa ?oH ?ke ?tM ?rU ?sW ?mX ?i6 ?iJ ?i4 ?eZ ?hO ?gY ?g9 ?d9 ?gj ?fN ?fZ ?du ?jC ?jR ?jE ?jG ?oS ?oj ?oK ?ki ?oR ?oi ?oJ ?kh ?tP ?rX ?tj ?m7 ?oQ ?og ?oI ?kg ?my ?lN ?l6 ?iO ?mv ?lL ?lZ ?iM ?eR ?eM ?eQ ?cD ?mw ?lM ?l5 ?iN ?tO ?rW ?sZ ?mZ ?mq ?lK ?lY ?iL ?mz ?lO ?l7 ?iP ?jW ?jz ?jO ?gD ?jX ?jA ?jP ?gE ?mB ?lP ?l8 ?iQ ?hZ ?g7 ?hJ ?eh ?cM ?cG ?cL ?bP ?gk ?fP ?f9 ?dv ?Lv ?Na ?NB ?Nd ?iA ?nL ?cg ?ga_TooWide ?gt_TooWide ?hb_TooWide ?oz ?oA ?oy ?dt ?cH ?BI ?CC ?Bz ?Bs ?B5 ?Cq ?lE ?lD ?eJ ?BH ?CB ?By ?Br ?B4 ?Cp ?lC ?lB ?eI ?Hi ?Io ?Hb ?GX ?HA ?HU ?lA ?lz ?jr ?iG ?js ?hn_ ?htk_ ?gi_mplc ?kv_ ?Me ?Mf ?Gm ?Gk ?AO ?AQ ?kY ?jh ?Mc ?Ma ?vf ?Md ?nK ?Mb ?Mg ?ji ?tbc ?tbl ?tbv ?tbn ?tbc2 ?tbl2 ?tbv2 ?tbn2;(case i7|oW|mD|oV|DI|DH|Jc|jw|jv|d7|iI|ju|jt|d6|iH|lF|DD|Ci|Df|wJ|jY|jB|jQ|gF|jU|jx|jM|gB|tR|rY|tm|m8|cp|dk|gb|dy|hX|gZ|hG|eg|xY|wH|xN|qO|DG|Cm|Dj|wO|DE|Cj|Dg|wK|tQ|wI|Di|wN|DF|Ck|Dh|wM|tL|rT|sV|mW|jD|jS|jF|gG|oo|oN|kq|ox|fQ|gh|cm|dz|lQ|l9|fU|iS|lR|ma|iR|lT|Jb|HN|IP|k_head|tN|rV|sY|mY|oU|om|oM|ko|jV|jy|jN|gC|ml|lJ|lX|iK|oP|oa|oH|ke|tM|rU|sW|mX|i6|iJ|i4|eZ|hO|gY|g9|d9|gj|fN|fZ|du|jC|jR|jE|jG|oS|oj|oK|ki|oR|oi|oJ|kh|tP|rX|tj|m7|oQ|og|oI|kg|my|lN|l6|iO|mv|lL|lZ|iM|eR|eM|eQ|cD|mw|lM|l5|iN|tO|rW|sZ|mZ|mq|lK|lY|iL|mz|lO|l7|iP|jW|jz|jO|gD|jX|jA|jP|gE|mB|lP|l8|iQ|hZ|g7|hJ|eh|cM|cG|cL|bP|gk|fP|f9|dv|Lv|Na|NB|Nd=>k_is)
  (case iA|nL=>k_exc)
  (case cg|ga_TooWide|gt_TooWide|hb_TooWide|oz|oA|oy=>k_is)
  (case dt|cH=>kit_is)
  (case BI|CC|Bz|Bs|B5|Cq|lE|lD|eJ|BH|CB|By|Br|B4|Cp|lC|lB|eI|Hi|Io|Hb|GX|HA|HU|lA|lz|jr|iG|js|hn_|htk_|gi_mplc=>k_is)
  (case kv_=>kernel_rfl);(case Me|Mf|Gm|Gk|AO|AQ|kY|jh|Mc|Ma|vf|Md|nK|Mb|Mg|ji=>k_is)
  (case tbc=>rfl);(case tbl=>k_is);(case tbv=>rfl);(case tbn=>kernel_rfl);(case tbc2=>rfl);(case tbl2=>k_is);(case tbv2=>rfl);(case tbn2=>kernel_rfl)
