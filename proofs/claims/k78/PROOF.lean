import PyProof.Rows.All
import Wide.All
import OpenK.AllK
import Wide.FinOn
import Lean
import PyProof.EqAt
import PyProof.EqKinds
import PyProof.TupleCall
import PySem.Challenge.RW_spinfloor_k78_both_ways_of_fans
open Array renaming length_toList → Po, getElem?_eq_some_iff → Pp, getElem?_toList → PX, getElem?_eq_getElem → Qt
open Bool renaming false_ne_true → Nn, true_and → N0, false_and → Om, false_xor → OM, false_eq_true → OO, xor_false → OX, and_false → O9, xor_comm → PB, eq_iff_iff → PV, xor_self → P6, and_eq_true → Qf, xor_assoc → Qs, true_xor → QA, and_true → QB
open Classical renaming choose_spec → PU, propDecidable → Qz
open Int renaming toNat_natCast → Ng, le_refl → Oj, zero_add → OJ, natCast_nonneg → O5, add_zero → Qa, one_mul → Qj, natCast_pow → Qk, fdiv_eq_ediv_of_nonneg → Qn
open List renaming getElem?_eq_getElem → MN, getElem?_eq_some_iff → MO, mem_of_getElem? → MP, getElem?_append_right → MR, getElem?_append_left → MU, mem_cons → MV, length_append → MX, mem_cons_of_mem → MY, mem_append_right → MZ, mem_cons_self → M3, mem_append → M5, length_map → M7, replicate → M9, range → Na, nodup_cons → Nb, length_singleton → Nc, map_cons → Nj, size_toArray → Np, getElem?_map → Nq, mem_append_left → Nt, length_cons → Nv, nodup_append → Nw, mem_singleton → Nx, getD_eq_getElem?_getD → Ny, take_add_one → NA, take_length → ND, mem_map → NL, length_range → NN, mem_flatten → NO, map_append → NU, not_mem_nil → NW, mem_range → NX, flatten_cons → NY, mem_iff_getElem? → N7, getElem?_replicate → N8, perm_ext_iff_of_nodup → N9, length_set → Ob, flatten_append → Oe, getElem?_set → Of, getElem_of_mem → Oi, length_take → Oq, getElem?_of_mem → Ot, append_nil → Ow, length_pos_of_mem → Oy, take_append_drop → OA, sum_cons → OB, length_replicate → OC, erase_cons_head → OE, idxOf_lt_length_iff → OH, mem_filter → OS, append_assoc → OV, nodup_nil → OW, getElem?_range → O0, range_succ → O3, find?_cons → O4, take_of_length_le → O6, map_map → Pc, length_filter_le → Pd, replicate_succ' → Pe, getElem?_eraseIdx_of_lt → Pg, getElem?_eraseIdx_of_ge → Ph, map_congr_left → Pk, lookup → Pm, length_reverse → Pn, mem_replicate → Pq, append_of_mem → Pr, mem_or_eq_of_mem_set → Pt, length_erase_of_mem → Px, foldl_append → Py, nodup_range → PH, mem_reverse → PJ, filter_cons → PK, length_nil → PQ, getElem?_eq_none → PR, filterMap_cons → P1, mem_filterMap → P5, reverse_cons → P8, length_drop → Qc, eq_nil_of_length_eq_zero → Qd, cons_append → Qe, of_mem_zip → Qi, length_eraseIdx_of_lt → Qm, take_zero → Qr, mem_of_mem_eraseIdx → Qu, filter_cons_of_pos → Qw, filter_cons_of_neg → Qx, any_cons → Qy
open List.Pairwise renaming nil → Pz
open Nat renaming le_refl → MT, lt_of_lt_of_le → Nk, sub_self → Nl, ne_of_lt → Nm, testBit_two_pow → Nu, lt_irrefl → Nz, eq_of_testBit_eq → NF, zero_testBit → NK, le_of_lt → NM, xor_assoc → NP, le_trans → NQ, lt_succ_self → NR, zero_le → NS, testBit_xor → NT, not_lt_zero → NV, pow_le_pow_right → NZ, pow_lt_pow_right → Oa, mod_eq_of_lt → Oc, testBit_or → Ol, testBit_and → Oo, two_pow_pos → Ou, le_succ → Ov, xor_lt_two_pow → Oz, lt_pow_two_of_testBit → OD, lt_succ_of_lt → OG, ne_of_gt → OI, testBit_lt_two_pow → ON, xor_zero → OP, xor_self → OQ, testBit_two_pow_sub_one → OR, testBit → OZ, xor_comm → Pa, mod_self → Pb, or_lt_two_pow → Pw, le_of_not_lt → PD, le_add_right → PF, mul_le_mul_right → PY, one_lt_two_pow → P4, le_of_eq → P9, not_lt_of_le → Qb, left_le_or → Qq
open Option renaming map_eq_some_iff → NI, isSome_iff_exists → Pu, map_some → PN
open Option.some renaming inj → Ni
open PySem renaming Spec → Nh, mem_of_lookup → Od, frameOf → P2
open PySem.F renaming plainAttrs_list → NB, plain_min_loop → NC, type_list_append → NG, slot_list_append → NH, entry_min_loop → Ox, excBase_ValueError → Ql, plain_extend_loop → Qp
open PySem.W renaming Frag → MQ, keepIn → M0, nsIn → M6, codeIn → M8, mg_of → Nd, fnOf → Nf, findIn → Nr, mg_none_of → NJ, kia_one → Og, emptyDict → Oh, instObj → OF, plainGet → OK, CodeHd → OL, tabIn → OT, hasDictIn → OU, hideAll_get → OY, isFn → O1, callWith_K → O2, plainOver → O7, kitOne → O8, mroIn → Pf, makesIn → Pj, kla_obj → PM, lookIn → PZ, plainGet_of → P0, methodObj → P7, takerIn → Qg, OpenLaw → Qh, tabObj → Qo, excIn → Qv
set_option Elab.async false
set_option linter.all false
set_option compiler.extract_closed false
set_option genSizeOf false
set_option maxRecDepth 100000
local macro_rules | `(tactic| omega) => `(tactic| first | assumption | lia | omega +splitDisjunctions)
namespace L2
open PySem PySem.Spec PyProof.Rows
abbrev Key:=Sum Int Str
def xJ:Key->Value->Bool
 |.inl k,v=>Value.isInt k v
 |.inr x,v=>Value.isStrOf x v
def keyH(w:World):Key->Int
 |.inl k=>hashInt k
 |.inr x=>hashStr w x
theorem a7:∀{k:Key}{v:Value},xJ k v=true->(∃ i t,k=Sum.inl i/\v=Value.int i t)∨(∃ x t,k=Sum.inr x/\v=Value.str x t)
 |.inl i,v,h=>by
  obtain⟨t,e⟩:=Value.isInt_shape (k:=i) (v:=v) h
  exact .inl ⟨i,t,rfl,e⟩
 |.inr x,v,h=>by
  obtain⟨t,e⟩:=Value.isStrOf_shape (x:=x) (v:=v) h
  exact .inr ⟨x,t,rfl,e⟩
theorem Gv(i:Int)(t:Tok):xJ (.inl i) (.int i t)=true:=by simp[xJ,Value.isInt]
theorem Gu(x:Str)(t:Tok):xJ (.inr x) (.str x t)=true:=by simp[xJ,Value.isStrOf]
theorem key_ll(a b:Int):decide ((Sum.inl a:Key)=Sum.inl b)=(a == b):=by
 by_cases e:a=b
 ·subst e;simp
 ·have h:¬ (Sum.inl a:Key)=Sum.inl b:=fun q=>e (Sum.inl.inj q)
  rw[decide_eq_false h]
  exact(beq_eq_false_iff_ne.mpr e).symm
theorem key_rr(a b:Str):decide ((Sum.inr a:Key)=Sum.inr b)=decide (a=b):=by
 by_cases e:a=b
 ·subst e;simp
 ·have h:¬ (Sum.inr a:Key)=Sum.inr b:=fun q=>e (Sum.inr.inj q)
  rw[decide_eq_false h,decide_eq_false e]
theorem key_lr(a:Int)(b:Str):decide ((Sum.inl a:Key)=Sum.inr b)=false:=decide_eq_false (fun q=>nomatch q)
theorem key_rl(a:Str)(b:Int):decide ((Sum.inr a:Key)=Sum.inl b)=false:=decide_eq_false (fun q=>nomatch q)
def bE(prog:Program)(w:World):PySem.KeyKind prog w Key where
 is:=xJ
 hash:=keyH w
 inj:=fun v a b ha hb=>by
  rcases a7 ha with⟨i,t,rfl,rfl⟩ | ⟨x,t,rfl,rfl⟩
  ·rcases a7 hb with⟨j,u,rfl,e⟩ | ⟨y,u,rfl,e⟩
   ·injection e with e1 _;rw[e1]
   ·exact nomatch e
  ·rcases a7 hb with⟨j,u,rfl,e⟩ | ⟨y,u,rfl,e⟩
   ·exact nomatch e
   ·injection e with e1 _;rw[e1]
 byValue:=fun k v h=>by
  rcases a7 h with⟨i,t,rfl,rfl⟩ | ⟨x,t,rfl,rfl⟩<;>rfl
 pyHash:=fun hv h=>by
  rcases a7 hv with⟨i,t,rfl,rfl⟩ | ⟨x,t,rfl,rfl⟩
  ·exact wpAny_pyHash_int h
  ·exact wpAny_pyHash_str h
 eqBool:=fun hu hv h=>by
  rcases a7 hu with⟨i,t,rfl,rfl⟩ | ⟨x,t,rfl,rfl⟩
  ·rcases a7 hv with⟨j,u,rfl,rfl⟩ | ⟨y,u,rfl,rfl⟩
   ·rw[key_ll]at h;exact wpAny_eqBool_int h
   ·rw[key_lr]at h;exact SeqAt.EqAt.int_str i t y u _ _ _ _ h
  ·rcases a7 hv with⟨j,u,rfl,rfl⟩ | ⟨y,u,rfl,rfl⟩
   ·rw[key_rl]at h;exact SeqAt.EqAt.str_int x t j u _ _ _ _ h
   ·rw[key_rr]at h;exact wpAny_eqBool_str h
 «strs»:=fun k x t v h=>by
  rcases a7 h with⟨i,u,rfl,e⟩ | ⟨y,u,rfl,e⟩
  ·exact nomatch e
  ·injection e with e1 _
   subst e1
   cases v<;>rfl
theorem AD(prog:Program)(w:World)(i:Int)(t:Tok):(bE prog w).is (.inl i) (.int i t)=true:=Gv i t
theorem AB(prog:Program)(w:World)(x:Str)(t:Tok):(bE prog w).is (.inr x) (.str x t)=true:=Gu x t
end L2
namespace L2
open PySem PySem.Spec PyProof.Rows
inductive V where
 |non | bl (b:Bool) | int (i:Int) | str (x:Str) | byt (b:Array UInt8) | flt (b:UInt64) | ref (a:Addr) | ty (n:String)
 deriving DecidableEq
def RelV:V->Value->Prop
 |.non,u=>u=Value.none
 |.bl b,u=>u=Value.bool b
 |.int i,u=>∃ t,u=Value.int i t
 |.str x,u=>∃ t,u=Value.str x t
 |.byt b,u=>∃ t,u=Value.bytes b t
 |.flt b,u=>∃ t,u=Value.float b t
 |.ref a,u=>u=Value.ref a
 |.ty n,u=>u=Value.type n
abbrev Vals:List V->List Value->Prop:=Paired RelV
theorem Vals.length{xs:List V}{us:List Value}(r:Vals xs us):xs.length=us.length:=Paired.length r
theorem Vals.get:∀{xs:List V}{us:List Value}{i:Nat}{x:V},Vals xs us->xs[i]?=some x->∃ u,us[i]?=some u/\RelV x u
 |_,_,_,_,.nil,e=>by simp at e
 |_,_,0,_,.cons r _,e=>by simp at e;subst e;exact⟨_,rfl,r⟩
 |_,_,i+1,x,.cons _ t,e=>by
  obtain⟨u,h1,h2⟩:=Vals.get (i:=i) (x:=x) t (by simpa using e)
  exact⟨u,by simpa using h1,h2⟩
theorem Vals.set{x:V}{u:Value}(r:RelV x u):∀{xs:List V}{us:List Value}(i:Nat),Vals xs us->Vals (xs.set i x) (us.set i u)
 |_,_,_,.nil=>.nil
 |_,_,0,.cons _ t=>.cons r t
 |_,_,i+1,.cons q t=>.cons q (Vals.set r i t)
theorem Vals.append:∀{xs ys:List V}{us ws:List Value},Vals xs us->Vals ys ws->Vals (xs++ys) (us++ws)
 |_,_,_,_,.nil,s=>s
 |_,_,_,_,.cons r t,s=>.cons r (Vals.append t s)
theorem Vals.take:∀{xs:List V}{us:List Value}(n:Nat),Vals xs us->Vals (xs.take n) (us.take n)
 |_,_,0,_=>.nil
 |_,_,_+1,.nil=>.nil
 |_,_,n+1,.cons r t=>.cons r (Vals.take n t)
theorem Vals.drop:∀{xs:List V}{us:List Value}(n:Nat),Vals xs us->Vals (xs.drop n) (us.drop n)
 |_,_,0,r=>r
 |_,_,_+1,.nil=>.nil
 |_,_,n+1,.cons _ t=>Vals.drop n t
def RelO:Option V->Option Value->Prop
 |some v,some u=>RelV v u
 |none,none=>True
 |_,_=>False
def KV{κ:Type}:List (κ×V)->List (κ×Value)->Prop:=Paired fun(p:κ×V) (q:κ×Value)=>p.1=q.1/\RelV p.2 q.2
def kV:Key->V
 |.inl i=>.int i
 |.inr x=>.str x
inductive HO where
  |lst (xs:List V)
  |tup (xs:List V)
  |dK (kvs:List (Key×V)) | dT (kvs:List (List Key×V))
  |set (S:Int->Bool) (n:Nat)
  |ins (C dx:Addr) (fs:List (Str×V))
  |own (x:Addr)
  |xd (fs:List (Str×V))
  |met (f x:Addr)
  |rng (lo hi:Int)
  |frz (o:Obj) (u:HO)
  |tbl (ps:Array Value)
  |ext (φ:Heap->Prop)
abbrev Hp:=Addr->Option HO
def upd(H:Hp)(a:Addr)(o:HO):Hp:=fun b=>if b=a then some o else H b
theorem ag{H:Hp}{a:Addr}{o:HO}:upd H a o a=some o:=by unfold upd;rw[if_pos rfl]
theorem ao{H:Hp}{a b:Addr}{o:HO}(h:b≠a):upd H a o b=H b:=by unfold upd;rw[if_neg h]
theorem ne_of{H:Hp}{a b:Addr}{o u:HO}(h:H a=some o)(h':H b=some u)(d:o≠u):a≠b:=by
 intro e;subst e;rw[h]at h';exact d (Ni h')
theorem aG{H:Hp}{a b:Addr}{o:HO}(h:H a=some o)(h':H b=none):a≠b:=by
 intro e;subst e;rw[h]at h';cases h'
section
variable(P:Program)(w:World)
def bT(H:Hp)(h:Heap)(a:Addr):HO->Prop
 |.lst xs=>xs.length<=sizeLine/\∃(its:List Value)(n:Nat),Vals xs its/\h.get? a=some { cls:=.type "list",data:=.seq its.toArray n }
 |.tup xs=>xs.length<=sizeLine/\∃ its:List Value,Vals xs its/\IsTup h a its.toArray
 |.dK kvs=>kvs.length<=sizeLine/\(a == sysModules)=false/\∃ vs,KV kvs vs/\h.DictOf (bE P w) a vs
 |.dT kvs=>kvs.length<=sizeLine/\(a == sysModules)=false/\∃ xs:List (List Key×Addr×Value),
   Paired (fun(p:List Key×V) (q:List Key×Addr×Value)=>p.1=q.1/\H q.2.1=some (.tup (p.1.map kV))/\RelV p.2 q.2.2) kvs xs /\
   ∃ o es ep,h.get? a=some o/\o.ExactDict/\o.data=.dict es ep/\es.toList=xs.map (entryOfKey (tupleKind (bE P w)))/\(xs.map (·.1)).Nodup
 |.set S n=>h.SetOf (intKind P w) a S n
 |.ins C dx fs=>H dx=some (.own a)/\fs.length<=1000/\dx≠a/\h.get? a=some (OF C dx) /\
   ∃ mA,h.Ns1 dx mA/\(∀ f,RelO (fs.lookup f) (mA f))/\PySem.Within mA (fs.map (·.1))
 |.own _=>∃ o,h.get? a=some o
 |.xd fs=>∃ mA,h.Ns1 a mA/\∀ f,RelO (fs.lookup f) (mA f)
 |.rng lo hi=>∃ t u v,h.get? a=some { cls:=.type "range",data:=.fields #[.int lo t,.int hi u,.int 1 v] }
 |.frz o u=>h.get? a=some o/\bT H h a u
 |.tbl ps=>h.get? a=some { cls:=.none,data:=.fields ps }
 |.met f x=>h.get? a=some (P7 (.ref f) (.ref x))
 |.ext φ=>φ h/\(∃ o,h.get? a=some o)/\∀ h1 h2:Heap,φ h1->(∀ o,h1.get? a=some o->h2.get? a=some o)->φ h2
def HOk(H:Hp)(h:Heap):Prop:=∀ a o,H a=some o->bT P w H h a o
end
section
variable{P:Program}{w:World}{H H':Hp}{h h':Heap}{a:Addr}{o:HO}
theorem bT.lt(x:bT P w H h a o):a<h.objs.size:=by
 cases o with
 |lst xs=>obtain⟨_,_,_,_,e⟩:=x;exact Heap.lt_size e
 |tup xs=>obtain⟨_,_,_,p⟩:=x;exact p.lt
 |dK kvs=>obtain⟨_,_,_,_,o,_,_,e,_⟩:=x;exact Heap.lt_size e
 |dT kvs=>obtain⟨_,_,_,_,o,_,_,e,_⟩:=x;exact Heap.lt_size e
 |set S n=>obtain⟨o,_,_,_,e,_⟩:=x;exact Heap.lt_size e
 |ins C dx fs=>obtain⟨_,_,_,e,_⟩:=x;exact Heap.lt_size e
 |own y=>obtain⟨_,e⟩:=x;exact Heap.lt_size e
 |xd fs=>obtain⟨_,⟨_,_,_,e,_⟩,_⟩:=x;exact Heap.lt_size e
 |rng lo hi=>obtain⟨_,_,_,e⟩:=x;exact Heap.lt_size e
 |frz ob u=>obtain⟨e,_⟩:=x;exact Heap.lt_size e
 |tbl ps=>exact Heap.lt_size (show h.get? a=some _ from x)
 |met f y=>exact Heap.lt_size (show h.get? a=some _ from x)
 |ext φ=>obtain⟨_,⟨_,e⟩,_⟩:=x;exact Heap.lt_size e
theorem Paired.mapP{α β:Type}{F G:α->β->Prop}:∀{l₁:List α}{l₂:List β},Paired F l₁ l₂->(∀ a b,F a b->G a b)->Paired G l₁ l₂
 |_,_,.nil,_=>.nil
 |_,_,.cons r t,f=>.cons (f _ _ r) (Paired.mapP t f)
theorem bT.stay(x:bT P w H h a o)(k:∀ b u,(b=a∨H b=some (.own a))->h.get? b=some u->h'.get? b=some u)
  (ho:∀ b,H b=some (.own a)->H' b=some (.own a)) (ht:∀ b xs,H b=some (.tup xs)->H' b=some (.tup xs)):bT P w H' h' a o:=by
 induction o with
 |lst xs=>obtain⟨z,its,n,r,e⟩:=x;exact⟨z,its,n,r,k _ _ (.inl rfl) e⟩
 |tup xs=>obtain⟨z,its,r,ob,e,c⟩:=x;exact⟨z,its,r,ob,k _ _ (.inl rfl) e,c⟩
 |dK kvs=>obtain⟨z,y,vs,r,ob,es,ep,e,c⟩:=x;exact⟨z,y,vs,r,ob,es,ep,k _ _ (.inl rfl) e,c⟩
 |dT kvs =>
  obtain⟨z,y,xs,r,ob,es,ep,e,c⟩:=x
  exact⟨z,y,xs,Paired.mapP r fun p q z=>⟨z.1,ht _ _ z.2.1,z.2.2⟩,ob,es,ep,k _ _ (.inl rfl) e,c⟩
 |set S n=>obtain⟨ob,es,ep,t,e,c⟩:=x;exact⟨ob,es,ep,t,k _ _ (.inl rfl) e,c⟩
 |ins C dx fs =>
  obtain⟨d,z,ne,e,mA,⟨od,es,ep,e2,c⟩,r⟩:=x
  exact⟨ho _ d,z,ne,k _ _ (.inl rfl) e,mA,⟨od,es,ep,k _ _ (.inr d) e2,c⟩,r⟩
 |own y=>obtain⟨ob,e⟩:=x;exact⟨ob,k _ _ (.inl rfl) e⟩
 |xd fs=>obtain⟨mA,⟨od,es,ep,e,c⟩,r⟩:=x;exact⟨mA,⟨od,es,ep,k _ _ (.inl rfl) e,c⟩,r⟩
 |rng lo hi=>obtain⟨t,u,v,e⟩:=x;exact⟨t,u,v,k _ _ (.inl rfl) e⟩
 |frz ob u ih=>obtain⟨e,q⟩:=x;exact⟨k _ _ (.inl rfl) e,ih q⟩
 |tbl ps =>
  have e:h.get? a=some { cls:=.none,data:=.fields ps }:=x
  show h'.get? a=some { cls:=.none,data:=.fields ps }
  exact k a _ (.inl rfl) e
 |met f y =>
  have e:h.get? a=some (P7 (.ref f) (.ref y)):=x
  show h'.get? a=some (P7 (.ref f) (.ref y))
  exact k a _ (.inl rfl) e
 |ext φ=>obtain⟨p,⟨o,e⟩,st⟩:=x;exact⟨st _ _ p fun o q=>k _ _ (.inl rfl) q,⟨o,k _ _ (.inl rfl) e⟩,st⟩
theorem HOk.lt(x:HOk P w H h)(e:H a=some o):a<h.objs.size:=(x a o e).lt
theorem HOk.fresh(x:HOk P w H h)(e:h.objs.size<=a):H a=none:=by
 cases q:H a with
 |none=>rfl
 |some u=>exact absurd (Nk (x.lt q) e) (Nz _)
theorem HOk.kept(x:HOk P w H h)(k:∀ b u,h.get? b=some u->h'.get? b=some u):HOk P w H h':=fun a o e =>
 (x a o e).stay (fun b u _ q=>k b u q) (fun _ q=>q) fun _ _ q=>q
theorem HOk.laid(x:HOk P w H h)(k:∀ b u,h.get? b=some u->h'.get? b=some u)(hp:h.objs.size<=a)(new:bT P w (upd H a o) h' a o):HOk P w (upd H a o) h':=fun b u e=>by
 have hn:=x.fresh hp
 by_cases hb:b=a
 ·subst hb;rw[ag]at e;cases e;exact new
 ·rw[ao hb]at e
  exact(x b u e).stay (fun c v _ q=>k c v q) (fun c q=>by rw[ao (aG q hn)];exact q) fun c xs q=>by rw[ao (aG q hn)];exact q
end
def Rd(H:Hp)(a:Addr)(u:HO):Prop:=H a=some u∨∃ o,H a=some (.frz o u)
theorem Rd.ok{P:Program}{w:World}{H:Hp}{h:Heap}{a:Addr}{u:HO}(r:Rd H a u)(x:HOk P w H h):bT P w H h a u:=by
 rcases r with r | ⟨o,r⟩
 ·exact x a u r
 ·obtain⟨_,q⟩:=x a _ r
  exact q
def Mut:Option HO->Prop
 |some (.lst _)=>True
 |some (.dK _)=>True
 |some (.dT _)=>True
 |some (.set _ _)=>True
 |some (.ins _ _ _)=>True
 |some (.ext _)=>True
 |_=>False
section
variable{P:Program}{w:World}{H:Hp}{h h':Heap}{x e:Addr}{o':HO}
theorem HOk.write(ok:HOk P w H h)(mu:Mut (H x))(he:e=x∨H e=some (.own x))(k:∀ b u,b≠e->h.get? b=some u->h'.get? b=some u)(heo:∃ u,h'.get? e=some u)
  (new:bT P w (upd H x o') h' x o'):HOk P w (upd H x o') h':=fun b u q=>by
 have nown:∀ c y,H c=some (.own y)->c≠x:=fun c y r z=>by subst z;rw[r]at mu;exact mu
 have ntup:∀ c xs,H c=some (.tup xs)->c≠x:=fun c xs r z=>by subst z;rw[r]at mu;exact mu
 by_cases hb:b=x
 ·subst hb;rw[ag]at q;cases q;exact new
 ·rw[ao hb]at q
  by_cases hbe:b=e
  ·have q':H b=some (.own x):=by
    rcases he with z | z
    ·exact absurd (hbe.trans z) hb
    ·rw[hbe];exact z
   rw[q]at q';cases q'
   obtain⟨v,hv⟩:=heo
   exact⟨v,by rw[hbe];exact hv⟩
  ·refine(ok b u q).stay (fun c v hc r=>k c v ?_ r) (fun c r=>by rw[ao (nown c b r)];exact r) fun c xs r=>by rw[ao (ntup c xs r)];exact r
   rcases hc with rfl | hc
   ·exact hbe
   ·rintro rfl
    rcases he with z | z
    ·exact nown c b hc z
    ·rw[hc]at z;cases z;exact hb rfl
end
structure Un(fs ex:List Addr)(H H':Hp)(h h':Heap):Prop where
 keep:∀ b o,h.get? b=some o->H b=none->b∉fs->b∉ex->h'.get? b=some o
 slot:∀ b o,h.get? b=some o->H b=none->b∈fs->b∉ex->∃ sl,h'.get? b=some { o with slots:=sl }
 free:∀ b o,h.get? b=some o->H b=none->b∉ex->H' b=none
 there:∀ b o,h.get? b=some o->b∉ex->∃ o',h'.get? b=some o'
 tups:∀ b xs,H b=some (.tup xs)->H' b=some (.tup xs)
 frzs:∀ b o u,H b=some (.frz o u)->H' b=some (.frz o u)
 tbls:∀ b ps,H b=some (.tbl ps)->∃ more,H' b=some (.tbl (ps++more))
section
variable{fs fs' ex ex':List Addr}{H H1 H2:Hp}{h h1 h2 h':Heap}{a x e:Addr}{o:HO}
theorem Un.any(u:Un fs ex H H1 h h1){b:Addr}{ob:Obj}(q:h.get? b=some ob)(n:H b=none)(hx:b∉ex):∃ sl,h1.get? b=some { ob with slots:=sl }:=by
 by_cases hb:b∈fs
 ·exact u.slot b ob q n hb hx
 ·exact⟨ob.slots,u.keep b ob q n hb hx⟩
theorem Un.kept(k:∀ b u,h.get? b=some u->h'.get? b=some u):Un fs ex H H h h' :=
 ⟨fun b ob q _ _ _=>k b ob q,fun b ob q _ _ _=>⟨ob.slots,k b ob q⟩,fun _ _ _ n _=>n,fun b ob q _=>⟨ob,k b ob q⟩,fun _ _ q=>q,fun _ _ _ q=>q,fun _ ps q=>⟨#[],by rw[q];simp⟩⟩
theorem Un.refl:Un fs ex H H h h:=Un.kept fun _ _ q=>q
theorem Un.laid(k:∀ b u,h.get? b=some u->h'.get? b=some u)(hp:h.objs.size<=a)(hn:H a=none):Un fs ex H (upd H a o) h h' where
 keep:=fun b u q _ _ _=>k b u q
 slot:=fun b u q _ _ _=>⟨u.slots,k b u q⟩
 free:=fun b u q n _=>by rw[ao (Nm (Nk (Heap.lt_size q) hp))];exact n
 there:=fun b u q _=>⟨u,k b u q⟩
 tups:=fun b xs q=>by rw[ao (aG q hn)];exact q
 frzs:=fun b u xs q=>by rw[ao (aG q hn)];exact q
 tbls:=fun b ps q=>⟨#[],by rw[ao (aG q hn),q];simp⟩
theorem Un.write(mu:Mut (H x))(he:e=x∨H e=some (.own x))(k:∀ b u,b≠e->h.get? b=some u->h'.get? b=some u)(heo:∃ u,h'.get? e=some u):Un fs ex H (upd H x o) h h':=by
 have hx:∀ b,H b=none->b≠x:=fun b n z=>by subst z;rw[n]at mu;exact mu
 have hb:∀ b,H b=none->b≠e:=fun b n z=>by
  subst z
  rcases he with r | r
  ·exact hx b n r
  ·rw[n]at r;cases r
 have hm:∀ b u,H b=some u->¬ Mut (some u)->b≠x:=fun b u q nm z=>by subst z;rw[q]at mu;exact nm mu
 refine⟨fun b u q n _ _=>k b u (hb b n) q,fun b u q n _ _=>⟨u.slots,k b u (hb b n) q⟩,fun b u q n _=>by rw[ao (hx b n)];exact n,fun b u q _=>?_,
  fun b xs q=>by rw[ao (hm b _ q fun z=>z)];exact q,fun b u xs q=>by rw[ao (hm b _ q fun z=>z)];exact q,fun b ps q=>⟨#[],by rw[ao (hm b _ q fun z=>z),q];simp⟩⟩
 by_cases hbe:b=e
 ·subst hbe;exact heo
 ·exact⟨u,k b u hbe q⟩
end
def trk(h:Heap)(H:Hp):List Addr:=(Na h.objs.size).filter fun a=>(H a).isSome
def hidT(h:Heap)(H:Hp):Heap:=PySem.W.hideAll h (trk h H)
theorem GN(h:Heap)(H:Hp):(hidT h H).objs.size=h.objs.size:=PySem.W.hideAll_size _ _
theorem nX{h:Heap}{H:Hp}{b:Addr}{o:Obj}(e:h.get? b=some o)(n:H b=none):(hidT h H).get? b=some o :=
 OY _ e fun hm=>by
  have q:(H b).isSome=true:=(OS.mp hm).2
  rw[n]at q;simp at q
theorem LA{h:Heap}{H:Hp}{b:Addr}{o:Obj}(e:(hidT h H).get? b=some o):h.get? b=some o/\H b=none:=by
 have e':h.get? b=some o:=PySem.W.of_hideAll (trk h H) e
 refine⟨e',?_⟩
 cases q:H b with
 |none=>rfl
 |some x =>
  have hm:b∈trk h H:=OS.mpr ⟨NX.mpr (Heap.lt_size e'),by simp[q]⟩
  have z:(hidT h H).get? b=none:=PySem.W.hideAll_none (trk h H) hm
  rw[z]at e;cases e
end L2
namespace L2
open PySem PySem.Spec PyProof.Rows
structure Mod(K:MQ)(mg:Str->Option Value)(base:Heap):Prop where
 kin:K.In base
 glob:base.Ns mainGlobals mg
 blt:∃ mb,base.Ns builtinsNs mb/\∀ x:Str,x≠"__name__"->mb x=bootBuiltins x
 nolimit:base.NoLimit
set_option genInjectivity false in
structure Cx where
 prog:Program
 w:World
 K:MQ
 mg:Str->Option Value
 base:Heap
 A:Around
 N:List Str
 s₀:Shared
 H₀:Hp
 env:Env
 outer:List Env
 stack:List Env
 ex:List Addr
 fn:Str->Bool
 calm:Bool
 pn:List (Addr×Obj)
 xe:Value->Shared->Prop
def frs(l:List Env):List Addr:=l.filterMap (·.frame)
abbrev Cx.fs(X:Cx):List Addr:=frs X.outer
def Vis(sc:Scope)(x:Str):Prop:=sc.names.lookup x=some .local∨sc.names.lookup x=some .cell∨sc.names.lookup x=some .free
def Loc(sc:Scope)(x:Str):Prop:=sc.names.lookup x=some .local∨sc.names.lookup x=some .cell
def Look(env:Env)(h:Heap)(m:Str->Option Value)(x:Str)(u:Value):Prop :=
 (env.kindOf x=some .local/\m x=some u)∨((env.kindOf x=some .cell∨env.kindOf x=some .free)/\∃ c,env.cells.lookup x=some c/\h.IsCell c (some u))
structure Cx.Ok(X:Cx):Prop where
 mod:Mod X.K X.mg X.base
 kind:X.env.scope.kind=.function
 glob:X.env.globals=mainGlobals
 blt:X.env.builtins=builtinsNs
 above:X.s₀.heap.objs.size<=X.env.locals
 inj:∀ x y c,X.env.cells.lookup x=some c->X.env.cells.lookup y=some c->x=y
 has:∀ x,(X.env.kindOf x=some .cell∨X.env.kindOf x=some .free)->∃ c,X.env.cells.lookup x=some c
 cab:∀ x c,X.fn x=true->X.env.cells.lookup x=some c->X.s₀.heap.objs.size<=c
 hd:X.calm=true->X.A.handled=none
 frames:X.A.frames=some X.stack
 stk:X.stack=X.outer∨(X.stack=X.env::X.outer/\X.env.frame=some X.env.locals)
 exf:∀ b∈X.ex,b≠X.env.locals/\∀ x c,X.env.cells.lookup x=some c->c≠b
 bs:∀ b o,X.base.get? b=some o->X.s₀.heap.get? b=some o/\X.H₀ b=none
 bsz:X.base.objs.size<=X.s₀.heap.objs.size
 noex:∀ b o,X.base.get? b=some o->b∉X.ex
 exfs:∀ b∈X.ex,b∉X.fs
 funs:X.s₀.heap.FunFrames X.base X.outer
 frf:∀ b∈X.fs,X.H₀ b=none
structure Inv(X:Cx)(pins:List (Addr×Obj))(σ:List (Option V))(H:Hp)(s:Shared):Prop where
 ok:X.Ok
 os:s.os=X.s₀.os
 bare:AllBare s.gens
 base:Un X.fs X.ex X.H₀ H X.s₀.heap s.heap
 loc:∃ m,s.heap.Ns X.env.locals m/\∀(i:Nat)(x:Str)(v:V),X.N[i]?=some x->σ[i]?=some (some v)->Vis X.env.scope x->∃ u,RelV v u/\Look X.env s.heap m x u
 cell:∀ x c,X.env.cells.lookup x=some c->∃ v,s.heap.IsCell c v
 free:H X.env.locals=none
 freeC:∀ x c,X.env.cells.lookup x=some c->H c=none
 pin:∀ p∈X.pn++pins,s.heap.get? p.1=some p.2/\H p.1=none/\p.1≠X.env.locals/\p.1∉X.fs/\∀ v,p.2.data≠.cell v
 hok:HOk X.prog X.w H s.heap
 len:σ.length=X.N.length
section
variable{X:Cx}{pins:List (Addr×Obj)}{σ:List (Option V)}{H H':Hp}{s:Shared}{h':Heap}
theorem Cx.Ok.nofr(ok:X.Ok){b:Addr}{o:Obj}(e:X.base.get? b=some o):b∉X.fs:=fun hb=>by
 have:=(ok.funs.mem hb).1
 rw[e]at this;cases this
theorem Inv.bs(I:Inv X pins σ H s):∀ b o,X.base.get? b=some o->s.heap.get? b=some o/\H b=none:=fun b o e =>
 ⟨I.base.keep b o (I.ok.bs b o e).1 (I.ok.bs b o e).2 (I.ok.nofr e) (I.ok.noex b o e),I.base.free b o (I.ok.bs b o e).1 (I.ok.bs b o e).2 (I.ok.noex b o e)⟩
theorem Inv.bk(I:Inv X pins σ H s):∀ b o,X.base.get? b=some o->s.heap.get? b=some o:=fun b o e=>(I.bs b o e).1
theorem Inv.mod(I:Inv X pins σ H s):Mod X.K X.mg X.base:=I.ok.mod
theorem Inv.kIn(I:Inv X pins σ H s):X.K.In s.heap:=I.ok.mod.kin.keeps I.bk
theorem Inv.nolimit(I:Inv X pins σ H s):s.heap.NoLimit:=I.ok.mod.nolimit.keeps I.bk
theorem Inv.lt(I:Inv X pins σ H s):X.env.locals<s.heap.objs.size:=let ⟨_,hn,_⟩:=I.loc;hn.lt
theorem Inv.sz(I:Inv X pins σ H s):X.s₀.heap.objs.size<=s.heap.objs.size:=NQ I.ok.above (NM I.lt)
theorem Inv.nofs(I:Inv X pins σ H s){a:Addr}(h:s.heap.objs.size<=a):a∉X.fs:=fun hb=>by
 obtain⟨_,o,ho,_⟩:=I.ok.funs.mem hb
 exact absurd (Nk (Heap.lt_size ho) (NQ I.sz h)) (Nz _)
theorem Inv.cne(I:Inv X pins σ H s):∀ x c,X.env.cells.lookup x=some c->c≠X.env.locals:=fun x c e z=>by
 obtain⟨v,o,ho,hd⟩:=I.cell x c e
 obtain⟨m,⟨o',es,ep,ho',hd',_⟩,_⟩:=I.loc
 rw[z,ho']at ho;cases ho;rw[hd']at hd;cases hd
theorem Inv.funs(I:Inv X pins σ H s):s.heap.FunFrames X.base X.outer:=by
 have all:∀(l:List Env),(∀ b∈frs l,b∈X.fs)->X.s₀.heap.FunFrames X.base l->s.heap.FunFrames X.base l:=by
  intro l
  induction l with
  |nil=>intro _ _;trivial
  |cons env r ih =>
   intro hs hl
   obtain⟨hk,⟨L,o,hf,hn,ho,hd⟩,hr⟩:=hl
   have hL:L∈X.fs:=hs L (by unfold frs;rw[P1,hf];exact M3)
   obtain⟨sl,e⟩:=I.base.slot L o ho (I.ok.frf L hL) hL fun z=>I.ok.exfs L z hL
   exact⟨hk,⟨L,_,hf,hn,e,hd⟩,ih (fun b hb=>hs b (by unfold frs;rw[P1,hf];exact MY _ hb)) hr⟩
 exact all X.outer (fun _ hb=>hb) I.ok.funs
theorem Inv.stack(I:Inv X pins σ H s):s.heap.FunFrames X.base X.stack:=by
 rcases I.ok.stk with e | ⟨e,hf⟩
 ·rw[e];exact I.funs
 ·rw[e]
  obtain⟨m,hn,_⟩:=I.loc
  refine .cons (by rw[I.ok.kind];decide) hf hn ?_ I.funs
  exact Heap.get?_none_of_le (NQ I.ok.bsz I.ok.above)
theorem Inv.stkSub(I:Inv X pins σ H s):∀ b∈frs X.stack,b∈X.env.locals::X.fs:=fun b hb=>by
 rcases I.ok.stk with e | ⟨e,hf⟩
 ·rw[e]at hb;exact MY _ hb
 ·rw[e]at hb
  unfold frs at hb
  rw[P1,hf]at hb
  exact hb
theorem Inv.stkFree(I:Inv X pins σ H s):∀ b∈frs X.stack,H b=none:=fun b hb=>by
 rcases MV.mp (I.stkSub b hb)with e | hb
 ·rw[e];exact I.free
 ·obtain⟨_,o,ho,_⟩:=I.ok.funs.mem hb
  exact I.base.free b o ho (I.ok.frf b hb) fun z=>I.ok.exfs b z hb
theorem Inv.step{g':Array GenState}{t':Nat}{d':Drawn}{ch:List Addr}(I:Inv X pins σ H s)
  (hch:∀ b∈ch,(b∈X.ex∨X.s₀.heap.objs.size<=b)/\b≠X.env.locals/\(∀ x c,X.env.cells.lookup x=some c->c≠b)/\∀ p∈X.pn++pins,p.1≠b)
  (keep:∀ b o,b≠X.env.locals->b∉X.fs->b∉ch->s.heap.get? b=some o->H b=none->h'.get? b=some o)
  (slot:∀ b o,b≠X.env.locals->b∈X.fs->b∉ch->s.heap.get? b=some o->H b=none->∃ sl,h'.get? b=some { o with slots:=sl }) (free:∀ b o,b∉ch->s.heap.get? b=some o->H b=none->H' b=none)
  (there:∀ b o,b∉ch->s.heap.get? b=some o->∃ o',h'.get? b=some o')
  (tups:∀ b xs,H b=some (.tup xs)->H' b=some (.tup xs)) (frzs:∀ b o u,H b=some (.frz o u)->H' b=some (.frz o u)) (tbls:∀ b ps,H b=some (.tbl ps)->∃ more,H' b=some (.tbl (ps++more)))
  (ns:∀ m,s.heap.Ns X.env.locals m->h'.Ns X.env.locals m) (hok:HOk X.prog X.w H' h') (hg:AllBare g') :
  Inv X pins σ H' { s with heap:=h',gens:=g',drawn:=d',toks:=t' }:=by
 have neL:∀ b o,X.s₀.heap.get? b=some o->b≠X.env.locals:=fun b o e=>Nm (Nk (Heap.lt_size e) I.ok.above)
 have neC:∀ b o,X.s₀.heap.get? b=some o->b∉X.ex->b∉ch:=fun b o e hx hb=>by
  rcases(hch b hb).1 with z | z
  ·exact hx z
  ·exact absurd (Nk (Heap.lt_size e) z) (Nz _)
 have cellK:∀ x c,X.env.cells.lookup x=some c->∀ v,s.heap.IsCell c v->h'.IsCell c v:=fun x c e v ⟨o,ho,hd⟩=>by
  have nch:c∉ch:=fun z=>(hch c z).2.2.1 x c e rfl
  by_cases hc:c∈X.fs
  ·obtain⟨sl,q⟩:=slot c o (I.cne x c e) hc nch ho (I.freeC x c e)
   exact⟨_,q,hd⟩
  ·exact⟨o,keep c o (I.cne x c e) hc nch ho (I.freeC x c e),hd⟩
 refine⟨I.ok,I.os,hg,⟨fun b o e n hb hx=>?_,fun b o e n hb hx=>?_,fun b o e n hx=>?_,fun b o e hx=>?_,fun b xs e=>tups b xs (I.base.tups b xs e),fun b o xs e=>frzs b o xs (I.base.frzs b o xs e),fun b ps e=>?_⟩,?_,fun x c e=>?_,?_,fun x c e=>?_,fun p hp=>?_,hok,I.len⟩
 ·exact keep b o (neL b o e) hb (neC b o e hx) (I.base.keep b o e n hb hx) (I.base.free b o e n hx)
 ·obtain⟨sl,e1⟩:=I.base.slot b o e n hb hx
  obtain⟨sl',e2⟩:=slot b _ (neL b o e) hb (neC b o e hx) e1 (I.base.free b o e n hx)
  exact⟨sl',e2⟩
 ·obtain⟨o',e1⟩:=I.base.there b o e hx
  exact free b o' (neC b o e hx) e1 (I.base.free b o e n hx)
 ·obtain⟨o',e1⟩:=I.base.there b o e hx
  exact there b o' (neC b o e hx) e1
 ·obtain⟨m1,e1⟩:=I.base.tbls b ps e
  obtain⟨m2,e2⟩:=tbls b _ e1
  exact⟨m1++m2,by rw[e2,Array.append_assoc]⟩
 ·obtain⟨m,hn,hl⟩:=I.loc
  refine⟨m,ns m hn,fun i x v e1 e2 e3=>?_⟩
  obtain⟨u,r,l⟩:=hl i x v e1 e2 e3
  refine⟨u,r,?_⟩
  rcases l with l | ⟨k,c,e,z⟩
  ·exact .inl l
  ·exact .inr ⟨k,c,e,cellK x c e _ z⟩
 ·obtain⟨v,z⟩:=I.cell x c e
  exact⟨v,cellK x c e v z⟩
 ·obtain⟨m,⟨o,_,_,ho,_⟩,_⟩:=I.loc
  exact free _ o (fun z=>(hch _ z).2.1 rfl) ho I.free
 ·obtain⟨v,o,ho,hd⟩:=I.cell x c e
  exact free c o (fun z=>(hch c z).2.2.1 x c e rfl) ho (I.freeC x c e)
 ·obtain⟨e,n,ne,nf,d⟩:=I.pin p hp
  have nch:p.1∉ch:=fun z=>(hch p.1 z).2.2.2 p hp rfl
  exact⟨keep p.1 p.2 ne nf nch e n,free p.1 p.2 nch e n,ne,nf,d⟩
theorem Inv.un{t':Nat}(I:Inv X pins σ H s)(u:Un X.fs [] H H' s.heap h')(hok:HOk X.prog X.w H' h'):Inv X pins σ H' { s with heap:=h',toks:=t' }:=by
 obtain⟨m,⟨o,es,ep,ho,r⟩,_⟩:=id I.loc
 obtain⟨sl,hL⟩:=u.any ho I.free (by simp)
 exact I.step (g':=s.gens) (d':=s.drawn) (ch:=[]) (fun _ z=>nomatch z) (fun b o _ hb _ e n=>u.keep b o e n hb (by simp)) (fun b o _ hb _ e n=>u.slot b o e n hb (by simp)) (fun b o _ e n=>u.free b o e n (by simp)) (fun b o _ e=>u.there b o e (by simp)) u.tups u.frzs u.tbls (fun m' hm=>by
  obtain⟨o',es',ep',ho',r'⟩:=hm
  rw[ho]at ho';cases ho'
  exact⟨_,es',ep',hL,r'⟩) hok I.bare
theorem Inv.call{g':Array GenState}{t':Nat}{d':Drawn}{ch:List Addr}(I:Inv X pins σ H s)(u:Un (frs X.stack) ch H H' s.heap h')(hok:HOk X.prog X.w H' h')(hg:AllBare g')
  (hch:∀ b∈ch,(b∈X.ex∨X.s₀.heap.objs.size<=b)/\b≠X.env.locals/\(∀ x c,X.env.cells.lookup x=some c->c≠b)/\∀ p∈X.pn++pins,p.1≠b) :
  Inv X pins σ H' { s with heap:=h',gens:=g',drawn:=d',toks:=t' }:=by
 obtain⟨m,⟨o,es,ep,ho,r⟩,_⟩:=id I.loc
 obtain⟨sl,hL⟩:=u.any ho I.free fun z=>(hch _ z).2.1 rfl
 exact I.step (ch:=ch) hch (fun b o hL hb hc e n=>u.keep b o e n (fun z=>(MV.mp (I.stkSub b z)).elim hL hb) hc) (fun b o _ _ hc e n=>u.any e n hc) (fun b o hc e n=>u.free b o e n hc) (fun b o hc e=>u.there b o e hc) u.tups u.frzs u.tbls (fun m' hm=>by
  obtain⟨o',es',ep',ho',r'⟩:=hm
  rw[ho]at ho';cases ho'
  exact⟨_,es',ep',hL,r'⟩) hok hg
theorem Inv.turned{t':Nat}{it:Addr}(I:Inv X pins σ H s)(k:∀ b o,b≠it->s.heap.get? b=some o->h'.get? b=some o)(hn:H it=none)(hL:it≠X.env.locals)
  (h1:it∈X.ex∨X.s₀.heap.objs.size<=it) (h2:∀ x c,X.env.cells.lookup x=some c->c≠it) (h3:∀ p∈X.pn++pins,p.1≠it):Inv X pins σ H { s with heap:=h',toks:=t' }:=by
 have nit:∀ b u,H b=some u->b≠it:=fun b u e z=>by rw[z,hn]at e;cases e
 refine I.step (g':=s.gens) (d':=s.drawn) (ch:=[it]) (fun b hb=>?_) (fun b o _ _ hc e _=>k b o (fun z=>hc (by simp[z])) e) (fun b o _ _ hc e _=>⟨o.slots,k b o (fun z=>hc (by simp[z])) e⟩) (fun _ _ _ _ n=>n)
  (fun b o hc e=>⟨o,k b o (fun z=>hc (by simp[z])) e⟩) (fun _ _ e=>e) (fun _ _ _ e=>e) (fun b ps e=>⟨#[],by rw[e];simp⟩) (fun m hm=>?_) (fun b u e=>?_) I.bare
 ·have e:b=it:=by simpa using hb
  subst e
  exact⟨h1,hL,h2,h3⟩
 ·obtain⟨o,es,ep,ho,r⟩:=hm
  exact⟨o,es,ep,k _ o (Ne.symm hL) ho,r⟩
 ·refine(I.hok b u e).stay (fun c v hc q=>k c v ?_ q) (fun _ q=>q) fun _ _ q=>q
  rcases hc with z | z
  ·rw[z];exact nit b u e
  ·exact nit c _ z
theorem Inv.tok(I:Inv X pins σ H s)(t:Nat):Inv X pins σ H { s with toks:=t }:=I.un (h':=s.heap) (t':=t) Un.refl I.hok
theorem Inv.kept{t':Nat}(I:Inv X pins σ H s)(k:∀ b u,s.heap.get? b=some u->h'.get? b=some u):Inv X pins σ H { s with heap:=h',toks:=t' }:=I.un (Un.kept k) (I.hok.kept k)
theorem Inv.laid{a:Addr}{o:HO}{t':Nat}(I:Inv X pins σ H s)(k:∀ b u,s.heap.get? b=some u->h'.get? b=some u)(hp:s.heap.objs.size<=a)(new:bT X.prog X.w (upd H a o) h' a o) :
  Inv X pins σ (upd H a o) { s with heap:=h',toks:=t' }:=I.un (Un.laid k hp (I.hok.fresh hp)) (I.hok.laid k hp new)
theorem Inv.write{x e:Addr}{o:HO}{t':Nat}(I:Inv X pins σ H s)(mu:Mut (H x))(he:e=x∨H e=some (.own x))(k:∀ b u,b≠e->s.heap.get? b=some u->h'.get? b=some u)(heo:∃ u,h'.get? e=some u)
  (new:bT X.prog X.w (upd H x o) h' x o):Inv X pins σ (upd H x o) { s with heap:=h',toks:=t' }:=I.un (Un.write mu he k heo) (I.hok.write mu he k heo new)
theorem Inv.weak{σ':List (Option V)}(I:Inv X pins σ H s)(hl:σ'.length=σ.length)(w:∀ (i:Nat) v,σ'[i]?=some (some v)->σ[i]?=some (some v)):Inv X pins σ' H s :=
 ⟨I.ok,I.os,I.bare,I.base,let ⟨m,hn,hl'⟩:=I.loc;⟨m,hn,fun i x v e1 e2 e3=>hl' i x v e1 (w i v e2) e3⟩,I.cell,I.free,I.freeC,I.pin,I.hok,hl.trans I.len⟩
theorem Inv.pins_of{pins':List (Addr×Obj)}(I:Inv X pins σ H s)(h:∀ p∈pins',s.heap.get? p.1=some p.2/\H p.1=none/\p.1≠X.env.locals/\p.1∉X.fs/\∀ v,p.2.data≠.cell v):Inv X pins' σ H s :=
 ⟨I.ok,I.os,I.bare,I.base,I.loc,I.cell,I.free,I.freeC,fun p hp=>(M5.mp hp).elim (fun z=>I.pin p (Nt _ z)) (h p),I.hok,I.len⟩
theorem Cj{N:List Str}(hN:N.Nodup){i j:Nat}{x:Str}(a:N[i]?=some x)(b:N[j]?=some x):i=j:=by
 obtain⟨h1,e1⟩:=MO.mp a
 obtain⟨h2,e2⟩:=MO.mp b
 exact(List.getElem_inj hN).mp (e1.trans e2.symm)
theorem EI{M:Model}{A:Around}{E:Value->Shared->Prop}{i:Nat}{x:Str}{v:V}{u:Value}{Q:Unit->Shared->Prop}(I:Inv X pins σ H s)(hN:X.N.Nodup)(hi:X.N[i]?=some x)(hx:Loc X.env.scope x)(r:RelV v u)
  (h:∀ s',Inv X pins (σ.set i (some v)) H s'->(∃ a,Heap.SameBut a s.heap s'.heap/\(a=X.env.locals∨X.env.cells.lookup x=some a))->Q () s') (hf:X.fn x=true∨X.env.scope.names.lookup x=some .local:=by first | exact .inl rfl | exact .inr rfl | assumption):wpAny M A (storeName X.env x u) Q E s:=by
 obtain⟨m,hn,hl⟩:=id I.loc
 have hcls:(X.env.scope.kind == .class||(X.env.scope.kind == .module&&X.env.locals != X.env.globals))=false:=by rw[I.ok.kind];rfl
 have hiσ:i<σ.length:=by rw[I.len];exact(MO.mp hi).1
 have cne:=I.cne
 have tracked:∀{a:Addr}{h':Heap},(∃ o,s.heap.get? a=some o/\H a=none)->Heap.SameBut a s.heap h'->HOk X.prog X.w H h':=fun{a h'} ha hs b ob e=>by
  obtain⟨_,_,hfree⟩:=ha
  refine(I.hok b ob e).stay (fun c w' hc q=>(hs.2 c ?_).trans q) (fun _ q=>q) fun _ _ q=>q
  rintro rfl
  rcases hc with rfl | hc
  ·rw[hfree]at e;cases e
  ·rw[hfree]at hc;cases hc
 rcases hx with hk | hk
 ·refine wpAny_storeName_local hk hn (fun h' hn' hs=>?_) hcls
  obtain⟨oL,_,_,hoL,_⟩:=id hn
  refine h _ ⟨I.ok,I.os,I.bare,⟨fun b o e n hb hx=>?_,fun b o e n hb hx=>?_,I.base.free,fun b o e hx=>?_,I.base.tups,I.base.frzs,I.base.tbls⟩,⟨_,hn',fun j y v' e1 e2 e3=>?_⟩,fun y c e=>?_,I.free,I.freeC,fun p hp=>?_,tracked ⟨oL,hoL,I.free⟩ hs,by simpa using I.len⟩ ⟨_,hs,.inl rfl⟩
  ·exact(hs.2 b (Nm (Nk (Heap.lt_size e) I.ok.above))).trans (I.base.keep b o e n hb hx)
  ·obtain⟨sl,e1⟩:=I.base.slot b o e n hb hx
   exact⟨sl,(hs.2 b (Nm (Nk (Heap.lt_size e) I.ok.above))).trans e1⟩
  ·obtain⟨o',e1⟩:=I.base.there b o e hx
   exact⟨o',(hs.2 b (Nm (Nk (Heap.lt_size e) I.ok.above))).trans e1⟩
  ·by_cases hj:j=i
   ·subst hj
    rw[hi]at e1;cases e1
    rw[List.getElem?_set_self hiσ]at e2
    cases e2
    exact⟨u,r,.inl ⟨hk,by simp⟩⟩
   ·rw[List.getElem?_set_ne (Ne.symm hj)]at e2
    obtain⟨u',r',q⟩:=hl j y v' e1 e2 e3
    refine⟨u',r',?_⟩
    rcases q with⟨k,e⟩ | ⟨k,c,e,z⟩
    ·refine .inl ⟨k,?_⟩
     have:y≠x:=fun e=>hj (Cj hN e1 (e▸hi))
     simp[this,e]
    ·exact .inr ⟨k,c,e,z.sameBut hs (cne y c e)⟩
  ·obtain⟨w',z⟩:=I.cell y c e
   exact⟨w',z.sameBut hs (cne y c e)⟩
  ·obtain⟨e,n,ne,nf,d⟩:=I.pin p hp
   exact⟨(hs.2 p.1 ne).trans e,n,ne,nf,d⟩
 ·have hfn:X.fn x=true:=by
   rcases hf with z | z
   ·exact z
   ·rw[z]at hk;cases hk
  obtain⟨c,hc⟩:=I.ok.has x (.inl hk)
  obtain⟨w',z⟩:=I.cell x c hc
  refine wpAny_storeName_cell I.ok.kind hk hc z (fun h' hc' hs=>?_)
  obtain⟨oc,hoc,hocd⟩:=id z
  refine h { s with heap:=h' } ⟨I.ok,I.os,I.bare,⟨fun b o e n hb hx=>?_,fun b o e n hb hx=>?_,I.base.free,fun b o e hx=>?_,I.base.tups,I.base.frzs,I.base.tbls⟩,⟨m,hn.sameBut hs (Ne.symm (cne x c hc)),fun j y v' e1 e2 e3=>?_⟩,fun y c' e=>?_,I.free,I.freeC,fun p hp=>?_,tracked ⟨oc,hoc,I.freeC x c hc⟩ hs,by simpa using I.len⟩ ⟨c,hs,.inr hc⟩
  ·exact(hs.2 b (Nm (Nk (Heap.lt_size e) (I.ok.cab x c hfn hc)))).trans (I.base.keep b o e n hb hx)
  ·obtain⟨sl,e1⟩:=I.base.slot b o e n hb hx
   exact⟨sl,(hs.2 b (Nm (Nk (Heap.lt_size e) (I.ok.cab x c hfn hc)))).trans e1⟩
  ·obtain⟨o',e1⟩:=I.base.there b o e hx
   exact⟨o',(hs.2 b (Nm (Nk (Heap.lt_size e) (I.ok.cab x c hfn hc)))).trans e1⟩
  ·by_cases hj:j=i
   ·subst hj
    rw[hi]at e1;cases e1
    rw[List.getElem?_set_self hiσ]at e2
    cases e2
    exact⟨u,r,.inr ⟨.inl hk,c,hc,hc'⟩⟩
   ·rw[List.getElem?_set_ne (Ne.symm hj)]at e2
    obtain⟨u',r',q⟩:=hl j y v' e1 e2 e3
    refine⟨u',r',?_⟩
    rcases q with q | ⟨k,c',e,z'⟩
    ·exact .inl q
    ·refine .inr ⟨k,c',e,z'.sameBut hs ?_⟩
     rintro rfl
     exact hj (Cj hN e1 (I.ok.inj _ _ _ e hc▸hi))
  ·by_cases hcc:c'=c
   ·subst hcc;exact⟨_,hc'⟩
   ·obtain⟨w2,z2⟩:=I.cell y c' e
    exact⟨w2,z2.sameBut hs hcc⟩
  ·obtain⟨e,n,ne,nf,d⟩:=I.pin p hp
   refine⟨(hs.2 p.1 ?_).trans e,n,ne,nf,d⟩
   intro q
   rw[q,hoc]at e
   have q':oc=p.2:=Ni e
   exact d w' (by rw[← q'];exact hocd)
theorem nM{M:Model}{A:Around}{E:Value->Shared->Prop}{i:Nat}{x:Str}{v:V}{u:Value}{Q:Unit->Shared->Prop}(I:Inv X pins σ H s)(hN:X.N.Nodup)(hi:X.N[i]?=some x)(hx:Loc X.env.scope x)(r:RelV v u)
  (h:∀ s',Inv X pins (σ.set i (some v)) H s'->Q () s') (hf:X.fn x=true∨X.env.scope.names.lookup x=some .local:=by first | exact .inl rfl | exact .inr rfl | assumption):wpAny M A (storeName X.env x u) Q E s :=
 EI I hN hi hx r (fun s' I' _=>h s' I') hf
theorem Inv.call'{s':Shared}{ch:List Addr}(I:Inv X pins σ H s)(ho:s'.os=s.os)(u:Un (frs X.stack) ch H H' s.heap s'.heap)(hok:HOk X.prog X.w H' s'.heap)(hg:AllBare s'.gens)
  (hch:∀ b∈ch,(b∈X.ex∨X.s₀.heap.objs.size<=b)/\b≠X.env.locals/\(∀ x c,X.env.cells.lookup x=some c->c≠b)/\∀ p∈X.pn++pins,p.1≠b):Inv X pins σ H' s':=by
 obtain⟨h',g',d',t',o'⟩:=s'
 have e:o'=s.os:=ho
 subst e
 exact I.call (g':=g') (t':=t') (d':=d') u hok hg hch
end
abbrev XK:=Value->Option Addr->Hp->Prop
abbrev St:=List (Option V)
abbrev VK:=V->Hp->Prop
abbrev TE:=St->Hp->VK->Prop
abbrev TT:=St->Hp->(Bool->Hp->Prop)->Prop
abbrev TA:=St->Hp->(List V->Hp->Prop)->Prop
set_option genInjectivity false in
structure Ends where
 nx:St->Hp->Prop
 rt:VK
 bk:St->Hp->Prop:=fun _ _=>False
 ct:St->Hp->Prop:=fun _ _=>False
abbrev TS:=Ends->St->Hp->Prop
def EP(X:Cx)(pins:List (Addr×Obj))(σ:St)(Q:VK)(u:Value)(s':Shared):Prop:=∃ v H',Inv X pins σ H' s'/\RelV v u/\Q v H'
def TP(X:Cx)(pins:List (Addr×Obj))(σ:St)(Q:Bool->Hp->Prop)(b:Bool)(s':Shared):Prop:=∃ H',Inv X pins σ H' s'/\Q b H'
def AP(X:Cx)(pins:List (Addr×Obj))(σ:St)(Q:List V->Hp->Prop)(us:List Value)(s':Shared):Prop:=∃ vs H',Inv X pins σ H' s'/\Vals vs us/\Q vs H'
def SP(X:Cx)(pins:List (Addr×Obj))(D:Ends)(f:Flow)(s':Shared):Prop :=
 match f with
 |.next=>∃ σ' H',Inv X pins σ' H' s'/\D.nx σ' H'
 |.brk=>∃ σ' H',Inv X pins σ' H' s'/\D.bk σ' H'
 |.cont=>∃ σ' H',Inv X pins σ' H' s'/\D.ct σ' H'
 |.ret u=>∃ v σ' H',Inv X pins σ' H' s'/\RelV v u/\D.rt v H'
def PE(X:Cx)(e:Expr)(t:TE):Prop :=
 ∀(pins:List (Addr×Obj))(s:Shared)(σ:St)(H:Hp)(Q:VK),Inv X pins σ H s->t σ H Q->wpAny (model X.prog X.w) X.A (eval e X.env) (EP X pins σ Q) X.xe s
def PT(X:Cx)(e:Expr)(t:TT):Prop :=
 ∀(pins:List (Addr×Obj))(s:Shared)(σ:St)(H:Hp)(Q:Bool->Hp->Prop),Inv X pins σ H s->t σ H Q->wpAny (model X.prog X.w) X.A (isTrue e X.env (eval e X.env)) (TP X pins σ Q) X.xe s
def PW(X:Cx)(e:Expr)(t:TT):Prop :=
 ∀(whole:Sem Value)(pins:List (Addr×Obj))(s:Shared)(σ:St)(H:Hp)(Q:Bool->Hp->Prop),Inv X pins σ H s->t σ H Q->wpAny (model X.prog X.w) X.A (isTrue e X.env whole) (TP X pins σ Q) X.xe s
theorem PW.pt{X:Cx}{e:Expr}{t:TT}(h:PW X e t):PT X e t:=h _
def PA(X:Cx)(es:List Expr)(t:TA):Prop :=
 ∀(pos:Pos)(pins:List (Addr×Obj))(s:Shared)(σ:St)(H:Hp)(Q:List V->Hp->Prop),Inv X pins σ H s->t σ H Q->wpAny (model X.prog X.w) X.A (spliced (backTo pos (starEach es X.env))) (AP X pins σ Q) X.xe s
def PS(X:Cx)(st:Stmt)(t:TS):Prop :=
 ∀(pins:List (Addr×Obj))(s:Shared)(σ:St)(H:Hp)(D:Ends),Inv X pins σ H s->t D σ H->wpAny (model X.prog X.w) X.A (exec st X.env) (SP X pins D) X.xe s
def PSs(X:Cx)(st:List Stmt)(t:TS):Prop :=
 ∀(pins:List (Addr×Obj))(s:Shared)(σ:St)(H:Hp)(D:Ends),Inv X pins σ H s->t D σ H->wpAny (model X.prog X.w) X.A (execs st X.env) (SP X pins D) X.xe s
theorem thn{α:Type}{t:Sem α}{Q Q':α->Shared->Prop}{M:Model}{A:Around}{E:Value->Shared->Prop}{s:Shared}(h:wpAny M A t Q E s)(hQ:∀ a s,Q a s->Q' a s):wpAny M A t Q' E s:=wpAny_mono h hQ fun _ _ x=>x
end L2
namespace L2
open PySem PySem.Spec PyProof.Rows
section
variable{X:Cx}
def tVar(i:Nat):TE:=fun σ H Q=>∃ v,σ[i]?=some (some v)/\Q v H
def tC(v:V):TE:=fun _ H Q=>Q v H
theorem pe_var{i:Nat}{x:Str}{pos:Pos}(hN:X.N[i]?=some x)(hv:Vis X.env.scope x) (hd:(x == ("__debug__" : Str))=false:=by decide) (hcd:(x == ("__classdict__" : Str))=false:=by decide):PE X (.Name x pos) (tVar i):=by
 intro pins s σ H Q I h
 obtain⟨v,e,h⟩:=h
 obtain⟨m,hn,hl⟩:=I.loc
 obtain⟨u,r,l⟩:=hl i x v hN e hv
 have fin:EP X pins σ Q u s:=⟨v,H,I,r,h⟩
 rcases l with⟨hk,hm⟩ | ⟨hk,c,hc,hcell⟩
 ·exact wpAny_Name (wpAny_loadName_local I.ok.kind hk hn hm fin) hd
 ·rcases hk with hk | hk
  ·exact wpAny_Name (wpAny_loadName_cell I.ok.kind hk hc hcell fin) hd
  ·exact wpAny_Name (wpAny_loadName_free I.ok.kind hk hc hcell fin hcd) hd
theorem ai{i j pos}:PE X (.Constant (.int i) j pos) (tC (.int i)):=fun _ _ _ H _ I h=>wpAny_Constant_int ⟨.int i,H,I.tok _,⟨_,rfl⟩,h⟩
theorem qY{b j pos}:PE X (.Constant (.bool b) j pos) (tC (.bl b)):=fun _ _ _ H _ I h=>Constant_bool ⟨.bl b,H,I,rfl,h⟩
theorem jw{j pos}:PE X (.Constant .none j pos) (tC .non):=fun _ _ _ H _ I h=>Constant_none ⟨.non,H,I,rfl,h⟩
theorem Fx{x j pos}:PE X (.Constant (.str x) j pos) (tC (.str x)):=fun _ _ _ H _ I h=>Calls.Constant_str ⟨.str x,H,I.tok _,⟨_,rfl⟩,h⟩
def Gl(X:Cx)(x:Str):Prop:=X.env.kindOf x=some .globalImplicit
theorem ij{E:Value->Shared->Prop}{pins:List (Addr×Obj)}{s:Shared}{σ:St}{H:Hp}{x:Str}{u:Value}{pos:Pos}{Q:Value->Shared->Prop}(I:Inv X pins σ H s)(hg:Gl X x)(hm:X.mg x=some u)(h:Q u s)
  (hd:(x == ("__debug__" : Str))=false:=by decide):wpAny (model X.prog X.w) X.A (eval (.Name x pos) X.env) Q E s :=
 Calls.Name_function_global I.ok.kind hg (Calls.loadGlobal_global (by rw[I.ok.glob];exact I.mod.glob.keeps I.bk) hm h) hd
theorem ik{E:Value->Shared->Prop}{pins:List (Addr×Obj)}{s:Shared}{σ:St}{H:Hp}{x:Str}{u:Value}{pos:Pos}{Q:Value->Shared->Prop}(I:Inv X pins σ H s)(hg:Gl X x)(hm:X.mg x=none)(hv:bootBuiltins x=some u)(h:Q u s)
  (hn:x≠"__name__":=by decide) (hd:(x == ("__debug__" : Str))=false:=by decide):wpAny (model X.prog X.w) X.A (eval (.Name x pos) X.env) Q E s:=by
 obtain⟨mb,h1,h2⟩:=I.mod.blt
 exact Calls.Name_function_global I.ok.kind hg (Calls.loadGlobal_builtin (by rw[I.ok.glob];exact I.mod.glob.keeps I.bk) hm (by rw[I.ok.blt];exact h1.keeps I.bk) ((h2 x hn).trans hv) h) hd
theorem Fy{x:Str}{v:V}{u:Value}{pos:Pos}(hg:Gl X x)(hm:X.mg x=some u)(r:RelV v u) (hd:(x == ("__debug__" : Str))=false:=by decide):PE X (.Name x pos) (tC v) :=
 fun _ _ _ H _ I h=>ij I hg hm ⟨v,H,I,r,h⟩ hd
theorem uw{x:Str}{v:V}{u:Value}{pos:Pos}(hg:Gl X x)(hm:X.mg x=none)(hv:bootBuiltins x=some u)(r:RelV v u) (hn:x≠"__name__":=by decide) (hd:(x == ("__debug__" : Str))=false:=by decide):PE X (.Name x pos) (tC v) :=
 fun _ _ _ H _ I h=>ik I hg hm hv ⟨v,H,I,r,h⟩ hn hd
variable{a b:Expr}{ta tb:TE}{pos:Pos}
def PC(X:Cx)(op:CmpOp)(a b:Expr)(t:TE):Prop :=
 ∀(pins:List (Addr×Obj))(s:Shared)(σ:St)(H:Hp)(Q:VK),Inv X pins σ H s->t σ H Q ->
  wpAny (model X.prog X.w) X.A (eval a X.env) (fun v s₁=>wpAny (model X.prog X.w) X.A (eval b X.env) (fun u s₂=>wpAny (model X.prog X.w) X.A (compareOp op v u) (EP X pins σ Q) X.xe s₂) X.xe s₁) X.xe s
def tB(t:TE):TT:=fun σ H Q=>t σ H fun x H1=>∃ c,x=.bl c/\Q c H1
theorem J1{op:CmpOp}{t:TE}(h:PC X op a b t)(h1:behindInMarks op b=false:=by first | exact nobehind _ (by decide) (by decide) | rfl):PT X (.Compare a [op] [b] pos) (tB t):=by
 intro pins s σ H Q I hw
 refine wpAny_isTrue_Compare1 (thn (h pins s σ H _ I hw) fun v s1 h1=>thn h1 fun u s2 h2=>thn h2 fun c s3 ⟨x,H1,I1,r1,q1⟩=>?_) h1
 obtain⟨d,rfl,q⟩:=q1
 cases r1
 exact wpAny_truthy_bool ⟨H1,I1,q⟩
theorem rV{e:Expr}{t:TE}(h:PE X e t)(he:∀ whole,isTrue e X.env whole=(do let v ← whole;standAt e.pos;holding [v] (truthy v)):=by intro _;rfl):PT X e (tB t):=by
 intro pins s σ H Q I hw
 refine isTrue_plain (thn (h pins s σ H _ I hw) fun v s1 ⟨x,H1,I1,r1,q1⟩=>?_) (he _)
 obtain⟨d,rfl,q⟩:=q1
 cases r1
 exact wpAny_truthy_bool ⟨H1,I1,q⟩
variable{tA tB':TT}{rest:List Expr}
def tAnd(t u:TT):TT:=fun σ H Q=>t σ H fun c H1=>if c=true then u σ H1 Q else Q false H1
def tOr(t u:TT):TT:=fun σ H Q=>t σ H fun c H1=>if c=true then Q true H1 else u σ H1 Q
def tNot(t:TT):TT:=fun σ H Q=>t σ H fun c H1=>Q (!c) H1
theorem Ld(ha:PT X a tA):PW X (.BoolOp .And [a] pos) tA:=by
 intro wh pins s σ H Q I h
 refine isTrue_and (thn (ha pins s σ H Q I h) fun c s1 e=>?_)
 cases c with
 |true=>exact isTrue_and_nil e
 |false=>exact e
theorem rT(ha:PT X a tA):PW X (.BoolOp .Or [a] pos) tA:=by
 intro wh pins s σ H Q I h
 refine isTrue_or (thn (ha pins s σ H Q I h) fun c s1 e=>?_)
 cases c with
 |false=>exact isTrue_or_nil e
 |true=>exact e
theorem pw_and(ha:PT X a tA)(hb:PW X (.BoolOp .And (b::rest) pos) tB'):PW X (.BoolOp .And (a::b::rest) pos) (tAnd tA tB'):=by
 intro wh pins s σ H Q I h
 refine isTrue_and (thn (ha pins s σ H _ I h) fun c s1 ⟨H1,I1,q1⟩=>?_)
 cases c with
 |true=>exact hb wh pins s1 σ H1 Q I1 q1
 |false=>exact⟨H1,I1,q1⟩
theorem zF(ha:PT X a tA)(hb:PW X (.BoolOp .Or (b::rest) pos) tB'):PW X (.BoolOp .Or (a::b::rest) pos) (tOr tA tB'):=by
 intro wh pins s σ H Q I h
 refine isTrue_or (thn (ha pins s σ H _ I h) fun c s1 ⟨H1,I1,q1⟩=>?_)
 cases c with
 |true=>exact⟨H1,I1,q1⟩
 |false=>exact hb wh pins s1 σ H1 Q I1 q1
theorem wQ(ha:PT X a tA):PT X (.UnaryOp .Not a pos) (tNot tA):=by
 intro pins s σ H Q I h
 exact isTrue_not (ha pins s σ H (fun c H1=>Q (!c) H1) I h)
def tAndV(ta tb:TE):TE:=fun σ H Q=>ta σ H fun x H1=>∃ c,x=.bl c/\if c=true then tb σ H1 Q else Q (.bl false) H1
theorem pe_one{op}{t:TE}(h:PE X a t):PE X (.BoolOp op [a] pos) t:=fun pins s σ H Q I hw=>BoolOp_one (h pins s σ H Q I hw)
theorem pe_and(ha:PE X a ta)(hb:PE X (.BoolOp .And (b::rest) pos) tb):PE X (.BoolOp .And (a::b::rest) pos) (tAndV ta tb):=by
 intro pins s σ H Q I h
 refine BoolOp_and (thn (ha pins s σ H _ I h) fun v s1 ⟨x,H1,I1,r1,q1⟩=>?_)
 obtain⟨c,rfl,q1⟩:=q1
 cases r1
 refine wpAny_truthy_bool ?_
 cases c with
 |true=>exact hb pins s1 σ H1 Q I1 q1
 |false=>exact⟨.bl false,H1,I1,rfl,q1⟩
def tIf(t:TT)(ta tb:TE):TE:=fun σ H Q=>t σ H fun c H1=>if c=true then ta σ H1 Q else tb σ H1 Q
theorem kG{c:Expr}(hc:PT X c tA)(ha:PE X a ta)(hb:PE X b tb):PE X (.IfExp c a b pos) (tIf tA ta tb):=by
 intro pins s σ H Q I h
 refine wpAny_IfExp (thn (hc pins s σ H _ I h) fun d s1 ⟨H1,I1,q1⟩=>?_)
 cases d with
 |true=>exact ha pins s1 σ H1 Q I1 q1
 |false=>exact hb pins s1 σ H1 Q I1 q1
end
end L2
namespace L2
open PySem PySem.Spec PyProof.Rows
def SqL(K:MQ)(H:Hp)(a:Addr)(xs:List V):Prop :=
 Rd H a (.lst xs) ∨
  ∃(o:Obj)(its:Array Value)(n:Nat),K.lookup a=some o/\o.cls=.type "list"/\o.dict=none/\o.data=.seq its n/\its.size<=sizeLine/\Vals xs its.toList
def SqT(K:MQ)(H:Hp)(a:Addr)(xs:List V):Prop :=
 Rd H a (.tup xs) ∨
  ∃(o:Obj)(its:Array Value)(n:Nat),K.lookup a=some o/\o.cls=.type "tuple"/\o.data=.seq its n/\its.size<=sizeLine/\Vals xs its.toList
def absV:Value->Option V
 |.none=>some .non
 |.bool b=>some (.bl b)
 |.int i _=>some (.int i)
 |.str x _=>some (.str x)
 |.bytes b _=>some (.byt b)
 |.float b _=>some (.flt b)
 |.ref a=>some (.ref a)
 |.type n=>some (.ty n)
 |_=>none
theorem RelV.abs{x:V}{u:Value}(r:RelV x u):absV u=some x:=by
 cases x with
 |non=>cases r;rfl
 |bl _=>cases r;rfl
 |int _=>obtain⟨t,rfl⟩:=r;rfl
 |str _=>obtain⟨t,rfl⟩:=r;rfl
 |byt _=>obtain⟨t,rfl⟩:=r;rfl
 |flt _=>obtain⟨t,rfl⟩:=r;rfl
 |ref _=>cases r;rfl
 |ty _=>cases r;rfl
theorem RelV.inj{x y:V}{u:Value}(r:RelV x u)(q:RelV y u):x=y:=Ni (r.abs.symm.trans q.abs)
theorem Vals.inj:∀{xs ys:List V}{us:List Value},Vals xs us->Vals ys us->xs=ys
 |_,_,_,.nil,.nil=>rfl
 |_,_,_,.cons r t,.cons r' t'=>by rw[r.inj r',Vals.inj t t']
section
variable{X:Cx}{pins:List (Addr×Obj)}{σ:St}{H:Hp}{s:Shared}{a:Addr}{xs ys:List V}
theorem SqL.of{K:MQ}(h:H a=some (.lst xs)):SqL K H a xs:=.inl (.inl h)
theorem SqT.of{K:MQ}(h:H a=some (.tup xs)):SqT K H a xs:=.inl (.inl h)
theorem Inv.list(I:Inv X pins σ H s)(h:SqL X.K H a xs):∃ its:List Value,Vals xs its/\PlainL s.heap a its.toArray/\xs.length<=sizeLine:=by
 rcases h with h | ⟨o,its,n,hk,hc,hd,hs,hz,r⟩
 ·obtain⟨z,its,n,r,e⟩:=h.ok I.hok
  exact⟨its,r,⟨_,n,e,rfl,rfl,rfl⟩,z⟩
 ·refine⟨its.toList,r,⟨o,n,I.kIn a o hk,hc,hd,by simpa using hs⟩,?_⟩
  have e:=r.length
  simp only[Po]at e
  omega
theorem Inv.tuple(I:Inv X pins σ H s)(h:SqT X.K H a xs):∃ its:List Value,Vals xs its/\IsTup s.heap a its.toArray/\xs.length<=sizeLine:=by
 rcases h with h | ⟨o,its,n,hk,hc,hs,hz,r⟩
 ·obtain⟨z,its,r,p⟩:=h.ok I.hok
  exact⟨its,r,p,z⟩
 ·refine⟨its.toList,r,⟨o,I.kIn a o hk,hc,n,by simpa using hs⟩,?_⟩
  have e:=r.length
  simp only[Po]at e
  omega
theorem Inv.list_inj(I:Inv X pins σ H s)(h:SqL X.K H a xs)(h':SqL X.K H a ys):xs=ys:=by
 obtain⟨its,r,⟨o,n,e,_,_,d⟩,_⟩:=I.list h
 obtain⟨its',r',⟨o',n',e',_,_,d'⟩,_⟩:=I.list h'
 rw[e]at e';cases e'
 rw[d]at d'
 injection d' with d1 _
 have:its=its':=by simpa using congrArg Array.toList d1
 subst this
 exact r.inj r'
theorem Inv.tuple_inj(I:Inv X pins σ H s)(h:SqT X.K H a xs)(h':SqT X.K H a ys):xs=ys:=by
 obtain⟨its,r,⟨o,e,_,n,d⟩,_⟩:=I.tuple h
 obtain⟨its',r',⟨o',e',_,n',d'⟩,_⟩:=I.tuple h'
 rw[e]at e';cases e'
 rw[d]at d'
 injection d' with d1 _
 have:its=its':=by simpa using congrArg Array.toList d1
 subst this
 exact r.inj r'
end
abbrev Cx.wish(X:Cx)(E:Value->Shared->Prop):Cx:={ X with xe:=E }
abbrev Cx.nox(X:Cx):Cx:=X.wish fun _ _=>False
theorem Cx.Ok.wish{X:Cx}(ok:X.Ok)(E:Value->Shared->Prop):(X.wish E).Ok :=
 ⟨ok.mod,ok.kind,ok.glob,ok.blt,ok.above,ok.inj,ok.has,ok.cab,ok.hd,ok.frames,ok.stk,ok.exf,ok.bs,ok.bsz,ok.noex,ok.exfs,ok.funs,ok.frf⟩
theorem Cx.Ok.unwish{X:Cx}{E:Value->Shared->Prop}(ok:(X.wish E).Ok):X.Ok :=
 ⟨ok.mod,ok.kind,ok.glob,ok.blt,ok.above,ok.inj,ok.has,ok.cab,ok.hd,ok.frames,ok.stk,ok.exf,ok.bs,ok.bsz,ok.noex,ok.exfs,ok.funs,ok.frf⟩
section
variable{X:Cx}{pins:List (Addr×Obj)}{σ:St}{H:Hp}{s:Shared}{E:Value->Shared->Prop}
theorem Inv.wish(I:Inv X pins σ H s)(E:Value->Shared->Prop):Inv (X.wish E) pins σ H s:=⟨I.ok.wish E,I.os,I.bare,I.base,I.loc,I.cell,I.free,I.freeC,I.pin,I.hok,I.len⟩
theorem Inv.unwish(I:Inv (X.wish E) pins σ H s):Inv X pins σ H s:=⟨I.ok.unwish,I.os,I.bare,I.base,I.loc,I.cell,I.free,I.freeC,I.pin,I.hok,I.len⟩
theorem SP.unwish{D:Ends}{f:Flow}{s':Shared}(h:SP (X.wish E) pins D f s'):SP X pins D f s':=by
 cases f with
 |next=>obtain⟨σ',H',I,q⟩:=h;exact⟨σ',H',I.unwish,q⟩
 |brk=>obtain⟨σ',H',I,q⟩:=h;exact⟨σ',H',I.unwish,q⟩
 |cont=>obtain⟨σ',H',I,q⟩:=h;exact⟨σ',H',I.unwish,q⟩
 |ret u=>obtain⟨v,σ',H',I,r,q⟩:=h;exact⟨v,σ',H',I.unwish,r,q⟩
theorem PSs.nox{st:List Stmt}{t:TS}(h:PSs X.nox st t):PSs X st t:=fun pins s σ H D I hw =>
 wpAny_mono (h pins s σ H D (I.wish _) hw) (fun _ _ q=>q.unwish) fun _ _ z=>False.elim z
end
section
variable{X:Cx}{st:Stmt}{rest:List Stmt}{t u:TS}{e:Expr}{te:TE}{pos:Pos}
def tNext:TS:=fun D σ H=>D.nx σ H
def tSeq(t u:TS):TS:=fun D σ H=>t { D with nx:=u D } σ H
theorem aP:PSs X [] tNext:=fun _ _ σ H _ I h=>wpAny_execs_nil ⟨σ,H,I,h⟩
theorem af(h1:PS X st t)(h2:PSs X rest u):PSs X (st::rest) (tSeq t u):=by
 intro pins s σ H D I h
 refine wpAny_execs_cons (thn (h1 pins s σ H { D with nx:=u D } I h) fun f s1 q=>?_)
 cases f with
 |next =>
  obtain⟨σ',H',I',q⟩:=q
  exact h2 pins s1 σ' H' D I' q
 |ret v=>exact q
 |brk=>exact q
 |cont=>exact q
theorem ak(h1:PS X st t):PSs X [st] t:=by
 intro pins s σ H D I h
 refine wpAny_execs_cons (thn (h1 pins s σ H D I h) fun f s1 q=>?_)
 cases f with
 |next=>exact wpAny_execs_nil q
 |ret v=>exact q
 |brk=>exact q
 |cont=>exact q
theorem Inv.quiet{pins:List (Addr×Obj)}{σ:St}{H:Hp}{s:Shared}(I:Inv X pins σ H s):interactive X.env=false:=by simp[interactive,I.ok.kind]
def tDrop(te:TE):TS:=fun D σ H=>te σ H fun _ H1=>D.nx σ H1
theorem bC(he:PE X e te)(hs:swapsWith e none pos.line X.env=pure false:=by rfl):PS X (.Expr e pos) (tDrop te):=by
 intro pins s σ H D I h
 exact wpAny_Expr_any (thn (he pins s σ H _ I h) fun v s1 ⟨x,H1,I1,r1,q1⟩=>⟨σ,H1,I1,q1⟩) I.quiet hs
def tRet(te:TE):TS:=fun D σ H=>te σ H D.rt
theorem aE(he:PE X e te):PS X (.Return (some e) pos) (tRet te):=by
 intro pins s σ H D I h
 exact wpAny_Return_some (thn (he pins s σ H _ I h) fun v s1 ⟨x,H1,I1,r1,q1⟩=>⟨x,σ,H1,I1,r1,q1⟩)
noncomputable def tIfS(c:TT)(t u:TS):TS:=fun D σ H=>c σ H fun b H1=>if b=true then t D σ H1 else u D σ H1
theorem bL{c:Expr}{a b:List Stmt}{tc:TT}(hc:PT X c tc)(ha:PSs X a t)(hb:PSs X b u):PS X (.If c a b pos) (tIfS tc t u):=by
 intro pins s σ H D I h
 refine wpAny_If (thn (hc pins s σ H _ I h) fun d s1 ⟨H1,I1,q1⟩=>?_)
 cases d with
 |true=>exact ha pins s1 σ H1 D I1 q1
 |false=>exact hb pins s1 σ H1 D I1 q1
noncomputable def tNever:TS:=fun _ _ _=>False
theorem cW:PS X st tNever:=fun _ _ _ _ _ _ h=>h.elim
end
noncomputable abbrev TG:=V->St->Hp->(St->Hp->Prop)->Prop
noncomputable abbrev TGs:=List V->St->Hp->(St->Hp->Prop)->Prop
noncomputable def PG(X:Cx)(target:Expr)(t:TG):Prop :=
 ∀(pins:List (Addr×Obj))(s:Shared)(σ:St)(H:Hp)(v:V)(u:Value)(Q:St->Hp->Prop),Inv X pins σ H s->RelV v u->t v σ H Q ->
  wpAny (model X.prog X.w) X.A (assign target X.env u) (fun _ s'=>∃ σ' H',Inv X pins σ' H' s'/\Q σ' H') X.xe s
noncomputable def PGs(X:Cx)(ts:List Expr)(t:TGs):Prop :=
 ∀(pins:List (Addr×Obj))(s:Shared)(σ:St)(H:Hp)(vs:List V)(us:List Value)(Q:St->Hp->Prop),Inv X pins σ H s->Vals vs us->t vs σ H Q ->
  wpAny (model X.prog X.w) X.A (assignInOrder ((assignEach ts X.env).map (·.2)) us) (fun _ s'=>∃ σ' H',Inv X pins σ' H' s'/\Q σ' H') X.xe s
noncomputable abbrev TSet:=V->V->V->Hp->(Hp->Prop)->Prop
noncomputable def PSet(X:Cx)(t:TSet):Prop :=
 ∀(pins:List (Addr×Obj))(s:Shared)(σ:St)(H:Hp)(o i v:V)(ov iv u:Value)(Q:Hp->Prop),Inv X pins σ H s->RelV o ov->RelV i iv->RelV v u->t o i v H Q ->
  wpAny (model X.prog X.w) X.A (setItem ov iv u) (fun _ s'=>∃ H',Inv X pins σ H' s'/\Q H') X.xe s
noncomputable abbrev TIp:=V->V->Hp->VK->Prop
noncomputable def PIp(X:Cx)(op:Operator)(t:TIp):Prop :=
 ∀(pins:List (Addr×Obj))(s:Shared)(σ:St)(H:Hp)(x y:V)(v u:Value)(Q:VK),Inv X pins σ H s->RelV x v->RelV y u->t x y H Q ->
  wpAny (model X.prog X.w) X.A (inplaceOp op v u) (EP X pins σ Q) X.xe s
section
variable{X:Cx}{pos:Pos}
noncomputable def JA(i:Nat):TG:=fun v σ H Q=>Q (σ.set i (some v)) H
theorem aL{i:Nat}{x:Str}(hN:X.N.Nodup)(hi:X.N[i]?=some x)(hx:Loc X.env.scope x)(hf:X.fn x=true∨X.env.scope.names.lookup x=some .local:=by first | exact .inl rfl | exact .inr rfl | assumption):PG X (.Name x pos) (JA i):=by
 intro pins s σ H v u Q I r h
 exact wpAny_assign_Name (nM I hN hi hx r (fun s' I'=>⟨_,H,I',h⟩) hf)
noncomputable def gNil:TGs:=fun vs σ H Q=>vs = []/\Q σ H
noncomputable def gCons(t:TG)(u:TGs):TGs:=fun vs σ H Q=>∃ v r,vs=v::r/\t v σ H fun σ' H'=>u r σ' H' Q
theorem g9:PGs X [] gNil:=by
 intro pins s σ H vs us Q I r h
 obtain⟨e,h⟩:=h
 subst e
 cases r
 exact assignInOrder_nil ⟨σ,H,I,h⟩
theorem bh{e:Expr}{es:List Expr}{t:TG}{u:TGs}(h1:PG X e t)(h2:PGs X es u)
  (hs:(assignEach (e::es) X.env).map (·.2)=assign e X.env::(assignEach es X.env).map (·.2):=by rfl):PGs X (e::es) (gCons t u):=by
 intro pins s σ H vs us Q I r h
 obtain⟨v,vr,e1,h⟩:=h
 subst e1
 cases r with
 |cons r rr =>
  rw[hs]
  refine assignInOrder_cons (thn (h1 pins s σ H _ _ _ I r h) fun _ s1 ⟨σ1,H1,I1,q1⟩=>?_)
  exact h2 pins s1 σ1 H1 _ _ Q I1 rr q1
noncomputable def gTup(K:MQ)(n:Nat)(t:TGs):TG:=fun v σ H Q=>∃ a xs,v=.ref a/\SqT K H a xs/\xs.length=n/\t xs σ H Q
theorem rW{es:List Expr}{k:Nat}{t:TGs}{n:Nat}(hc:X.calm=true)(h:PGs X es t)
  (hn:(assignEach es X.env).length=n:=by rfl) (hst:(assignEach es X.env).findIdx? (·.1)=none:=by rfl):PG X (.Tuple es k pos) (gTup X.K n t):=by
 intro pins s σ H v u Q I r hw
 obtain⟨a,xs,e1,hq,hl,hw⟩:=hw
 subst e1
 cases r
 obtain⟨its,rv,ht,hz⟩:=I.tuple hq
 refine assign_Tuple_tuple (I.ok.hd hc) ht (by simp[hn,← hl,rv.length]) hst fun h' hx=>?_
 have I1:Inv X pins σ H { s with heap:=h' }:=I.kept (t':=s.toks) fun b o e=>hx b o (Nm (Heap.lt_size e)) e
 exact h pins _ σ H xs _ Q I1 (by simpa using rv) hw
noncomputable def gSub(to ti:TE)(t:TSet):TG:=fun v σ H Q=>to σ H fun o H1=>ti σ H1 fun i H2=>t o i v H2 fun H3=>Q σ H3
theorem Fv{o i:Expr}{to ti:TE}{t:TSet}(ho:PE X o to)(hi:PE X i ti)(hs:PSet X t)
  (ha:∀ v,assign (.Subscript o i pos) X.env v=(do
   let ov ← holding [v] (eval o X.env)
   let iv ← holding [v,ov] (eval i X.env)
   standAt pos
   holding [v,ov,iv] (setItem ov iv v)
   release [v,ov,iv] []):=by intro _;rfl):PG X (.Subscript o i pos) (gSub to ti t):=by
 intro pins s σ H v u Q I r h
 rw[ha]
 refine wpAny_bind (wpAny_holding (thn (ho pins s σ H _ I h) fun ov s1 ⟨x,H1,I1,r1,q1⟩=>?_))
 refine wpAny_bind (wpAny_holding (thn (hi pins s1 σ H1 _ I1 q1) fun iv s2 ⟨y,H2,I2,r2,q2⟩=>?_))
 refine wpAny_bind (wpAny_standAt (wpAny_bind (wpAny_holding (thn (hs pins s2 σ H2 x y v ov iv u _ I2 r1 r2 r q2) fun _ s3 ⟨H3,I3,q3⟩=>?_))))
 exact wpAny_release ⟨σ,H3,I3,q3⟩
noncomputable def tAsg(te:TE)(g:TG):TS:=fun D σ H=>te σ H fun x H1=>g x σ H1 D.nx
theorem Fj{tg e:Expr}{te:TE}{g:TG}(he:PE X e te)(hg:PG X tg g)(hs:swapsWithSole [tg] e pos.line X.env=pure false:=by rfl)(hw:swappedStores [tg] e X.env=pure none:=by rfl)
  (h1:(assignEach [tg] X.env).map (·.2) = [assign tg X.env]:=by rfl):PS X (.Assign [tg] e pos) (tAsg te g):=by
 intro pins s σ H D I h
 refine wpAny_Assign_stores (thn (he pins s σ H _ I h) fun v s1 ⟨x,H1,I1,r1,q1⟩=>?_) hs hw
 rw[h1]
 exact thn (hg pins s1 σ H1 x v _ I1 r1 q1) fun _ s2 q=>q
theorem ar{i:Nat}{x:Str}{e:Expr}{te:TE}{pos':Pos}(hN:X.N.Nodup)(hi:X.N[i]?=some x)(hx:Loc X.env.scope x)(he:PE X e te)(hs:swapsWith e (some (.Name x pos')) pos.line X.env=pure false:=by rfl)(hf:X.fn x=true∨X.env.scope.names.lookup x=some .local:=by first | exact .inl rfl | exact .inr rfl | assumption) :
  PS X (.Assign [.Name x pos'] e pos) (tAsg te (JA i)):=by
 intro pins s σ H D I h
 refine wpAny_Assign_Name (thn (he pins s σ H _ I h) fun v s1 ⟨y,H1,I1,r1,q1⟩=>?_) hs
 exact nM I1 hN hi hx r1 (fun s2 I2=>⟨_,H1,I2,q1⟩) hf
noncomputable def tAugS(to ti te:TE)(tget:V->V->Hp->VK->Prop)(tip:TIp)(tset:TSet):TS:=fun D σ H=>to σ H fun o H1=>ti σ H1 fun i H2=>tget o i H2 fun x H3=>te σ H3 fun y H4=>tip x y H4 fun z H5=>tset o i z H5 fun H6=>D.nx σ H6
noncomputable def PGet(X:Cx)(t:V->V->Hp->VK->Prop):Prop :=
 ∀(pins:List (Addr×Obj))(s:Shared)(σ:St)(H:Hp)(o i:V)(ov iv:Value)(Q:VK),Inv X pins σ H s->RelV o ov->RelV i iv->t o i H Q ->
  wpAny (model X.prog X.w) X.A (getItem ov iv) (EP X pins σ Q) X.xe s
theorem Lf{o i e:Expr}{to ti te:TE}{tget:V->V->Hp->VK->Prop}{tip:TIp}{tset:TSet}{op:Operator}{tpos:Pos}(ho:PE X o to)(hi:PE X i ti)(hg:PGet X tget)(he:PE X e te)(hp:PIp X op tip)(hs:PSet X tset)
  (ha:∀ ov iv new,augStore i ov iv new=(do holding [new,ov,iv] (setItem ov iv new);release [new,ov,iv] [];pure .next):=by intros;rfl):PS X (.AugAssign (.Subscript o i tpos) op e pos) (tAugS to ti te tget tip tset):=by
 intro pins s σ H D I h
 refine wpAny_AugAssign_SubscriptAny (thn (ho pins s σ H _ I h) fun ov s1 ⟨x1,H1,I1,r1,q1⟩=>?_) ha
 refine thn (hi pins s1 σ H1 _ I1 q1) fun iv s2 ⟨x2,H2,I2,r2,q2⟩=>?_
 refine thn (hg pins s2 σ H2 x1 x2 ov iv _ I2 r1 r2 q2) fun old s3 ⟨x3,H3,I3,r3,q3⟩=>?_
 refine thn (he pins s3 σ H3 _ I3 q3) fun v s4 ⟨x4,H4,I4,r4,q4⟩=>?_
 refine thn (hp pins s4 σ H4 x3 x4 old v _ I4 r3 r4 q4) fun new s5 ⟨x5,H5,I5,r5,q5⟩=>?_
 exact thn (hs pins s5 σ H5 x1 x2 x5 ov iv new _ I5 r1 r2 r5 q5) fun _ s6 ⟨H6,I6,q6⟩=>⟨σ,H6,I6,q6⟩
noncomputable def ipI(f:Int->Int->Int):TIp:=fun x y H Q=>∃ i j,x=.int i/\y=.int j/\Q (.int (f i j)) H
theorem ip_add:PIp X .Add (ipI fun i j=>i+j):=by
 intro pins s σ H x y v u Q I r1 r2 h
 obtain⟨i,j,e1,e2,q⟩:=h
 subst e1;subst e2
 obtain⟨t,rfl⟩:=r1
 obtain⟨t',rfl⟩:=r2
 exact iadd_int ⟨.int _,H,I.tok _,⟨_,rfl⟩,q⟩
end
section
variable{X:Cx}{pos:Pos}
noncomputable def JX(c:TT)(tb:TS):TS:=fun D σ H=>∃ W:Nat->St->Hp->Prop,(∃ m,W m σ H)/\∀ m σ H,W m σ H ->
 c σ H fun b H1=>if b=true then ∃ N:St->Hp->Prop,(∀ σ' H',N σ' H'->∃ m',m'<m/\W m' σ' H')/\tb { D with nx:=N,ct:=N,bk:=D.nx } σ H1 else D.nx σ H1
theorem gf{c:Expr}{body:List Stmt}{tc:TT}{tb:TS}(hp:PassesOwn (model X.prog X.w) X.A X.env X.xe)(hc:PT X c tc)(hb:PSs X body tb):PS X (.While c body [] pos) (JX tc tb):=by
 intro pins s σ H D I h
 obtain⟨W,⟨m0,w0⟩,turn⟩:=h
 refine wpAny_While (codeAny_whileLoop (fun n s'=>∃ σ' H',Inv X pins σ' H' s'/\W n σ' H') ?_ m0 ⟨σ,H,I,w0⟩)
 rintro n s1 ⟨σ1,H1,I1,w1⟩
 refine wpAny_passesOwn hp (thn (hc pins s1 σ1 H1 _ I1 (turn n σ1 H1 w1)) fun b s2 ⟨H2,I2,q2⟩=>?_)
 cases b with
 |true =>
  obtain⟨N,hN,q2⟩:=q2
  rw[if_pos rfl]
  refine wpAny_passesOwn hp (thn (hb pins s2 σ1 H2 _ I2 q2) fun f s3 q3=>?_)
  cases f with
  |next =>
   obtain⟨σ3,H3,I3,n3⟩:=q3
   obtain⟨m',hm,w3⟩:=hN σ3 H3 n3
   exact⟨m',hm,σ3,H3,I3,w3⟩
  |cont =>
   obtain⟨σ3,H3,I3,n3⟩:=q3
   obtain⟨m',hm,w3⟩:=hN σ3 H3 n3
   exact⟨m',hm,σ3,H3,I3,w3⟩
  |brk=>exact q3
  |ret v=>exact q3
 |false =>
  rw[if_neg Nn]
  exact wpAny_execs_nil ⟨σ1,H2,I2,q2⟩
end
set_option genInjectivity false in
structure It where
 go:Nat->Hp->Prop
 yld:Nat->Hp->V->Hp->Prop
 stop:Nat->Hp->Prop
noncomputable def FpOk(X:Cx)(pins:List (Addr×Obj))(H:Hp)(b:Addr):Prop :=
 H b=none/\b≠X.env.locals/\b∉X.fs/\(b∈X.ex∨X.s₀.heap.objs.size<=b)/\(∀ x c,X.env.cells.lookup x=some c->c≠b)/\∀ p∈X.pn++pins,p.1≠b
theorem Inv.fpOk{X:Cx}{pins:List (Addr×Obj)}{σ:St}{H H':Hp}{s:Shared}{b:Addr}(I:Inv X pins σ H s)(hb:s.heap.objs.size<=b)(hn:H' b=none):FpOk X pins H' b:=by
 refine⟨hn,OI (Nk I.lt hb),I.nofs hb,.inr (NQ I.sz hb),fun x c e z=>?_,fun p hp z=>?_⟩
 ·obtain⟨v,q⟩:=I.cell x c e
  exact absurd (Nk q.lt (by rw[z];exact hb)) (Nz _)
 ·exact absurd (Nk (Heap.lt_size (I.pin p hp).1) (by rw[z];exact hb)) (Nz _)
structure Turn(P:Program)(w:World)(K:MQ)(tg:Expr)(J:It)(fp:List Addr)(it:Addr)(tn:Nat->Heap->Prop):Prop where
 mem:it∈fp
 obj:∀ i h,tn i h->∀ b∈fp,∃ o,h.get? b=some o/\∀ v,o.data≠.cell v
 keep:∀ i h h',tn i h->(∀ b∈fp,∀ o,h.get? b=some o->h'.get? b=some o)->tn i h'
 item:∀(X:Cx),X.prog=P->X.w=w->X.K=K->X.calm=true->∀(i:Nat)(pins:List (Addr×Obj))(s:Shared)(σ:St)(H:Hp)(E:Value->Shared->Prop),Inv X pins σ H s->(∀ b∈fp,FpOk X pins H b)->tn i s.heap->J.go i H ->
  wpAny (model P w) X.A (pyNext (.ref it)) (fun r s1=>∃ u,r=some u /\
   wpAny (model P w) X.A (letOwnedTupleGo tg (.ref it) u) (fun _ s2=>∃ x H',Inv X pins σ H' s2/\RelV x u/\J.yld i H x H'/\tn (i+1) s2.heap/\∀ b∈fp,H' b=none) E s1) E s
 done:∀(X:Cx),X.prog=P->X.w=w->X.K=K->X.calm=true->∀(i:Nat)(pins:List (Addr×Obj))(s:Shared)(σ:St)(H:Hp)(E:Value->Shared->Prop),Inv X pins σ H s->(∀ b∈fp,FpOk X pins H b)->tn i s.heap->J.stop i H ->
  wpAny (model P w) X.A (pyNext (.ref it)) (fun r s1=>r=none/\Inv X pins σ H s1) E s
 self:∀(A:Around)(i:Nat)(s:Shared)(Q:Value->Shared->Prop)(E:Value->Shared->Prop),tn i s.heap->Q (.ref it) s->wpAny (model P w) A (pyIter (.ref it)) Q E s
noncomputable abbrev TI:=St->Hp->(It->Hp->Prop)->Prop
noncomputable def PIE(X:Cx)(pins:List (Addr×Obj))(σ:St)(tg:Expr)(R:It->Hp->Prop)(itv:Value)(s2:Shared):Prop :=
 ∃(it:Addr)(fp:List Addr)(tn:Nat->Heap->Prop)(J:It)(H':Hp),itv=.ref it/\Inv X pins σ H' s2/\Turn X.prog X.w X.K tg J fp it tn/\tn 0 s2.heap/\(∀ b∈fp,FpOk X pins H' b)/\R J H'
noncomputable def PI(X:Cx)(tg iter:Expr)(wi:TI):Prop :=
 ∀(pins:List (Addr×Obj))(s:Shared)(σ:St)(H:Hp)(R:It->Hp->Prop),Inv X pins σ H s->wi σ H R ->
  wpAny (model X.prog X.w) X.A (eval iter X.env) (fun v s1=>wpAny (model X.prog X.w) X.A (pyIter v) (PIE X pins σ tg R) X.xe s1) X.xe s
theorem Md{M:Model}{A:Around}{E:Value->Shared->Prop}{s:Shared}{tg:Expr}{it:Addr}{u:Value}{o:Obj}{n:String}{vs:Array Value}{Q:Unit->Shared->Prop}(ho:s.heap.get? it=some o)(hc:o.cls=.type n)(hd:o.data=.fields vs)
  (hn : ["enumerate","zip","dict_itemiterator","dict_reverseitemiterator","odict_iterator","itertools.zip_longest","itertools.pairwise"].contains n=false) (hQ:Q () s):wpAny M A (letOwnedTupleGo tg (.ref it) u) Q E s:=by
 unfold letOwnedTupleGo
 cases tg<;>first
  |exact wpAny_pure hQ
  | (cases u<;>first
    |exact wpAny_pure hQ
    | (refine wpAny_bind (wpAny_load ho ?_)
       rw[hc,hd]
       show wpAny M A (if(["enumerate","zip","dict_itemiterator","dict_reverseitemiterator","odict_iterator","itertools.zip_longest","itertools.pairwise"].contains n&&vs[0]? == some (rawInt _))=true then _ else _) Q E s
       rw[if_neg (by intro h;rw[hn,Om]at h;cases h)]
       exact wpAny_pure hQ))
noncomputable def Itl(K:MQ)(a:Addr):It :=
 ⟨fun i H=>∃ xs x,SqL K H a xs/\xs[i]?=some x,fun i H x H'=>H'=H/\∀ xs,SqL K H a xs->xs[i]?=some x,fun i H=>∃ xs,SqL K H a xs/\xs.length<=i⟩
noncomputable def Itt(K:MQ)(a:Addr):It :=
 ⟨fun i H=>∃ xs x,SqT K H a xs/\xs[i]?=some x,fun i H x H'=>H'=H/\∀ xs,SqT K H a xs->xs[i]?=some x,fun i H=>∃ xs,SqT K H a xs/\xs.length<=i⟩
noncomputable def Itr(lo:Int)(n:Nat):It:=⟨fun i _=>i<n,fun i H x H'=>H'=H/\x=.int (lo+i),fun i _=>n<=i⟩
theorem EC{P:Program}{w:World}{K:MQ}{tg:Expr}(a it:Addr):Turn P w K tg (Itl K a) [it] it (fun i h=>h.IsListIter it a i) where
 mem:=by simp
 obj:=fun i h st b hb=>by
  have e:b=it:=by simpa using hb
  subst e
  obtain⟨o,e,c,d⟩:=st
  exact⟨o,e,fun v z=>by rw[d]at z;cases z⟩
 keep:=fun i h h' st k=>st.at fun o e=>k it (by simp) o e
 item:=by
  intro X hP hw hK hc i pins s σ H E I hf st hg
  subst hP hw hK
  obtain⟨xs,x,hq,hx⟩:=hg
  obtain⟨its,rv,p,hz⟩:=I.list hq
  obtain⟨u,hu,ru⟩:=rv.get hx
  obtain⟨f0,f1,f2,f3,f4,f5⟩:=hf it (by simp)
  refine wpAny_pyNext_list_item st p.isList (x:=u) (by simpa using hu) fun h' st' sb=>?_
  have I1:Inv X pins σ H { s with heap:=h' }:=I.turned (t':=s.toks) (fun b o hb e=>(sb.2 b hb).trans e) f0 f1 f3 f4 f5
  obtain⟨o,e,c,d⟩:=id st'
  exact⟨u,rfl,Md (s:={ s with heap:=h' }) e c d (by decide) ⟨x,H,I1,ru,⟨rfl,fun ys hy=>by rw[I.list_inj hy hq];exact hx⟩,st',fun b hb=>(hf b hb).1⟩⟩
 done:=by
  intro X hP hw hK hc i pins s σ H E I hf st hg
  subst hP hw hK
  obtain⟨xs,hq,hx⟩:=hg
  obtain⟨its,rv,p,hz⟩:=I.list hq
  obtain⟨f0,f1,f2,f3,f4,f5⟩:=hf it (by simp)
  have hl:=rv.length
  exact wpAny_pyNext_list_end (I.ok.hd hc) st p.isList (by simp;omega) fun h' eb=>⟨rfl,I.turned (t':=s.toks) (fun b o hb e=>eb b o hb e) f0 f1 f3 f4 f5⟩
 self:=fun _ _ _ _ _ st h=>wpAny_pyIter_listiter st h
theorem CJ{P:Program}{w:World}{K:MQ}{tg:Expr}(a it:Addr):Turn P w K tg (Itt K a) [it] it (fun i h=>h.IsTupleIter it a i) where
 mem:=by simp
 obj:=fun i h st b hb=>by
  have e:b=it:=by simpa using hb
  subst e
  obtain⟨o,e,c,d⟩:=st
  exact⟨o,e,fun v z=>by rw[d]at z;cases z⟩
 keep:=fun i h h' st k=>st.at fun o e=>k it (by simp) o e
 item:=by
  intro X hP hw hK hc i pins s σ H E I hf st hg
  subst hP hw hK
  obtain⟨xs,x,hq,hx⟩:=hg
  obtain⟨its,rv,p,hz⟩:=I.tuple hq
  obtain⟨u,hu,ru⟩:=rv.get hx
  obtain⟨f0,f1,f2,f3,f4,f5⟩:=hf it (by simp)
  refine wpAny_pyNext_tuple_item st (show s.heap.IsTuple a its.toArray from p) (x:=u) (by simpa using hu) fun h' st' sb=>?_
  have I1:Inv X pins σ H { s with heap:=h' }:=I.turned (t':=s.toks) (fun b o hb e=>(sb.2 b hb).trans e) f0 f1 f3 f4 f5
  obtain⟨o,e,c,d⟩:=id st'
  exact⟨u,rfl,Md (s:={ s with heap:=h' }) e c d (by decide) ⟨x,H,I1,ru,⟨rfl,fun ys hy=>by rw[I.tuple_inj hy hq];exact hx⟩,st',fun b hb=>(hf b hb).1⟩⟩
 done:=by
  intro X hP hw hK hc i pins s σ H E I hf st hg
  subst hP hw hK
  obtain⟨xs,hq,hx⟩:=hg
  obtain⟨its,rv,p,hz⟩:=I.tuple hq
  obtain⟨f0,f1,f2,f3,f4,f5⟩:=hf it (by simp)
  have hl:=rv.length
  exact wpAny_pyNext_tuple_end (I.ok.hd hc) st (show s.heap.IsTuple a its.toArray from p) (by simp;omega) fun h' eb=>⟨rfl,I.turned (t':=s.toks) (fun b o hb e=>eb b o hb e) f0 f1 f3 f4 f5⟩
 self:=fun _ _ _ _ _ st h=>wpAny_pyIter_tupleiter st h
theorem CM{P:Program}{w:World}{K:MQ}{tg:Expr}(it:Addr)(lo:Int)(n:Nat):Turn P w K tg (Itr lo n) [it] it (fun i h=>IsRangeIter h it (lo+(i:Nat)*1) ((n:Int)-(i:Nat)) 1) where
 mem:=by simp
 obj:=fun i h st b hb=>by
  have e:b=it:=by simpa using hb
  subst e
  exact⟨_,st,fun v z=>by
   have z':Data.fields _=Data.cell v:=z
   cases z'⟩
 keep:=fun i h h' st k=>k it (by simp) _ st
 item:=by
  intro X hP hw hK hc i pins s σ H E I hf st hg
  subst hP hw hK
  obtain⟨f0,f1,f2,f3,f4,f5⟩:=hf it (by simp)
  have W:=Walks.range (prog:=X.prog) (w:=X.w) (I.ok.hd hc) it lo 1 n
  refine W.item i s _ _ hg st fun v h' tk hv st' kk=>?_
  obtain⟨t,rfl⟩:=hv
  have I1:Inv X pins σ H { s with heap:=h',toks:=tk }:=I.turned (fun b o hb e=>kk b o (by simpa using hb) e) f0 f1 f3 f4 f5
  refine⟨_,rfl,Md (s:={ s with heap:=h',toks:=tk }) (n:="range_iterator") st' rfl rfl (by decide) ⟨.int (lo+i),H,I1,⟨t,?_⟩,⟨rfl,rfl⟩,st',fun b hb=>(hf b hb).1⟩⟩
  rw[Int.mul_one]
 done:=by
  intro X hP hw hK hc i pins s σ H E I hf st hg
  subst hP hw hK
  obtain⟨f0,f1,f2,f3,f4,f5⟩:=hf it (by simp)
  exact wpAny_pyNext_range_end (I.ok.hd hc) st (by have:n<=i:=hg;omega) fun h' eb=>⟨rfl,I.turned (t':=s.toks) (fun b o hb e=>eb b o hb e) f0 f1 f3 f4 f5⟩
 self:=fun _ _ _ _ _ st h=>wpAny_pyIter_rangeiter st h
end L2
namespace L2
open PySem PySem.Spec PyProof.Rows
section
variable{X:Cx}{tg:Expr}
noncomputable def iList(K:MQ)(tl:TE):TI:=fun σ H R=>tl σ H fun x H1=>∃ a,x=.ref a/\(∃ xs,SqL K H1 a xs)/\R (Itl K a) H1
noncomputable def iTup(K:MQ)(tl:TE):TI:=fun σ H R=>tl σ H fun x H1=>∃ a,x=.ref a/\(∃ xs,SqT K H1 a xs)/\R (Itt K a) H1
theorem bo{l:Expr}{tl:TE}(hl:PE X l tl):PI X tg l (iList X.K tl):=by
 intro pins s σ H R I h
 refine thn (hl pins s σ H _ I h) fun v s1 ⟨x,H1,I1,r1,q1⟩=>?_
 obtain⟨a,e,⟨xs,hq⟩,q⟩:=q1
 subst e
 cases r1
 obtain⟨its,rv,p,hz⟩:=I1.list hq
 refine wpAny_pyIter_list p.isList ?_
 refine⟨s1.heap.objs.size,[s1.heap.objs.size],_,_,H1,rfl,I1.kept (t':=s1.toks) fun b o e=>Heap.get?_push_of_some _ e,EC a _,⟨_,Heap.get?_push_size _ rfl,rfl,rfl⟩,fun b hb=>?_,q⟩
 have e:b=s1.heap.objs.size:=by simpa using hb
 subst e
 exact I1.fpOk (MT _) (I1.hok.fresh (MT _))
theorem pi_tup{l:Expr}{tl:TE}(hl:PE X l tl):PI X tg l (iTup X.K tl):=by
 intro pins s σ H R I h
 refine thn (hl pins s σ H _ I h) fun v s1 ⟨x,H1,I1,r1,q1⟩=>?_
 obtain⟨a,e,⟨xs,hq⟩,q⟩:=q1
 subst e
 cases r1
 obtain⟨its,rv,p,hz⟩:=I1.tuple hq
 refine wpAny_pyIter_tuple (show s1.heap.IsTuple a its.toArray from p) ?_
 refine⟨s1.heap.objs.size,[s1.heap.objs.size],_,_,H1,rfl,I1.kept (t':=s1.toks) fun b o e=>Heap.get?_push_of_some _ e,CJ a _,⟨_,Heap.get?_push_size _ rfl,rfl,rfl⟩,fun b hb=>?_,q⟩
 have e:b=s1.heap.objs.size:=by simpa using hb
 subst e
 exact I1.fpOk (MT _) (I1.hok.fresh (MT _))
theorem IA{pins:List (Addr×Obj)}{σ:St}{H:Hp}{s:Shared}{R:It->Hp->Prop}{E:Value->Shared->Prop}{lo hi:Int}{t u v:Tok}{tk:Nat}(I:Inv X pins σ H s)(h1 : -(2^62)<=lo)(h2:lo<2^62)(h3 : -(2^62)<=hi)(h4:hi<2^62)
  (q:R (Itr lo (hi-lo).toNat) H):wpAny (model X.prog X.w) X.A (pyIter (.ref s.heap.objs.size)) (PIE X pins σ tg R) E { s with heap:=s.heap.push { cls:=.type "range",data:=.fields #[.int lo t,.int hi u,.int 1 v] },toks:=tk }:=by
 refine wpAny_pyIter_range (IsRange.new ..) (small_one h1 h2 h3 h4) ?_
 have I1:Inv X pins σ H { s with heap:=s.heap.push { cls:=.type "range",data:=.fields #[.int lo t,.int hi u,.int 1 v] },toks:=tk }:=I.kept fun b o e=>Heap.get?_push_of_some _ e
 refine⟨(s.heap.push { cls:=.type "range",data:=.fields #[.int lo t,.int hi u,.int 1 v] }).objs.size,[(s.heap.push { cls:=.type "range",data:=.fields #[.int lo t,.int hi u,.int 1 v] }).objs.size],_,_,H,rfl,
  I1.kept (t':=tk) fun b o e=>Heap.get?_push_of_some _ e,CM _ lo (hi-lo).toNat,?_,fun b hb=>?_,q⟩
 ·have e1:lo+((0:Nat):Int)*1=lo:=by simp
  have e2:(((hi-lo).toNat:Nat):Int)-((0:Nat):Int)=Builtin.Range.rangeSize lo hi 1:=by rw[rangeSize_one];split<;>omega +splitDisjunctions
  show IsRangeIter _ _ (lo+((0:Nat):Int)*1) ((((hi-lo).toNat:Nat):Int)-((0:Nat):Int)) 1
  rw[e1,e2]
  exact Heap.get?_push_size _ rfl
 ·have e:b=(s.heap.push { cls:=.type "range",data:=.fields #[.int lo t,.int hi u,.int 1 v] }).objs.size:=by simpa using hb
  subst e
  exact I1.fpOk (MT _) (I1.hok.fresh (MT _))
noncomputable def iRng1(ta:TA):TI:=fun σ H R=>ta σ H fun vs H1=>∃ j:Int,vs = [.int j]/\-(2^62)<=j/\j<2^62/\R (Itr 0 j.toNat) H1
theorem bD{a:Expr}{ta:TA}{p pos:Pos} (hg:Gl X "range") (hm:X.mg "range" = none) (ha:PA X [a] ta) (hs:starEach [a] X.env = [(false,eval a X.env)]:=by rfl):PI X tg (.Call (.Name "range" p) [a] [] pos) (iRng1 ta):=by
 intro pins s σ H R I h
 refine Call_ (ik I hg hm boot_range (PyProof.Rows.callWith_type1 (thn (ha pos pins s σ H _ I h) fun us s1 ⟨vs,H1,I1,r1,q1⟩=>?_) hs rfl))
 obtain⟨j,e,q1,q2,q⟩:=q1
 subst e
 cases r1 with
 |cons r rr =>
  cases rr
  obtain⟨t,rfl⟩:=r
  exact call_range_1 (IA I1 (by omega) (by omega) q1 q2 (by simpa using q))
noncomputable def tFor(wi:TI)(g:TG)(tb:TS):TS:=fun D σ H=>wi σ H fun J H1=>∃ W:Nat->Nat->St->Hp->Prop,(∃ m,W 0 m σ H1)/\∀ i m σ H,W i m σ H ->
 (J.stop i H/\D.nx σ H)∨(J.go i H/\∃ N:St->Hp->Prop,(∀ σ' H',N σ' H'->∃ m',m'<m/\W (i+1) m' σ' H')/\∀ x H',J.yld i H x H'->g x σ H' fun σ2 H2=>tb { D with nx:=N,ct:=N,bk:=D.nx } σ2 H2)
noncomputable def mH(fp:List Addr)(h:Heap):List (Addr×Obj):=fp.filterMap fun b=>(h.get? b).map fun o=>(b,o)
theorem cm{fp:List Addr}{h:Heap}{b:Addr}{o:Obj}(hb:b∈fp)(e:h.get? b=some o):(b,o)∈mH fp h:=P5.mpr ⟨b,hb,by rw[e];rfl⟩
theorem FQ{fp:List Addr}{h:Heap}{p:Addr×Obj}(hp:p∈mH fp h):p.1∈fp/\h.get? p.1=some p.2:=by
 obtain⟨b,hb,e⟩:=P5.mp hp
 cases q:h.get? b with
 |none=>rw[q]at e;cases e
 |some o =>
  rw[q]at e
  have e':(b,o)=p:=Ni e
  subst e'
  exact⟨hb,q⟩
theorem Inv.pinned{pins:List (Addr×Obj)}{σ:St}{H:Hp}{s:Shared}{fp:List Addr}(I:Inv X pins σ H s)(hf:∀ b∈fp,FpOk X pins H b)(ho:∀ b∈fp,∃ o,s.heap.get? b=some o/\∀ v,o.data≠.cell v):Inv X (pins++mH fp s.heap) σ H s :=
 I.pins_of fun p hp=>(M5.mp hp).elim (fun z=>I.pin p (MZ _ z)) fun z=>by
  obtain⟨hb,e⟩:=FQ z
  obtain⟨f0,f1,f2,_⟩:=hf p.1 hb
  obtain⟨o,e',d⟩:=ho p.1 hb
  rw[e]at e';cases e'
  exact⟨e,f0,f1,f2,d⟩
theorem Inv.unpinned{pins pl:List (Addr×Obj)}{σ:St}{H:Hp}{s:Shared}(I:Inv X (pins++pl) σ H s):Inv X pins σ H s:=I.pins_of fun p hp=>I.pin p (MZ _ (Nt _ hp))
theorem cD{iter:Expr}{body:List Stmt}{wi:TI}{g:TG}{tb:TS}{pos:Pos}(hp:PassesOwn (model X.prog X.w) X.A X.env X.xe)(hc:X.calm=true)(hi:PI X tg iter wi)(hg:PG X tg g)(hb:PSs X body tb)
  (hs:∀ x,foldedSetIterable iter X.env x=pure x:=by intro _;rfl):PS X (.For tg iter body [] pos) (tFor wi g tb):=by
 intro pins s σ H D I h
 refine wpAny_For (thn (hi pins s σ H _ I h) fun v s1 h1=>thn h1 fun itv s2 h2=>?_) hs
 obtain⟨it,fp,tn,J,H2,e,I2,T,st2,f2,W,⟨m0,w0⟩,turn⟩:=h2
 subst e
 have stat:∀{H':Hp},(∀ b∈fp,H' b=none)->∀ b∈fp,FpOk X pins H' b:=fun hn b hb=>⟨hn b hb,(f2 b hb).2⟩
 refine codeAny_forLoop_any (fun n s'=>∃ i σ' H',Inv X pins σ' H' s'/\tn i s'.heap/\(∀ b∈fp,H' b=none)/\W i n σ' H') ?_ m0 ⟨0,σ,H2,I2,st2,fun b hb=>(f2 b hb).1,w0⟩
 rintro n s3 ⟨i,σ3,H3,I3,st3,fr3,w3⟩
 rcases turn i n σ3 H3 w3 with⟨stop,qn⟩ | ⟨go,N,hN,step⟩
 ·refine wpAny_passesOwn hp (thn (T.done X rfl rfl rfl hc i pins s3 σ3 H3 X.xe I3 (stat fr3) st3 stop) fun r s4 ⟨hr,I4⟩=>?_)
  subst hr
  exact wpAny_execs_nil ⟨σ3,H3,I4,qn⟩
 ·refine wpAny_passesOwn hp (thn (T.item X rfl rfl rfl hc i pins s3 σ3 H3 X.xe I3 (stat fr3) st3 go) fun r s4 ⟨u,hr,h4⟩=>?_)
  subst hr
  refine wpAny_passesOwn hp (thn h4 fun _ s5 ⟨x,H5,I5,r5,y5,st5,fr5⟩=>?_)
  have I5':=I5.pinned (stat fr5) (T.obj _ _ st5)
  refine wpAny_passesOwn hp (thn (hg _ s5 σ3 H5 x u _ I5' r5 (step x H5 y5)) fun _ s6 ⟨σ6,H6,I6,q6⟩=>?_)
  refine wpAny_passesOwn hp (thn (hb _ s6 σ6 H6 _ I6 q6) fun f s7 q7=>?_)
  have again:∀{σ7:St}{H7:Hp},Inv X (pins++mH fp s5.heap) σ7 H7 s7->N σ7 H7->∃ m,m<n/\∃ i σ' H',Inv X pins σ' H' s7/\tn i s7.heap/\(∀ b∈fp,H' b=none)/\W i m σ' H':=fun{σ7 H7} I7 n7=>by
   obtain⟨m',hm,w7⟩:=hN σ7 H7 n7
   refine⟨m',hm,i+1,σ7,H7,I7.unpinned,T.keep _ _ _ st5 fun b hb o e=>(I7.pin (b,o) (MZ _ (MZ _ (cm hb e)))).1,fun b hb=>?_,w7⟩
   obtain⟨o,e,d⟩:=T.obj _ _ st5 b hb
   exact(I7.pin (b,o) (MZ _ (MZ _ (cm hb e)))).2.1
  cases f with
  |next=>obtain⟨σ7,H7,I7,n7⟩:=q7;exact again I7 n7
  |cont=>obtain⟨σ7,H7,I7,n7⟩:=q7;exact again I7 n7
  |brk=>obtain⟨σ7,H7,I7,q7⟩:=q7;exact⟨σ7,H7,I7.unpinned,q7⟩
  |ret v=>obtain⟨x7,σ7,H7,I7,r7,q7⟩:=q7;exact⟨x7,σ7,H7,I7.unpinned,r7,q7⟩
end
theorem cG{K:MQ}{a:Addr}{xs:List V}{g:TG}{tb:TS}{D:Ends}{σ:St}{H:Hp}(Pv:Nat->St->Hp->Prop)(h0:Pv 0 σ H)(hl:∀ i σ H,i<=xs.length->Pv i σ H->SqL K H a xs)
  (hs:∀ i x σ H,xs[i]?=some x->Pv i σ H->g x σ H fun σ2 H2=>tb { D with nx:=Pv (i+1),ct:=Pv (i+1),bk:=D.nx } σ2 H2) (hd:∀ σ H,Pv xs.length σ H->D.nx σ H) :
  ∃ W:Nat->Nat->St->Hp->Prop,(∃ m,W 0 m σ H)/\∀ i m σ H,W i m σ H ->
   ((Itl K a).stop i H/\D.nx σ H)∨((Itl K a).go i H/\∃ N:St->Hp->Prop,(∀ σ' H',N σ' H'->∃ m',m'<m/\W (i+1) m' σ' H')/\∀ x H',(Itl K a).yld i H x H'->g x σ H' fun σ2 H2=>tb { D with nx:=N,ct:=N,bk:=D.nx } σ2 H2):=by
 refine⟨fun i m σ H=>m=xs.length-i/\i<=xs.length/\Pv i σ H,⟨xs.length,by simp,NS _,h0⟩,?_⟩
 rintro i m σ H ⟨rfl,hi,p⟩
 have q:=hl i σ H hi p
 by_cases hlt:i<xs.length
 ·refine .inr ⟨⟨xs,xs[i],q,by simp[hlt]⟩,Pv (i+1),fun σ' H' p'=>⟨xs.length-(i+1),by omega,rfl,hlt,p'⟩,fun x H' y=>?_⟩
  obtain⟨e,y⟩:=y
  subst e
  exact hs i x σ _ (y xs q) p
 ·have e:i=xs.length:=by omega
  subst e
  exact .inl ⟨⟨xs,q,MT _⟩,hd σ H p⟩
theorem Mf{K:MQ}{a:Addr}{xs:List V}{g:TG}{tb:TS}{D:Ends}{σ:St}{H:Hp}(Pv:Nat->St->Hp->Prop)(h0:Pv 0 σ H)(hl:∀ i σ H,i<=xs.length->Pv i σ H->SqT K H a xs)
  (hs:∀ i x σ H,xs[i]?=some x->Pv i σ H->g x σ H fun σ2 H2=>tb { D with nx:=Pv (i+1),ct:=Pv (i+1),bk:=D.nx } σ2 H2) (hd:∀ σ H,Pv xs.length σ H->D.nx σ H) :
  ∃ W:Nat->Nat->St->Hp->Prop,(∃ m,W 0 m σ H)/\∀ i m σ H,W i m σ H ->
   ((Itt K a).stop i H/\D.nx σ H)∨((Itt K a).go i H/\∃ N:St->Hp->Prop,(∀ σ' H',N σ' H'->∃ m',m'<m/\W (i+1) m' σ' H')/\∀ x H',(Itt K a).yld i H x H'->g x σ H' fun σ2 H2=>tb { D with nx:=N,ct:=N,bk:=D.nx } σ2 H2):=by
 refine⟨fun i m σ H=>m=xs.length-i/\i<=xs.length/\Pv i σ H,⟨xs.length,by simp,NS _,h0⟩,?_⟩
 rintro i m σ H ⟨rfl,hi,p⟩
 have q:=hl i σ H hi p
 by_cases hlt:i<xs.length
 ·refine .inr ⟨⟨xs,xs[i],q,by simp[hlt]⟩,Pv (i+1),fun σ' H' p'=>⟨xs.length-(i+1),by omega,rfl,hlt,p'⟩,fun x H' y=>?_⟩
  obtain⟨e,y⟩:=y
  subst e
  exact hs i x σ _ (y xs q) p
 ·have e:i=xs.length:=by omega
  subst e
  exact .inl ⟨⟨xs,q,MT _⟩,hd σ H p⟩
theorem kS{lo:Int}{n:Nat}{g:TG}{tb:TS}{D:Ends}{σ:St}{H:Hp}(Pv:Nat->St->Hp->Prop)(h0:Pv 0 σ H)
  (hs:∀ i σ H,i<n->Pv i σ H->g (.int (lo+i)) σ H fun σ2 H2=>tb { D with nx:=Pv (i+1),ct:=Pv (i+1),bk:=D.nx } σ2 H2) (hd:∀ σ H,Pv n σ H->D.nx σ H) :
  ∃ W:Nat->Nat->St->Hp->Prop,(∃ m,W 0 m σ H)/\∀ i m σ H,W i m σ H ->
   ((Itr lo n).stop i H/\D.nx σ H)∨((Itr lo n).go i H/\∃ N:St->Hp->Prop,(∀ σ' H',N σ' H'->∃ m',m'<m/\W (i+1) m' σ' H')/\∀ x H',(Itr lo n).yld i H x H'->g x σ H' fun σ2 H2=>tb { D with nx:=N,ct:=N,bk:=D.nx } σ2 H2):=by
 refine⟨fun i m σ H=>m=n-i/\i<=n/\Pv i σ H,⟨n,by simp,NS _,h0⟩,?_⟩
 rintro i m σ H ⟨rfl,hi,p⟩
 by_cases hlt:i<n
 ·refine .inr ⟨hlt,Pv (i+1),fun σ' H' p'=>⟨n-(i+1),by omega,rfl,hlt,p'⟩,fun x H' y=>?_⟩
  obtain⟨e,y⟩:=y
  subst e y
  exact hs i σ _ hlt p
 ·have e:i=n:=by omega
  subst e
  exact .inl ⟨MT _,hd σ H p⟩
theorem fQ{c:TT}{tb:TS}{D:Ends}{σ:St}{H:Hp}(Pv:St->Hp->Prop)(μ:St->Hp->Nat)(h0:Pv σ H)
  (hs:∀ σ H,Pv σ H->c σ H fun b H1=>if b=true then tb { D with nx:=fun σ' H'=>Pv σ' H'/\μ σ' H'<μ σ H,ct:=fun σ' H'=>Pv σ' H'/\μ σ' H'<μ σ H,bk:=D.nx } σ H1 else D.nx σ H1)
  (mono:∀ σ H Q Q',(∀ b H1,Q b H1->Q' b H1)->c σ H Q->c σ H Q'):JX c tb D σ H:=by
 refine⟨fun m σ H=>m=μ σ H/\Pv σ H,⟨_,rfl,h0⟩,?_⟩
 rintro m σ H ⟨rfl,p⟩
 refine mono σ H _ _ (fun b H1 q=>?_) (hs σ H p)
 cases b with
 |true=>exact⟨_,fun σ' H' ⟨p',l⟩=>⟨_,l,rfl,p'⟩,q⟩
 |false=>exact q
end L2
namespace L2
open PySem PySem.Spec PyProof.Rows
noncomputable abbrev R2:=V->V->Hp->VK->Prop
noncomputable def OpR(X:Cx)(f:Value->Value->Sem Value)(r:R2):Prop :=
 ∀(pins:List (Addr×Obj))(s:Shared)(σ:St)(H:Hp)(x y:V)(v u:Value)(Q:VK),Inv X pins σ H s->RelV x v->RelV y u->r x y H Q ->
  wpAny (model X.prog X.w) X.A (f v u) (EP X pins σ Q) X.xe s
noncomputable def UnR(X:Cx)(f:Value->Sem Value)(r:V->Hp->VK->Prop):Prop :=
 ∀(pins:List (Addr×Obj))(s:Shared)(σ:St)(H:Hp)(x:V)(v:Value)(Q:VK),Inv X pins σ H s->RelV x v->r x H Q ->
  wpAny (model X.prog X.w) X.A (f v) (EP X pins σ Q) X.xe s
noncomputable def nL(X:Cx)(f:Value)(r:List V->Hp->VK->Prop):Prop :=
 ∀(pins:List (Addr×Obj))(s:Shared)(σ:St)(H:Hp)(xs:List V)(us:List Value)(Q:VK),Inv X pins σ H s->Vals xs us->r xs H Q ->
  wpAny (model X.prog X.w) X.A (call f us) (EP X pins σ Q) X.xe s
noncomputable def tOp(r:R2)(ta tb:TE):TE:=fun σ H Q=>ta σ H fun x H1=>tb σ H1 fun y H2=>r x y H2 Q
noncomputable def tUn(r:V->Hp->VK->Prop)(ta:TE):TE:=fun σ H Q=>ta σ H fun x H1=>r x H1 Q
noncomputable def rI(C:Int->Int->Prop)(g:Int->Int->V):R2:=fun x y H Q=>∃ i j,x=.int i/\y=.int j/\C i j/\Q (g i j) H
noncomputable def rI0(g:Int->Int->V):R2:=fun x y H Q=>∃ i j,x=.int i/\y=.int j/\Q (g i j) H
noncomputable def rU(g:Int->V):V->Hp->VK->Prop:=fun x H Q=>∃ i,x=.int i/\Q (g i) H
section
variable{X:Cx}{a b c:Expr}{ta tb tc:TE}{pos:Pos}
theorem binT(ha:PE X a ta)(hb:PE X b tb){pins:List (Addr×Obj)}{s:Shared}{σ:St}{H:Hp}{R:V->V->Hp->Prop}(I:Inv X pins σ H s)
  (h:ta σ H fun x H1=>tb σ H1 fun y H2=>R x y H2) {Q:Value->Shared->Prop} {f:Value->Value->Sem Value}
  (hf:∀ v u s2 x y H2,Inv X pins σ H2 s2->RelV x v->RelV y u->R x y H2->wpAny (model X.prog X.w) X.A (f v u) Q X.xe s2) :
  wpAny (model X.prog X.w) X.A (eval a X.env) (fun v s₁=>wpAny (model X.prog X.w) X.A (eval b X.env) (fun u s₂=>wpAny (model X.prog X.w) X.A (f v u) Q X.xe s₂) X.xe s₁) X.xe s:=by
 refine thn (ha pins s σ H _ I h) fun v s1 ⟨x,H1,I1,r1,q1⟩=>?_
 refine thn (hb pins s1 σ H1 _ I1 q1) fun u s2 ⟨y,H2,I2,r2,q2⟩=>?_
 exact hf v u s2 x y H2 I2 r1 r2 q2
theorem aB{op:Operator}{r:R2}(ho:OpR X (binaryOp op) r)(ha:PE X a ta)(hb:PE X b tb):PE X (.BinOp a op b pos) (tOp r ta tb):=by
 intro pins s σ H Q I h
 exact wpAny_BinOp (binT ha hb I h fun v u s2 x y H2 I2 rx ry q=>ho pins s2 σ H2 x y v u Q I2 rx ry q)
theorem pe_un{op:UnaryOp}{r:V->Hp->VK->Prop}(ho:UnR X (unaryOp op) r)(ha:PE X a ta):PE X (.UnaryOp op a pos) (tUn r ta):=by
 intro pins s σ H Q I h
 exact UnaryOp_ (thn (ha pins s σ H _ I h) fun v s1 ⟨x,H1,I1,r1,q1⟩=>ho pins s1 σ H1 x v Q I1 r1 q1)
theorem opI{f:Value->Value->Sem Value}{C:Int->Int->Prop}{g:Int->Int->Int}
  (rule:∀(i j:Int)(t u:Tok)(s:Shared)(Q:Value->Shared->Prop)(E:Value->Shared->Prop),C i j->Q (.int (g i j) s.toks) { s with toks:=s.toks+1 }->wpAny (model X.prog X.w) X.A (f (.int i t) (.int j u)) Q E s) :
  OpR X f (rI C fun i j=>.int (g i j)):=by
 intro pins s σ H x y v u Q I rx ry h
 obtain⟨i,j,rfl,rfl,hc,q⟩:=h
 obtain⟨t,rfl⟩:=rx
 obtain⟨t',rfl⟩:=ry
 exact rule i j t t' s _ _ hc ⟨.int (g i j),H,I.tok _,⟨_,rfl⟩,q⟩
theorem opI0{f:Value->Value->Sem Value}{g:Int->Int->Int}
  (rule:∀(i j:Int)(t u:Tok)(s:Shared)(Q:Value->Shared->Prop)(E:Value->Shared->Prop),Q (.int (g i j) s.toks) { s with toks:=s.toks+1 }->wpAny (model X.prog X.w) X.A (f (.int i t) (.int j u)) Q E s) :
  OpR X f (rI0 fun i j=>.int (g i j)):=by
 intro pins s σ H x y v u Q I rx ry h
 obtain⟨i,j,rfl,rfl,q⟩:=h
 obtain⟨t,rfl⟩:=rx
 obtain⟨t',rfl⟩:=ry
 exact rule i j t t' s _ _ ⟨.int (g i j),H,I.tok _,⟨_,rfl⟩,q⟩
theorem opB0{f:Value->Value->Sem Value}{g:Int->Int->Bool}
  (rule:∀(i j:Int)(t u:Tok)(s:Shared)(Q:Value->Shared->Prop)(E:Value->Shared->Prop),Q (.bool (g i j)) s->wpAny (model X.prog X.w) X.A (f (.int i t) (.int j u)) Q E s) :
  OpR X f (rI0 fun i j=>.bl (g i j)):=by
 intro pins s σ H x y v u Q I rx ry h
 obtain⟨i,j,rfl,rfl,q⟩:=h
 obtain⟨t,rfl⟩:=rx
 obtain⟨t',rfl⟩:=ry
 exact rule i j t t' s _ _ ⟨.bl (g i j),H,I,rfl,q⟩
noncomputable def CDiv(i j:Int):Prop:=0<j/\j<1073741824
noncomputable def CPow(i j:Int):Prop:=0<=j/\j<=1000000/\i.natAbs<2^64
noncomputable def CMul(i j:Int):Prop:=(-(2^64)<i/\i<2^64)∨(-(2^64)<j/\j<2^64)
theorem CMul.ok{i j:Int}(h:CMul i j):IntMulOk i j:=by
 rcases h with⟨h1,h2⟩ | ⟨h1,h2⟩
 ·exact .of_left (intBits_le_64 h1 h2)
 ·exact .of_right (intBits_le_64 h1 h2)
theorem CI(k:Nat):(0:Int)<=2^k:=by
 rw[two_pow_cast]
 exact O5 _
theorem dZ:OpR X (binaryOp .Add) (rI0 fun i j=>.int (i+j)):=opI0 fun _ _ _ _ _ _ _ q=>add_int q
theorem jx:OpR X (binaryOp .Sub) (rI0 fun i j=>.int (i-j)):=opI0 fun _ _ _ _ _ _ _ q=>sub_int q
theorem rY:OpR X (binaryOp .Mult) (rI CMul fun i j=>.int (i*j)):=opI fun _ _ _ _ _ _ _ hc q=>mul_int q hc.ok
theorem dY:OpR X (binaryOp .FloorDiv) (rI CDiv fun i j=>.int (i/j)):=opI fun i j _ _ _ _ _ hc q=>by
 have h1:(0:Int)<j:=hc.1
 have h2:j<1073741824:=hc.2
 exact floordiv_int (by omega) (by rw[Qn i (by omega)];exact q) (.inl (PyProof.noPylong_small (by omega)))
theorem cj:OpR X (binaryOp .Mod) (rI (fun _ j=>0<j) fun i j=>.int (i%j)):=opI fun i j _ _ _ _ _ hc q=>by
 have h1:(0:Int)<j:=hc
 exact mod_int' (by omega) (by rw[Int.fmod_eq_emod_of_nonneg i (by omega)];exact q)
theorem op_pow:OpR X (binaryOp .Pow) (rI CPow fun i j=>.int (i^j.toNat)):=opI fun _ _ _ _ _ _ _ hc q=>pow_int_small hc.1 hc.2.1 hc.2.2 q
theorem de:OpR X (binaryOp .LShift) (rI CPow fun i j=>.int (i*2^j.toNat)):=opI fun _ _ _ _ _ _ _ hc q=>lshift_int_small hc.1 hc.2.1 hc.2.2 q
theorem op_shr:OpR X (binaryOp .RShift) (rI (fun _ j=>0<=j) fun i j=>.int (i/2^j.toNat)):=opI fun i j _ _ _ _ _ hc q =>
 rshift_int hc (by rw[Qn i (CI _)];exact q)
theorem FK:OpR X (binaryOp .BitAnd) (rI0 fun i j=>.int (Builtin.bitAnd i j)):=opI0 fun _ _ _ _ _ _ _ q=>and_int q
theorem C8:OpR X (binaryOp .BitOr) (rI0 fun i j=>.int (Builtin.bitOr i j)):=opI0 fun _ _ _ _ _ _ _ q=>or_int q
theorem oK:OpR X (binaryOp .BitXor) (rI0 fun i j=>.int (Builtin.bitXor i j)):=opI0 fun _ _ _ _ _ _ _ q=>xor_int q
theorem unI{f:Value->Sem Value}{g:Int->Int}
  (rule:∀(i:Int)(t:Tok)(s:Shared)(Q:Value->Shared->Prop)(E:Value->Shared->Prop),Q (.int (g i) s.toks) { s with toks:=s.toks+1 }->wpAny (model X.prog X.w) X.A (f (.int i t)) Q E s) :
  UnR X f (rU fun i=>.int (g i)):=by
 intro pins s σ H x v Q I rx h
 obtain⟨i,rfl,q⟩:=h
 obtain⟨t,rfl⟩:=rx
 exact rule i t s _ _ ⟨.int (g i),H,I.tok _,⟨_,rfl⟩,q⟩
theorem JW:UnR X (unaryOp .USub) (rU fun i=>.int (-i)):=unI fun _ _ _ _ _ q=>neg_int q
end
noncomputable def scal:V->V->Bool
 |.non,.non=>true | .non,.int _=>true | .int _,.non=>true | .non,.bl _=>true | .bl _,.non=>true | .non,.str _=>true | .str _,.non=>true
 |.int _,.int _=>true | .bl _,.bl _=>true | .str _,.str _=>true | .byt _,.byt _=>true
 |.int _,.str _=>true | .str _,.int _=>true | .bl _,.str _=>true | .str _,.bl _=>true
 |_,_=>false
noncomputable def rEq:R2:=fun x y H Q=>scal x y=true/\Q (.bl (decide (x=y))) H
noncomputable def rNe:R2:=fun x y H Q=>scal x y=true/\Q (.bl (!decide (x=y))) H
theorem G4{i j:Int}:decide (V.int i=V.int j)=(i == j):=by
 rw[PV]
 simp
theorem Kj{i j:Bool}:decide (V.bl i=V.bl j)=(i == j):=by
 rw[PV]
 simp
theorem G3{i j:Str}:decide (V.str i=V.str j)=(i == j):=by
 rw[PV]
 simp
theorem G5{i j:Array UInt8}:decide (V.byt i=V.byt j)=(i.toList == j.toList):=by
 rw[PV]
 cases i
 cases j
 simp
section
variable{X:Cx}{a b c:Expr}{ta tb tc:TE}{pos:Pos}
theorem aY{pins:List (Addr×Obj)}{σ:St}{H:Hp}{s:Shared}{Q:VK}{k k':Bool}(I:Inv X pins σ H s)(q:Q (.bl k) H)(e:k=k'):EP X pins σ Q (.bool k') s:=by
 subst e
 exact⟨.bl k,H,I,rfl,q⟩
theorem js:OpR X (compareOp .Eq) rEq:=by
 intro pins s σ H x y v u Q I rx ry h
 obtain⟨hs,q⟩:=h
 cases x with
 |non =>
  cases rx
  cases y with
  |non=>cases ry;exact PySem.EqNone.eq_none_none (aY I q (by simp))
  |bl j=>cases ry;exact PySem.EqNone.eq_none_bool (aY I q (by simp))
  |int j=>obtain⟨t',rfl⟩:=ry;exact PySem.EqNone.eq_none_int (aY I q (by simp))
  |str j=>obtain⟨t',rfl⟩:=ry;exact PySem.EqNone.eq_none_str (aY I q (by simp))
  |_=>exact absurd (show false=true from hs) Nn
 |bl i =>
  cases rx
  cases y with
  |non=>cases ry;exact PySem.EqNone.eq_bool_none (aY I q (by simp))
  |bl j=>cases ry;exact eq_bool (aY I q Kj)
  |str j=>obtain⟨t',rfl⟩:=ry;exact PySem.EqMixed.eq_bool_str (aY I q (by simp))
  |_=>exact absurd (show false=true from hs) Nn
 |int i =>
  obtain⟨t,rfl⟩:=rx
  cases y with
  |non=>cases ry;exact PySem.EqNone.eq_int_none (aY I q (by simp))
  |int j=>obtain⟨t',rfl⟩:=ry;exact eq_int (aY I q G4)
  |str j=>obtain⟨t',rfl⟩:=ry;exact PySem.EqMixed.eq_int_str (aY I q (by simp))
  |_=>exact absurd (show false=true from hs) Nn
 |str i =>
  obtain⟨t,rfl⟩:=rx
  cases y with
  |non=>cases ry;exact PySem.EqNone.eq_str_none (aY I q (by simp))
  |bl j=>cases ry;exact PySem.EqMixed.eq_str_bool (aY I q (by simp))
  |int j=>obtain⟨t',rfl⟩:=ry;exact PySem.EqMixed.eq_str_int (aY I q (by simp))
  |str j=>obtain⟨t',rfl⟩:=ry;exact eq_str (aY I q G3)
  |_=>exact absurd (show false=true from hs) Nn
 |byt i =>
  obtain⟨t,rfl⟩:=rx
  cases y with
  |byt j=>obtain⟨t',rfl⟩:=ry;exact PySem.W.eq_bytes (aY I q G5)
  |_=>exact absurd (show false=true from hs) Nn
 |_=>cases y<;>exact absurd (show false=true from hs) Nn
theorem nh:OpR X (compareOp .NotEq) rNe:=by
 intro pins s σ H x y v u Q I rx ry h
 obtain⟨hs,q⟩:=h
 cases x with
 |non =>
  cases rx
  cases y with
  |non=>cases ry;exact PySem.EqNone.ne_none_none (aY I q (by simp))
  |bl j=>cases ry;exact PySem.EqNone.ne_none_bool (aY I q (by simp))
  |int j=>obtain⟨t',rfl⟩:=ry;exact PySem.EqNone.ne_none_int (aY I q (by simp))
  |str j=>obtain⟨t',rfl⟩:=ry;exact PySem.EqNone.ne_none_str (aY I q (by simp))
  |_=>exact absurd (show false=true from hs) Nn
 |bl i =>
  cases rx
  cases y with
  |non=>cases ry;exact PySem.EqNone.ne_bool_none (aY I q (by simp))
  |bl j=>cases ry;exact ne_bool (aY I q (congrArg not Kj))
  |str j=>obtain⟨t',rfl⟩:=ry;exact PySem.EqMixed.ne_bool_str (aY I q (by simp))
  |_=>exact absurd (show false=true from hs) Nn
 |int i =>
  obtain⟨t,rfl⟩:=rx
  cases y with
  |non=>cases ry;exact PySem.EqNone.ne_int_none (aY I q (by simp))
  |int j=>obtain⟨t',rfl⟩:=ry;exact ne_int (aY I q (congrArg not G4))
  |str j=>obtain⟨t',rfl⟩:=ry;exact PySem.EqMixed.ne_int_str (aY I q (by simp))
  |_=>exact absurd (show false=true from hs) Nn
 |str i =>
  obtain⟨t,rfl⟩:=rx
  cases y with
  |non=>cases ry;exact PySem.EqNone.ne_str_none (aY I q (by simp))
  |bl j=>cases ry;exact PySem.EqMixed.ne_str_bool (aY I q (by simp))
  |int j=>obtain⟨t',rfl⟩:=ry;exact PySem.EqMixed.ne_str_int (aY I q (by simp))
  |str j=>obtain⟨t',rfl⟩:=ry;exact ne_str (aY I q (congrArg not G3))
  |_=>exact absurd (show false=true from hs) Nn
 |byt i =>
  obtain⟨t,rfl⟩:=rx
  cases y with
  |byt j=>obtain⟨t',rfl⟩:=ry;exact PySem.W.ne_bytes (aY I q (congrArg not G5))
  |_=>exact absurd (show false=true from hs) Nn
 |_=>cases y<;>exact absurd (show false=true from hs) Nn
theorem oM:OpR X (compareOp .Lt) (rI0 fun i j=>.bl (decide (i<j))):=opB0 fun _ _ _ _ _ _ _ q=>lt_int q
theorem C9:OpR X (compareOp .Gt) (rI0 fun i j=>.bl (decide (j<i))):=opB0 fun _ _ _ _ _ _ _ q=>gt_int q
theorem op_ge:OpR X (compareOp .GtE) (rI0 fun i j=>.bl (decide (j<=i))):=opB0 fun _ _ _ _ _ _ _ q=>ge_int q
theorem op_isN:OpR X (compareOp .Is) (fun x y H Q=>y=.non/\Q (.bl (decide (x=.non))) H):=by
 intro pins s σ H x y v u Q I rx ry h
 obtain⟨rfl,q⟩:=h
 cases ry
 refine is_none_gen (aY I q ?_)
 cases x<;>first
  | (cases rx;rfl)
  | (obtain⟨t,rfl⟩:=rx;rfl)
theorem FJ:OpR X (compareOp .IsNot) (fun x y H Q=>y=.non/\Q (.bl (!decide (x=.non))) H):=by
 intro pins s σ H x y v u Q I rx ry h
 obtain⟨rfl,q⟩:=h
 cases ry
 refine isnot_none_gen (aY I q ?_)
 cases x<;>first
  | (cases rx;rfl)
  | (obtain⟨t,rfl⟩:=rx;rfl)
theorem aI(b:Expr){op:CmpOp}(h:op≠.In:=by decide)(h2:op≠.NotIn:=by decide):behindInMarks op b=false:=by
 have e1:(op == CmpOp.In)=false:=by cases op<;>first | rfl | exact absurd rfl h
 have e2:(op == CmpOp.NotIn)=false:=by cases op<;>first | rfl | exact absurd rfl h2
 cases b<;>simp[behindInMarks,e1,e2]
theorem uv{op:CmpOp}{r:R2}(ho:OpR X (compareOp op) r)(ha:PE X a ta)(hb:PE X b tb)(hm:behindInMarks op b=false):PE X (.Compare a [op] [b] pos) (tOp r ta tb):=by
 intro pins s σ H Q I h
 exact wpAny_Compare1 (binT ha hb I h fun v u s2 x y H2 I2 rx ry q=>ho pins s2 σ H2 x y v u Q I2 rx ry q) hm
noncomputable def tTest(t:TE):TT:=fun σ H Q=>t σ H fun x H'=>∃ k,x=.bl k/\Q k H'
theorem aC{op:CmpOp}{r:R2}(ho:OpR X (compareOp op) r)(ha:PE X a ta)(hb:PE X b tb)(hm:behindInMarks op b=false):PT X (.Compare a [op] [b] pos) (tTest (tOp r ta tb)):=by
 intro pins s σ H Q I h
 refine wpAny_isTrue_Compare1 (thn (ha pins s σ H _ I h) fun v s1 ⟨x,H1,I1,r1,q1⟩=>thn (hb pins s1 σ H1 _ I1 q1) fun u s2 ⟨y,H2,I2,r2,q2⟩ =>
  thn (ho pins s2 σ H2 x y v u _ I2 r1 r2 q2) fun c s3 ⟨z,H3,I3,r3,k,e,q3⟩=>?_) hm
 subst e
 cases r3
 exact wpAny_truthy_bool ⟨H3,I3,q3⟩
noncomputable def tChain(r r':R2)(ta tb tc:TE):TE:=fun σ H Q=>ta σ H fun x H1=>tb σ H1 fun y H2=>r x y H2 fun z H3=>∃ k,z=.bl k /\
 (if k=true then tc σ H3 fun w' H4=>r' y w' H4 Q else Q (.bl false) H3)
theorem IB{op op':CmpOp}{r r':R2}(ho:OpR X (compareOp op) r)(ho':OpR X (compareOp op') r')(ha:PE X a ta)(hb:PE X b tb)(hc:PE X c tc)
  (hm:lastMarks [op,op'] [b,c]=false:=by with_unfolding_all rfl):PT X (.Compare a [op,op'] [b,c] pos) (tTest (tChain r r' ta tb tc)):=by
 intro pins s σ H Q I h
 refine isTrue_chain (thn (ha pins s σ H _ I h) fun v s1 ⟨x,H1,I1,r1,q1⟩=>test_link (thn (hb pins s1 σ H1 _ I1 q1) fun u s2 ⟨y,H2,I2,r2,q2⟩ =>
  thn (ho pins s2 σ H2 x y v u _ I2 r1 r2 q2) fun d s3 ⟨z,H3,I3,r3,k,e,q3⟩=>?_)) hm
 subst e
 cases r3
 refine wpAny_truthy_bool ?_
 cases k with
 |false =>
  obtain⟨k',e',q'⟩:=q3
  cases e'
  exact ite_ff ⟨H3,I3,q'⟩
 |true =>
  refine ite_tt (test_last (thn (hc pins s3 σ H3 _ I3 q3) fun w' s4 ⟨z',H4,I4,r4,q4⟩=>thn (ho' pins s4 σ H4 y z' u w' _ I4 r2 r4 q4) fun d' s5 ⟨z2,H5,I5,r5,k2,e2,q5⟩=>?_))
  subst e2
  cases r5
  exact wpAny_truthy_bool ⟨H5,I5,q5⟩
theorem r8:(sizeLine:Nat)<2^63:=by rw[sizeLine_eq];decide
theorem sZ{x:V}{us:List Value}(r:Vals [x] us):∃ u,us = [u]/\RelV x u:=by
 cases r with
 |cons r1 r2=>cases r2;exact⟨_,rfl,r1⟩
theorem KN{x y:V}{us:List Value}(r:Vals [x,y] us):∃ u w',us = [u,w']/\RelV x u/\RelV y w':=by
 cases r with
 |cons r1 r2 =>
  cases r2 with
  |cons r3 r4=>cases r4;exact⟨_,_,rfl,r1,r3⟩
theorem yw(hc:X.calm=true):nL X (.builtin "max") (fun xs H Q=>∃ i j,xs = [.int i,.int j]/\Q (.int (if j > i then j else i)) H):=by
 intro pins s σ H xs us Q I r h
 obtain⟨i,j,rfl,q⟩:=h
 obtain⟨u,w',rfl,⟨t,rfl⟩,⟨t',rfl⟩⟩:=KN r
 refine max_two_ints (I.ok.hd hc) fun h' tk k=>⟨_,H,I.kept k,?_,q⟩
 by_cases hj:j > i
 ·rw[if_pos hj,if_pos hj];exact⟨_,rfl⟩
 ·rw[if_neg hj,if_neg hj];exact⟨_,rfl⟩
theorem yx:nL X (.type "int") (fun xs H Q=>(∃ i,xs = [.int i]/\Q (.int i) H)∨∃ k,xs = [.bl k]/\Q (.int (if k then 1 else 0)) H):=by
 intro pins s σ H xs us Q I r h
 rcases h with⟨i,rfl,q⟩ | ⟨k,rfl,q⟩
 ·obtain⟨u,rfl,t,rfl⟩:=sZ r
  exact call_int_int ⟨.int i,H,I,⟨_,rfl⟩,q⟩
 ·obtain⟨u,rfl,r1⟩:=sZ r
  cases r1
  exact call_int_bool ⟨.int (if k then 1 else 0),H,I.tok _,⟨_,rfl⟩,q⟩
end
end L2
namespace L2
open PySem PySem.Spec PyProof.Rows
structure ObjM(h:Heap)(x dx C:Addr)(mA:Str->Option Value):Prop where
 obj:h.get? x=some (OF C dx)
 ns:h.Ns1 dx mA
 ne:dx≠x
theorem Ge{h:Heap}{dx:Addr}{mA:Str->Option Value}(n:h.Ns1 dx mA):∃ od,h.get? dx=some od/\∀ name,PZ name od=some (mA name):=by
 obtain⟨o,es,ep,ho,hd,hk,_,hm⟩:=n
 refine⟨o,ho,fun name=>?_⟩
 have e:=hm name
 unfold nsFind findBy at e
 rw[← Array.find?_toList]at e
 unfold PZ
 rw[hd]
 dsimp only
 split
 ·rename_i y q
  rw[q]at e
  exact congrArg some e
 ·rename_i q
  rw[q]at e
  have a:es.toList.any (·.refKey)=false:=by
   rw[List.any_eq_false]
   intro y hy
   obtain⟨z,t,hkey⟩:=hk y (Array.mem_toList_iff.mp hy)
   simp[DictEntry.refKey,hkey]
  have a':¬ es.toList.any (·.refKey)=true:=by rw[a];exact Nn
  rw[if_neg a']
  exact congrArg some e
theorem ObjM.look{h:Heap}{x dx C:Addr}{mA:Str->Option Value}(I:ObjM h x dx C mA):∃ od,PySem.W.InstAt h x (OF C dx) C (some od)/\∀ name,PZ name od=some (mA name) :=
 let ⟨od,ho,hl⟩:=Ge I.ns
 ⟨od,⟨I.obj,rfl,rfl,ho⟩,hl⟩
section
variable{prog:Program}{w:World}{A:Around}{E:Value->Shared->Prop}{s:Shared}{K:MQ}{x dx C f:Addr}{mA:Str->Option Value}{name:Str}{v:Value}
theorem Me{expr:Bool}{Q:Value->Shared->Prop}(X:K.In s.heap)(I:ObjM s.heap x dx C mA)(hg:OK K C name=true)(hh:OU K C=true)
  (ha:Nr K (.ref C) name=some none) (hv:mA name=some v) (hv':PySem.W.handedIn v=true) (h:Q v { s with toks:=s.toks+1 }) :
  wpAny (model prog w) A (getAttr (.ref x) name expr) Q E s:=by
 obtain⟨od,J,hl⟩:=I.look
 exact PySem.W.get_value X J (P0 hg).1 (PySem.W.findObj_own hh ha rfl (by rw[hl,hv])) hv' h
theorem Jy{pl:Sem Bool}{Q:Value×List Value->Shared->Prop}(X:K.In s.heap)(I:ObjM s.heap x dx C mA)(hg:OK K C name=true)
  (hf:Nr K (.ref C) name=some (some (.ref f))) (ht:O1 K (.ref f)=true) (hv:mA name=none) (h:Q (.ref f,[.ref x]) s) :
  wpAny (model prog w) A (getMethod (.ref x) name pl) Q E s:=by
 obtain⟨od,J,hl⟩:=I.look
 exact PySem.W.method_fn X J (P0 hg).1 (P0 hg).2 hf (beq_iff_eq.mp ht) (by show(PZ name od).map (·.isSome)=some false;rw[hl,hv];rfl) h
theorem K7{ns:List Str}{Q:Unit->Shared->Prop}(X:K.In s.heap)(I:ObjM s.heap x dx C mA)
  (hs:Nr K (.ref C) "__setattr__" = some (some (.builtin "object.__setattr__"))) (hp:O7 K C=true) (ht:Qg K C name=some none) (hh:OU K C=true)
  (hw:PySem.Within mA ns) (hsz:ns.length<=sizeLine)
  (h:∀ h',ObjM h' x dx C (fun y=>if y=name then some v else mA y)->Heap.SameBut dx s.heap h'->Q () { s with heap:=h',toks:=s.toks+2 }) :
  wpAny (model prog w) A (setAttr (.ref x) name v) Q E s:=by
 obtain⟨od,J,hl⟩:=I.look
 refine PySem.W.set_plain X J hs (PySem.W.osa_open (s:={ s with toks:=s.toks+1 }) (r:=none) X J hp ht fun b=>?_)
 obtain⟨cd,hc,hd'⟩:=PySem.W.any_some hh
 have hx:s.heap.get? x=some ⟨.ref C,some dx,.plain,#[]⟩:=I.obj
 refine wpAny_bind (wpAny_pure (wpAny_bind (wpAny_bind (wpAny_loadPart hx (wpAny_bind (PySem.W.Looks.here (s:={ s with toks:=s.toks+1 }) (PySem.W.looks_clsIn X hc) ?_))))))
 rw[hd']
 refine wpAny_pure (a:=some dx) (wpAny_bind (wpAny_pure (wpAny_bind ?_)))
 refine wpAny_nsSet1 (s:={ s with toks:=s.toks+1 }) I.ns fun h' hn2 hs2=>?_
 obtain⟨oD,esD,epD,hoD,hdD,hcD⟩:=hn2.count (PySem.Within.cons name v hw)
 refine wpAny_bind (wpAny_lookBehind hoD (by rw[hdD];exact pastItsLine_dict (NQ hcD (by rw[Nv];omega))) ?_)
 exact wpAny_pure (h _ ⟨(hs2.2 _ (Ne.symm I.ne)).trans I.obj,hn2,I.ne⟩ hs2)
theorem Jh{R:Result->Shared->Prop}{vs:List Value}{kw:List (Str×Value)}(X:K.In s.heap)(hm:Pj K C=true)
  (hi:Nr K (.ref C) "__init__" = some (some (.ref f))) (hf:PySem.W.typeIn K (.ref f)=some (.type "function"))
  (h:codeAny (model prog w) (A.under (.builtin "type.__call__" ⟨.ref C::vs,kw⟩)) (.call (.ref f) ⟨.ref (s.heap.objs.size+1)::vs,kw⟩) (PySem.W.InitBack (s.heap.objs.size+1) R)
   { s with heap:=(s.heap.push Oh).push (OF C s.heap.objs.size) }) :
  codeAny (model prog w) A (.call (.ref C) ⟨vs,kw⟩) R s:=by
 obtain⟨hh,g,d,t,os⟩:=s
 exact PySem.W.make_core (PySem.W.makes_of X hm) (PySem.W.looks_findIn X hi) (fun self=>PySem.W.bind_fn X self hf) (.inl rfl) h
end
noncomputable def putF(f:Str)(v:V):List (Str×V)->List (Str×V)
 |[]=>[(f,v)]
 | (g,x)::r=>if g=f then(g,v)::r else(g,x)::putF f v r
theorem ay(f g:Str)(v:V):∀ fs:List (Str×V),(putF f v fs).lookup g=if g=f then some v else fs.lookup g
 |[]=>by
  show Pm g [(f,v)]=_
  by_cases h:g=f
  ·have hb:(g == f)=true:=beq_iff_eq.mpr h
   simp only[Pm,hb,if_pos h]
  ·have hb:(g == f)=false:=beq_eq_false_iff_ne.mpr h
   simp only[Pm,hb,if_neg h]
 | (k,x)::r=>by
  have ih:=ay f g v r
  rw[show putF f v ((k,x)::r)=(if k=f then(k,v)::r else(k,x)::putF f v r) from rfl]
  by_cases hk:k=f
  ·rw[if_pos hk]
   by_cases h:g=k
   ·have hb:(g == k)=true:=beq_iff_eq.mpr h
    simp only[Pm,hb,if_pos (h.trans hk)]
   ·have hb:(g == k)=false:=beq_eq_false_iff_ne.mpr h
    simp only[Pm,hb,if_neg (fun e:g=f=>h (e.trans hk.symm))]
  ·rw[if_neg hk]
   by_cases h:g=k
   ·have hb:(g == k)=true:=beq_iff_eq.mpr h
    simp only[Pm,hb,if_neg (fun e:g=f=>hk (h.symm.trans e))]
   ·have hb:(g == k)=false:=beq_eq_false_iff_ne.mpr h
    simp only[Pm,hb]
    exact ih
theorem pz(f:Str)(v:V):∀ fs:List (Str×V),f∈(putF f v fs).map (·.1)/\∀ g,g∈fs.map (·.1)->g∈(putF f v fs).map (·.1)
 |[]=>⟨by simp[putF],fun g h=>by simp at h⟩
 | (k,x)::r=>by
  obtain⟨i1,i2⟩:=pz f v r
  rw[show putF f v ((k,x)::r)=(if k=f then(k,v)::r else(k,x)::putF f v r) from rfl]
  by_cases hk:k=f
  ·rw[if_pos hk]
   subst hk
   exact⟨by simp,fun g h=>by simpa using h⟩
  ·rw[if_neg hk]
   refine⟨?_,fun g h=>?_⟩
   ·rw[Nj]
    exact MY _ i1
   ·rw[Nj]at h ⊢
    rcases MV.mp h with e | e
    ·exact MV.mpr (.inl e)
    ·exact MY _ (i2 g e)
theorem oZ(f:Str)(v:V):∀ fs:List (Str×V),(putF f v fs).length<=fs.length+1
 |[]=>by simp[putF]
 | (k,x)::r=>by
  have ih:=oZ f v r
  rw[show putF f v ((k,x)::r)=(if k=f then(k,v)::r else(k,x)::putF f v r) from rfl]
  by_cases hk:k=f
  ·rw[if_pos hk,Nv,Nv];omega
  ·rw[if_neg hk,Nv,Nv];omega
theorem RelO.some_of{v:V}{o:Option Value}(r:RelO (some v) o):∃ u,o=some u/\RelV v u:=by
 cases o with
 |none=>exact(show False from r).elim
 |some u=>exact⟨u,rfl,r⟩
theorem RelO.none_of{o:Option Value}(r:RelO none o):o=none:=by
 cases o with
 |none=>rfl
 |some u=>exact(show False from r).elim
theorem GP{v:V}{u:Value}(r:RelV v u):PySem.W.handedIn u=true:=by
 cases v with
 |non=>cases (show u=Value.none from r);rfl
 |bl b=>cases (show u=Value.bool b from r);rfl
 |int i=>obtain⟨t,e⟩:=(show ∃ t,u=Value.int i t from r);cases e;rfl
 |str x=>obtain⟨t,e⟩:=(show ∃ t,u=Value.str x t from r);cases e;rfl
 |byt b=>obtain⟨t,e⟩:=(show ∃ t,u=Value.bytes b t from r);cases e;rfl
 |flt b=>obtain⟨t,e⟩:=(show ∃ t,u=Value.float b t from r);cases e;rfl
 |ref a=>cases (show u=Value.ref a from r);rfl
 |ty n=>cases (show u=Value.type n from r);rfl
section
variable{P:Program}{w:World}{H H':Hp}{h h':Heap}{a C dx:Addr}{fs fs':List (Str×V)}
theorem vf(hok:HOk P w H h)(e:H a=some (.ins C dx fs)):∃ mA,ObjM h a dx C mA/\(∀ f,RelO (fs.lookup f) (mA f))/\PySem.Within mA (fs.map (·.1))/\fs.length<=1000/\H dx=some (.own a):=by
 obtain⟨d,z,ne,ob,mA,n,r,q⟩:=(show bT P w H h a (.ins C dx fs) from hok a _ e)
 exact⟨mA,⟨ob,n,ne⟩,r,q,z,d⟩
end
structure Cls(K:MQ)(C:Addr):Prop where
 pg:OK K C Str.empty=true
 hd:OU K C=true
 po:O7 K C=true
 sa:Nr K (.ref C) "__setattr__" = some (some (.builtin "object.__setattr__"))
theorem Cls.get{K:MQ}{C:Addr}(c:Cls K C)(f:Str):OK K C f=true:=c.pg
noncomputable def eU(K:MQ)(C:Addr)(f:Str):Prop:=Nr K (.ref C) f=some none
theorem eU.taker{K:MQ}{C:Addr}{f:Str}(n:eU K C f):Qg K C f=some none:=by
 unfold Qg
 rw[show Nr K (.ref C) f=some none from n]
 rfl
structure Meth(K:MQ)(C:Addr)(m:Str)(f:Addr):Prop where
 at_:Nr K (.ref C) m=some (some (.ref f))
 fn:O1 K (.ref f)=true
 kp:M0 K (.ref f)=true
section
variable{X:Cx}{pins:List (Addr×Obj)}{σ:St}{H:Hp}{s:Shared}{a C dx:Addr}{fs:List (Str×V)}{f:Str}{v:V}{A:Around}{E:Value->Shared->Prop}
theorem DR{b:Bool}{Q:Value->Shared->Prop}(I:Inv X pins σ H s)(e:H a=some (.ins C dx fs))(c:Cls X.K C)(n:eU X.K C f)(l:fs.lookup f=some v)
  (h:∀ u s',Inv X pins σ H s'->RelV v u->Q u s'):wpAny (model X.prog X.w) A (getAttr (.ref a) f b) Q E s:=by
 obtain⟨mA,O,r,_,_,_⟩:=vf I.hok e
 obtain⟨u,hu,ru⟩:=RelO.some_of (v:=v) (o:=mA f) (by rw[← l];exact r f)
 exact Me I.kIn O (c.get f) c.hd n hu (GP ru) (h u _ (I.tok _) ru)
theorem DQ{m:Str}{g:Addr}{pl:Sem Bool}{Q:Value×List Value->Shared->Prop}(I:Inv X pins σ H s)(e:H a=some (.ins C dx fs))(c:Cls X.K C)(k:Meth X.K C m g)(l:fs.lookup m=none)
  (h:Q (.ref g,[.ref a]) s):wpAny (model X.prog X.w) A (getMethod (.ref a) m pl) Q E s:=by
 obtain⟨mA,O,r,_,_,_⟩:=vf I.hok e
 have hn:mA m=none:=RelO.none_of (by rw[← l];exact r m)
 exact Jy I.kIn O (c.get m) k.at_ k.fn hn h
theorem CV{y:V}{u:Value}{Q:Unit->Shared->Prop}(I:Inv X pins σ H s)(e:H a=some (.ins C dx fs))(c:Cls X.K C)(n:eU X.K C f)(hl:fs.length<1000)(ry:RelV y u)
  (h:∀ s',Inv X pins σ (upd H a (.ins C dx (putF f y fs))) s'->Q () s'):wpAny (model X.prog X.w) A (setAttr (.ref a) f u) Q E s:=by
 obtain⟨mA,O,r,wi,_,ho⟩:=vf I.hok e
 have hz:(fs.map (·.1)).length<=sizeLine:=by rw[M7,sizeLine_eq];omega
 refine K7 I.kIn O c.sa c.po n.taker c.hd wi hz fun h' O' sb=>h _ ?_
 have hd:∃ o,h'.get? dx=some o:=let ⟨o,_,_,e',_⟩:=O'.ns;⟨o,e'⟩
 refine I.write (x:=a) (e:=dx) (by rw[e];exact True.intro) (.inr ho) (fun b q hb z=>(sb.2 b hb).trans z) hd ?_
 refine⟨by rw[ao O.ne];exact ho,?_,O.ne,O'.obj,_,O'.ns,fun g=>?_,fun g hg=>?_⟩
 ·have:=oZ f y fs;omega
 ·show RelO ((putF f y fs).lookup g) (if g=f then some u else mA g)
  rw[ay]
  by_cases q:g=f
  ·rw[if_pos q,if_pos q];exact ry
  ·rw[if_neg q,if_neg q];exact r g
 ·by_cases q:g=f
  ·rw[q];exact(pz f y fs).1
  ·refine(pz f y fs).2 g (wi g fun z=>hg ?_)
   show(if g=f then some u else mA g)=none
   rw[if_neg q];exact z
theorem Inv.made(I:Inv X pins σ H s):Inv X pins σ (upd (upd H s.heap.objs.size (.own (s.heap.objs.size+1))) (s.heap.objs.size+1) (.ins C s.heap.objs.size []))
  { s with heap:=(s.heap.push Oh).push (OF C s.heap.objs.size) }:=by
 have e1:(s.heap.push Oh).get? s.heap.objs.size=some Oh:=Heap.get?_push_size s.heap rfl
 have e2:((s.heap.push Oh).push (OF C s.heap.objs.size)).get? (s.heap.objs.size+1)=some (OF C s.heap.objs.size):=by
  have:=Heap.get?_push_size (s.heap.push Oh) (o:=OF C s.heap.objs.size) rfl
  rwa[Heap.size_push]at this
 have e3:(s.heap.push Oh).Ns s.heap.objs.size (fun _=>none):=⟨Oh,#[],_,e1,rfl,(fun e he=>absurd he (by simp)),fun _=>rfl⟩
 have I1:=I.laid (a:=s.heap.objs.size) (o:=.own (s.heap.objs.size+1)) (h':=s.heap.push Oh) (t':=s.toks) (fun b u q=>Heap.get?_push_of_some _ q) (MT _) ⟨_,e1⟩
 refine I1.laid (a:=s.heap.objs.size+1) (o:=.ins C s.heap.objs.size []) (t':=s.toks) (fun b u q=>Heap.get?_push_of_some _ q) (P9 (Heap.size_push _ _)) ?_
 have ne:s.heap.objs.size≠s.heap.objs.size+1:=Nm (NR _)
 refine⟨by rw[ao ne,ag],NS _,ne,e2,fun _=>none,(Heap.Ns1.of_empty e3).at fun o q=>Heap.get?_push_of_some _ q,fun _=>True.intro,fun y hy=>absurd rfl hy⟩
theorem MC{prog:Program}{w:World}{env:Env}{e:Expr}{f:Str}{pos:Pos}{s:Shared}{Q:Value->Shared->Prop}(hb:attributeBase e f env (eval e env)=eval e env)
  (h:wpAny (model prog w) A (eval e env) (fun o s₁=>wpAny (model prog w) A (getAttr o f true) Q E s₁) E s):wpAny (model prog w) A (eval (.Attribute e f pos) env) Q E s :=
 Attribute_any_ h (by rw[arm_eval_Attribute,hb])
end
noncomputable def tFld(K:MQ)(ta:TE)(f:Str):TE:=fun σ H Q=>ta σ H fun x H1=>∃ a C dx fs v,x=.ref a/\H1 a=some (.ins C dx fs)/\Cls K C/\eU K C f/\fs.lookup f=some v/\Q v H1
noncomputable def sFld(K:MQ)(ta tv:TE)(f:Str):TS:=fun D σ H=>tv σ H fun y H1=>ta σ H1 fun x H2=>∃ a C dx fs,x=.ref a/\H2 a=some (.ins C dx fs)/\Cls K C/\eU K C f/\fs.length<1000 /\
 D.nx σ (upd H2 a (.ins C dx (putF f y fs)))
section
variable{X:Cx}{o e value:Expr}{f:Str}{pos pos' tpos:Pos}{ta tv:TE}
theorem bQ(he:PE X e ta)(hb:attributeBase e f X.env (eval e X.env)=eval e X.env):PE X (.Attribute e f pos) (tFld X.K ta f):=by
 intro pins s σ H Q I h
 refine MC hb (thn (he pins s σ H _ I h) fun u s1 ⟨x,H1,I1,rx,a,C,dx,fs,v,ex,ea,c,n,l,q⟩=>?_)
 subst ex
 obtain rfl:u=Value.ref a:=rx
 exact DR I1 ea c n l fun u' s2 I2 ru=>⟨v,H1,I2,ru,q⟩
theorem mG(ha:PE X o ta)(hv:PE X value tv)(hs:swapsWith value (some (.Attribute o f pos')) pos.line X.env=pure false):PS X (.Assign [.Attribute o f pos'] value pos) (sFld X.K ta tv f):=by
 intro pins s σ H D I h
 refine plainObj_wpAny_Assign_Attribute (thn (hv pins s σ H _ I h) fun u s1 ⟨y,H1,I1,ry,q⟩=>thn (ha pins s1 σ H1 _ I1 q) fun ov s2 ⟨x,H2,I2,rx,a,C,dx,fs,ex,ea,c,n,l,q2⟩=>?_) hs
 subst ex
 obtain rfl:ov=Value.ref a:=rx
 exact CV I2 ea c n l ry fun s3 I3=>⟨σ,_,I3,q2⟩
end
section
variable{X:Cx}{pins:List (Addr×Obj)}{σ:St}{H:Hp}{s:Shared}{A:Around}{E:Value->Shared->Prop}{Q:Value->Shared->Prop}{c:Value}{b:Bool}
inductive TyOf(K:MQ)(H:Hp):V->Value->Prop where
 |non:TyOf K H .non (.type "NoneType")
 |bl (x:Bool):TyOf K H (.bl x) (.type "bool")
 |int (i:Int):TyOf K H (.int i) (.type "int")
 |str (x:Str):TyOf K H (.str x) (.type "str")
 |flt (x:UInt64):TyOf K H (.flt x) (.type "float")
 |lst {a:Addr} {xs:List V} (e:H a=some (.lst xs)):TyOf K H (.ref a) (.type "list")
 |frz {a:Addr} {o:Obj} {xs:List V} (e:H a=some (.frz o (.lst xs))):TyOf K H (.ref a) (.type "list")
 |tup {a:Addr} {xs:List V} (e:H a=some (.tup xs)):TyOf K H (.ref a) (.type "tuple")
 |dK {a:Addr} {kvs:List (Key×V)} (e:H a=some (.dK kvs)):TyOf K H (.ref a) (.type "dict")
 |dT {a:Addr} {kvs:List (List Key×V)} (e:H a=some (.dT kvs)):TyOf K H (.ref a) (.type "dict")
 |ins {a C dx:Addr} {fs:List (Str×V)} (e:H a=some (.ins C dx fs)) (cl:Cls K C) (ha:Nr K (.ref C) "__class__" = some (some (.builtin "object.__class__")))
   (hn:PySem.W.specialIn K (.builtin "object.__class__") "__get__" = some (some (.builtin "getset_descriptor.__get__"))) (htk:PySem.W.takesIn K (.builtin "object.__class__")=some true)
   (hm:Pf K C (.type "object")=some true):TyOf K H (.ref a) (.ref C)
theorem GC{x:V}{u t:Value}(I:Inv X pins σ H s)(rx:RelV x u)(ty:TyOf X.K H x t)(e:O8 X.K t c=some b)(h:∀ tk,Q (.bool b) { s with toks:=tk }) :
  wpAny (model X.prog X.w) A (call (.builtin "isinstance") [u,c]) Q E s:=by
 cases ty with
 |non=>cases (show u=Value.none from rx);exact Og PySem.W.kitx_none I.kIn True.intro e (fun z=>nomatch z) h
 |bl y=>cases (show u=Value.bool y from rx);exact Og PySem.W.kitx_bool I.kIn True.intro e (fun z=>nomatch z) h
 |int i=>obtain⟨t,q⟩:=(show ∃ t,u=Value.int i t from rx);cases q;exact Og PySem.W.kitx_int I.kIn True.intro e (fun z=>nomatch z) h
 |str y=>obtain⟨t,q⟩:=(show ∃ t,u=Value.str y t from rx);cases q;exact Og PySem.W.kitx_str I.kIn True.intro e (fun z=>nomatch z) h
 |flt y=>obtain⟨t,q⟩:=(show ∃ t,u=Value.float y t from rx);cases q;exact Og PySem.W.kitx_float I.kIn True.intro e (fun z=>nomatch z) h
 | @lst a xs ea =>
  cases (show u=Value.ref a from rx)
  obtain⟨_,_,n,_,h1⟩:=(show bT X.prog X.w H s.heap a (.lst xs) from I.hok a _ ea)
  exact Og PySem.W.kitx_list I.kIn ⟨_,h1,rfl⟩ e (fun z=>nomatch z) h
 | @frz a ob xs ea =>
  cases (show u=Value.ref a from rx)
  obtain⟨_,_,_,n,_,h1⟩:=(show bT X.prog X.w H s.heap a (.frz ob (.lst xs)) from I.hok a _ ea)
  exact Og PySem.W.kitx_list I.kIn ⟨_,h1,rfl⟩ e (fun z=>nomatch z) h
 | @tup a xs ea =>
  cases (show u=Value.ref a from rx)
  obtain⟨_,_,_,p⟩:=(show bT X.prog X.w H s.heap a (.tup xs) from I.hok a _ ea)
  obtain⟨o,h1,h2,_⟩:=p
  exact Og PySem.W.kitx_tuple I.kIn ⟨o,h1,h2⟩ e (fun z=>nomatch z) h
 | @dK a kvs ea =>
  cases (show u=Value.ref a from rx)
  obtain⟨_,_,vs,_,p⟩:=(show bT X.prog X.w H s.heap a (.dK kvs) from I.hok a _ ea)
  obtain⟨o,es,ep,h1,h2,_⟩:=p
  exact Og PySem.W.kitx_dict I.kIn ⟨o,h1,h2.1⟩ e (fun z=>nomatch z) h
 | @dT a kvs ea =>
  cases (show u=Value.ref a from rx)
  obtain⟨_,_,xs,_,o,es,ep,h1,h2,_⟩:=(show bT X.prog X.w H s.heap a (.dT kvs) from I.hok a _ ea)
  exact Og PySem.W.kitx_dict I.kIn ⟨o,h1,h2.1⟩ e (fun z=>nomatch z) h
 | @ins a C dx fs ea cl ha hn htk hm =>
  cases (show u=Value.ref a from rx)
  obtain⟨mA,O,_⟩:=vf I.hok ea
  obtain⟨od,J,_⟩:=O.look
  exact Og (PySem.W.kitx_own (cl.get _) cl.hd ha hn htk hm) I.kIn J e (fun z=>nomatch z) h
end
end L2
namespace L2
open PySem PySem.Spec PyProof.Rows
structure Room(k:Nat)(A:Around):Prop where
 hd:A.handled=none
 dp:A.depth+3*k+5<recursionLimit
 un:A.units+16*k+200<cLine
theorem Room.mono{j k:Nat}{A:Around}(r:Room k A)(h:j<=k):Room j A:=⟨r.hd,by have:=r.dp;omega,by have:=r.un;omega⟩
theorem Room.deeper{k:Nat}{A:Around}(r:Room (k+1) A)(env:Env):Room k (A.deeper env) :=
 ⟨r.hd,by have:=r.dp;show A.depth+1+3*k+5<_;omega,by have:=r.un;show A.units+3+16*k+200<_;omega⟩
theorem Dv{A:Around}{C:Addr}{us:List Value}{kw:List (Str×Value)}:(A.under (.builtin "type.__call__" ⟨.ref C::us,kw⟩)).depth=A.depth+1:=by
 first | rfl | simp[Around.under,Code.weight,Code.isCreation,Code.isGuard,Code.isCaller,Code.frames,Code.isFrame,guardIds]
theorem Du{A:Around}{C:Addr}{us:List Value}{kw:List (Str×Value)}:(A.under (.builtin "type.__call__" ⟨.ref C::us,kw⟩)).units=A.units+1:=by
 first | rfl | simp[Around.under,Code.cUnits,Code.frames,Code.isFrame]
theorem Room.make{k:Nat}{A:Around}(r:Room (k+1) A)(C:Addr)(us:List Value)(kw:List (Str×Value)):Room k (A.under (.builtin "type.__call__" ⟨.ref C::us,kw⟩)) :=
 ⟨r.hd,by have:=r.dp;rw[Dv];omega,by have:=r.un;rw[Du];omega⟩
theorem Room.depth{k:Nat}{A:Around}(r:Room k A):A.depth<recursionLimit:=by have:=r.dp;omega
theorem Room.units{k:Nat}{A:Around}(r:Room k A):A.units+64<cLine:=by have:=r.un;omega
noncomputable def tNil:TA:=fun _ H Q=>Q [] H
noncomputable def tCons(ta:TE)(tr:TA):TA:=fun σ H Q=>ta σ H fun x H1=>tr σ H1 fun xs H2=>Q (x::xs) H2
section
variable{X:Cx}{e:Expr}{es:List Expr}{te:TE}{t:TA}{pos:Pos}
theorem aj:PA X [] tNil:=fun _ _ _ _ H Q I h=>Calls.spliced_nil ⟨[],H,I,.nil,h⟩
theorem ae(ha:PE X e te)(hr:PA X es t)(hs:starEach (e::es) X.env=(false,eval e X.env)::starEach es X.env:=by rfl):PA X (e::es) (tCons te t):=by
 intro pos pins s σ H Q I h
 rw[hs]
 show wpAny _ _ (spliced ((false,eval e X.env)::backTo pos (starEach es X.env))) _ _ s
 refine Calls.spliced_cons (thn (ha pins s σ H _ I h) fun u s1 ⟨x,H1,I1,r1,q1⟩=>?_)
 exact thn (hr pos pins s1 σ H1 _ I1 q1) fun us s2 ⟨xs,H2,I2,r2,q2⟩=>⟨x::xs,H2,I2,.cons r1 r2,q2⟩
noncomputable def tTup(t:TA):TE:=fun σ H Q=>t σ H fun xs H1=>xs.length<=sizeLine/\∀ p,H1 p=none->Q (.ref p) (upd H1 p (.tup xs))
noncomputable def tLst(t:TA):TE:=fun σ H Q=>t σ H fun xs H1=>xs.length<=sizeLine/\∀ p,H1 p=none->Q (.ref p) (upd H1 p (.lst xs))
theorem bP{x1}(h:PA X es t):PE X (.Tuple es x1 pos) (tTup t):=by
 intro pins s σ H Q I hq
 refine wpAny_Tuple_spliced (thn (h pos pins s σ H _ I hq) fun us s1 ⟨xs,H1,I1,r,z,q⟩=>⟨by rw[← r.length];exact z,?_⟩)
 have hf:H1 s1.heap.objs.size=none:=I1.hok.fresh (MT _)
 refine⟨.ref s1.heap.objs.size,upd H1 s1.heap.objs.size (.tup xs),I1.laid (t':=s1.toks) (fun b u e=>Heap.get?_push_of_some _ e) (MT _) ?_,rfl,q _ hf⟩
 exact⟨z,us,r,⟨_,Heap.get?_push_size _ rfl,rfl,_,rfl⟩⟩
theorem dm(h:PA X es t):PE X (.List es pos) (tLst t):=by
 intro pins s σ H Q I hq
 refine wpAny_List_spliced (thn (h pos pins s σ H _ I hq) fun us s1 ⟨xs,H1,I1,r,z,q⟩=>⟨by rw[← r.length];exact z,?_⟩)
 have hf:H1 s1.heap.objs.size=none:=I1.hok.fresh (MT _)
 refine⟨.ref s1.heap.objs.size,upd H1 s1.heap.objs.size (.lst xs),I1.laid (t':=s1.toks) (fun b u e=>Heap.get?_push_of_some _ e) (MT _) ?_,rfl,q _ hf⟩
 exact⟨z,us,0,r,Heap.get?_push_size _ rfl⟩
end
noncomputable abbrev Sp:=List V->Hp->VK->XK->Prop
noncomputable abbrev CXT:=List Env->Hp->Shared->XK->Value->Shared->Prop
structure Env0(P:Program)(w:World)(K:MQ)(mg:Str->Option Value)(base:Heap)(A:Around)(outer:List Env)(s:Shared)(H:Hp):Prop where
 frames:A.frames=some outer
 mod:Mod K mg base
 bs:∀ b o,base.get? b=some o->s.heap.get? b=some o/\H b=none
 bsz:base.objs.size<=s.heap.objs.size
 funs:s.heap.FunFrames base outer
 frf:∀ b∈frs outer,H b=none
 hok:HOk P w H s.heap
 bare:AllBare s.gens
noncomputable def CE(outer:List Env)(P:Program)(w:World)(H:Hp)(s:Shared)(Q:VK)(u:Value)(s':Shared):Prop :=
 ∃ v H',s'.os=s.os/\AllBare s'.gens/\Un (frs outer) [] H H' s.heap s'.heap/\HOk P w H' s'.heap/\RelV v u/\Q v H'
noncomputable def CR(CX:CXT)(outer:List Env)(P:Program)(w:World)(H:Hp)(s:Shared)(Q:VK)(E:XK)(r:Result)(s':Shared):Prop :=
 match r with
 |.ok (.ret u)=>CE outer P w H s Q u s'
 |.ok _=>False
 |.error e=>CX outer H s E e s'
structure FnOk(P:Program)(w:World)(K:MQ)(mg:Str->Option Value)(base:Heap)(CX:CXT)(k:Nat)(f:Addr)(fd:FuncData)(ps:List Str)(sp:Sp):Prop where
 len:∀ vs H Q E,sp vs H Q E->vs.length=ps.length
 run:∀(A:Around)(outer:List Env)(s:Shared)(H:Hp)(args:Args)(us:List Value)(vs:List V)(Q:VK)(E:XK),Room k A->Env0 P w K mg base A outer s H->BindsTo s fd args (ps.zip us)->Vals vs us->sp vs H Q E ->
  codeAny (model P w) A (.call (.ref f) args) (CR CX outer P w H s Q E) s
theorem Env0.make{P:Program}{w:World}{K:MQ}{mg:Str->Option Value}{base:Heap}{A:Around}{outer:List Env}{s:Shared}{H:Hp}(e:Env0 P w K mg base A outer s H)(C:Addr)(us:List Value)(kw:List (Str×Value)) :
  Env0 P w K mg base (A.under (.builtin "type.__call__" ⟨.ref C::us,kw⟩)) outer s H:=⟨by first | exact e.frames | (simpa[Around.under,Code.envs,Code.isFrame,pushEnvs] using e.frames),e.mod,e.bs,e.bsz,e.funs,e.frf,e.hok,e.bare⟩
section
variable{X:Cx}{pins:List (Addr×Obj)}{σ:St}{H:Hp}{s s':Shared}
theorem Inv.env0(I:Inv X pins σ H s):Env0 X.prog X.w X.K X.mg X.base X.A X.stack s H :=
 ⟨I.ok.frames,I.ok.mod,I.bs,NQ I.ok.bsz I.sz,I.stack,I.stkFree,I.hok,I.bare⟩
theorem Inv.after{Q:VK}{u:Value}(I:Inv X pins σ H s)(h:CE X.stack X.prog X.w H s Q u s'):EP X pins σ Q u s':=by
 obtain⟨v,H',os,bare,un,hok,r,q⟩:=h
 obtain⟨hh,g,d,t,os'⟩:=s'
 obtain rfl:os'=s.os:=os
 exact⟨v,H',I.call (h':=hh) (g':=g) (d':=d) (t':=t) (ch:=[]) un hok bare (fun b z=>absurd z (by simp)),r,q⟩
end
noncomputable def tCall(sp:Sp)(dvs:List V)(E:XK)(t:TA):TE:=fun σ H Q=>t σ H fun vs H1=>sp (vs++dvs) H1 Q E
noncomputable def tMeth(C:Addr)(m:Str)(sp:Sp)(dvs:List V)(E:XK)(ta:TE)(t:TA):TE:=fun σ H Q=>ta σ H fun x H1=>∃ a dx fs,x=.ref a/\H1 a=some (.ins C dx fs)/\fs.lookup m=none /\
 t σ H1 fun vs H2=>sp (x::(vs++dvs)) H2 Q E
noncomputable def tMake(C:Addr)(sp:Sp)(dvs:List V)(E:XK)(t:TA):TE:=fun σ H Q=>t σ H fun vs H1=>∀ x dx,H1 x=none->H1 dx=none->dx≠x ->
 sp (.ref x::(vs++dvs)) (upd (upd H1 dx (.own x)) x (.ins C dx [])) (fun v H2=>v=.non/\Q (.ref x) H2) E
noncomputable def gX(K:MQ)(fd:FuncData)(ps:List Str)(ds:List Value):Prop :=
 ∀(s:Shared)(us:List Value),K.In s.heap->(us++ds).length=ps.length->BindsTo s fd ⟨us,[]⟩ (ps.zip (us++ds))
theorem gX.all{K:MQ}{fd:FuncData}{ps:List Str}(h:∀ us:List Value,us.length=ps.length->bindArgs fd ⟨us,[]⟩=pure (ps.zip us)):gX K fd ps []:=fun s us _ hl=>by
 rw[Ow]at hl ⊢
 exact .of_eq (h us hl)
noncomputable def qI(CX:CXT)(X:Cx)(E:XK):Prop:=∀(pins:List (Addr×Obj))(σ:St)(H:Hp)(s:Shared)(e:Value)(s':Shared),Inv X pins σ H s->CX X.stack H s E e s'->X.xe e s'
section
variable{X:Cx}{CX:CXT}{k:Nat}{f C:Addr}{fd:FuncData}{ps:List Str}{sp:Sp}{dvs:List V}{ds:List Value}{E:XK}{x m:Str}{p pos apos:Pos}{e o:Expr}{es:List Expr}{ta:TE}{t:TA}
theorem Fc{pins:List (Addr×Obj)}{σ:St}{H:Hp}{s:Shared}{Q:VK}{us:List Value}{vs:List V}(F:FnOk X.prog X.w X.K X.mg X.base CX k f fd ps sp)(hr:Room k X.A)(hb:gX X.K fd ps ds)(hd:Vals dvs ds)(hx:qI CX X E)
  (I:Inv X pins σ H s) (r:Vals vs us) (h:sp (vs++dvs) H Q E):wpAny (model X.prog X.w) X.A (call (.ref f) us) (EP X pins σ Q) X.xe s:=by
 have r2:Vals (vs++dvs) (us++ds):=r.append hd
 have hl:(us++ds).length=ps.length:=by rw[← r2.length];exact F.len _ _ _ _ h
 refine wpAny_call (codeAny_mono (F.run X.A X.stack s H ⟨us,[]⟩ (us++ds) (vs++dvs) Q E hr I.env0 (hb s us I.kIn hl) r2 h) fun r s' hq=>?_)
 cases r with
 |error e=>exact hx pins σ H s e s' I hq
 |ok fl =>
  cases fl with
  |ret u=>exact I.after hq
  |next=>exact False.elim hq
  |brk=>exact False.elim hq
  |cont=>exact False.elim hq
theorem az(F:FnOk X.prog X.w X.K X.mg X.base CX k f fd ps sp)(hr:Room k X.A)(hg:Gl X x)(hm:X.mg x=some (.ref f))(hk:M0 X.K (.ref f)=true)(hb:gX X.K fd ps ds)(hd:Vals dvs ds)(hx:qI CX X E)
  (ha:PA X (e::es) t) (hdb:(x == ("__debug__" : Str))=false:=by decide) (he:starEach (e::es) X.env=(false,eval e X.env)::starEach es X.env:=by rfl) (hpl:(backTo pos (starEach es X.env)).any (·.1)=false:=by rfl) :
  PE X (.Call (.Name x p) (e::es) [] pos) (tCall sp dvs E t):=by
 intro pins s σ H Q I h
 refine wpAny_Call_Name_kw (ij I hg hm ?_ hdb)
 refine O2 (h₀:=X.base) I.ok.mod.kin hk (thn (ha pos pins s σ H _ I h) fun us s1 ⟨vs,H1,I1,r,q⟩=>⟨I1.kIn,?_⟩) he hpl
 exact Fc F hr hb hd hx I1 r q
theorem IF(F:FnOk X.prog X.w X.K X.mg X.base CX k f fd ps sp)(hr:Room k X.A)(hg:Gl X x)(hm:X.mg x=some (.ref f))(hk:M0 X.K (.ref f)=true)(hb:gX X.K fd ps ds)(hd:Vals dvs ds)(hx:qI CX X E)
  (hdb:(x == ("__debug__" : Str))=false:=by decide):PE X (.Call (.Name x p) [] [] pos) (tCall sp dvs E tNil):=by
 intro pins s σ H Q I h
 refine wpAny_Call_Name_kw (ij I hg hm ?_ hdb)
 exact PySem.W.callWith_K0 I.kIn hk (Fc (us:=[]) F hr hb hd hx I .nil h)
theorem gg{pl:Sem Bool}(he:PE X o ta)(c:Cls X.K C)(hm:Meth X.K C m f)(F:FnOk X.prog X.w X.K X.mg X.base CX k f fd ps sp)(hr:Room k X.A)(hb:gX X.K fd ps ds)(hd:Vals dvs ds)(hx:qI CX X E)
  (ht:eval (.Call (.Attribute o m apos) [] [] pos) X.env=(do
   let ov ← eval o X.env
   standAt apos.atName
   let (f,first) ← holding [ov] (getMethod ov m pl)
   callWith pos f first (backTo pos (starEach [] X.env)) (backToKw pos (keywordEach [] X.env))):=by rfl) :
  PE X (.Call (.Attribute o m apos) [] [] pos) (tMeth C m sp dvs E ta tNil):=by
 intro pins s σ H Q I h
 refine PySem.W.methodCall_KW (pl:=pl) (thn (he pins s σ H _ I h) fun u s1 ⟨x,H1,I1,rx,a,dx,fs,ex,ea,l,q⟩=>?_) ht
 subst ex
 obtain rfl:u=Value.ref a:=rx
 refine DQ I1 ea c hm l ?_
 exact PySem.W.callWith_K0 (first:=[.ref a]) I1.kIn hm.kp (Fc (us:=[.ref a]) (vs:=[.ref a]) F hr hb hd hx I1 (.cons rfl .nil) q)
structure Mk(K:MQ)(C f:Addr):Prop where
 makes:Pj K C=true
 init:Nr K (.ref C) "__init__" = some (some (.ref f))
 fn:O1 K (.ref f)=true
 kp:M0 K (.ref C)=true
theorem Iw{pins:List (Addr×Obj)}{σ:St}{H:Hp}{s:Shared}{Q:VK}{us:List Value}{vs:List V}(M:Mk X.K C f)(F:FnOk X.prog X.w X.K X.mg X.base CX k f fd ps sp)(hr:Room (k+1) X.A)(hb:gX X.K fd ps ds)(hd:Vals dvs ds)
  (hx:qI CX X E) (I:Inv X pins σ H s) (r:Vals vs us)
  (h:∀ x dx,H x=none->H dx=none->dx≠x->sp (.ref x::(vs++dvs)) (upd (upd H dx (.own x)) x (.ins C dx [])) (fun v H2=>v=.non/\Q (.ref x) H2) E) :
  wpAny (model X.prog X.w) X.A (call (.ref C) us) (EP X pins σ Q) X.xe s:=by
 have hq:=h (s.heap.objs.size+1) s.heap.objs.size (I.hok.fresh (Ov _)) (I.hok.fresh (MT _)) (Nm (NR _))
 have I2:=Inv.made (C:=C) I
 have r2:Vals (V.ref (s.heap.objs.size+1)::(vs++dvs)) (Value.ref (s.heap.objs.size+1)::(us++ds)):=.cons rfl (r.append hd)
 have hl:(Value.ref (s.heap.objs.size+1)::us++ds).length=ps.length:=by
  have e:=r2.length
  rw[F.len _ _ _ _ hq]at e
  exact e.symm
 refine wpAny_call (Jh (f:=f) I.kIn M.makes M.init (beq_iff_eq.mp M.fn) (codeAny_mono (F.run _ X.stack _ _ ⟨Value.ref (s.heap.objs.size+1)::us,[]⟩ (Value.ref (s.heap.objs.size+1)::(us++ds)) _ _ E (hr.make C us [])
  (I2.env0.make C us []) (hb _ (Value.ref (s.heap.objs.size+1)::us) I2.kIn hl) r2 hq) fun r s' hq'=>?_))
 cases r with
 |error e=>exact hx pins σ _ _ e s' I2 hq'
 |ok fl =>
  cases fl with
  |ret u =>
   obtain⟨v,H',I3,rv,ev,q3⟩:=I2.after hq'
   subst ev
   exact⟨rv,⟨V.ref (s.heap.objs.size+1),H',I3,rfl,q3⟩⟩
  |next=>exact False.elim hq'
  |brk=>exact False.elim hq'
  |cont=>exact False.elim hq'
theorem zZ(M:Mk X.K C f)(F:FnOk X.prog X.w X.K X.mg X.base CX k f fd ps sp)(hr:Room (k+1) X.A)(hg:Gl X x)(hm:X.mg x=some (.ref C))(hb:gX X.K fd ps ds)(hd:Vals dvs ds)(hx:qI CX X E)
  (ha:PA X (e::es) t) (hdb:(x == ("__debug__" : Str))=false:=by decide) (he:starEach (e::es) X.env=(false,eval e X.env)::starEach es X.env:=by rfl) (hpl:(backTo pos (starEach es X.env)).any (·.1)=false:=by rfl) :
  PE X (.Call (.Name x p) (e::es) [] pos) (tMake C sp dvs E t):=by
 intro pins s σ H Q I h
 refine wpAny_Call_Name_kw (ij I hg hm ?_ hdb)
 refine O2 (h₀:=X.base) I.ok.mod.kin M.kp (thn (ha pos pins s σ H _ I h) fun us s1 ⟨vs,H1,I1,r,q⟩=>⟨I1.kIn,?_⟩) he hpl
 exact Iw M F hr hb hd hx I1 r q
end
section
variable{X:Cx}{CX:CXT}{k:Nat}{f C:Addr}{fd:FuncData}{ps ks:List Str}{sp:Sp}{E:XK}{x m:Str}{p pos apos kpos:Pos}{e o:Expr}{es:List Expr}{kws:List Keyword}{te ta:TE}{t tk:TA}{nm:Option Str}
variable{g:List Value->List Value->List Value}{gV:List V->List V->List V}
end
structure av(N P:List Str)(sc:Scope):Prop where
 kind:sc.kind=.function
 co:sc.isCoroutine=false
 gen:sc.isGenerator=false
 nd:N.Nodup
 pre:N.take P.length=P
 par:∀ x∈P,sc.names.lookup x=some .local∨sc.names.lookup x=some .cell
 nofree:∀ y∈sc.names,y.2≠.free
theorem yA{kindOf:Str->Option NameKind}{x:Str}:∀{binds:List (Str×Value)}{m:Str->Option Value},(∀ v,(x,v)∉binds)->bindL kindOf binds m x=m x
 |[],_,_=>rfl
 | (n,v)::r,m,h=>by
  unfold bindL
  rw[yA fun w hw=>h w (MY _ hw)]
  split
  ·have:x≠n:=by rintro rfl;exact h v M3
   simp[this]
  ·rfl
theorem yC{kindOf:Str->Option NameKind}{x:Str}:∀{binds:List (Str×Value)}{m:Str->Option Value},(∀ v,(x,v)∉binds)->bindC kindOf binds m x=m x
 |[],_,_=>rfl
 | (n,v)::r,m,h=>by
  unfold bindC
  rw[yC fun w hw=>h w (MY _ hw)]
  split
  ·rfl
  ·have:x≠n:=by rintro rfl;exact h v M3
   simp[this]
theorem yB{kindOf:Str->Option NameKind}{x:Str}{v:Value}:∀{P:List Str}{vs:List Value}{i:Nat}{m:Str->Option Value},P.Nodup->P[i]?=some x->vs[i]?=some v->kindOf x=some .local ->
  bindL kindOf (P.zip vs) m x=some v
 |[],_,_,_,_,h,_,_=>by simp at h
 |_::_,[],_,_,_,_,h,_=>by simp at h
 |p::P,w::vs,0,m,nd,h1,h2,hk=>by
  simp at h1 h2;subst h1;subst h2
  show bindL kindOf ((p,w)::P.zip vs) m p=_
  unfold bindL
  rw[yA fun v hv=>(Nb.mp nd).1 (Qi hv).1,if_pos hk]
  simp
 |p::P,w::vs,i+1,m,nd,h1,h2,hk=>by
  show bindL kindOf ((p,w)::P.zip vs) m x=_
  unfold bindL
  exact yB (i:=i) (Nb.mp nd).2 (by simpa using h1) (by simpa using h2) hk
theorem yD{kindOf:Str->Option NameKind}{x:Str}{v:Value}:∀{P:List Str}{vs:List Value}{i:Nat}{m:Str->Option Value},P.Nodup->P[i]?=some x->vs[i]?=some v->kindOf x≠some .local ->
  bindC kindOf (P.zip vs) m x=some v
 |[],_,_,_,_,h,_,_=>by simp at h
 |_::_,[],_,_,_,_,h,_=>by simp at h
 |p::P,w::vs,0,m,nd,h1,h2,hk=>by
  simp at h1 h2;subst h1;subst h2
  show bindC kindOf ((p,w)::P.zip vs) m p=_
  unfold bindC
  rw[yC fun v hv=>(Nb.mp nd).1 (Qi hv).1,if_neg hk]
  simp
 |p::P,w::vs,i+1,m,nd,h1,h2,hk=>by
  show bindC kindOf ((p,w)::P.zip vs) m x=_
  unfold bindC
  exact yD (i:=i) (Nb.mp nd).2 (by simpa using h1) (by simpa using h2) hk
noncomputable def qS(N:List Str)(vs:List V):St:=vs.map some++M9 (N.length-vs.length) none
noncomputable def cxOf(CX:CXT)(P:Program)(w:World)(K:MQ)(mg:Str->Option Value)(base:Heap)(N:List Str)(qual:Str)(scope:Scope)(f:Addr)(cd:Value)(A:Around)(outer:List Env)(s:Shared)(H:Hp)(E:XK):Cx where
 prog:=P
 w:=w
 K:=K
 mg:=mg
 base:=base
 A:=A.deeper (envOfC qual scope s.heap.objs.size f cd)
 N:=N
 s₀:=s
 H₀:=H
 env:=envOfC qual scope s.heap.objs.size f cd
 outer:=outer
 stack:=envOfC qual scope s.heap.objs.size f cd::outer
 ex:=[]
 calm:=true
 fn:=fun _=>true
 pn:=[]
 xe:=fun e s'=>wpAny (model P w) (A.deeper (envOfC qual scope s.heap.objs.size f cd)) (leaving (envOfC qual scope s.heap.objs.size f cd) e) (fun _ s''=>CX outer H s E e s'') (fun e' s''=>CX outer H s E e' s'') s'
theorem CA{sc:Scope}{n:Nat}{x:Str}(h:sc.names.lookup x=some .cell):∃ c,(cellsFrom n sc.names []).lookup x=some c:=by
 have q:=PySem.W.cellsFrom_some sc.names n [] (.inl h)
 exact Pu.mp q
theorem GD{CX:CXT}{P:Program}{w:World}{K:MQ}{mg:Str->Option Value}{base:Heap}{N ps:List Str}{qual:Str}{scope:Scope}{f:Addr}{cd:Value}{A:Around}{outer:List Env}{s s1:Shared}{H:Hp}{E:XK}{us:List Value}{vs:List V}
  (S:av N ps scope) (hd:A.handled=none) (e0:Env0 P w K mg base A outer s H) (hl:vs.length=ps.length) (r:Vals vs us)
  (x:InCallC s s.heap.objs.size (bindL (envOfC qual scope s.heap.objs.size f cd).kindOf (ps.zip us) fun _=>none) (cellsFrom (s.heap.objs.size+1) scope.names []) (bindC (envOfC qual scope s.heap.objs.size f cd).kindOf (ps.zip us) fun _=>none) s1) :
  Inv (cxOf CX P w K mg base N qual scope f cd A outer s H E) [] (qS N vs) H s1:=by
 have hpl:ps.length<=N.length:=by have:=congrArg List.length S.pre;rw[Oq]at this;omega
 obtain⟨h1,tk,rfl,hk⟩:=x.done
 have noA:∀ b:Addr,b∉(cxOf CX P w K mg base N qual scope f cd A outer s H E).ex:=fun b z=>absurd (show b∈([]:List Addr) from z) (by simp)
 refine⟨⟨e0.mod,S.kind,rfl,rfl,MT _,fun y z c h1 h2=>?_,fun y hy=>?_,fun y c _ h=>?_,fun _=>hd,Around.frames_deeper e0.frames,.inr ⟨rfl,rfl⟩,fun b z=>absurd z (noA b),e0.bs,e0.bsz,fun b _ _=>noA b,fun b z=>absurd z (noA b),e0.funs,e0.frf⟩,
  rfl,e0.bare,Un.kept hk,⟨_,x.toInCall.ns,fun i y v h1 h2 h3=>?_⟩,fun y c h=>⟨_,x.cell y c h⟩,e0.hok.fresh (MT _),fun y c h=>?_,fun p hp=>absurd (show p∈([]:List (Addr×Obj)) from hp) (by simp),e0.hok.kept hk,?_⟩
 ·exact name_of_addr x.apart (Od h1) (Od h2)
 ·have hy:scope.names.lookup y=some .cell∨scope.names.lookup y=some .free:=hy
  rcases hy with hy | hy
  ·exact CA hy
  ·exact absurd rfl (S.nofree _ (Od hy))
 ·exact NM (x.above y c (Od h))
 ·have hi:i<vs.length:=by
   unfold qS at h2
   by_cases hi:i<vs.length
   ·exact hi
   ·rw[MR (by simpa using hi)]at h2
    rw[N8]at h2
    split at h2<;>cases h2
  have ha:vs[i]?=some v:=by
   unfold qS at h2
   rw[MU (by simpa using hi),Nq]at h2
   cases e:vs[i]? with
   |none=>rw[e]at h2;cases h2
   |some a=>rw[e]at h2;cases h2;rfl
  obtain⟨u,hu,rv⟩:=r.get ha
  have hp:ps[i]?=some y:=by
   rw[← S.pre,List.getElem?_take_of_lt (by omega)];exact h1
  have ndP:ps.Nodup:=by rw[← S.pre];exact S.nd.sublist (List.take_sublist _ _)
  refine⟨u,rv,?_⟩
  rcases S.par y (MP hp)with k | k
  ·exact .inl ⟨k,yB ndP hp hu k⟩
  ·obtain⟨c,e⟩:=CA (n:=s.heap.objs.size+1) k
   refine .inr ⟨.inl k,c,e,?_⟩
   have q:=x.cell y c e
   rw[yD ndP hp hu (by show scope.names.lookup y≠_;rw[k];decide)]at q
   exact q
 ·exact e0.hok.fresh (NM (x.above y c (Od h)))
 ·unfold qS
  show _=N.length
  rw[MX,M7,OC]
  omega
theorem Mg{CX:CXT}{P:Program}{w:World}{K:MQ}{mg:Str->Option Value}{base:Heap}{k:Nat}{f:Addr}{name qual:Str}{params:Arguments}{body:List Stmt}{scope:Scope}{dV kV doc pm cdv ct oc:Value}{an od:Option Addr}
  {osl:Array (Option Value)} {N ps:List Str} {sp:Sp} (lk:K.lookup f=some ⟨oc,od,.func (Nf name qual params body scope dV kV doc pm an cdv ct),osl⟩) (hcd:M8 K cdv qual=true) (S:av N ps scope)
  (len:∀ vs H Q E,sp vs H Q E->vs.length=ps.length)
  (hbody:∀(A:Around)(outer:List Env)(s:Shared)(H:Hp)(vs:List V)(Q:VK)(E:XK),Room k (A.deeper (envOfC qual scope s.heap.objs.size f cdv))->sp vs H Q E ->
   ∃ t,PSs (cxOf CX P w K mg base N qual scope f cdv A outer s H E) body t/\t { nx:=fun _ H'=>Q .non H',rt:=Q } (qS N vs) H) :
  FnOk P w K mg base CX (k+1) f (Nf name qual params body scope dV kV doc pm an cdv ct) ps sp:=by
 refine⟨len,fun A outer s H args us vs Q E hr e0 hb r hsp=>?_⟩
 have hl:=len _ _ _ _ hsp
 have KX:K.In s.heap:=e0.mod.kin.keeps fun b o e=>(e0.bs b o e).1
 have lim:s.heap.NoLimit:=e0.mod.nolimit.keeps fun b o e=>(e0.bs b o e).1
 have hkind:∀ y∈ps.zip us,scope.names.lookup y.1=some .local∨(scope.names.lookup y.1=some .cell/\((cellsFrom (s.heap.objs.size+1) scope.names []).lookup y.1).isSome=true):=fun⟨n,v⟩ hy=>by
  rcases S.par n (Qi hy).1 with q | q
  ·exact .inl q
  ·exact .inr ⟨q,PySem.W.cellsFrom_some _ _ _ (.inl q)⟩
 refine codeAny_call_function hr.depth (KX _ _ lk) rfl S.co S.gen rfl (PySem.W.codeRec_of KX hcd) (hb _ _ _ _ ?_)
 refine wpAny_newFunctionEnv_cells S.kind hkind fun env he s1 x=>?_
 subst he
 refine⟨lim.keeps x.toInCall.keep,codeAny_func ?_⟩
 obtain⟨t,ht,hq⟩:=hbody A outer s H vs Q E (hr.deeper _) hsp
 have I:Inv (cxOf CX P w K mg base N qual scope f cdv A outer s H E) [] (qS N vs) H s1:=GD S hr.hd e0 hl r x
 refine wpAny_mono (ht [] s1 (qS N vs) H _ I hq) (fun fl s' hs=>?_) fun e s' hs=>hs
 have fin:∀{σ':St}{H':Hp}{v:V}{u:Value},Inv (cxOf CX P w K mg base N qual scope f cdv A outer s H E) [] σ' H' s'->RelV v u->Q v H'->CE outer P w H s Q u s' :=
  fun{σ' H' v u} J rv q=>⟨v,H',J.os,J.bare,J.base,J.hok,rv,q⟩
 cases fl with
 |ret u =>
  obtain⟨v,σ',H',J,rv,q⟩:=hs
  exact fin J rv q
 |next =>
  obtain⟨σ',H',J,q⟩:=hs
  exact fin (v:=V.non) (u:=Value.none) J rfl q
 |brk =>
  obtain⟨_,_,_,q⟩:=hs
  exact False.elim q
 |cont =>
  obtain⟨_,_,_,q⟩:=hs
  exact False.elim q
end L2
namespace L2
open PySem PySem.Spec PyProof.Rows
section
variable{X:Cx}{x:Str}{p pos:Pos}{e:Expr}{es:List Expr}{t:TA}{id T:String}{r:List V->Hp->VK->Prop}
noncomputable def tCB(r:List V->Hp->VK->Prop)(t:TA):TE:=fun σ H Q=>t σ H fun vs H1=>r vs H1 Q
theorem aM(hc:nL X (.builtin id) r)(hg:Gl X x)(hm:X.mg x=none)(hv:bootBuiltins x=some (.builtin id))(ha:PA X (e::es) t) (hn:x≠"__name__":=by decide) (hdb:(x == ("__debug__" : Str))=false:=by decide)
  (he:starEach (e::es) X.env=(false,eval e X.env)::starEach es X.env:=by rfl) (hpl:(backTo pos (starEach es X.env)).any (·.1)=false:=by rfl):PE X (.Call (.Name x p) (e::es) [] pos) (tCB r t):=by
 intro pins s σ H Q I h
 refine wpAny_Call_Name_kw (ik I hg hm hv ?_ hn hdb)
 exact PyProof.Rows.callWith_builtin1 (thn (ha pos pins s σ H _ I h) fun us s1 ⟨vs,H1,I1,r1,q1⟩=>hc pins s1 σ H1 vs us Q I1 r1 q1) he hpl
theorem kH(hc:nL X (.type T) r)(hg:Gl X x)(hm:X.mg x=none)(hv:bootBuiltins x=some (.type T))(ha:PA X (e::es) t) (hn:x≠"__name__":=by decide) (hdb:(x == ("__debug__" : Str))=false:=by decide)
  (he:starEach (e::es) X.env=(false,eval e X.env)::starEach es X.env:=by rfl) (hpl:(backTo pos (starEach es X.env)).any (·.1)=false:=by rfl):PE X (.Call (.Name x p) (e::es) [] pos) (tCB r t):=by
 intro pins s σ H Q I h
 refine wpAny_Call_Name_kw (ik I hg hm hv ?_ hn hdb)
 exact PyProof.Rows.callWith_type1 (thn (ha pos pins s σ H _ I h) fun us s1 ⟨vs,H1,I1,r1,q1⟩=>hc pins s1 σ H1 vs us Q I1 r1 q1) he hpl
end
end L2
namespace HT
open PySem PyProof.Rows
section
open PySem.SeqAt
open PySem.AutoSeq1 (wpAny_loadPart')
open PySem.MeetsSeq PySem.MeetsSeq2 PySem.MeetsSeq3
end
section
variable{prog:Program}{w:World}{A:Around}{E:Value->Shared->Prop}{s:Shared}
noncomputable def sIx(n d:Nat):Option Int->Nat
 |none=>d
 |some v=>if v<0 then(v+(n:Int)).toNat else min v.toNat n
theorem sIx_none(n d:Nat):sIx n d none=d:=rfl
theorem sIx_nat(n d k:Nat):sIx n d (some (k:Int))=min k n:=by
 show(if(k:Int)<0 then((k:Int)+(n:Int)).toNat else min (k:Int).toNat n)=min k n
 rw[if_neg (by omega),Ng]
end
end HT
namespace L2
open PySem PySem.Spec PyProof.Rows
noncomputable abbrev TO:=St->Hp->(Option Int->Hp->Prop)->Prop
noncomputable def PO(X:Cx)(e:Option Expr)(t:TO):Prop :=
 ∀(pins:List (Addr×Obj))(s:Shared)(σ:St)(H:Hp)(Q:Option Int->Hp->Prop),Inv X pins σ H s->t σ H Q ->
  wpAny (model X.prog X.w) X.A (evalPart e X.env) (fun u s'=>∃ o H',Inv X pins σ H' s'/\IsPart u o/\Q o H') X.xe s
noncomputable def KR:TO:=fun _ H Q=>Q none H
noncomputable def tPart(t:TE):TO:=fun σ H Q=>t σ H fun x H1=>∃ i,x=.int i/\Q (some i) H1
section
variable{X:Cx}{e:Expr}{te:TE}{lo hi:Option Expr}{tl th:TO}{pos p2:Pos}
theorem zI:PO X none KR:=by
 intro pins s σ H Q I h
 rw[evalPart_none]
 exact wpAny_pure ⟨none,H,I,.none,h⟩
theorem zH(h:PE X e te):PO X (some e) (tPart te):=by
 intro pins s σ H Q I hw
 rw[evalPart_some]
 refine thn (h pins s σ H _ I hw) fun u s1 ⟨x,H1,I1,r1,q1⟩=>?_
 obtain⟨i,rfl,q⟩:=q1
 obtain⟨t,rfl⟩:=r1
 exact⟨some i,H1,I1,.int i t,q⟩
noncomputable def SlR(X:Cx)(r:V->Option Int->Option Int->Hp->VK->Prop):Prop :=
 ∀(pins:List (Addr×Obj))(s:Shared)(σ:St)(H:Hp)(x:V)(v vl vu:Value)(lo hi:Option Int)(sl:Addr)(Q:VK),Inv X pins σ H s->RelV x v->s.heap.IsSliceOf sl vl vu .none->IsPart vl lo->IsPart vu hi->r x lo hi H Q ->
  ∃ T id,typeLookup (.type T) "__getitem__" = pure (some (.builtin id))/\s.TypeIs v T/\wpAny (model X.prog X.w) X.A (getItem v (.ref sl)) (EP X pins σ Q) X.xe s
noncomputable def tSl(r:V->Option Int->Option Int->Hp->VK->Prop)(te:TE)(tl th:TO):TE:=fun σ H Q=>te σ H fun x H1=>tl σ H1 fun l H2=>th σ H2 fun u H3=>r x l u H3 Q
theorem uo{r:V->Option Int->Option Int->Hp->VK->Prop}(hr:SlR X r)(he:PE X e te)(hl:PO X lo tl)(hu:PO X hi th):PE X (.Subscript e (.Slice lo hi none p2) pos) (tSl r te tl th):=by
 intro pins s σ H Q I h
 refine Subscript_ (thn (he pins s σ H _ I h) fun v s1 ⟨x,H1,I1,r1,q1⟩=>?_)
 refine wpAny_Slice (thn (hl pins s1 σ H1 _ I1 q1) fun vl s2 ⟨l,H2,I2,pl,q2⟩=>thn (hu pins s2 σ H2 _ I2 q2) fun vu s3 ⟨u,H3,I3,pu,q3⟩=>?_)
 rw[evalPart_none]
 refine wpAny_pure ?_
 have I4:Inv X pins σ H3 { s3 with heap:=s3.heap.push { cls:=.type "slice",data:=.fields #[vl,vu,.none] } }:=I3.kept (t':=s3.toks) fun b ob q=>Heap.get?_push_of_some _ q
 obtain⟨T,id,hT,ht,hg⟩:=hr pins { s3 with heap:=s3.heap.push { cls:=.type "slice",data:=.fields #[vl,vu,.none] } } σ H3 x v vl vu l u s3.heap.objs.size Q I4 r1 (Heap.IsSliceOf.new ..) pl pu q3
 show wpAny (model X.prog X.w) X.A (subscriptTail e (.Slice lo hi none p2) v (.ref s3.heap.objs.size)) (EP X pins σ Q) X.xe { s3 with heap:=s3.heap.push { cls:=.type "slice",data:=.fields #[vl,vu,.none] } }
 exact tail_any (ops:=[.ref s3.heap.objs.size,v]) ht hT hg (by with_unfolding_all rfl)
noncomputable def cutV(xs:List V)(lo hi:Option Int):List V:=(xs.drop (HT.sIx xs.length 0 lo)).take (HT.sIx xs.length xs.length hi-HT.sIx xs.length 0 lo)
theorem Bn(xs:List V)(lo hi:Option Int):(cutV xs lo hi).length<=xs.length:=by
 unfold cutV
 rw[Oq,Qc]
 omega
end
end L2
namespace L2
open PySem PySem.Spec PyProof.Rows
noncomputable def ixN(n:Nat)(i:Int):Option Nat:=if 0<=i then(if i<n then some i.toNat else none) else if -(n:Int)<=i then some (i+n).toNat else none
noncomputable def atI{α:Type}(xs:List α)(i:Int):Option α:=(ixN xs.length i).bind fun j=>xs[j]?
theorem A4{n:Nat}{i:Int}{j:Nat}(h:ixN n i=some j):seqIndex? i n=some j/\j<n/\-(n:Int)<=i/\i<n:=by
 unfold ixN at h
 by_cases h0:0<=i
 ·rw[if_pos h0]at h
  by_cases h1:i<n
  ·rw[if_pos h1]at h
   have e:i.toNat=j:=Ni h
   exact⟨by rw[seqIndex_of h0 h1,e],by omega,by omega,h1⟩
  ·rw[if_neg h1]at h;cases h
 ·rw[if_neg h0]at h
  by_cases h1 : -(n:Int)<=i
  ·rw[if_pos h1]at h
   have e:(i+n).toNat=j:=Ni h
   exact⟨by rw[seqIndex_neg (by omega) h1,e],by omega,h1,by omega⟩
  ·rw[if_neg h1]at h;cases h
theorem HH{α:Type}{xs:List α}{i:Int}{v:α}(h:atI xs i=some v):∃ j,seqIndex? i xs.length=some j/\xs[j]?=some v/\j<xs.length/\-(xs.length:Int)<=i/\i<xs.length:=by
 unfold atI at h
 cases e:ixN xs.length i with
 |none=>rw[e]at h;cases h
 |some j =>
  rw[e]at h
  obtain⟨h1,h2,h3,h4⟩:=A4 e
  exact⟨j,h1,h,h2,h3,h4⟩
theorem aJ{α:Type}{xs:List α}{j:Nat}{v:α}(h:xs[j]?=some v):atI xs (j:Int)=some v:=by
 have hj:j<xs.length:=(MO.mp h).1
 have e:ixN xs.length (j:Int)=some j:=by
  unfold ixN
  rw[if_pos (by omega),if_pos (by omega)];simp
 unfold atI;rw[e];exact h
noncomputable def MJ(b:Expr):Prop:=∀ o i,subscripted b false o i=operate [o,i] (getItem o i)
noncomputable def IxR(X:Cx)(r:R2):Prop :=
 ∀(value slice:Expr)(pins:List (Addr×Obj))(s:Shared)(σ:St)(H:Hp)(x y:V)(v u:Value)(Q:VK),Inv X pins σ H s->RelV x v->RelV y u->r x y H Q ->
  subscripted slice false v u=operate [v,u] (getItem v u)->wpAny (model X.prog X.w) X.A (subscriptTail value slice v u) (EP X pins σ Q) X.xe s
noncomputable def MtR(X:Cx)(id:String)(r:V->List V->Hp->VK->Prop):Prop :=
 ∀(pins:List (Addr×Obj))(s:Shared)(σ:St)(H:Hp)(x:V)(xs:List V)(v:Value)(us:List Value)(Q:VK),Inv X pins σ H s->RelV x v->Vals xs us->r x xs H Q ->
  wpAny (model X.prog X.w) X.A (call (.builtin id) (v::us)) (EP X pins σ Q) X.xe s
section
variable{X:Cx}{a b:Expr}{ta tb:TE}{pos:Pos}
theorem aD{r:R2}(hr:IxR X r)(ha:PE X a ta)(hb:PE X b tb)(hs:MJ b):PE X (.Subscript a b pos) (tOp r ta tb):=by
 intro pins s σ H Q I h
 exact Subscript_ (binT ha hb I h fun v u s2 x y H2 I2 rx ry q=>hr a b pins s2 σ H2 x y v u Q I2 rx ry q (hs _ _))
noncomputable def rIxL(K:MQ):R2:=fun x y H Q=>∃ p xs i v,x=.ref p/\y=.int i/\SqL K H p xs/\atI xs i=some v/\Q v H
noncomputable def rIxT(K:MQ):R2:=fun x y H Q=>∃ p xs i v,x=.ref p/\y=.int i/\SqT K H p xs/\atI xs i=some v/\Q v H
theorem aA:IxR X (rIxL X.K):=by
 intro value slice pins s σ H x y v u Q I rx ry h hs
 obtain⟨p,xs,i,z,rfl,rfl,hq,he,q⟩:=h
 cases rx
 obtain⟨t,rfl⟩:=ry
 obtain⟨its,r,pl,hz⟩:=I.list hq
 obtain⟨j,h1,h2,h3,h4,h5⟩:=HH he
 obtain⟨w,ew,rw'⟩:=r.get h2
 have hl:=r.length
 have hn:=r8
 have fin:EP X pins σ Q w s:=⟨z,H,I,rw',q⟩
 by_cases h0:0<=i
 ·have hj:i.toNat=j:=by
   rw[seqIndex_of h0 h5]at h1
   exact Ni h1
  exact item_listR pl.isList h0 (by omega) (by rw[hj];simpa using ew) fin hs
 ·have hj:(i+(its.toArray.size:Int)).toNat=j:=by
   rw[seqIndex_neg (by omega) h4]at h1
   rw[Np,← hl]
   exact Ni h1
  exact subscriptTail_builtinR (x:=w) pl.isList.typeIs slot_list_getitem.lookup
   (wpAny_getItem_list_neg (Q:=fun r s'=>r=w/\EP X pins σ Q r s') pl.isList (by omega) (by rw[Np]<;>omega) (by omega) (by rw[hj];simpa using ew) ⟨rfl,fin⟩) hs
theorem aS:IxR X (rIxT X.K):=by
 intro value slice pins s σ H x y v u Q I rx ry h hs
 obtain⟨p,xs,i,z,rfl,rfl,hq,he,q⟩:=h
 cases rx
 obtain⟨t,rfl⟩:=ry
 obtain⟨its,r,pl,hz⟩:=I.tuple hq
 obtain⟨j,h1,h2,h3,h4,h5⟩:=HH he
 obtain⟨w,ew,rw'⟩:=r.get h2
 have hl:=r.length
 have hn:=r8
 have fin:EP X pins σ Q w s:=⟨z,H,I,rw',q⟩
 exact subscriptTail_builtinR (x:=w) pl.typeIs slot_tuple_getitem.lookup
  (getItem_tuple (j:=j) (Q:=fun r s'=>r=w/\EP X pins σ Q r s') pl (by omega) (by omega) (by rw[Np,← hl];exact h1) (by simpa using ew) ⟨rfl,fin⟩) hs
theorem Dt(its:List Value)(n j:Nat)(u:Value):Obj.mapSeq (·.setIfInBounds j u) { cls:=.type "list",data:=.seq its.toArray n }={ cls:=.type "list",data:=.seq (its.set j u).toArray n }:=by
 simp[Obj.mapSeq]
theorem Inv.lst{pins:List (Addr×Obj)}{σ:St}{H:Hp}{s:Shared}{p:Addr}{xs:List V}(I:Inv X pins σ H s)(h:H p=some (.lst xs)) :
  ∃(its:List Value)(n:Nat),Vals xs its/\s.heap.get? p=some { cls:=.type "list",data:=.seq its.toArray n }/\xs.length<=sizeLine:=by
 obtain⟨z,its,n,r,e⟩:=I.hok p _ h
 exact⟨its,n,r,e,z⟩
theorem Inv.lstUpd{pins:List (Addr×Obj)}{σ:St}{H:Hp}{s:Shared}{p:Addr}{xs ys:List V}{its its':List Value}{n n':Nat}{f:Obj->Obj}(I:Inv X pins σ H s)(h:H p=some (.lst xs))
  (ho:s.heap.get? p=some { cls:=.type "list",data:=.seq its.toArray n }) (hf:f { cls:=.type "list",data:=.seq its.toArray n }={ cls:=.type "list",data:=.seq its'.toArray n' }) (r:Vals ys its') (hz:ys.length<=sizeLine) (t:Nat) :
  Inv X pins σ (upd H p (.lst ys)) { s with heap:=s.heap.update p f,toks:=t }:=by
 have e:(s.heap.update p f).get? p=some { cls:=.type "list",data:=.seq its'.toArray n' }:=by
  rw[Heap.get?_update_self f ho (by rw[hf]<;>rfl),hf]
 refine I.write (x:=p) (e:=p) (by rw[h];trivial) (.inl rfl) (fun b u hb q=>(Heap.get?_update_other _ _ (Ne.symm hb)).trans q) ⟨_,e⟩ ?_
 exact⟨hz,its',n',r,e⟩
noncomputable def rSetL:V->V->V->Hp->(Hp->Prop)->Prop:=fun o i v H Q=>∃ p xs k j,o=.ref p/\i=.int k/\H p=some (.lst xs)/\ixN xs.length k=some j/\Q (upd H p (.lst (xs.set j v)))
theorem nN:PSet X rSetL:=by
 intro pins s σ H o i v ov iv u Q I ro ri rv h
 obtain⟨p,xs,k,j,rfl,rfl,hp,hj,q⟩:=h
 cases ro
 obtain⟨t,rfl⟩:=ri
 obtain⟨its,n,r,ho,hz⟩:=I.lst hp
 obtain⟨h1,h2,h3,h4⟩:=A4 hj
 have hl:=r.length
 have hn:=r8
 have I':Inv X pins σ (upd H p (.lst (xs.set j v))) { s with heap:=s.heap.update p (Obj.mapSeq (·.setIfInBounds j u)) } :=
  I.lstUpd hp ho (Dt its n j u) (r.set rv j) (by rw[Ob];exact hz) s.toks
 by_cases h0:0<=k
 ·have hk:k.toNat=j:=by
   rw[seqIndex_of h0 h4]at h1
   exact Ni h1
  exact PySem.W.ki_setAt ho h0 (by omega) (by rw[Np,← hl];exact h4) (by rw[hk];exact⟨_,I',q⟩)
 ·have hk:(k+(its.toArray.size:Int)).toNat=j:=by
   rw[seqIndex_neg (by omega) h3]at h1
   rw[Np,← hl]
   exact Ni h1
  exact PySem.W.ki_setBack ho (by omega) (by rw[Np,← hl];exact h3) (by omega) (by rw[hk];exact⟨_,I',q⟩)
theorem wx(lo hi:Option Int)(n:Nat):(sliceBounds lo hi none n).1=((HT.sIx n 0 lo:Nat):Int)/\(sliceBounds lo hi none n).2.1=((HT.sIx n n hi:Nat):Int)/\(sliceBounds lo hi none n).2.2=1:=by
 refine⟨?_,?_,rfl⟩
 ·cases lo with
  |none=>simp[sliceBounds,HT.sIx]
  |some i =>
   simp only[sliceBounds,HT.sIx,Option.getD_none,show(1:Int) > 0 by decide,if_true]
   by_cases h:i<0
   ·simp only[h,if_true]<;>omega
   ·simp only[h,if_false]<;>omega
 ·cases hi with
  |none=>simp[sliceBounds,HT.sIx]
  |some i =>
   simp only[sliceBounds,HT.sIx,Option.getD_none,show(1:Int) > 0 by decide,if_true]
   by_cases h:i<0
   ·simp only[h,if_true]<;>omega
   ·simp only[h,if_false]<;>omega
theorem tJ(its:List Value)(lo hi:Option Int):slicePick its.toArray lo hi none=((its.drop (HT.sIx its.length 0 lo)).take (HT.sIx its.length its.length hi-HT.sIx its.length 0 lo)).toArray:=by
 obtain⟨h1,h2,h3⟩:=wx lo hi its.toArray.size
 unfold slicePick
 rw[h1,h2,h3]
 simp only[sliceRange_one,pick_run,Np]<;>rfl
noncomputable def rSlL(K:MQ):V->Option Int->Option Int->Hp->VK->Prop:=fun x lo hi H Q=>∃ a xs,x=.ref a/\SqL K H a xs/\∀ p,H p=none->Q (.ref p) (upd H p (.lst (cutV xs lo hi)))
theorem zh:SlR X (rSlL X.K):=by
 intro pins s σ H x v vl vu lo hi sl Q I rx hs pl pu h
 obtain⟨a,xs,rfl,hx,q⟩:=h
 cases rx
 obtain⟨its,r,ht,hz⟩:=I.list hx
 have hlen:=r.length
 refine⟨"list",_,slot_list_getitem.lookup,ht.isList.typeIs,?_⟩
 refine wpAny_getItem_list_slice ht.isList hs pl pu .none (by simp) ?_ (by rw[Np]<;>omega)
 rw[tJ,← hlen]
 refine⟨.ref s.heap.objs.size,_,I.laid (t':=s.toks) (o:=.lst (cutV xs lo hi)) (fun b ob q=>Heap.get?_push_of_some _ q) (MT _) ?_,rfl,q _ (I.hok.fresh (MT _))⟩
 exact⟨NQ (Bn xs lo hi) hz,_,0,(r.drop (HT.sIx xs.length 0 lo)).take (HT.sIx xs.length xs.length hi-HT.sIx xs.length 0 lo),Heap.get?_push_size _ rfl⟩
theorem aF:nL X (.builtin "len") (fun xs H Q=>∃ p ys,xs = [.ref p]/\(SqL X.K H p ys∨SqT X.K H p ys)/\Q (.int ys.length) H):=by
 intro pins s σ H xs us Q I r h
 obtain⟨p,ys,rfl,hq,q⟩:=h
 obtain⟨u,rfl,rx⟩:=sZ r
 cases rx
 have hn:=r8
 rcases hq with hq | hq
 ·obtain⟨its,r',pl,hz⟩:=I.list hq
  have hlen:=r'.length
  exact Calls.call_len_list pl.isList (by simp only[Np]<;>omega) ⟨.int ys.length,H,I.tok _,⟨s.toks+1,by rw[Np,hlen]⟩,q⟩
 ·obtain⟨its,r',pl,hz⟩:=I.tuple hq
  have hlen:=r'.length
  exact len_tuple pl (by simp only[Np]<;>omega) ⟨.int ys.length,H,I.tok _,⟨s.toks+1,by rw[Np,hlen]⟩,q⟩
theorem mR:nL X (.type "list") (fun xs H Q=>∃ p ys,xs = [.ref p]/\(SqL X.K H p ys∨SqT X.K H p ys)/\∀ l,H l=none->Q (.ref l) (upd H l (.lst ys))):=by
 intro pins s σ H xs us Q I r h
 obtain⟨p,ys,rfl,hq,q⟩:=h
 obtain⟨u,rfl,rx⟩:=sZ r
 cases rx
 have fin:∀(its:List Value),Vals ys its->ys.length<=sizeLine->∀(h':Heap)(c':Nat),(∀ b o',s.heap.get? b=some o'->h'.get? b=some o') ->
   h'.get? s.heap.objs.size=some { cls:=.type "list",dict:=none,data:=.seq its.toArray c',slots:=#[] }->EP X pins σ Q (.ref s.heap.objs.size) { s with heap:=h' }:=fun its r' hz h' c' kp e =>
  ⟨.ref s.heap.objs.size,_,I.laid (t':=s.toks) kp (MT _) (show bT X.prog X.w _ h' _ (.lst ys) from⟨hz,its,c',r',e⟩),rfl,q _ (I.hok.fresh (MT _))⟩
 rcases hq with hq | hq
 ·obtain⟨its,r',pl,hz⟩:=I.list hq
  have hlen:=r'.length
  obtain⟨o,ho,hc,n,hd⟩:=pl.isList
  exact call_list_seq p (.inl rfl) ho hc hd (fun h' c' kp e=>fin its r' hz h' c' kp e) (by simp only[Np]<;>omega)
 ·obtain⟨its,r',pl,hz⟩:=I.tuple hq
  have hlen:=r'.length
  obtain⟨o,ho,hc,n,hd⟩:=pl
  exact call_list_seq p (.inr rfl) ho hc hd (fun h' c' kp e=>fin its r' hz h' c' kp e) (by simp only[Np]<;>omega)
noncomputable def tyV(K:MQ)(T:String)(x:V)(H:Hp):Prop:=match x with
 |.str _=>T = "str"
 |.int _=>T = "int"
 |.ref p=>(T = "list"/\∃ xs,SqL K H p xs)∨(T = "tuple"/\∃ o,K.lookup p=some o/\o.cls=.type "tuple"/\o.dict=none) ∨
   (T = "dict"/\((∃ kvs,H p=some (.dK kvs))∨∃ kvs,H p=some (.dT kvs)))∨(T = "set"/\∃ S n,H p=some (.set S n))
 |_=>False
theorem tyV_is{pins:List (Addr×Obj)}{σ:St}{H:Hp}{s:Shared}{T:String}{x:V}{v:Value}(I:Inv X pins σ H s)(r:RelV x v)(ty:tyV X.K T x H) :
  s.TypeIs v T/\∀ a,v=.ref a->∃ ob,s.heap.get? a=some ob/\ob.dict=none:=by
 cases x with
 |str z =>
  obtain⟨t,rfl⟩:=r
  cases (show T = "str" from ty)
  exact⟨typeIs_str s z t,fun _ e=>nomatch e⟩
 |int i =>
  obtain⟨t,rfl⟩:=r
  cases (show T = "int" from ty)
  exact⟨typeIs_int s i t,fun _ e=>nomatch e⟩
 |ref p =>
  cases r
  rcases ty with⟨rfl,xs,hq⟩ | ⟨rfl,o,hk,hc,hd⟩ | ⟨rfl,hk⟩ | ⟨rfl,S,n,hk⟩
  ·obtain⟨its,_,pl,_⟩:=I.list hq
   refine⟨pl.isList.typeIs,fun a e=>?_⟩
   cases e
   obtain⟨o,n,e,c,hd,_⟩:=pl
   exact⟨o,e,hd⟩
  ·refine⟨⟨o,I.kIn p o hk,hc⟩,fun a e=>?_⟩
   cases e
   exact⟨o,I.kIn _ o hk,hd⟩
  ·have z:∃ o,s.heap.get? p=some o/\o.ExactDict:=by
    rcases hk with⟨kvs,hk⟩ | ⟨kvs,hk⟩
    ·obtain⟨_,_,_,_,o,_,_,e,ex,_⟩:=I.hok p _ hk
     exact⟨o,e,ex⟩
    ·obtain⟨_,_,_,_,o,_,_,e,ex,_⟩:=I.hok p _ hk
     exact⟨o,e,ex⟩
   obtain⟨o,e,ex⟩:=z
   refine⟨⟨o,e,ex.1⟩,fun a e2=>?_⟩
   cases e2
   exact⟨o,e,ex.2.1⟩
  ·obtain⟨o,_,_,_,e,ex,_⟩:=I.hok p _ hk
   refine⟨⟨o,e,ex.1⟩,fun a e2=>?_⟩
   cases e2
   exact⟨o,e,ex.2.1⟩
 |_=>exact False.elim ty
noncomputable def tBM(K:MQ)(T:String)(r:V->List V->Hp->VK->Prop)(to:TE)(t:TA):TE:=fun σ H Q=>to σ H fun x H1=>tyV K T x H1/\t σ H1 fun xs H2=>r x xs H2 Q
variable{o e:Expr}{es:List Expr}{to:TE}{t:TA}{name:Str}{apos cpos:Pos}{T id:String}{r:V->List V->Hp->VK->Prop}
theorem kK(pa:PlainAttrs T)(slot:Slot T name id) (hty:typeOf (.builtin id)=pure (.type "method_descriptor")) (hm:MtR X id r) (ho:PE X o to) (ha:PA X (e::es) t)
  (hbase:attributeBase o name X.env (eval o X.env)=eval o X.env:=by rfl)
  (hfew:((backTo cpos (starEach (e::es) X.env)).all (fun x=>!x.1)&&(backToKw cpos (keywordEach [] X.env)).all (fun x=>x.1.isSome)
   && decide ((e::es).length+([]:List Keyword).length+(if([]:List Keyword).isEmpty then 0 else 1)<30))=true:=by rfl)
  (hline:(apos.endLine == cpos.line)=true:=by rfl) (hs:starEach (e::es) X.env=(false,eval e X.env)::starEach es X.env:=by rfl) (hplain:(backTo cpos (starEach es X.env)).any (·.1)=false:=by rfl) :
  PE X (.Call (.Attribute o name apos) (e::es) [] cpos) (tBM X.K T r to t):=by
 intro pins s σ H Q I h
 refine wpAny_Call_method_late hbase hfew hline rfl (thn (ho pins s σ H _ I h) fun v s1 ⟨x,H1,I1,r1,ty,q1⟩=>?_)
 obtain⟨h1,h2⟩:=tyV_is I1 r1 ty
 refine⟨T,id,pa,slot,hty,h1,h2,?_⟩
 have hA:=ha cpos pins s1 σ H1 _ I1 q1
 rw[hs]at hA ⊢
 refine Calls.callWith_builtin (by show(false||(backTo cpos (starEach es X.env)).any (·.1))=false;rw[hplain]<;>rfl) (Calls.evalArgs_plain ?_)
 exact thn hA fun us s2 ⟨vs,H2,I2,r2,q2⟩=>hm pins s2 σ H2 x vs v us Q I2 r1 r2 q2
end
end L2
namespace L2
open PySem PySem.Spec PyProof.Rows
noncomputable def MtM(X:Cx)(id:String)(r:V->List V->Hp->VK->Prop):Prop :=
 ∀(pins:List (Addr×Obj))(s:Shared)(σ:St)(H:Hp)(x:V)(xs:List V)(v:Value)(us:List Value)(Q:VK),Inv X pins σ H s->RelV x v->Vals xs us->r x xs H Q ->
  wpAny (model X.prog X.w) X.A (call (.builtin id) (v::us)) (EP X pins σ Q) X.xe s
theorem Vals.one:∀{x:V}{us:List Value},Vals [x] us->∃ u,us = [u]/\RelV x u
 |_,_,.cons r .nil=>⟨_,rfl,r⟩
theorem Vals.eraseIdx:∀{xs:List V}{us:List Value}(i:Nat),Vals xs us->Vals (xs.eraseIdx i) (us.eraseIdx i)
 |_,_,_,.nil=>.nil
 |_,_,0,.cons _ t=>t
 |_,_,i+1,.cons r t=>.cons r (Vals.eraseIdx i t)
theorem Vals.reverse{xs:List V}{us:List Value}(h:Vals xs us):Vals xs.reverse us.reverse:=by
 induction h with
 |nil=>exact .nil
 |cons r t ih=>rw[P8,P8];exact Vals.append ih (.cons r .nil)
theorem xI{α:Type}:∀(l:List α)(i:Nat),(l.eraseIdx i).length<=l.length
 |[],_=>MT _
 |_::_,0=>Ov _
 |_::r,i+1=>Nat.succ_le_succ (xI r i)
section
variable{X:Cx}{pins:List (Addr×Obj)}{σ:St}{H:Hp}{s:Shared}{l b:Addr}{xs ys zs:List V}
theorem Inv.lset{its its':List Value}{n:Nat}{f:Array Value->Array Value}{t':Nat}(I:Inv X pins σ H s)(hH:H l=some (.lst xs))
  (e:s.heap.get? l=some { cls:=.type "list",data:=.seq its.toArray n }) (hf:f its.toArray=its'.toArray) (hv:Vals ys its') (hz:ys.length<=sizeLine) :
  Inv X pins σ (upd H l (.lst ys)) { s with heap:=s.heap.update l (Obj.mapSeq f),toks:=t' }:=by
 have q:=PySem.IsL.update e f
 rw[hf]at q
 refine I.write (x:=l) (e:=l) (by rw[hH];exact trivial) (.inl rfl) (fun b' u hb hu=>(Heap.get?_update_other s.heap (Obj.mapSeq f) (Ne.symm hb)).trans hu) ⟨_,q⟩ ?_
 exact⟨hz,its',_,hv,q⟩
theorem Inv.lnew{its:List Value}{t':Nat}(I:Inv X pins σ H s)(hv:Vals ys its)(hz:ys.length<=sizeLine) :
  Inv X pins σ (upd H s.heap.objs.size (.lst ys)) { s with heap:=s.heap.push { cls:=.type "list",data:=.seq its.toArray },toks:=t' } :=
 I.laid (fun _ _ q=>Heap.get?_push_of_some _ q) (MT _) ⟨hz,its,0,hv,Heap.get?_push_size _ rfl⟩
theorem Inv.fresh(I:Inv X pins σ H s):H s.heap.objs.size=none:=I.hok.fresh (MT _)
theorem Inv.lstM(I:Inv X pins σ H s)(hH:H l=some (.lst xs)):xs.length<=sizeLine/\∃(its:List Value)(n:Nat),Vals xs its/\xs.length=its.length/\s.heap.get? l=some { cls:=.type "list",data:=.seq its.toArray n }:=by
 obtain⟨z,its,n,r,e⟩:=I.hok l _ hH
 exact⟨z,its,n,r,r.length,e⟩
end
section
variable{X:Cx}
noncomputable def Lc:V->List V->Hp->VK->Prop:=fun x vs H Q=>∃ l xs y,x=.ref l/\vs = [y]/\H l=some (.lst xs)/\xs.length<sizeLine/\Q .non (upd H l (.lst (xs++[y])))
theorem bu:MtM X "list.append" Lc:=by
 intro pins s σ H x vs v us Q I rx rv h
 obtain⟨l,xs,y,rfl,rfl,hH,hz,q⟩:=h
 cases rx
 obtain⟨u,rfl,ru⟩:=rv.one
 obtain⟨z,its,n,r,hl,e⟩:=I.lstM hH
 refine call_meets F.slot_list_append ⟨_,e,rfl⟩ F.entry_list_append (F.args_list_append_2 _ _) (PySem.list_append l its.toArray n u (by rw[Np];omega)) ⟨e,?_⟩
 refine⟨.non,_,I.lset (its':=its++[u]) hH e (by simp) (r.append (.cons ru .nil)) ?_,rfl,q⟩
 rw[MX,Nc]
 omega
noncomputable def rPopAt:V->List V->Hp->VK->Prop:=fun x vs H Q=>∃ l xs i k y,x=.ref l/\vs = [.int i]/\H l=some (.lst xs)/\-(2^63)<=i/\i<2^63/\seqIndex? i xs.length=some k/\xs[k]?=some y/\Q y (upd H l (.lst (xs.eraseIdx k)))
theorem Jc:MtM X "list.pop" rPopAt:=by
 intro pins s σ H x vs v us Q I rx rv h
 obtain⟨l,xs,i,k,y,rfl,rfl,hH,h1,h2,hk,hy,q⟩:=h
 cases rx
 obtain⟨u,rfl,ru⟩:=rv.one
 obtain⟨t,rfl⟩:=ru
 obtain⟨z,its,n,r,hl,e⟩:=I.lstM hH
 obtain⟨w,hw,rw'⟩:=r.get hy
 refine call_meets F.slot_list_pop ⟨_,e,rfl⟩ F.entry_list_pop (F.args_list_pop_2 _ _)
  (MeetsSeq.list_pop_at l its.toArray n i t k w (fitsIndex_both h1 h2) (by rw[Np,← hl];exact hk) (by rw[← PX];exact hw) (by rw[Np];omega)) ⟨e,?_⟩
 refine⟨y,_,I.lset (its':=its.eraseIdx k) hH e ?_ (r.eraseIdx k) ?_,rw',q⟩
 ·show its.toArray.eraseIdxIfInBounds k=(its.eraseIdx k).toArray
  rw[List.eraseIdxIfInBounds_toArray]
 ·have:=xI xs k
  omega
noncomputable def rCat:R2:=fun x y H Q=>∃ l b xs zs,x=.ref l/\y=.ref b/\H l=some (.lst xs)/\H b=some (.lst zs)/\xs.length+zs.length<=sizeLine/\∀ p,H p=none->Q (.ref p) (upd H p (.lst (xs++zs)))
theorem op_cat:OpR X (binaryOp .Add) rCat:=by
 intro pins s σ H x y v u Q I rx ry h
 obtain⟨l,b,xs,zs,rfl,rfl,hH,hB,hz,q⟩:=h
 cases rx
 cases ry
 obtain⟨z,its,n,r,hl,e⟩:=I.lstM hH
 obtain⟨z2,its2,n2,r2,hl2,e2⟩:=I.lstM hB
 refine PySem.P.add_list e e2 ?_ (by rw[Np,Np];omega)
 have ea:its.toArray++its2.toArray=(its++its2).toArray:=by simp
 rw[ea]
 exact⟨.ref _,_,I.lnew (t':=s.toks) (r.append r2) (by rw[MX];omega),rfl,q _ I.fresh⟩
end
section
variable{prog:Program}{w:World}{A:Around}{E:Value->Shared->Prop}{s:Shared}
end
section
variable{X:Cx}
end
end L2
namespace Att
open PySem PySem.W PySem.Calls PyProof.Rows
theorem pE{P:Params}{h:Heap}:∀(ns:List Int)(vs:List Value),WellAll P h vs (ns.map WData.int)->IntsAre vs ns:=by
 intro ns
 induction ns with
 |nil =>
  intro vs w
  rw[List.map_nil]at w
  cases w
  exact .nil
 |cons n ns ih =>
  intro vs w
  rw[Nj]at w
  cases w with
  |cons a b =>
   cases a
   exact .cons _ _ (ih _ b)
theorem E5{l:OpenLaw}{n:Nat}(hn:l.most=some n){P:Params}{h:Heap}{args:List WData}{vals:List Value}
  (hpre:l.row.toRowW.claim.pre args=true) (hwl:WellAll P h vals args) :
  ∃ a vs ns,vals = [Value.ref a]/\args = [WData.list (ns.map WData.int)]/\h.get? a=some { cls:=.type "list",data:=.seq vs.toArray }/\IntsAre vs ns/\ns.length<=n:=by
 have hsh:WShape.hasAll [] args [.list .int]=true:=(pre_splitW hpre).1
 have hc:l.pre.holds [] { args:=args }=true:=(pre_splitW hpre).2
 obtain⟨d,r,rfl,h1,h2⟩:=hasAllW_cons hsh
 obtain rfl:=hasAllW_nil h2
 obtain⟨xs,rfl,h3⟩:=hasW_list h1
 obtain⟨ns,rfl⟩:=items_int h3
 have hlen:ns.length<=n:=by
  unfold OpenLaw.pre at hc
  have h4:(WTm.not (.lt (.lit (.int (n:Int))) (.len (.arg 0)))).holds [] { args:=[.list (ns.map .int)] }=true:=by
   have h4:=(holds_andW hc).1
   rw[hn]at h4
   exact h4
  have h5:=condW_of h4 (w_not (w_lt w_lit (w_len_list (w_arg rfl))))
  rw[M7]at h5
  refine PD fun q=>?_
  have q':(n:Int)<((ns.length:Nat):Int):=by omega
  first
   | (rw[decide_eq_true q']at h5;exact absurd h5 (by decide))
   | (simp at h5;omega)
 cases hwl with
 |cons w1 w2 =>
  cases w2
  cases w1 with
  |list ho hall=>exact⟨_,_,ns,rfl,rfl,ho,pE ns _ hall,hlen⟩
theorem Fm(l:OpenLaw)(args:List WData):l.row.toRowW.claim.post args (.bool true) args=true :=
 postW_of (r:=l.row.toRowW) (X:=(true == true))
  (show WShape.has [] (.bool true) .bool=true by first | rfl | decide | simp[WShape.has,WShape.arms,WShape.armsAll])
  (show(WTm.eq .res (.lit (.bool true))).value [] { args:=args,res:=some (.bool true),after:=args }=some (.bool (true == true)) from w_eq_bool (w_res rfl) w_lit) rfl
theorem attach_call{l:OpenLaw}{n:Nat}{q:Program}{loose:List Str}{XP:(Str->Option Value)->Heap->Prop}{YP:World->Heap->Prop}{d:DefRec}
  (hn:l.most=some n) (hdf:d.params.defaults = [])
  (call:∀(w:World)(s₀ s₁:Shared)(mg mb:Str->Option Value)(fa:Addr)(o:Obj)(pm cd doc:Value)(a:Addr)(vs:List Value)(ns:List Int),
   Ground q loose [] XP w s₀ mg mb s₁.heap->YP w s₁.heap ->
   s₁.heap.get? fa=some o->o.data=.func (docDef d.name d.params d.body d.scope pm cd doc)->s₁.heap.CodeRec cd d.name->mg d.name=some (.ref fa) ->
   s₁.heap.get? a=some { cls:=.type "list",data:=.seq vs.toArray }->IntsAre vs ns->ns.length<=n->s₁.gens=#[] ->
   codeAny (model l.prog w) callerA (.call (.ref fa) ⟨[.ref a],[]⟩) (fun r s'=>r=.ok (.ret (.bool true))/\OldK s₁.heap s'.heap/\s'.os=s₁.os/\AllBare s'.gens) s₁) :
  WalkO q loose XP YP l.row.toRowW d [] (fun f vs=>PySem.call f vs):=by
 intro w s₀ s₁ mg mb G Y fa o pm cd doc dV kV ho hd hcd hD hmg hg args vals as hpre hlay hrd hwl hlo
 obtain rfl:dV=.none:=Dflts.none hD hdf
 obtain rfl:kV=.none:=Dflts.noKw hD
 obtain⟨a,vs,ns,rfl,rfl,hobj,hints,hlen⟩:=E5 hn hpre hwl
 refine enter_call (codeAny_mono (call w s₀ s₁ mg mb fa o pm cd doc a vs ns G Y ho (fd_plain hd) hcd hmg hobj hints hlen hg) fun r s' hq=>?_)
 obtain⟨rfl,h2,h3,h4⟩:=hq
 exact⟨.inl ⟨.bool true,.bool true,[],rfl,fun _=>rfl,.bool true,Fm l _,fun _=>⟨Pz,fun _ hm=>(nomatch hm)⟩⟩,h2,h3,h4⟩
section
variable{prog:Program}{w:World}{A:Around}{E:Value->Shared->Prop}{s:Shared}{K:Frag}
end
end Att
namespace L2
open PySem PySem.Spec PyProof.Rows
theorem wq:∀{vs:List Value}{ns:List Int},IntsAre vs ns->Vals (ns.map V.int) vs
 |_,_,.nil=>.nil
 |_,_,.cons n t h=>.cons ⟨t,rfl⟩ (wq h)
end L2
namespace L2
open PySem PySem.Spec PyProof.Rows
end L2
namespace L2
open PySem PySem.Spec PyProof.Rows
noncomputable def pG(s:Stmt)(j:Nat):Stmt:=match s with
 |.ClassDef _ _ _ body _ _ _ _ _ _ _=>body.getD j (.Pass ⟨0,0,0,0⟩)
 |_=>.Pass ⟨0,0,0,0⟩
noncomputable def aw(s:Stmt):Arguments:=match s with
 |.FunctionDef _ a _ _ _ _ _ _ _ _=>a
 |_=>{ posonlyargs:=[],args:=[],vararg:=none,kwonlyargs:=[],kw_defaults:=[],kwarg:=none,defaults:=[] }
noncomputable def au(s:Stmt):List Stmt:=match s with
 |.FunctionDef _ _ b _ _ _ _ _ _ _=>b
 |_=>[]
noncomputable def ah(s:Stmt):Scope:=match s with
 |.FunctionDef _ _ _ _ _ _ sc _ _ _=>sc
 |_=>{ kind:=.function,names:=[],isGenerator:=false,isCoroutine:=false }
noncomputable abbrev CX0:CXT:=fun _ _ _ _ _ _=>False
noncomputable abbrev E0:XK:=fun _ _ _=>False
theorem aR{X:Cx}:qI CX0 X E0:=fun _ _ _ _ _ _ _ h=>h.elim
structure Fun(K:MQ)(x qual:Str)(st:Stmt)(f:Addr)(fd:FuncData):Prop where
 ex:∃(oc:Value)(od:Option Addr)(kV doc pm:Value)(an:Option Addr)(cdv ct:Value)(osl:Array (Option Value)),
  fd=Nf x qual (aw st) (au st) (ah st) .none kV doc pm an cdv ct/\K.lookup f=some ⟨oc,od,.func fd,osl⟩/\M8 K cdv qual=true
 kp:M0 K (.ref f)=true
section
variable{P:Program}{w:World}{K:MQ}{mg:Str->Option Value}{base:Heap}
theorem Fun.ok{x qual:Str}{st:Stmt}{f:Addr}{fd:FuncData}{N ps:List Str}{k:Nat}{sp:Sp}(F:Fun K x qual st f fd)(S:av N ps (ah st))(len:∀ vs H Q E,sp vs H Q E->vs.length=ps.length)
  (hbody:∀(cdv:Value)(A:Around)(outer:List Env)(s:Shared)(H:Hp)(vs:List V)(Q:VK)(E:XK),Room k (A.deeper (envOfC qual (ah st) s.heap.objs.size f cdv))->sp vs H Q E ->
   ∃ t,PSs (cxOf CX0 P w K mg base N qual (ah st) f cdv A outer s H E).nox (au st) t/\t { nx:=fun _ H'=>Q .non H',rt:=Q } (qS N vs) H):FnOk P w K mg base CX0 (k+1) f fd ps sp:=by
 obtain⟨oc,od,kV,doc,pm,an,cdv,ct,osl,rfl,lk,hcd⟩:=F.ex
 refine Mg lk hcd S len fun A outer s H vs Q E hr hsp=>?_
 obtain⟨t,h,q⟩:=hbody cdv A outer s H vs Q E hr hsp
 exact⟨t,h.nox,q⟩
theorem Fun.binds{x qual:Str}{st:Stmt}{f:Addr}{fd:FuncData}{ps:List Str}(F:Fun K x qual st f fd)
  (h:∀(kV doc pm:Value)(an:Option Addr)(cdv ct:Value)(us:List Value),us.length=ps.length->bindArgs (Nf x qual (aw st) (au st) (ah st) .none kV doc pm an cdv ct) ⟨us,[]⟩=pure (ps.zip us)):gX K fd ps []:=by
 obtain⟨oc,od,kV,doc,pm,an,cdv,ct,osl,rfl,lk,hcd⟩:=F.ex
 exact .all (h kV doc pm an cdv ct)
theorem aK{x qual:Str}{st:Stmt}{f:Addr}{oc:Value}{od an:Option Addr}{osl:Array (Option Value)}{kV doc pm cdv ct:Value}(l:K.lookup f=some ⟨oc,od,.func (Nf x qual (aw st) (au st) (ah st) .none kV doc pm an cdv ct),osl⟩)
  (c:M8 K cdv qual=true) (k:M0 K (.ref f)=true):Fun K x qual st f (Nf x qual (aw st) (au st) (ah st) .none kV doc pm an cdv ct):=⟨⟨oc,od,kV,doc,pm,an,cdv,ct,osl,rfl,l,c⟩,k⟩
end
theorem GK{A:Around}{k:Nat}(hr:Room k A):A.units+1<cLine:=Nat.lt_of_le_of_lt (Nat.add_le_add_left (by decide:1<=64) _) hr.units
theorem ax{n:Nat}(h:n<=1000):n<sizeLine:=Nat.lt_of_le_of_lt h (by decide)
section
variable{X:Cx}
theorem pv(i:Nat){x:Str}{pos:Pos}(hN:X.N[i]?=some x:=by rfl)(hv:Vis X.env.scope x:=by first | exact Or.inl rfl | exact Or.inr (Or.inl rfl) | exact Or.inr (Or.inr rfl)) (hd:(x == ("__debug__" : Str))=false:=by decide)
  (hcd:(x == ("__classdict__" : Str))=false:=by decide):PE X (.Name x pos) (tVar i):=pe_var hN hv hd hcd
end
theorem iteF{A B:Prop}(h:B):if false=true then A else B:=by
 rw[if_neg Nn]
 exact h
theorem iteT{A B:Prop}(h:A):if true=true then A else B:=by
 rw[if_pos rfl]
 exact h
theorem ite2{c A B:Prop} [Decidable c] (h1:c->A) (h2:¬ c->B):if c then A else B:=by
 by_cases h:c
 ·rw[if_pos h]
  exact h1 h
 ·rw[if_neg h]
  exact h2 h
theorem xU{c A B:Prop} [Decidable c] (hc:c) (h:B):if(!decide c)=true then A else B:=by
 rw[decide_eq_true hc]
 exact iteF h
noncomputable def Same(H H':Hp):Prop:=∀ b o,H b=some o->H' b=some o
theorem Same.trans{H H1 H2:Hp}(a:Same H H1)(b:Same H1 H2):Same H H2:=fun c o h=>b c o (a c o h)
theorem Same.seq{K:MQ}{H H':Hp}{a:Addr}{xs:List V}(e:Same H H')(h:SqL K H a xs):SqL K H' a xs:=by
 rcases h with(h | ⟨o,h⟩) | h
 ·exact .inl (.inl (e _ _ h))
 ·exact .inl (.inr ⟨o,e _ _ h⟩)
 ·exact .inr h
end L2
set_option maxRecDepth 100000
set_option maxHeartbeats 4000000
namespace L2
open PySem PySem.Spec PyProof.Rows
end L2
namespace L2
open PySem PySem.Spec PyProof.Rows
section
variable(P:Program)(w:World)
end
section
variable{P:Program}{w:World}{H H':Hp}{h h':Heap}{a:Addr}{o:HO}
end
section
variable{P:Program}{w:World}{H:Hp}{h h':Heap}{x e:Addr}{o':HO}
end
section
variable{fs fs' ex ex':List Addr}{H H1 H2:Hp}{h h1 h2 h':Heap}{a x e:Addr}{o:HO}
end
end L2
namespace L2
open PySem PySem.Spec PyProof.Rows
section
variable{X:Cx}{pins:List (Addr×Obj)}{σ:List (Option V)}{H H':Hp}{s:Shared}{h':Heap}
end
end L2
namespace L2
open PySem PySem.Spec PyProof.Rows
section
variable{X:Cx}
variable{a b:Expr}{ta tb:TE}{pos:Pos}
variable{tA tB':TT}{rest:List Expr}
end
end L2
namespace L2
open PySem PySem.Spec PyProof.Rows
section
variable{X:Cx}{pins:List (Addr×Obj)}{σ:St}{H:Hp}{s:Shared}{a:Addr}{xs ys:List V}
end
section
variable{X:Cx}{pins:List (Addr×Obj)}{σ:St}{H:Hp}{s:Shared}{E:Value->Shared->Prop}
end
section
variable{X:Cx}{st:Stmt}{rest:List Stmt}{t u:TS}{e:Expr}{te:TE}{pos:Pos}
end
section
variable{X:Cx}{pos:Pos}
end
section
variable{X:Cx}{pos:Pos}
end
end L2
namespace L2
open PySem PySem.Spec PyProof.Rows
section
variable{X:Cx}{tg:Expr}
end
end L2
namespace L2
open PySem PySem.Spec PyProof.Rows
section
variable{X:Cx}{a b c:Expr}{ta tb tc:TE}{pos:Pos}
end
section
variable{X:Cx}{a b c:Expr}{ta tb tc:TE}{pos:Pos}
end
end L2
namespace L2
open PySem PySem.Spec PyProof.Rows
section
variable{prog:Program}{w:World}{A:Around}{E:Value->Shared->Prop}{s:Shared}{K:MQ}{x dx C f:Addr}{mA:Str->Option Value}{name:Str}{v:Value}
end
section
variable{P:Program}{w:World}{H H':Hp}{h h':Heap}{a C dx:Addr}{fs fs':List (Str×V)}
end
section
variable{X:Cx}{pins:List (Addr×Obj)}{σ:St}{H:Hp}{s:Shared}{a C dx:Addr}{fs:List (Str×V)}{f:Str}{v:V}{A:Around}{E:Value->Shared->Prop}
end
section
variable{X:Cx}{o e value:Expr}{f:Str}{pos pos' tpos:Pos}{ta tv:TE}
end
section
variable{X:Cx}{pins:List (Addr×Obj)}{σ:St}{H:Hp}{s:Shared}{A:Around}{E:Value->Shared->Prop}{Q:Value->Shared->Prop}{c:Value}{b:Bool}
end
end L2
namespace L2
open PySem PySem.Spec PyProof.Rows
section
variable{X:Cx}{e:Expr}{es:List Expr}{te:TE}{t:TA}{pos:Pos}
end
section
variable{X:Cx}{pins:List (Addr×Obj)}{σ:St}{H:Hp}{s s':Shared}
end
section
variable{X:Cx}{CX:CXT}{k:Nat}{f C:Addr}{fd:FuncData}{ps:List Str}{sp:Sp}{dvs:List V}{ds:List Value}{E:XK}{x m:Str}{p pos apos:Pos}{e o:Expr}{es:List Expr}{ta:TE}{t:TA}
end
section
variable{X:Cx}{CX:CXT}{k:Nat}{f C:Addr}{fd:FuncData}{ps ks:List Str}{sp:Sp}{E:XK}{x m:Str}{p pos apos kpos:Pos}{e o:Expr}{es:List Expr}{kws:List Keyword}{te ta:TE}{t tk:TA}{nm:Option Str}
variable{g:List Value->List Value->List Value}{gV:List V->List V->List V}
end
end L2
namespace L2
open PySem PySem.Spec PyProof.Rows
section
variable{X:Cx}{x:Str}{p pos:Pos}{e:Expr}{es:List Expr}{t:TA}{id T:String}{r:List V->Hp->VK->Prop}
end
end L2
namespace L2
open PySem PySem.Spec PyProof.Rows
section
variable{κ:Type} [DecidableEq κ]
noncomputable def valV(kvs:List (κ×V))(k:κ):Option V:=(kvs.find? fun kv=>decide (kv.1=k)).map (·.2)
noncomputable def putK(kvs:List (κ×V))(k:κ)(v:V):List (κ×V) :=
 if(kvs.any fun kv=>decide (kv.1=k))=true then kvs.map (fun kv=>if kv.1=k then(kv.1,v) else kv) else kvs++[(k,v)]
noncomputable def nC(kvs:List (κ×V))(k:κ):List (κ×V):=kvs.filter fun kv=>decide (kv.1≠k)
theorem bz{p:κ×V}{r:List (κ×V)}{k:κ}(e:p.1=k):valV (p::r) k=some p.2:=by simp[valV,O4,e]
theorem bA{p:κ×V}{r:List (κ×V)}{k:κ}(e:¬ p.1=k):valV (p::r) k=valV r k:=by simp[valV,O4,e]
theorem fU(k:κ):∀ kvs:List (κ×V),(kvs.any fun kv=>decide (kv.1=k))=(valV kvs k).isSome
 |[]=>rfl
 |p::r=>by
  rw[Qy]
  by_cases e:p.1=k
  ·simp only[bz e,decide_eq_true e,Bool.true_or,Option.isSome_some]
  ·rw[bA e,decide_eq_false e,Bool.false_or];exact fU k r
theorem B9(k j:κ)(y:V):∀ kvs:List (κ×V),valV (kvs.map fun kv=>if kv.1=k then(kv.1,y) else kv) j=(valV kvs j).map fun x=>if j=k then y else x
 |[]=>rfl
 |p::r=>by
  have ih:=B9 k j y r
  rw[Nj]
  by_cases h:p.1=k
  ·rw[if_pos h]
   by_cases e:p.1=j
   ·rw[bz (p:=(p.1,y)) e,bz e,PN,if_pos (e.symm.trans h)]
   ·rw[bA (p:=(p.1,y)) e,bA e,ih]
  ·rw[if_neg h]
   by_cases e:p.1=j
   ·rw[bz (p:=p) e,bz e,PN,if_neg (fun z=>h (e.trans z))]
   ·rw[bA (p:=p) e,bA e,ih]
theorem wt(k j:κ)(y:V):∀ kvs:List (κ×V),valV kvs k=none->valV (kvs++[(k,y)]) j=if j=k then some y else valV kvs j
 |[],_=>by
  by_cases e:k=j
  ·rw[if_pos e.symm];exact bz (p:=(k,y)) e
  ·rw[if_neg (fun z=>e z.symm)];exact bA (p:=(k,y)) e
 |p::r,hn=>by
  rw[Qe]
  have hk:¬ p.1=k:=fun z=>by rw[bz z]at hn;cases hn
  rw[bA hk]at hn
  have ih:=wt k j y r hn
  by_cases e:p.1=j
  ·rw[bz e,bz e,if_neg (fun z=>hk (e.trans z))]
  ·rw[bA e,bA e,ih]
theorem fR(kvs:List (κ×V))(k j:κ)(y:V):valV (putK kvs k y) j=if j=k then some y else valV kvs j:=by
 unfold putK
 by_cases a:(kvs.any fun kv=>decide (kv.1=k))=true
 ·rw[if_pos a,B9]
  rw[fU]at a
  by_cases e:j=k
  ·obtain⟨x,hx⟩:=Pu.mp a
   rw[if_pos e,e,hx,PN,if_pos rfl]
  ·rw[if_neg e]
   cases valV kvs j with
   |none=>rfl
   |some x=>rw[PN,if_neg e]
 ·rw[if_neg a]
  refine wt k j y kvs ?_
  rw[fU]at a
  cases q:valV kvs k with
  |none=>rfl
  |some x=>rw[q]at a;exact(a rfl).elim
theorem d6(kvs:List (κ×V))(k:κ)(v:V):(putK kvs k v).length<=kvs.length+1:=by
 unfold putK
 split
 ·rw[M7];omega
 ·rw[MX,Nv,PQ];omega
theorem Ce{kvs:List (κ×V)}{k:κ}(v:V)(h:valV kvs k=none):putK kvs k v=kvs++[(k,v)]:=by
 unfold putK
 rw[fU,h]
 exact if_neg (by decide)
theorem RelO.isSome_eq{o:Option V}{u:Option Value}(r:RelO o u):o.isSome=u.isSome:=by
 cases o with
 |none=>cases u with
  |none=>rfl
  |some _=>exact(show False from r).elim
 |some _=>cases u with
  |none=>exact(show False from r).elim
  |some _=>rfl
theorem KV.val{kvs:List (κ×V)}{vs:List (κ×Value)}(r:KV kvs vs)(k:κ):RelO (valV kvs k) (valueAt vs k):=by
 unfold KV at r
 induction r with
 |nil=>exact True.intro
 | @cons p q ps qs h t ih =>
  obtain⟨h1,h2⟩:=h
  by_cases e:p.1=k
  ·have e':q.1=k:=h1.symm.trans e
   have b:valueAt (q::qs) k=some q.2:=by simp[valueAt,O4,e']
   rw[bz e,b];exact h2
  ·have e':¬ q.1=k:=fun z=>e (h1.trans z)
   have b:valueAt (q::qs) k=valueAt qs k:=by simp[valueAt,O4,e']
   rw[bA e,b];exact ih
theorem KV.any{kvs:List (κ×V)}{vs:List (κ×Value)}(r:KV kvs vs)(k:κ):(kvs.any fun kv=>decide (kv.1=k))=vs.any fun kv=>decide (kv.1=k):=by
 unfold KV at r
 induction r with
 |nil=>rfl
 |cons h t ih=>rw[Qy,Qy,ih,h.1]
theorem KV.repl{kvs:List (κ×V)}{vs:List (κ×Value)}(r:KV kvs vs)(k:κ){y:V}{u:Value}(ry:RelV y u) :
  KV (kvs.map fun kv=>if kv.1=k then(kv.1,y) else kv) (vs.map fun kv=>if kv.1=k then(kv.1,u) else kv):=by
 unfold KV at r ⊢
 induction r with
 |nil=>exact .nil
 | @cons p q ps qs h t ih =>
  rw[Nj,Nj]
  refine .cons ?_ ih
  obtain⟨h1,h2⟩:=h
  by_cases e:p.1=k
  ·rw[if_pos e,if_pos (h1.symm.trans e)];exact⟨h1,ry⟩
  ·rw[if_neg e,if_neg (fun z=>e (h1.trans z))];exact⟨h1,h2⟩
theorem KV.put{kvs:List (κ×V)}{vs:List (κ×Value)}(r:KV kvs vs)(k:κ){y:V}{u:Value}(ry:RelV y u):KV (putK kvs k y) (stored vs k u):=by
 unfold putK stored
 rw[r.any k]
 by_cases e:(vs.any fun kv=>decide (kv.1=k))=true
 ·rw[if_pos e,if_pos e];exact r.repl k ry
 ·rw[if_neg e,if_neg e];exact Paired.snoc r ⟨rfl,ry⟩
theorem KV.drop{kvs:List (κ×V)}{vs:List (κ×Value)}(r:KV kvs vs)(k:κ):KV (nC kvs k) (without vs k):=by
 unfold KV at r ⊢
 unfold nC without
 induction r with
 |nil=>exact .nil
 | @cons p q ps qs h t ih =>
  obtain⟨h1,h2⟩:=h
  rw[PK,PK]
  by_cases e:p.1=k
  ·have a:¬ decide (p.1≠k)=true:=by simp[e]
   have b:¬ decide (q.1≠k)=true:=by simp[h1.symm.trans e]
   rw[if_neg a,if_neg b];exact ih
  ·have e':¬ q.1=k:=fun z=>e (h1.trans z)
   have a:decide (p.1≠k)=true:=by simp[e]
   have b:decide (q.1≠k)=true:=by simp[e']
   rw[if_pos a,if_pos b];exact .cons ⟨h1,h2⟩ ih
theorem KV.length{kvs:List (κ×V)}{vs:List (κ×Value)}(r:KV kvs vs):kvs.length=vs.length:=Paired.length r
theorem JE(kvs:List (κ×V))(k:κ):(nC kvs k).length<=kvs.length:=Pd _ _
end
theorem DP{P:Program}{w:World}{k:Key}{u:Value}(r:RelV (kV k) u):(bE P w).is k u=true:=by
 cases k with
 |inl i=>obtain⟨t,e⟩:=(show ∃ t,u=Value.int i t from r);subst e;exact AD P w i t
 |inr x=>obtain⟨t,e⟩:=(show ∃ t,u=Value.str x t from r);subst e;exact AB P w x t
theorem xS{P:Program}{w:World}:∀{ks:List Key}{us:List Value},Vals (ks.map kV) us->ItemsAre (bE P w) ks us
 |[],_,r=>by rw[List.map_nil]at r;cases r;exact .nil
 |k::ks,_,r=>by
  rw[Nj]at r
  cases r with
  |cons h t=>exact .cons (DP h) (xS t)
noncomputable abbrev KT(H:Hp):List (List Key×V)->List (List Key×Addr×Value)->Prop:=Paired fun p q=>p.1=q.1/\H q.2.1=some (.tup (p.1.map kV))/\RelV p.2 q.2.2
theorem KT.val{H:Hp}{kvs:List (List Key×V)}{xs:List (List Key×Addr×Value)}(r:KT H kvs xs)(k:List Key):RelO (valV kvs k) ((atKey xs k).map (·.2)):=by
 induction r with
 |nil=>exact True.intro
 | @cons p q ps qs h t ih =>
  obtain⟨h1,_,h2⟩:=h
  by_cases e:p.1=k
  ·have e':q.1=k:=h1.symm.trans e
   have b:atKey (q::qs) k=some q.2:=by simp[atKey,O4,e']
   rw[bz e,b];exact h2
  ·have e':¬ q.1=k:=fun z=>e (h1.trans z)
   have b:atKey (q::qs) k=atKey qs k:=by simp[atKey,O4,e']
   rw[bA e,b];exact ih
theorem KT.repl{H:Hp}{kvs:List (List Key×V)}{xs:List (List Key×Addr×Value)}(r:KT H kvs xs)(k:List Key){y:V}{u:Value}(ry:RelV y u) :
  KT H (kvs.map fun kv=>if kv.1=k then(kv.1,y) else kv) (xs.map (putAt k u)):=by
 induction r with
 |nil=>exact .nil
 | @cons p q ps qs h t ih =>
  rw[Nj,Nj]
  refine .cons ?_ ih
  obtain⟨h1,h2,h3⟩:=h
  unfold putAt
  by_cases e:p.1=k
  ·rw[if_pos e,if_pos (h1.symm.trans e)];exact⟨h1,h2,ry⟩
  ·rw[if_neg e,if_neg (fun z=>e (h1.trans z))];exact⟨h1,h2,h3⟩
theorem KT.put{H:Hp}{kvs:List (List Key×V)}{xs:List (List Key×Addr×Value)}(r:KT H kvs xs)(k:List Key){b:Addr}{y:V}{u:Value}(hb:H b=some (.tup (k.map kV)))(ry:RelV y u) :
  KT H (putK kvs k y) (storedH xs k b u):=by
 have e:(kvs.any fun kv=>decide (kv.1=k))=(atKey xs k).isSome:=by
  rw[fU,(r.val k).isSome_eq,Option.isSome_map]
 unfold putK storedH
 rw[e]
 by_cases q:(atKey xs k).isSome=true
 ·rw[if_pos q,if_pos q];exact r.repl k ry
 ·rw[if_neg q,if_neg q];exact Paired.snoc r ⟨rfl,hb,ry⟩
theorem KT.keeps{H H':Hp}{kvs:List (List Key×V)}{xs:List (List Key×Addr×Value)}(r:KT H kvs xs)(ht:∀ b ys,H b=some (.tup ys)->H' b=some (.tup ys)):KT H' kvs xs :=
 Paired.mapP r fun _ _ z=>⟨z.1,ht _ _ z.2.1,z.2.2⟩
section
variable{P:Program}{w:World}{H:Hp}{h:Heap}{a:Addr}
theorem rd_of{u:HO}(ok:HOk P w H h)(e:Rd H a u):bT P w H h a u:=e.ok ok
theorem G0{kvs:List (Key×V)}(ok:HOk P w H h)(e:Rd H a (.dK kvs)):kvs.length<=sizeLine/\(a == sysModules)=false/\∃ vs,KV kvs vs/\h.DictOf (bE P w) a vs :=
 show bT P w H h a (.dK kvs) from rd_of ok e
theorem DT{kvs:List (Key×V)}(ok:HOk P w H h)(e:H a=some (.dK kvs)):kvs.length<=sizeLine/\(a == sysModules)=false/\∃ vs,KV kvs vs/\h.DictOf (bE P w) a vs:=G0 ok (.inl e)
theorem Ck{ks:List Key}(ok:HOk P w H h)(e:H a=some (.tup (ks.map kV))):(tupleKind (bE P w)).is h ks a:=by
 obtain⟨_,its,r,o,h1,h2,n,h3⟩:=(show bT P w H h a (.tup (ks.map kV)) from ok a _ e)
 exact⟨o,its.toArray,n,h1,h2,h3,by simpa using xS r⟩
theorem GX{kvs:List (List Key×V)}(ok:HOk P w H h)(e:Rd H a (.dT kvs)):kvs.length<=sizeLine/\(a == sysModules)=false /\
  ∃ xs,KT H kvs xs/\h.DictOfH (tupleKind (bE P w)) a xs:=by
 obtain⟨z,y,xs,r,o,es,ep,h1,h2,h3,h4,h5⟩:=(show bT P w H h a (.dT kvs) from rd_of ok e)
 refine⟨z,y,xs,r,o,es,ep,h1,h2,h3,h4,fun x hx=>?_,h5⟩
 have all:∀{l:List (List Key×V)}{m:List (List Key×Addr×Value)},KT H l m->∀ x∈m,(tupleKind (bE P w)).is h x.1 x.2.1:=by
  intro l m q
  induction q with
  |nil=>intro x hx;exact nomatch hx
  | @cons p q ps qs hq t ih =>
   intro x hx
   rcases MV.mp hx with e | hx
   ·subst e
    exact Ck ok (by rw[← hq.1];exact hq.2.1)
   ·exact ih x hx
 exact all r x hx
theorem dt_of{kvs:List (List Key×V)}(ok:HOk P w H h)(e:H a=some (.dT kvs)):kvs.length<=sizeLine/\(a == sysModules)=false /\
  ∃ xs,KT H kvs xs/\h.DictOfH (tupleKind (bE P w)) a xs:=GX ok (.inl e)
end
noncomputable def DGet(H:Hp)(a:Addr)(y:V)(r:Option V):Prop :=
 (∃ kvs k,Rd H a (.dK kvs)/\y=kV k/\r=valV kvs k)∨∃ kvs k b,Rd H a (.dT kvs)/\y=.ref b/\H b=some (.tup (k.map kV))/\r=valV kvs k
noncomputable def DPut(H:Hp)(a:Addr)(y v:V)(H':Hp):Prop :=
 (∃ kvs k,H a=some (.dK kvs)/\y=kV k/\kvs.length<sizeLine/\H'=upd H a (.dK (putK kvs k v))) ∨
 ∃ kvs k b,H a=some (.dT kvs)/\y=.ref b/\H b=some (.tup (k.map kV))/\kvs.length<sizeLine/\H'=upd H a (.dT (putK kvs k v))
theorem DGet.k{H:Hp}{a:Addr}{kvs:List (Key×V)}{k:Key}(e:H a=some (.dK kvs)):DGet H a (kV k) (valV kvs k):=.inl ⟨kvs,k,.inl e,rfl,rfl⟩
theorem DPut.k{H:Hp}{a:Addr}{kvs:List (Key×V)}{k:Key}{v:V}(e:H a=some (.dK kvs))(hl:kvs.length<sizeLine):DPut H a (kV k) v (upd H a (.dK (putK kvs k v))):=.inl ⟨kvs,k,e,rfl,hl,rfl⟩
section
variable{X:Cx}{pins:List (Addr×Obj)}{σ:St}{H:Hp}{s:Shared}{a:Addr}{y v:V}{u r:Value}{o:Option V}{A:Around}{E:Value->Shared->Prop}
theorem Inv.big(I:Inv X pins σ H s):sysModules<s.heap.objs.size:=by
 have h:mainGlobals<s.heap.objs.size:=(I.mod.glob.keeps I.bk).lt
 exact Nat.lt_trans (by decide) h
theorem He{Q:Value->Shared->Prop}(hu:A.units+1<cLine)(I:Inv X pins σ H s)(g:DGet H a y (some v))(ry:RelV y u)(h:∀ w' s',Inv X pins σ H s'->RelV v w'->Q w' s') :
  wpAny (model X.prog X.w) A (getItem (.ref a) u) Q E s:=by
 rcases g with⟨kvs,k,e,ey,l⟩ | ⟨kvs,k,b,e,ey,eb,l⟩
 ·subst ey
  obtain⟨z,hd,vs,rel,dd⟩:=G0 I.hok e
  obtain⟨w',hw,rw'⟩:=RelO.some_of (v:=v) (o:=valueAt vs k) (by rw[l];exact rel.val k)
  exact wpAny_getItem_of (DP ry) dd.mapOf hw (h w' _ (I.tok _) rw')
 ·subst ey
  cases (show u=Value.ref b from ry)
  obtain⟨z,hd,xs,rel,dd⟩:=GX I.hok e
  obtain⟨w',hw,rw'⟩:=RelO.some_of (v:=v) (o:=(atKey xs k).map (·.2)) (by rw[l];exact rel.val k)
  obtain⟨p,hp,hp2⟩:=NI.mp hw
  refine wpAny_getItem_heap (tupleKind_room_in1 hu) (Ck I.hok eb) dd hp ?_
  rw[hp2]
  exact h w' _ (I.tok _) rw'
theorem Mq{Q:Value->Shared->Prop}(hu:A.units+1<cLine)(I:Inv X pins σ H s)(g:DGet H a y o)(ry:RelV y u)(h:∀ s',Inv X pins σ H s'->Q (.bool (!o.isSome)) s') :
  wpAny (model X.prog X.w) A (compareOp .NotIn u (.ref a)) Q E s:=by
 rcases g with⟨kvs,k,e,ey,l⟩ | ⟨kvs,k,b,e,ey,eb,l⟩
 ·subst ey
  obtain⟨z,hd,vs,rel,dd⟩:=G0 I.hok e
  refine wpAny_notIn_of (DP ry) hd dd.mapOf ?_
  rw[← (rel.val k).isSome_eq,← l]
  exact h _ (I.tok _)
 ·subst ey
  cases (show u=Value.ref b from ry)
  obtain⟨z,hd,xs,rel,dd⟩:=GX I.hok e
  refine wpAny_notIn_heap (tupleKind_room_in1 hu) (Ck I.hok eb) hd dd ?_
  have q:=(rel.val k).isSome_eq
  rw[Option.isSome_map]at q
  rw[← q,← l]
  exact h _ (I.tok _)
theorem vy{h':Heap}{t':Nat}{ob:HO}(I:Inv X pins σ H s)(mu:Mut (H a))(hs:Heap.SameBut a s.heap h')(he:∃ q,h'.get? a=some q)(new:bT X.prog X.w (upd H a ob) h' a ob) :
  Inv X pins σ (upd H a ob) { s with heap:=h',toks:=t' } :=
 I.write (x:=a) (e:=a) mu (.inl rfl) (fun b q hb z=>(hs.2 b hb).trans z) he new
theorem G1{P:Program}{w:World}{H':Hp}{h':Heap}{kvs:List (Key×V)}{vs:List (Key×Value)}(z:kvs.length<=sizeLine)(hd:(a == sysModules)=false)(rel:KV kvs vs)(dd:h'.DictOf (bE P w) a vs) :
  bT P w H' h' a (.dK kvs):=⟨z,hd,vs,rel,dd⟩
theorem Hd{H':Hp}{Q:Unit->Shared->Prop}(hu:A.units+1<cLine)(I:Inv X pins σ H s)(g:DPut H a y v H')(ry:RelV y u)(rv:RelV v r)(h:∀ s',Inv X pins σ H' s'->Q () s') :
  wpAny (model X.prog X.w) A (setItem (.ref a) u r) Q E s:=by
 rcases g with⟨kvs,k,e,ey,l,eH⟩ | ⟨kvs,k,b,e,ey,eb,l,eH⟩
 ·subst ey eH
  obtain⟨z,hd,vs,rel,dd⟩:=DT I.hok e
  have hz:vs.length<=sizeLine:=by rw[← rel.length];exact z
  have hl:(putK kvs k v).length<=sizeLine:=by have:=d6 kvs k v;omega
  refine wpAny_setItem_pairs (hsz:=hz) (DP ry) dd fun h' dd' hs=>h _ ?_
  have he:∃ q,h'.get? a=some q:=let ⟨q,_,_,hq,_⟩:=dd';⟨q,hq⟩
  exact vy I (by rw[e];exact True.intro) hs he (G1 hl hd (rel.put k rv) dd')
 ·subst ey eH
  cases (show u=Value.ref b from ry)
  obtain⟨z,hd,xs,rel,dd⟩:=dt_of I.hok e
  have hz:xs.length<=sizeLine:=by rw[← Paired.length rel];exact z
  have hl:(putK kvs k v).length<=sizeLine:=by have:=d6 kvs k v;omega
  refine wpAny_setItem_heap (hsz:=hz) (tupleKind_room_in1 hu) (Ck I.hok eb) dd fun h' dd' hs=>h _ ?_
  obtain⟨q,es,ep,hq,h2,h3,h4,_,h5⟩:=dd'
  refine vy I (by rw[e];exact True.intro) hs ⟨q,hq⟩ ⟨hl,hd,_,(rel.put k eb rv).keeps fun c ys ec=>?_,q,es,ep,hq,h2,h3,h4,h5⟩
  rw[ao (ne_of ec e (fun z=>nomatch z))]
  exact ec
end
section
variable{X:Cx}{pins:List (Addr×Obj)}{σ:St}{H:Hp}{s:Shared}{a:Addr}{kvs:List (Key×V)}{k:Key}{u:Value}{A:Around}{E:Value->Shared->Prop}
theorem d_pop{v:V}{more:List Value}{Q:Value->Shared->Prop}(I:Inv X pins σ H s)(e:H a=some (.dK kvs))(ry:RelV (kV k) u)(l:valV kvs k=some v)(hm:more = []∨∃ x,more = [x])
  (h:∀ w' s',Inv X pins σ (upd H a (.dK (nC kvs k))) s'->RelV v w'->Q w' s'):wpAny (model X.prog X.w) A (call (.builtin "dict.pop") (.ref a::u::more)) Q E s:=by
 obtain⟨z,hd,vs,rel,dd⟩:=DT I.hok e
 obtain⟨w',hw,rw'⟩:=RelO.some_of (v:=v) (o:=valueAt vs k) (by rw[← l];exact rel.val k)
 have hp:(keyPart u).isSome=true:=by
  cases k with
  |inl i=>obtain⟨t,q⟩:=(show ∃ t,u=Value.int i t from ry);subst q;rfl
  |inr x=>obtain⟨t,q⟩:=(show ∃ t,u=Value.str x t from ry);subst q;rfl
 have ha:argsOk "dict.pop" ⟨.ref a::u::more,[]⟩:=by
  rcases hm with q | ⟨x,q⟩
  ·subst q;exact PySem.F.args_dict_pop_2 _ _
  ·subst q;exact PySem.F.args_dict_pop_3 _ _ _
 refine call_meetsIn PySem.F.slot_dict_pop dd.typeIs PySem.F.entry_dict_pop ha (meets_dict_pop_there (bE X.prog X.w) a (DP ry) more hm hp)
  ⟨vs,w',dd,by rw[← rel.length];exact z,hw,fun h' dd' hs=>h w' _ ?_ rw'⟩
 have he:∃ q,h'.get? a=some q:=let ⟨q,_,_,hq,_⟩:=dd';⟨q,hq⟩
 exact vy I (by rw[e];exact True.intro) hs he (G1 (NQ (JE kvs k) z) hd (rel.drop k) dd')
end
noncomputable def NoSl(i:Expr):Prop:=∀ ov iv,subscripted i false ov iv=operate [ov,iv] (getItem ov iv)
theorem KW{prog:Program}{w:World}{A:Around}{E:Value->Shared->Prop}{s:Shared}{env:Env}{value slice:Expr}{pos:Pos}{T id:String}{Q:Value->Shared->Prop}
  (hl:typeLookup (.type T) "__getitem__" = pure (some (.builtin id))) (hs:NoSl slice)
  (h:wpAny (model prog w) A (eval value env) (fun o s₁=>wpAny (model prog w) A (eval slice env) (fun i s₂=>s₂.TypeIs o T/\wpAny (model prog w) A (getItem o i) Q E s₂) E s₁) E s) :
  wpAny (model prog w) A (eval (.Subscript value slice pos) env) Q E s:=by
 refine Subscript_ (wpAny_mono h (fun o s₁ h₁=>wpAny_mono h₁ (fun i s₂ h₂=>?_) fun _ _ x=>x) fun _ _ x=>x)
 obtain⟨hT,h₂⟩:=h₂
 unfold subscriptTail
 refine wpAny_bind ?_
 rw[getitemInPython_of_ne hT.not_modules]
 refine wpAny_bind (wpAny_specialOf hT hl ?_)
 have fin:wpAny (model prog w) A (subscripted slice false o i) (fun r s₃=>wpAny (model prog w) A (letTemporaryGo value o r >>= fun _=>pure r) Q E s₃) E s₂:=by
  rw[hs o i]
  exact wpAny_operating (wpAny_mono h₂ (fun r s₃ h₃=>wpAny_bind (wpAny_letTemporaryGo (wpAny_pure h₃))) fun _ _ x=>x)
 first
  |exact wpAny_pure (wpAny_bind fin)
  |exact wpAny_bind (wpAny_pure (wpAny_bind fin))
  |exact wpAny_bind fin
theorem Bb{X:Cx}{pins:List (Addr×Obj)}{σ:St}{H:Hp}{s:Shared}{a:Addr}{y:V}{o:Option V}(I:Inv X pins σ H s)(g:DGet H a y o):s.TypeIs (.ref a) "dict":=by
 rcases g with⟨kvs,k,e,_,_⟩ | ⟨kvs,k,b,e,_,_,_⟩
 ·obtain⟨_,_,vs,_,dd⟩:=G0 I.hok e
  exact dd.typeIs
 ·obtain⟨_,_,xs,_,dd⟩:=GX I.hok e
  exact dd.typeIs
noncomputable def tDGet(td ty:TE):TE:=fun σ H Q=>td σ H fun x H1=>ty σ H1 fun y H2=>∃ a v,x=.ref a/\DGet H2 a y (some v)/\Q v H2
noncomputable def KS(ty td:TE):TE:=fun σ H Q=>ty σ H fun y H1=>td σ H1 fun x H2=>∃ a o,x=.ref a/\DGet H2 a y o/\Q (.bl (!o.isSome)) H2
noncomputable def sDPut(td ty tv:TE):TS:=fun D σ H=>tv σ H fun v H1=>td σ H1 fun x H2=>ty σ H2 fun y H3=>∃ a H4,x=.ref a/\DPut H3 a y v H4/\D.nx σ H4
section
variable{X:Cx}{o i e value:Expr}{pos pos' tpos:Pos}{td ty tv:TE}
theorem oI(hu:X.A.units+1<cLine)(ho:PE X o td)(hi:PE X i ty)(hs:NoSl i):PE X (.Subscript o i pos) (tDGet td ty):=by
 intro pins s σ H Q I h
 refine KW PySem.F.slot_dict_getitem.lookup hs (thn (ho pins s σ H _ I h) fun u s1 ⟨x,H1,I1,rx,q1⟩=>thn (hi pins s1 σ H1 _ I1 q1) fun iv s2 ⟨y,H2,I2,ry,a,v,ex,g,q2⟩=>?_)
 subst ex
 obtain rfl:u=Value.ref a:=rx
 exact⟨Bb I2 g,He hu I2 g ry fun w' s3 I3 rw'=>⟨v,H2,I3,rw',q2⟩⟩
theorem w6(hu:X.A.units+1<cLine)(hi:PE X i ty)(ho:PE X o td):PC X .NotIn i o (KS ty td):=by
 intro pins s σ H Q I h
 refine thn (hi pins s σ H _ I h) fun iv s1 ⟨y,H1,I1,ry,q1⟩=>thn (ho pins s1 σ H1 _ I1 q1) fun u s2 ⟨x,H2,I2,rx,a,ov,ex,g,q2⟩=>?_
 subst ex
 obtain rfl:u=Value.ref a:=rx
 exact Mq hu I2 g ry fun s3 I3=>⟨.bl (!ov.isSome),H2,I3,rfl,q2⟩
theorem t8(hu:X.A.units+1<cLine)(ho:PE X o td)(hi:PE X i ty)(hv:PE X value tv)(hs:swapsWith value (some (.Subscript o i pos')) pos.line X.env=pure false) :
  PS X (.Assign [.Subscript o i pos'] value pos) (sDPut td ty tv):=by
 intro pins s σ H D I h
 refine wpAny_Assign_Subscript (thn (hv pins s σ H _ I h) fun r s1 ⟨v,H1,I1,rv,q1⟩=>thn (ho pins s1 σ H1 _ I1 q1) fun u s2 ⟨x,H2,I2,rx,q2⟩=>thn (hi pins s2 σ H2 _ I2 q2) fun iv s3 ⟨y,H3,I3,ry,a,H4,ex,g,q3⟩=>?_) hs
 subst ex
 obtain rfl:u=Value.ref a:=rx
 exact Hd hu I3 g ry rv fun s4 I4=>⟨σ,H4,I4,q3⟩
end
theorem Cv{P:Program}{w:World}{H:Hp}(h:Heap)(hb:sysModules<h.objs.size):bT P w H (h.push { cls:=.type "dict",data:=.dict #[] }) h.objs.size (.dK []) :=
 ⟨NS _,beq_eq_false_iff_ne.mpr (Ne.symm (Nm hb)),[],.nil,Heap.DictOf.new h⟩
noncomputable def tDNewK:TE:=fun _ H Q=>∀ p,H p=none->Q (.ref p) (upd H p (.dK []))
section
variable{X:Cx}{pos:Pos}
theorem ur:PE X (.Dict [] [] pos) tDNewK:=fun pins s σ H Q I h =>
 wpAny_Dict_empty ⟨.ref s.heap.objs.size,_,I.laid (a:=s.heap.objs.size) (o:=.dK []) (t':=s.toks) (fun _ _ q=>Heap.get?_push_of_some _ q) (MT _) (Cv s.heap I.big),rfl,h _ (I.hok.fresh (MT _))⟩
end
noncomputable def EF:List (TE×TE)->St->Hp->(List (V×V)->Hp->Prop)->Prop
 |[],_,H,Q=>Q [] H
 | (tk,tv)::r,σ,H,Q=>tk σ H fun x H1=>tv σ H1 fun y H2=>EF r σ H2 fun ps H3=>Q ((x,y)::ps) H3
noncomputable abbrev VV:List (V×V)->List (Value×Value)->Prop:=Paired fun p q=>RelV p.1 q.1/\RelV p.2 q.2
noncomputable def PPs(X:Cx)(pos:Pos)(keys:List (Option Expr))(values:List Expr)(trs:List (TE×TE)):Prop :=
 ∀(pins:List (Addr×Obj))(s:Shared)(σ:St)(H:Hp)(Q:List (V×V)->Hp->Prop),Inv X pins σ H s->EF trs σ H Q ->
  wpAny (model X.prog X.w) X.A (evalPairs (pairTrees keys values X.env pos)) (fun vs s'=>∃ ps H',Inv X pins σ H' s'/\VV ps vs/\Q ps H') X.xe s
theorem Fl{X:Cx}{pos:Pos}:PPs X pos [] [] []:=fun pins s σ H Q I h=>pairTrees_nil_walk ⟨[],H,I,.nil,h⟩
theorem Cf{X:Cx}{pos:Pos}{k v:Expr}{ks:List (Option Expr)}{vs:List Expr}{tk tv:TE}{trs:List (TE×TE)}(hk:PE X k tk)(hv:PE X v tv)(hr:PPs X pos ks vs trs) :
  PPs X pos (some k::ks) (v::vs) ((tk,tv)::trs):=fun pins s σ H Q I h =>
 pairTrees_cons_walk (thn (hk pins s σ H _ I h) fun u s1 ⟨x,H1,I1,rx,q1⟩=>thn (hv pins s1 σ H1 _ I1 q1) fun w2 s2 ⟨y,H2,I2,ry,q2⟩ =>
  thn (hr pins s2 σ H2 _ I2 q2) fun ws s3 ⟨ps,H3,I3,rel,q3⟩=>⟨(x,y)::ps,H3,I3,.cons ⟨rx,ry⟩ rel,q3⟩)
noncomputable def jy(kvs more:List (Key×V)):List (Key×V):=more.foldl (fun acc kv=>putK acc kv.1 kv.2) kvs
theorem KV.merge:∀{more:List (Key×V)}{rs:List (Key×Value)}{kvs:List (Key×V)}{vs:List (Key×Value)},KV more rs->KV kvs vs->KV (jy kvs more) (merged vs rs):=by
 intro more rs kvs vs r
 unfold KV at r
 induction r generalizing kvs vs with
 |nil=>intro q;exact q
 | @cons p q ps qs h t ih =>
  intro r0
  have e:KV (putK kvs p.1 p.2) (stored vs q.1 q.2):=by
   have:=r0.put p.1 h.2
   rw[← h.1];exact this
  exact ih e
theorem kM:∀(more kvs:List (Key×V)),(jy kvs more).length<=kvs.length+more.length
 |[],kvs=>by show kvs.length<=kvs.length+0;omega
 |p::r,kvs=>by
  have h1:=kM r (putK kvs p.1 p.2)
  have h2:=d6 kvs p.1 p.2
  show(jy (putK kvs p.1 p.2) r).length<=_
  rw[Nv];omega
theorem sI{P:Program}{w:World}:∀{kvs:List (Key×V)}{ws:List (Value×Value)},VV (kvs.map fun kv=>(kV kv.1,kv.2)) ws->∃ rs,Carries (bE P w) ws rs/\KV kvs rs
 |[],_,r=>by rw[List.map_nil]at r;cases r;exact⟨[],True.intro,.nil⟩
 |p::kvs,_,r=>by
  rw[Nj]at r
  cases r with
  | @cons a b as bs h t =>
   obtain⟨rs,c,q⟩:=sI (P:=P) (w:=w) t
   obtain⟨b1,b2⟩:=b
   exact⟨(p.1,b2)::rs,⟨DP h.1,rfl,c⟩,.cons ⟨rfl,h.2⟩ q⟩
noncomputable def tDisp(trs:List (TE×TE)):TE:=fun σ H Q=>∀ p,H p=none->EF trs σ (upd H p (.dK [])) fun ps H2=>H2 p=some (.dK [])/\∃ kvs:List (Key×V),ps=kvs.map (fun kv=>(kV kv.1,kv.2))/\kvs.length<=15/\Q (.ref p) (upd H2 p (.dK (jy [] kvs)))
theorem Fz{X:Cx}{pos:Pos}{keys:List (Option Expr)}{values:List Expr}{trs:List (TE×TE)}(h:PPs X pos keys values trs)(hall:keys.all (·.isSome)=true)(hl:keys.length=values.length)(h0:keys≠[])
  (h15:keys.length<=15):PE X (.Dict keys values pos) (tDisp trs):=by
 intro pins s σ H Q I q
 have hn:=I.hok.fresh (MT s.heap.objs.size)
 have I1:=I.laid (a:=s.heap.objs.size) (o:=.dK []) (h':=s.heap.push { cls:=.type "dict",data:=.dict #[] }) (t':=s.toks) (fun _ _ q=>Heap.get?_push_of_some _ q) (MT _) (Cv s.heap I.big)
 refine wpAny_Dict_walk (knd:=bE X.prog X.w) hall hl h0 h15 (thn (h pins _ σ _ _ I1 (q _ hn)) fun ws s2 ⟨ps,H2,I2,rel,e,kvs,ep,lk,q2⟩=>?_)
 subst ep
 obtain⟨rs,c,rk⟩:=sI (P:=X.prog) (w:=X.w) rel
 obtain⟨z,hd,vs0,r0,dd⟩:=DT I2.hok e
 cases r0
 refine⟨rs,c,dd,fun h' dd' hs=>⟨.ref s.heap.objs.size,_,?_,rfl,q2⟩⟩
 have hz:(jy [] kvs).length<=sizeLine:=by
  have h1:=kM kvs []
  rw[PQ]at h1
  rw[sizeLine_eq];omega
 have he:∃ q,h'.get? s.heap.objs.size=some q:=let ⟨q,_,_,hq,_⟩:=dd';⟨q,hq⟩
 exact vy I2 (by rw[e];exact True.intro) hs he (G1 hz hd (rk.merge .nil) dd')
structure M1(X:Cx)(o:Expr)(m:Str)(apos:Pos)(e:Expr)(cpos:Pos):Prop where
 base:attributeBase o m X.env (eval o X.env)=eval o X.env
 few:((backTo cpos (starEach [e] X.env)).all (fun x=>!x.1)&&(backToKw cpos (keywordEach [] X.env)).all (fun x=>x.1.isSome)
  && decide (([e]:List Expr).length+([]:List Keyword).length+(if([]:List Keyword).isEmpty then 0 else 1)<30))=true
 line:(apos.endLine == cpos.line)=true
 trees:backTo cpos (starEach [e] X.env) = [(false,eval e X.env)]
noncomputable def IsD(H:Hp)(a:Addr):Prop:=(∃ kvs,Rd H a (.dK kvs))∨∃ kvs,Rd H a (.dT kvs)
theorem isD_at{X:Cx}{pins:List (Addr×Obj)}{σ:St}{H:Hp}{s:Shared}{a:Addr}(I:Inv X pins σ H s)(d:IsD H a) :
  s.TypeIs (.ref a) "dict"/\(∀ b,Value.ref a=.ref b->∃ ob,s.heap.get? b=some ob/\ob.dict=none)/\(a == sysModules)=false:=by
 rcases d with⟨kvs,e⟩ | ⟨kvs,e⟩
 ·obtain⟨_,hd,vs,_,dd⟩:=G0 I.hok e
  refine⟨dd.typeIs,fun b q=>?_,hd⟩
  cases q
  obtain⟨ob,_,_,h1,h2,_⟩:=dd
  exact⟨ob,h1,h2.2.1⟩
 ·obtain⟨_,hd,xs,_,dd⟩:=GX I.hok e
  refine⟨dd.typeIs,fun b q=>?_,hd⟩
  cases q
  obtain⟨ob,_,_,h1,h2,_⟩:=dd
  exact⟨ob,h1,h2.2.1⟩
section
variable{X:Cx}{pins:List (Addr×Obj)}{σ:St}{H:Hp}{s:Shared}{a:Addr}{y d:V}{u r:Value}{o:Option V}{A:Around}{E:Value->Shared->Prop}
end
noncomputable def tDPop1(td ty:TE):TE:=fun σ H Q=>td σ H fun x H1=>∃ a,x=.ref a/\IsD H1 a/\ty σ H1 fun y H2=>∃ kvs k v,H2 a=some (.dK kvs)/\y=kV k/\valV kvs k=some v/\Q v (upd H2 a (.dK (nC kvs k)))
section
variable{X:Cx}{o e f:Expr}{apos cpos:Pos}{td ty tx:TE}
theorem IE(ho:PE X o td)(he:PE X e ty) (m:M1 X o "pop" apos e cpos):PE X (.Call (.Attribute o "pop" apos) [e] [] cpos) (tDPop1 td ty):=by
 intro pins s σ H Q I h
 refine wpAny_Call_method m.base m.few m.line PySem.F.plainAttrs_dict PySem.F.slot_dict_pop PySem.F.type_dict_pop (thn (ho pins s σ H _ I h) fun u s1 ⟨x,H1,I1,rx,a,ex,d,q1⟩=>?_)
 subst ex
 obtain rfl:u=Value.ref a:=rx
 obtain⟨t1,t2,_⟩:=isD_at I1 d
 refine⟨t1,t2,?_⟩
 rw[m.trees]
 refine Calls.callWith_builtin rfl (Calls.evalArgs_plain (Calls.spliced_cons (thn (he pins s1 σ H1 _ I1 q1) fun iv s2 ⟨y,H2,I2,ry,kvs,k,v,ea,ey,l,q2⟩=>Calls.spliced_nil ?_)))
 subst ey
 exact d_pop I2 ea ry l (.inl rfl) fun w' s3 I3 rw'=>⟨v,_,I3,rw',q2⟩
end
section
variable{X:Cx}{pins:List (Addr×Obj)}{σ:St}{H:Hp}{s:Shared}{a:Addr}{kvs:List (Key×V)}{A:Around}{E:Value->Shared->Prop}
end
section
variable{X:Cx}{pins:List (Addr×Obj)}{σ:St}{H:Hp}{s:Shared}{a:Addr}{y:V}{u:Value}{A:Around}{E:Value->Shared->Prop}
end
end L2
namespace Att
open PySem PySem.W PySem.Calls PyProof.Rows
section
variable{prog:Program}{w:World}{A:Around}{E:Value->Shared->Prop}{s:Shared}{K:Frag}
end
end Att
namespace L2
open PySem PySem.Spec PyProof.Rows
end L2
namespace L2
open PySem PySem.Spec PyProof.Rows
end L2
namespace L2
open PySem PySem.Spec PyProof.Rows
section
variable{P:Program}{w:World}{K:MQ}{mg:Str->Option Value}{base:Heap}
end
section
variable{X:Cx}
end
section
variable{κ:Type} [DecidableEq κ]
theorem B8{kvs:List (κ×V)}{k:κ}(h:valV kvs k=none):¬ k∈kvs.map (·.1):=by
 intro m
 obtain⟨p,hp,e⟩:=NL.mp m
 have q:(kvs.any fun kv=>decide (kv.1=k))=true:=List.any_eq_true.mpr ⟨p,hp,decide_eq_true e⟩
 rw[fU,h]at q
 exact absurd q (by simp)
theorem Ay:∀{l:List κ}{k:κ},l.Nodup->¬ k∈l->(l++[k]).Nodup
 |[],k,_,_=>by simp
 |a::r,k,h,hk=>by
  obtain⟨h1,h2⟩:=Nb.mp h
  show(a::(r++[k])).Nodup
  refine Nb.mpr ⟨fun m=>?_,Ay h2 fun m=>hk (MV.mpr (Or.inr m))⟩
  rcases M5.mp m with q | q
  ·exact h1 q
  ·exact hk (MV.mpr (Or.inl (Nx.mp q).symm))
theorem LQ{kvs:List (κ×V)}{k:κ}(v:V)(hn:(kvs.map (·.1)).Nodup)(h:valV kvs k=none):((putK kvs k v).map (·.1)).Nodup:=by
 rw[Ce v h,NU]
 exact Ay hn (B8 h)
theorem GY{p:κ×V}{r:List (κ×V)}{k:κ}(e:p.1=k):nC (p::r) k=nC r k:=by
 unfold nC
 rw[PK,if_neg (by simp[e])]
theorem GZ{p:κ×V}{r:List (κ×V)}{k:κ}(e:¬ p.1=k):nC (p::r) k=p::nC r k:=by
 unfold nC
 rw[PK,if_pos (by simp[e])]
end
end L2
namespace L2
open PySem PySem.Spec PyProof.Rows
noncomputable def clOf(env:Env)(fr:List (Str×Nat)):List (Str×Addr):=fr.map fun p=>(p.1,(env.cells.lookup p.1).getD 0)
noncomputable def frOf(fr:List (Str×Nat))(σ:St):St:=fr.map fun p=>(σ[p.2]?).join
noncomputable def dq(X:Cx)(scope:Scope)(fr:List (Str×Nat))(x:Str)(C:Addr)(ex:List Addr)(s:Shared)(H:Hp):Cx where
 prog:=X.prog
 w:=X.w
 K:=X.K
 mg:=X.mg
 base:=X.base
 A:=X.A
 N:=x::fr.map (·.1)
 s₀:=s
 H₀:=H
 env:=compEnvC scope (clOf X.env fr) C X.env
 outer:=X.stack
 stack:=X.stack
 ex:=ex
 fn:=fun _=>false
 calm:=X.calm
 pn:=[]
 xe:=fun _ _=>False
structure bM(X:Cx)(scope:Scope)(fr:List (Str×Nat))(x:Str):Prop where
 clos:closureFor scope X.env=pure (clOf X.env fr)
 cell:∀ y∈scope.names,y.2≠.cell
 kind:scope.kind=.function
 names:∀ y∈scope.names,y.2=.local->scope.names.lookup y.1=some .local
 xl:scope.names.lookup x=some .local
 nd:(x::fr.map (·.1)).Nodup
 slot:∀ p∈fr,X.N[p.2]?=some p.1/\X.env.kindOf p.1=some .cell
 has:∀ y∈(relabel scope X.env).names,(y.2=.cell∨y.2=.free)->y.1∈fr.map (·.1)
 frk:∀ p∈fr,(relabel scope X.env).names.lookup p.1=some .cell
theorem bM.plain{X:Cx}{scope:Scope}{x:Str}(clos:closureFor scope X.env=pure [])(cell:∀ y∈scope.names,y.2≠.cell)(kind:scope.kind=.function)(names:∀ y∈scope.names,y.2=.local->scope.names.lookup y.1=some .local)
  (hx:scope.names.lookup x=some .local) (nf:∀ y∈scope.names,y.2≠.free):bM X scope [] x where
 clos:=clos
 cell:=cell
 kind:=kind
 names:=names
 xl:=hx
 nd:=by simp
 slot:=fun p hp=>nomatch hp
 has:=fun y hy hk=>by
  obtain⟨⟨n,k⟩,hz,e⟩:=NL.mp (show y∈scope.names.map _ from hy)
  have h1:=nf _ hz
  have h2:=cell _ hz
  dsimp only at e h1 h2
  have hf:(k == NameKind.free)=false:=by simpa using h1
  rw[hf]at e
  simp only[Om,OO,if_false]at e
  subst e
  exact(hk.elim h2 h1).elim
 frk:=fun p hp=>nomatch hp
theorem bM.one{X:Cx}{scope:Scope}{x y:Str}{j:Nat}(clos:closureFor scope X.env=pure (clOf X.env [(y,j)]))(cell:∀ y∈scope.names,y.2≠.cell)(kind:scope.kind=.function)(names:∀ y∈scope.names,y.2=.local->scope.names.lookup y.1=some .local)
  (hx:scope.names.lookup x=some .local) (nd:([x,y]:List Str).Nodup) (hN:X.N[j]?=some y) (hk:X.env.kindOf y=some .cell) (nf:∀ z∈scope.names,z.2=.free->z.1=y) (hr:(relabel scope X.env).names.lookup y=some .cell):bM X scope [(y,j)] x where
 clos:=clos
 cell:=cell
 kind:=kind
 names:=names
 xl:=hx
 nd:=nd
 slot:=fun p hp=>by
  have e:p=(y,j):=by simpa using hp
  subst e
  exact⟨hN,hk⟩
 has:=fun z hz hk=>by
  obtain⟨⟨n,k⟩,hm,e⟩:=NL.mp (show z∈scope.names.map _ from hz)
  have h2:=cell _ hm
  dsimp only at e h2
  have hn:z.1=n:=by rw[← e];split<;>rfl
  have hf:k=.free:=by
   by_cases q:k=.free
   ·exact q
   ·have hb:(k == NameKind.free)=false:=by simpa using q
    rw[hb]at e
    simp only[Om,OO,if_false]at e
    subst e
    exact(hk.elim h2 q).elim
  have:=nf _ hm hf
  rw[hn]
  simp[← this]
 frk:=fun p hp=>by
  have e:p=(y,j):=by simpa using hp
  subst e
  exact hr
theorem eZ{env:Env}:∀{fr:List (Str×Nat)}{y:Str}{c:Addr},(clOf env fr).lookup y=some c->y∈fr.map (·.1)/\c=(env.cells.lookup y).getD 0
 |[],_,_,h=>by cases h
 |p::r,y,c,h=>by
  unfold clOf at h
  rw[Nj,List.lookup_cons]at h
  cases e:y == p.1 with
  |true =>
   rw[e]at h
   have ey:y=p.1:=eq_of_beq e
   cases h
   exact⟨by rw[ey];exact M3,by rw[ey]⟩
  |false =>
   rw[e]at h
   obtain⟨a,b⟩:=eZ (env:=env) (fr:=r) h
   exact⟨MY _ a,b⟩
theorem bF{env:Env}:∀{fr:List (Str×Nat)}{y:Str},y∈fr.map (·.1)->(clOf env fr).lookup y=some ((env.cells.lookup y).getD 0)
 |[],_,h=>by cases h
 |p::r,y,h=>by
  unfold clOf
  rw[Nj,List.lookup_cons]
  cases e:y == p.1 with
  |true =>
   have ey:y=p.1:=eq_of_beq e
   rw[ey]
  |false =>
   have ny:y≠p.1:=fun z=>by rw[z]at e;simp at e
   rcases MV.mp h with z | z
   ·exact absurd z ny
   ·exact bF (env:=env) (fr:=r) z
section
variable{X:Cx}{pins:List (Addr×Obj)}{σ:St}{H:Hp}{s:Shared}{scope:Scope}{fr:List (Str×Nat)}{x:Str}
theorem bM.cells(O:bM X scope fr x)(I:Inv X pins σ H s){y:Str}{c:Addr}(h:(clOf X.env fr).lookup y=some c):X.env.cells.lookup y=some c:=by
 obtain⟨hm,e⟩:=eZ h
 obtain⟨p,hp,ep⟩:=NL.mp hm
 have k:=(O.slot p hp).2
 rw[ep]at k
 obtain⟨c',e'⟩:=I.ok.has y (.inl k)
 rw[e']at e
 rw[e',e]
 rfl
theorem Ju{fp:List Addr}(O:bM X scope fr x)(I:Inv X pins σ H s)(hf:∀ b∈fp,FpOk X pins H b)(hfs:∀ b∈fp,b<s.heap.objs.size){g h':Heap}{tk:Nat}(hg:g=s.heap.push (LCg.lst []))
  (hk:∀ b o,g.get? b=some o->h'.get? b=some o) (hC:h'.Ns g.objs.size fun _=>none) :
  Inv (dq X scope fr x g.objs.size (s.heap.objs.size::fp) { s with heap:=g } H) (X.pn++pins++[(s.heap.objs.size,LCg.lst [])]) (none::frOf fr σ) H { s with heap:=h',toks:=tk }:=by
 have hsz:g.objs.size=s.heap.objs.size+1:=by rw[hg,Heap.size_push]
 have kp:∀ b o,s.heap.get? b=some o->g.get? b=some o:=fun b o e=>by rw[hg];exact Heap.get?_push_of_some _ e
 have hk0:∀ b o,s.heap.get? b=some o->h'.get? b=some o:=fun b o e=>hk b o (kp b o e)
 have hDo:h'.get? s.heap.objs.size=some (LCg.lst []):=hk _ _ (by rw[hg];exact Heap.get?_push_size _ rfl)
 have neC:∀ b,b<s.heap.objs.size->b≠g.objs.size:=fun b e=>by rw[hsz];exact Nm (OG e)
 have hDC:s.heap.objs.size≠g.objs.size:=by rw[hsz];exact Nm (NR _)
 have hfr:H g.objs.size=none:=I.hok.fresh (by rw[hsz];exact Ov _)
 have hfD:H s.heap.objs.size=none:=I.hok.fresh (MT _)
 have cne:∀ y c,X.env.cells.lookup y=some c->c<s.heap.objs.size:=fun y c e=>by
  obtain⟨v,q⟩:=I.cell y c e
  exact q.lt
 have nst:∀ b,b≠X.env.locals->b∉X.fs->b∉frs X.stack:=fun b h1 h2 z=>(MV.mp (I.stkSub b z)).elim h1 h2
 have nstD:s.heap.objs.size∉frs X.stack:=nst _ (OI I.lt) (I.nofs (MT _))
 refine⟨⟨I.ok.mod,O.kind,I.ok.glob,I.ok.blt,MT _,?_,?_,fun _ _ z _=>(by cases z),I.ok.hd,I.ok.frames,.inl rfl,?_,?_,?_,?_,?_,?_,I.stkFree⟩,rfl,I.bare,Un.kept hk,?_,?_,hfr,?_,?_,I.hok.kept hk0,?_⟩
 ·intro y z c h1 h2
  exact I.ok.inj y z c (O.cells I h1) (O.cells I h2)
 ·intro y hy
  have hm:y∈fr.map (·.1):=by
   rcases hy with hy | hy
   ·exact O.has (y,_) (Od hy) (.inl rfl)
   ·exact O.has (y,_) (Od hy) (.inr rfl)
  exact⟨_,bF hm⟩
 ·intro b hb
  rcases MV.mp hb with rfl | hb
  ·exact⟨hDC,fun y c e=>Nm (cne y c (O.cells I e))⟩
  ·exact⟨neC b (hfs b hb),fun y c e=>(hf b hb).2.2.2.2.1 y c (O.cells I e)⟩
 ·intro b o e
  exact⟨kp b o (I.bs b o e).1,(I.bs b o e).2⟩
 ·show X.base.objs.size<=g.objs.size
  rw[hsz]
  exact Nat.le_succ_of_le (NQ I.ok.bsz I.sz)
 ·intro b o e hb
  rcases MV.mp hb with z | hb
  ·have:=Heap.lt_size (I.bs b o e).1
   rw[z]at this
   exact Nz _ this
  ·rcases(hf b hb).2.2.2.1 with z | z
   ·exact I.ok.noex b o e z
   ·exact absurd (Nk (Heap.lt_size (I.ok.bs b o e).1) z) (Nz _)
 ·intro b hb
  rcases MV.mp hb with z | hb
  ·rw[z];exact nstD
  ·exact nst b (hf b hb).2.1 (hf b hb).2.2.1
 ·exact(I.kept (h':=g) (t':=s.toks) kp).stack
 ·refine⟨_,hC,fun i y v e1 e2 e3=>?_⟩
  cases i with
  |zero=>cases e2
  |succ k =>
   have e1':(fr.map (·.1))[k]?=some y:=e1
   have e2':(frOf fr σ)[k]?=some (some v):=e2
   unfold frOf at e2'
   rw[Nq]at e1' e2'
   cases q:fr[k]? with
   |none=>rw[q]at e1';cases e1'
   |some p =>
    rw[q]at e1' e2'
    have ey:p.1=y:=Ni e1'
    have ev:(σ[p.2]?).join=some v:=Ni e2'
    have hp:p∈fr:=MP q
    obtain⟨hN,hK⟩:=O.slot p hp
    have hkk:=O.frk p hp
    rw[ey]at hN hK hkk
    have ev':σ[p.2]?=some (some v):=by
     cases q2:σ[p.2]? with
     |none=>rw[q2]at ev;cases ev
     |some w=>rw[q2]at ev;exact congrArg some ev
    obtain⟨m,hn,hl⟩:=I.loc
    obtain⟨u,r,l⟩:=hl p.2 y v hN ev' (.inr (.inl hK))
    refine⟨u,r,?_⟩
    rcases l with⟨k1,_⟩ | ⟨_,c,ec,z⟩
    ·rw[hK]at k1;cases k1
    ·have hm:y∈fr.map (·.1):=by rw[← ey];exact NL.mpr ⟨p,hp,rfl⟩
     have el:=bF (env:=X.env) hm
     rw[ec]at el
     exact .inr ⟨.inl hkk,c,el,by obtain⟨o,ho,hd⟩:=z;exact⟨o,hk0 _ _ ho,hd⟩⟩
 ·intro y c e
  obtain⟨v,o,ho,hd⟩:=I.cell y c (O.cells I e)
  exact⟨v,o,hk0 _ _ ho,hd⟩
 ·intro y c e
  exact I.freeC y c (O.cells I e)
 ·intro p hp
  rcases M5.mp hp with hp | hp
  ·cases hp
  ·rcases M5.mp hp with hp | hp
   ·obtain⟨e,n,ne,nf,d⟩:=I.pin p hp
    exact⟨hk0 _ _ e,n,neC _ (Heap.lt_size e),nst _ ne nf,d⟩
   ·have ep:p=(s.heap.objs.size,LCg.lst []):=by simpa using hp
    subst ep
    exact⟨hDo,hfD,hDC,nstD,fun v z=>by cases z⟩
 ·show(none::frOf fr σ).length=(x::fr.map (·.1)).length
  unfold frOf
  simp
theorem xV{fp:List Addr}{g:Heap}{s':Shared}{H':Hp}{σ':St}{ys:List V}{us:List Value}(I:Inv X pins σ H s)(hf:∀ b∈fp,FpOk X pins H b)(hg:g=s.heap.push (LCg.lst []))
  (J:Inv (dq X scope fr x g.objs.size (s.heap.objs.size::fp) { s with heap:=g } H) (X.pn++pins++[(s.heap.objs.size,LCg.lst us)]) σ' H' s') (hv:Vals ys us) (hl:ys.length<=sizeLine) :
  Inv X pins σ (upd H' s.heap.objs.size (.lst ys)) s'/\H' s.heap.objs.size=none/\FpOk X pins (upd H' s.heap.objs.size (.lst ys)) g.objs.size/\∃ m,s'.heap.Ns g.objs.size m:=by
 have hsz:g.objs.size=s.heap.objs.size+1:=by rw[hg,Heap.size_push]
 have kp:∀ b o,s.heap.get? b=some o->g.get? b=some o:=fun b o e=>by rw[hg];exact Heap.get?_push_of_some _ e
 obtain⟨eD,nD,_,_,_⟩:=J.pin (s.heap.objs.size,LCg.lst us) (by simp)
 have hDC:g.objs.size≠s.heap.objs.size:=by rw[hsz];exact OI (NR _)
 have nD':∀ b u,H' b=some u->b≠s.heap.objs.size:=fun b u e z=>by rw[z]at e;rw[e]at nD;cases nD
 have hx:∀ b o,s.heap.get? b=some o->b∉fp->b∉s.heap.objs.size::fp:=fun b o e hb z=>by
  rcases MV.mp z with z | z
  ·have:=Heap.lt_size e
   rw[z]at this
   exact Nz _ this
  ·exact hb z
 have bU:Un (frs X.stack) (s.heap.objs.size::fp) H H' g s'.heap:=J.base
 have ltD:∀ b o,s.heap.get? b=some o->b≠s.heap.objs.size:=fun b o e=>Nm (Heap.lt_size e)
 have un:Un (frs X.stack) fp H (upd H' s.heap.objs.size (.lst ys)) s.heap s'.heap:=by
  refine⟨fun b o e n hb he=>bU.keep b o (kp b o e) n hb (hx b o e he),fun b o e n hb he=>bU.slot b o (kp b o e) n hb (hx b o e he),fun b o e n he=>?_,fun b o e he=>bU.there b o (kp b o e) (hx b o e he),fun b xs e=>?_,fun b o u e=>?_,fun b ps e=>?_⟩
  ·rw[ao (ltD b o e)];exact bU.free b o (kp b o e) n (hx b o e he)
  ·have q:=bU.tups b xs e
   rw[ao (nD' b _ q)];exact q
  ·have q:=bU.frzs b o u e
   rw[ao (nD' b _ q)];exact q
  ·obtain⟨more,q⟩:=bU.tbls b ps e
   exact⟨more,by rw[ao (nD' b _ q)];exact q⟩
 have hok:HOk X.prog X.w (upd H' s.heap.objs.size (.lst ys)) s'.heap:=fun b u e=>by
  by_cases hb:b=s.heap.objs.size
  ·rw[hb,ag]at e
   cases e
   rw[hb]
   exact⟨hl,us,us.length,hv,eD⟩
  ·rw[ao hb]at e
   exact(J.hok b u e).stay (fun c v _ q=>q) (fun c q=>by rw[ao (nD' c _ q)];exact q) fun c xs q=>by rw[ao (nD' c _ q)];exact q
 have os:s'.os=s.os:=J.os
 refine⟨I.call' os un hok J.bare fun b hb=>⟨(hf b hb).2.2.2.1,(hf b hb).2.1,(hf b hb).2.2.2.2⟩,nD,?_,?_⟩
 ·refine I.fpOk (H':=upd H' s.heap.objs.size (.lst ys)) (b:=g.objs.size) (by rw[hsz];exact Ov _) ?_
  rw[ao hDC]
  exact J.free
 ·obtain⟨m,hn,_⟩:=J.loc
  exact⟨m,hn⟩
end
noncomputable def wu(te:TE)(fv:St)(J:It)(H1:Hp)(QQ:List V->Hp->Prop):Prop :=
 ∃ W:Nat->Nat->List V->Hp->Prop,(∃ m,W 0 m [] H1)/\∀ i m ys H,W i m ys H->ys.length<=sizeLine /\
  ((J.stop i H/\QQ ys H)∨(J.go i H/\∃ N:V->Hp->Prop,(∀ y H2,N y H2->∃ m',m'<m/\W (i+1) m' (ys++[y]) H2)/\∀ x H',J.yld i H x H'->te (some x::fv) H' N))
section
variable{X:Cx}{scope:Scope}{fr:List (Str×Nat)}{x:Str}{elt iter:Expr}{px pos:Pos}{te:TE}{wi:TI}
theorem yo{pins:List (Addr×Obj)}{σ:St}{H:Hp}{s:Shared}{E:Value->Shared->Prop}{it:Addr}{fp:List Addr}{tn:Nat->Heap->Prop}{J:It}{RR:Value->Addr->Result->Shared->Prop}{QQ:List V->Hp->Prop}(hc:X.calm=true)(O:bM X scope fr x)
  (he:∀ C ex s H,PE (dq X scope fr x C ex s H) elt te) (I:Inv X pins σ H s) (T:Turn X.prog X.w X.K (.Name x px) J fp it tn) (st:tn 0 s.heap) (hf:∀ b∈fp,FpOk X pins H b) (hq:wu te (frOf fr σ) J H QQ)
  (fin:∀ D C H4 ys s4 m,Inv X pins σ (upd H4 D (.lst ys)) s4->H4 D=none->FpOk X pins (upd H4 D (.lst ys)) C->s4.heap.Ns C m->QQ ys H4->RR (.ref D) C (.ok .next) s4) :
  wpAny (model X.prog X.w) X.A (newList []) (fun acc s₃=>wpAny (model X.prog X.w) X.A (newFunctionEnv scope X.env.globals (clOf X.env fr) [] X.env.qual none .none (some X.env)) (fun cenv s₄ =>
   codeAny (model X.prog X.w) X.A (.compStart (.ListComp elt [⟨.Name x px,iter,[],0⟩] scope pos) 0 (.ref it) acc { cenv with scope:=relabel scope X.env }) (RR acc cenv.locals) s₄) E s₃) E s:=by
 obtain⟨W,⟨m0,w0⟩,turn⟩:=hq
 have hfs:∀ b∈fp,b<s.heap.objs.size:=fun b hb=>by
  obtain⟨o,e,_⟩:=T.obj 0 s.heap st b hb
  exact Heap.lt_size e
 refine wpAny_newObj_type (wpAny_newFunctionEnv O.cell (by intro y hy;simp at hy) (fun h₁ hns₁ hsb₁=>?_) O.kind)
 dsimp only at hns₁ hsb₁ ⊢
 generalize hH2:s.heap.push { cls:=.type "list",dict:=none,data:=.seq ([]:List Value).toArray }=g at hns₁ hsb₁ ⊢
 have hg:g=s.heap.push (LCg.lst []):=hH2.symm
 have hsz:g.objs.size=s.heap.objs.size+1:=by rw[hg,Heap.size_push]
 have hk:∀ b o,g.get? b=some o->h₁.get? b=some o:=fun b o e=>hsb₁.extBut b o (Nm (Heap.lt_size e)) (Heap.get?_push_of_some _ e)
 have kp:∀ b o,s.heap.get? b=some o->h₁.get? b=some o:=fun b o e=>hk b o (by rw[hg];exact Heap.get?_push_of_some _ e)
 have J0:=Ju (h':=h₁) (tk:=s.toks+([]:List (Str×Value)).length) O I hf hfs hg hk hns₁
 have stat:∀{H':Hp}{us:List Value},(∀ b∈fp,H' b=none)->∀ b∈fp,FpOk (dq X scope fr x g.objs.size (s.heap.objs.size::fp) { s with heap:=g } H) (X.pn++pins++[(s.heap.objs.size,LCg.lst us)]) H' b:=fun{H' us} hn b hb=>by
  obtain⟨_,f1,f2,f3,f4,f5⟩:=hf b hb
  refine⟨hn b hb,?_,fun z=>(MV.mp (I.stkSub b z)).elim f1 f2,.inl (MY _ hb),fun y c e=>f4 y c (O.cells I e),fun p hp=>?_⟩
  ·show b≠g.objs.size
   rw[hsz];exact Nm (OG (hfs b hb))
  ·rcases M5.mp hp with hp | hp
   ·cases hp
   ·rcases M5.mp hp with hp | hp
    ·exact f5 p hp
    ·have ep:p=(s.heap.objs.size,LCg.lst us):=by simpa using hp
     rw[ep]
     exact OI (hfs b hb)
 have loop:codeAny (model X.prog X.w) X.A (.compLoop (.ListComp elt [⟨.Name x px,iter,[],0⟩] scope pos) 0 (.ref it) (.ref s.heap.objs.size) (compEnvC scope (clOf X.env fr) g.objs.size X.env))
   (RR (.ref s.heap.objs.size) g.objs.size) { s with heap:=h₁,toks:=s.toks+([]:List (Str×Value)).length }:=by
  refine codeAny_compLoop_tests (fun n s'=>∃ i ys us H',Inv (dq X scope fr x g.objs.size (s.heap.objs.size::fp) { s with heap:=g } H) (X.pn++pins++[(s.heap.objs.size,LCg.lst us)]) (none::frOf fr σ) H' s'/\Vals ys us/\tn i s'.heap/\(∀ b∈fp,H' b=none)/\W i n ys H') ?_ m0
   ⟨0,[],[],H,J0,.nil,T.keep 0 s.heap h₁ st fun b _ o e=>kp b o e,fun b hb=>(hf b hb).1,w0⟩
  rintro n s3 ⟨i,ys,us,H3,J3,hv,st3,fr3,w3⟩
  obtain⟨hlen,hh⟩:=turn i n ys H3 w3
  have none_err:∀{α:Type}{t:Sem α}{Q:α->Shared->Prop}{E':Value->Shared->Prop}{s:Shared},wpAny (model X.prog X.w) X.A t Q (fun _ _=>False) s->wpAny (model X.prog X.w) X.A t Q E' s:=fun h=>wpAny_mono h (fun _ _ q=>q) fun _ _ z=>z.elim
  rcases hh with⟨stop,qn⟩ | ⟨go,N,hN,step⟩
  ·refine none_err (thn (T.done (dq X scope fr x g.objs.size (s.heap.objs.size::fp) { s with heap:=g } H) rfl rfl rfl hc i _ s3 _ H3 _ J3 (stat fr3) st3 stop) fun r s4 ⟨hr,J4⟩=>?_)
   subst hr
   obtain⟨I4,nD,fC,m,hn⟩:=xV I hf hg J4 hv hlen
   exact fin _ _ H3 ys s4 m I4 nD fC hn qn
  ·refine none_err (thn (T.item (dq X scope fr x g.objs.size (s.heap.objs.size::fp) { s with heap:=g } H) rfl rfl rfl hc i _ s3 _ H3 _ J3 (stat fr3) st3 go) fun r s4 ⟨u,hr,h4⟩=>?_)
   subst hr
   have h4':=wpAny_bind (f:=fun _=>assign (.Name x px) (compEnvC scope (clOf X.env fr) g.objs.size X.env) u) (thn h4 (Q':=fun _ s5=>wpAny (model X.prog X.w) X.A (assign (.Name x px) (compEnvC scope (clOf X.env fr) g.objs.size X.env) u) (fun _ s6=>∃(σ6:St)(H6:Hp)(v:V)(s5':Shared)(H5:Hp),Inv (dq X scope fr x g.objs.size (s.heap.objs.size::fp) { s with heap:=g } H) (X.pn++pins++[(s.heap.objs.size,LCg.lst us)]++mH fp s5'.heap) σ6 H6 s6/\σ6=some v::frOf fr σ/\H6=H5/\J.yld i H3 v H5/\tn (i+1) s5'.heap) (fun _ _=>False) s5) fun _ s5 ⟨v,H5,J5,r5,y5,st5,fr5⟩=>by
    have J5':=J5.pinned (stat fr5) (T.obj _ _ st5)
    have hNd:(dq X scope fr x g.objs.size (s.heap.objs.size::fp) { s with heap:=g } H).N.Nodup:=O.nd
    have hxl:(dq X scope fr x g.objs.size (s.heap.objs.size::fp) { s with heap:=g } H).env.scope.names.lookup x=some .local:=lookup_relabel_local O.xl
    exact thn (aL (X:=dq X scope fr x g.objs.size (s.heap.objs.size::fp) { s with heap:=g } H) (i:=0) hNd rfl (.inl hxl) (.inr hxl) _ s5 _ H5 v u (fun σ6 H6=>σ6=some v::frOf fr σ/\H6=H5) J5' r5 ⟨rfl,rfl⟩) fun _ s6 ⟨σ6,H6,J6,e6,e7⟩=>⟨σ6,H6,v,s5,H5,J6,e6,e7,y5,st5⟩)
   refine none_err (thn h4' fun _ s6 ⟨σ6,H6,v,s5,H5,J6,e6,e7,y5,st5⟩=>?_)
   subst e6 e7
   refine wpAny_tests_nil ?_
   rw[if_pos rfl]
   refine none_err (thn (he _ _ _ _ _ s6 _ H6 _ J6 (step v H6 y5)) fun u7 s7 ⟨v7,H7,J7,r7,q7⟩=>?_)
   obtain⟨m',hm,w7⟩:=hN v7 H7 q7
   obtain⟨eD,nD,dC,dF,dd⟩:=J7.pin (s.heap.objs.size,LCg.lst us) (MZ _ (Nt _ (MZ _ (by simp))))
   have hvl:=hv.length
   refine append_at (hsz:=by show us.toArray.size<=sizeLine;rw[Np,← hvl];exact hlen) eD fun h8 hs8 hD8=>?_
   have pinD:∀ p∈X.pn++pins,p.1≠s.heap.objs.size:=fun p hp z=>by
    have:=Heap.lt_size (I.pin p hp).1
    rw[z]at this
    exact Nz _ this
   have J7a:Inv (dq X scope fr x g.objs.size (s.heap.objs.size::fp) { s with heap:=g } H) (X.pn++pins) _ H7 s7:=J7.pins_of fun p hp=>J7.pin p (MZ _ (Nt _ (Nt _ hp)))
   have J8:Inv (dq X scope fr x g.objs.size (s.heap.objs.size::fp) { s with heap:=g } H) (X.pn++pins) _ H7 { s7 with heap:=h8 }:=J7a.turned (t':=s7.toks) (fun b o hb e=>(hs8.2 b hb).trans e) nD dC (.inl M3) (fun y c e z=>by
    obtain⟨w',q⟩:=I.cell y c (O.cells I e)
    have:=q.lt
    rw[z]at this
    exact Nz _ this) (fun p hp=>(M5.mp hp).elim (fun z=>by cases z) (pinD p))
   have J9:Inv (dq X scope fr x g.objs.size (s.heap.objs.size::fp) { s with heap:=g } H) (X.pn++pins++[(s.heap.objs.size,LCg.lst (us++[u7]))]) _ H7 { s7 with heap:=h8 }:=J8.pins_of fun p hp=>by
    rcases M5.mp hp with hp | hp
    ·exact J8.pin p (MZ _ hp)
    ·have ep:p=(s.heap.objs.size,LCg.lst (us++[u7])):=by simpa using hp
     subst ep
     exact⟨hD8.trans (congrArg some (LCg.lst_snoc us u7)),nD,dC,dF,fun v z=>by cases z⟩
   have J10:=J9.weak (σ':=none::frOf fr σ) rfl fun i v e=>by
    cases i with
    |zero=>cases e
    |succ k=>exact e
   have pinF:∀ b∈fp,∀ o,s5.heap.get? b=some o->s7.heap.get? b=some o/\H7 b=none:=fun b hb o e=>by
    obtain⟨q1,q2,_⟩:=J7.pin (b,o) (MZ _ (MZ _ (cm hb e)))
    exact⟨q1,q2⟩
   refine⟨m',hm,i+1,ys++[v7],us++[u7],H7,J10,hv.append (.cons r7 .nil),T.keep _ _ _ st5 fun b hb o e=>(hs8.2 b (Nm (hfs b hb))).trans (pinF b hb o e).1,fun b hb=>?_,w7⟩
   obtain⟨o,e,_⟩:=T.obj _ _ st5 b hb
   exact(pinF b hb o e).2
 exact codeAny_compStart_list loop (T.self X.A 0 _ _ _ (T.keep 0 s.heap h₁ st fun b _ o e=>kp b o e) loop)
noncomputable def tComp(wi:TI)(te:TE)(fr:List (Str×Nat)):TE:=fun σ H Q=>wi σ H fun J H1=>wu te (frOf fr σ) J H1 fun ys H2=>∀ D,H2 D=none->Q (.ref D) (upd H2 D (.lst ys))
theorem gh(hc:X.calm=true)(O:bM X scope fr x)(hi:PI X (.Name x px) iter wi)(he:∀ C ex s H,PE (dq X scope fr x C ex s H) elt te)(hs:∀ x,foldedSetIterable iter X.env x=pure x:=by intro _;rfl) :
  PE X (.ListComp elt [⟨.Name x px,iter,[],0⟩] scope pos) (tComp wi te fr):=by
 intro pins s σ H Q I h
 rw[eval_ListComp]
 refine wpAny_comprehension_free (use:=none) rfl hs O.clos O.kind O.names (thn (hi pins s σ H _ I h) fun xv s1 h1=>thn h1 fun itv s2 h2=>?_)
 obtain⟨it,fp,tn,J,H2,e,I2,T,st2,f2,q2⟩:=h2
 subst e
 refine yo (RR:=fun acc C=>compPost (model X.prog X.w) X.A X.xe none (EP X pins σ Q) acc C) hc O he I2 T st2 f2 q2 ?_
 intro D C H4 ys s4 m I4 nD fC hn q4
 refine⟨m,hn,fun h' hs'=>?_⟩
 obtain⟨g0,g1,g2,g3,g4,g5⟩:=fC
 exact⟨.ref D,_,I4.turned (t':=s4.toks) (fun b o hb e=>(hs'.2 b hb).trans e) g0 g1 g3 g4 g5,rfl,q4 D nD⟩
noncomputable def Im(i:Nat)(wi:TI)(te:TE)(fr:List (Str×Nat)):TS:=fun D σ H=>wi σ H fun J H1=>wu te (frOf fr σ) J H1 fun ys H2=>∀ a,H2 a=none->D.nx (σ.set i (some (.ref a))) (upd H2 a (.lst ys))
theorem lG{i:Nat}{y:Str}{py spos:Pos}(hc:X.calm=true)(hN:X.N.Nodup)(hi':X.N[i]?=some y)(hy:X.env.scope.names.lookup y=some .local)(O:bM X scope fr x)(hi:PI X (.Name x px) iter wi)(he:∀ C ex s H,PE (dq X scope fr x C ex s H) elt te)
  (hsw:swapsWith (.ListComp elt [⟨.Name x px,iter,[],0⟩] scope pos) (some (.Name y py)) spos.line X.env=pure true:=by rfl) (hs:∀ x,foldedSetIterable iter X.env x=pure x:=by intro _;rfl) :
  PS X (.Assign [.Name y py] (.ListComp elt [⟨.Name x px,iter,[],0⟩] scope pos) spos) (Im i wi te fr):=by
 intro pins s σ H D I h
 rw[exec_Assign_Name_used _ _ _ _ hsw]
 refine wpAny_bind (wpAny_standAt (wpAny_bind ?_))
 show wpAny _ X.A (do let _ ← comprehension (.ListComp elt [⟨.Name x px,iter,[],0⟩] scope pos) scope X.env _ (newList []) false (eval iter X.env) (some (assign (.Name y py) X.env))) _ _ s
 refine wpAny_bind (thn (wpAny_comprehension_free (use:=some (assign (.Name y py) X.env)) (Q:=fun _ s'=>SP X pins D .next s') rfl hs O.clos O.kind O.names (thn (hi pins s σ H _ I h) fun xv s1 h1=>thn h1 fun itv s2 h2=>?_)) fun _ s' hq=>wpAny_pure (wpAny_pure hq))
 obtain⟨it,fp,tn,J,H2,e,I2,T,st2,f2,q2⟩:=h2
 subst e
 refine yo (RR:=fun acc C=>compPost (model X.prog X.w) X.A X.xe (some (assign (.Name y py) X.env)) (fun _ s'=>SP X pins D .next s') acc C) hc O he I2 T st2 f2 q2 ?_
 intro a C H4 ys s4 m I4 nD fC hn q4
 obtain⟨g0,g1,g2,g3,g4,g5⟩:=fC
 obtain⟨oC,eC,hoC⟩:=LCg.ns_obj hn
 have I5:Inv X (pins++[(C,oC)]) σ (upd H4 a (.lst ys)) s4:=I4.pins_of fun p hp=>by
  rcases M5.mp hp with hp | hp
  ·exact I4.pin p (MZ _ hp)
  ·have ep:p=(C,oC):=by simpa using hp
   subst ep
   obtain⟨es,epp,hd,_⟩:=hoC
   exact⟨eC,g0,g1,g2,fun v z=>by rw[hd]at z;cases z⟩
 show wpAny _ X.A (assign (.Name y py) X.env (.ref a)) _ _ _
 refine wpAny_assign_Name (nM I5 hN hi' (.inl hy) (v:=.ref a) rfl (fun s6 I6=>?_) (.inr hy))
 obtain⟨e6,_⟩:=I6.pin (C,oC) (MZ _ (MZ _ (by simp)))
 refine⟨m,hoC.ns e6,fun h' hs'=>?_⟩
 exact⟨_,_,I6.unpinned.turned (t':=s6.toks) (fun b o hb e=>(hs'.2 b hb).trans e) g0 g1 g3 g4 g5,q4 a nD⟩
end
theorem eu{K:MQ}{a:Addr}{xs:List V}{te:TE}{fv:St}{H1:Hp}{QQ:List V->Hp->Prop}(Pv:Nat->List V->Hp->Prop)(hz:xs.length<=sizeLine)(h0:Pv 0 [] H1)(hl:∀ i ys H,i<=xs.length->Pv i ys H->SqL K H a xs)
  (hs:∀ i x ys H,xs[i]?=some x->Pv i ys H->te (some x::fv) H fun y H2=>Pv (i+1) (ys++[y]) H2) (hd:∀ ys H,ys.length=xs.length->Pv xs.length ys H->QQ ys H)
  : wu te fv (Itl K a) H1 QQ:=by
 refine⟨fun i m ys H=>m=xs.length-i/\i<=xs.length/\ys.length=i/\Pv i ys H,⟨xs.length,by simp,NS _,rfl,h0⟩,?_⟩
 rintro i m ys H ⟨rfl,hi,hy,p⟩
 have q:=hl i ys H hi p
 refine⟨by omega,?_⟩
 by_cases hlt:i<xs.length
 ·refine .inr ⟨⟨xs,xs[i],q,by simp[hlt]⟩,fun y H2=>Pv (i+1) (ys++[y]) H2,fun y H2 p2=>⟨xs.length-(i+1),by omega,rfl,hlt,by rw[MX,hy];rfl,p2⟩,fun x H' y=>?_⟩
  obtain⟨e,y⟩:=y
  subst e
  exact hs i x ys _ (y xs q) p
 ·have e:i=xs.length:=by omega
  subst e
  exact .inl ⟨⟨xs,q,MT _⟩,hd ys H hy p⟩
theorem fM{lo:Int}{n:Nat}{te:TE}{fv:St}{H1:Hp}{QQ:List V->Hp->Prop}(Pv:Nat->List V->Hp->Prop)(hz:n<=sizeLine)(h0:Pv 0 [] H1)
  (hs:∀ i ys H,i<n->Pv i ys H->te (some (.int (lo+i))::fv) H fun y H2=>Pv (i+1) (ys++[y]) H2) (hd:∀ ys H,ys.length=n->Pv n ys H->QQ ys H)
  : wu te fv (Itr lo n) H1 QQ:=by
 refine⟨fun i m ys H=>m=n-i/\i<=n/\ys.length=i/\Pv i ys H,⟨n,by simp,NS _,rfl,h0⟩,?_⟩
 rintro i m ys H ⟨rfl,hi,hy,p⟩
 refine⟨by omega,?_⟩
 by_cases hlt:i<n
 ·refine .inr ⟨hlt,fun y H2=>Pv (i+1) (ys++[y]) H2,fun y H2 p2=>⟨n-(i+1),by omega,rfl,hlt,by rw[MX,hy];rfl,p2⟩,fun x H' y=>?_⟩
  obtain⟨e,y⟩:=y
  subst e y
  exact hs i ys _ hlt p
 ·have e:i=n:=by omega
  subst e
  exact .inl ⟨MT _,hd ys H hy p⟩
end L2
namespace L2
open PySem PySem.Spec PyProof.Rows
theorem HA:bootBuiltins "int" = some (.type "int"):=by decide +kernel
theorem Mz:bootBuiltins "bool" = some (.type "bool"):=by decide +kernel
theorem qo:bootBuiltins "list" = some (.type "list"):=by decide +kernel
theorem JN:bootBuiltins "tuple" = some (.type "tuple"):=by decide +kernel
theorem cN:bootBuiltins "len" = some (.builtin "len"):=by decide +kernel
theorem dB:bootBuiltins "isinstance" = some (.builtin "isinstance"):=by decide +kernel
theorem Hz:bootBuiltins "sorted" = some (.builtin "sorted"):=by decide +kernel
theorem BD:bootBuiltins "reversed" = some (.type "reversed"):=by decide +kernel
theorem yz:bootBuiltins "enumerate" = some (.type "enumerate"):=by decide +kernel
structure Cal(P:Program)(w:World)(K:MQ)(mg:Str->Option Value)(base:Heap)(k:Nat)(x:Str)(ps:List Str)(sp:Sp)(f:Addr)(fd:FuncData):Prop where
 ok:FnOk P w K mg base CX0 k f fd ps sp
 bn:gX K fd ps []
 mg:mg x=some (.ref f)
 kp:M0 K (.ref f)=true
structure Mak(P:Program)(w:World)(K:MQ)(mg:Str->Option Value)(base:Heap)(k:Nat)(x:Str)(ps:List Str)(sp:Sp)(C f:Addr)(fd:FuncData):Prop where
 mkc:Mk K C f
 ok:FnOk P w K mg base CX0 k f fd ps sp
 bn:gX K fd ps []
 mg:mg x=some (.ref C)
structure Met(P:Program)(w:World)(K:MQ)(mg:Str->Option Value)(base:Heap)(k:Nat)(C:Addr)(m:Str)(ps:List Str)(sp:Sp)(f:Addr)(fd:FuncData):Prop where
 me:Meth K C m f
 ok:FnOk P w K mg base CX0 k f fd ps sp
 bn:gX K fd ps []
theorem zG{X:Cx}{sts:List Stmt}{t t2:TS}(h:PSs X sts t)(i:∀ D σ H,t2 D σ H->t D σ H):PSs X sts t2:=fun pins s σ H D I q=>h pins s σ H D I (i D σ H q)
section
variable{X:Cx}
noncomputable def rIsi(K:MQ):List V->Hp->VK->Prop:=fun xs H Q=>∃ x c t b u,xs = [x,c]/\TyOf K H x t/\((∃ n,c=.ty n/\u=Value.type n)∨∃ a,c=.ref a/\u=Value.ref a)/\O8 K t u=some b/\Q (.bl b) H
theorem oi:nL X (.builtin "isinstance") (rIsi X.K):=by
 intro pins s σ H xs us Q I r h
 obtain⟨x,c,t,b,u,rfl,ty,hu,e,q⟩:=h
 obtain⟨v1,v2,rfl,r1,r2⟩:=KN r
 have e2:v2=u:=by
  rcases hu with⟨n,rfl,rfl⟩ | ⟨a,rfl,rfl⟩
  ·exact r2
  ·exact r2
 subst e2
 exact GC I r1 ty e fun tk=>⟨.bl b,H,I.tok tk,rfl,q⟩
theorem kit_ii(K:MQ):O8 K (.type "int") (.type "int")=some true:=by with_unfolding_all rfl
theorem kit_ib(K:MQ):O8 K (.type "int") (.type "bool")=some false:=by with_unfolding_all rfl
theorem kit_ll(K:MQ):O8 K (.type "list") (.type "list")=some true:=by with_unfolding_all rfl
theorem kit_tt(K:MQ):O8 K (.type "tuple") (.type "tuple")=some true:=by with_unfolding_all rfl
end
inductive RdD(K:MQ)(H:Hp):V->PyData->Prop where
 |non:RdD K H .non .none
 |bl (b:Bool):RdD K H (.bl b) (.bool b)
 |int (i:Int):RdD K H (.int i) (.int i)
 |lst {a:Addr} {xs:List V} {ds:List PyData} (h:SqL K H a xs) (hl:xs.length=ds.length) (r:∀(i:Nat)(x:V)(d:PyData),xs[i]?=some x->ds[i]?=some d->RdD K H x d):RdD K H (.ref a) (.list ds)
 |tup {a:Addr} {xs:List V} {ds:List PyData} (h:SqT K H a xs) (hl:xs.length=ds.length) (r:∀(i:Nat)(x:V)(d:PyData),xs[i]?=some x->ds[i]?=some d->RdD K H x d):RdD K H (.ref a) (.tuple ds)
theorem jI{h:Heap}:∀{xs:List V}{us:List Value}{ds:List PyData},Vals xs us->xs.length=ds.length->(∀(i:Nat) x d,xs[i]?=some x->ds[i]?=some d->∀ u,RelV x u->∃ as,Reads h u d as)->∃ as,ReadsAll h us ds as
 |_,_,[],.nil,_,_=>⟨_,.nil⟩
 |_,_,_::_,.nil,e,_=>by cases e
 |_,_,[],.cons _ _,e,_=>by cases e
 |_,_,d::ds,.cons r rr,e,k=>by
  obtain⟨a1,q1⟩:=k 0 _ d rfl rfl _ r
  obtain⟨a2,q2⟩:=jI rr (Nat.succ.inj e) fun i x d' e1 e2=>k (i+1) x d' e1 e2
  exact⟨_,.cons q1 q2⟩
section
variable{X:Cx}
theorem RdD.reads{pins:List (Addr×Obj)}{σ:St}{H:Hp}{s:Shared}(I:Inv X pins σ H s){x:V}{d:PyData}(r:RdD X.K H x d):∀ u,RelV x u->∃ as,Reads s.heap u d as:=by
 induction r with
 |non=>intro u hu;cases hu;exact⟨_,.none⟩
 |bl b=>intro u hu;cases hu;exact⟨_,.bool b⟩
 |int i=>intro u hu;obtain⟨t,rfl⟩:=hu;exact⟨_,.int i t⟩
 |lst h hl r ih =>
  intro u hu
  cases hu
  obtain⟨its,rv,p,_⟩:=I.list h
  obtain⟨as,q⟩:=jI (h:=s.heap) rv hl ih
  obtain⟨o,n,e,c,_,d⟩:=p
  exact⟨_,.list e c d (by simpa using q)⟩
 |tup h hl r ih =>
  intro u hu
  cases hu
  obtain⟨its,rv,p,_⟩:=I.tuple h
  obtain⟨as,q⟩:=jI (h:=s.heap) rv hl ih
  obtain⟨o,e,c,n,d⟩:=p
  exact⟨_,.tuple e c d (by simpa using q)⟩
noncomputable def rSame(b:Bool)(K:MQ):R2:=fun x y H Q=>∃ d,RdD K H x d/\RdD K H y d/\SeqAt.shaped d=true/\Q (.bl b) H
theorem Ka(hu:X.A.units+64<cLine):OpR X (compareOp .NotEq) (rSame false X.K):=by
 intro pins s σ H x y v u Q I rx ry h
 obtain⟨d,r1,r2,hs,q⟩:=h
 obtain⟨as,q1⟩:=r1.reads I v rx
 obtain⟨bs,q2⟩:=r2.reads I u ry
 refine ne_dataH q1 q2 hs hs hu ?_
 rw[SeqAt.eqv_refl d (SeqAt.canLay_of_shaped hs)]
 exact⟨.bl false,H,I,rfl,q⟩
end
section
variable{X:Cx}{tg:Expr}
end
end L2
namespace L2
open PySem PySem.Spec PyProof.Rows
section
variable{P:Program}{w:World}{H:Hp}{h:Heap}{a:Addr}{o:HO}
theorem bT.get(x:bT P w H h a o):∃ ob,h.get? a=some ob:=by
 cases o with
 |lst xs=>obtain⟨_,_,_,_,e⟩:=x;exact⟨_,e⟩
 |tup xs=>obtain⟨_,_,_,ob,e,_⟩:=x;exact⟨_,e⟩
 |dK kvs=>obtain⟨_,_,_,_,o,_,_,e,_⟩:=x;exact⟨_,e⟩
 |dT kvs=>obtain⟨_,_,_,_,o,_,_,e,_⟩:=x;exact⟨_,e⟩
 |set S n=>obtain⟨o,_,_,_,e,_⟩:=x;exact⟨_,e⟩
 |ins C dx fs=>obtain⟨_,_,_,e,_⟩:=x;exact⟨_,e⟩
 |own y=>exact x
 |xd fs=>obtain⟨_,⟨_,_,_,e,_⟩,_⟩:=x;exact⟨_,e⟩
 |rng lo hi=>obtain⟨_,_,_,e⟩:=x;exact⟨_,e⟩
 |frz ob u=>exact⟨_,x.1⟩
 |tbl ps=>exact⟨_,(show h.get? a=some _ from x)⟩
 |met f y=>exact⟨_,(show h.get? a=some _ from x)⟩
 |ext φ=>exact x.2.1
theorem HOk.none_of(x:HOk P w H h)(e:h.get? a=none):H a=none:=by
 cases q:H a with
 |none=>rfl
 |some u =>
  obtain⟨ob,z⟩:=(x a u q).get
  rw[e]at z
  cases z
end
structure XOk(X:Cx)(pins:List (Addr×Obj))(H:Hp)(b:Addr):Prop where
 old:X.s₀.heap.get? b=none
 trk:H b=none
 nl:b≠X.env.locals
 nc:∀ x c,X.env.cells.lookup x=some c->c≠b
 np:∀ p∈X.pn++pins,p.1≠b
section
variable{X:Cx}{pins:List (Addr×Obj)}{σ:St}{H H':Hp}{s s':Shared}{b:Addr}
theorem Inv.xok(I:Inv X pins σ H s)(hx:X.ex = [])(e:s.heap.get? b=none)(n:H' b=none):XOk X pins H' b:=by
 refine⟨?_,n,fun z=>?_,fun x c q z=>?_,fun p hp z=>?_⟩
 ·cases q:X.s₀.heap.get? b with
  |none=>rfl
  |some o =>
   obtain⟨o',e'⟩:=I.base.there b o q (by rw[hx];simp)
   rw[e]at e'
   cases e'
 ·obtain⟨m,⟨o,_,_,ho,_⟩,_⟩:=I.loc
  rw[z,ho]at e
  cases e
 ·obtain⟨v,o,ho,_⟩:=I.cell x c q
  rw[z,e]at ho
  cases ho
 ·have:=(I.pin p hp).1
  rw[z,e]at this
  cases this
theorem Inv.xstep{h':Heap}{ch:List Addr}(I:Inv X pins σ H s)(hch:∀ b∈ch,XOk X pins H b)
  (keep:∀ b o,s.heap.get? b=some o->b∉ch->b∉frs X.stack->h'.get? b=some o)
  (slot:∀ b o,s.heap.get? b=some o->b∉ch->b∈frs X.stack->∃ sl,h'.get? b=some { o with slots:=sl }):Inv X pins σ H { s with heap:=h' }:=by
 have any:∀ b o,s.heap.get? b=some o->b∉ch->∃ sl,h'.get? b=some { o with slots:=sl }:=fun b o e hc=>by
  by_cases hb:b∈frs X.stack
  ·exact slot b o e hc hb
  ·exact⟨o.slots,keep b o e hc hb⟩
 have fsub:∀ b,b∈frs X.stack->b≠X.env.locals->b∈X.fs:=fun b hb n=>(MV.mp (I.stkSub b hb)).elim (fun z=>absurd z n) fun z=>z
 have neL:∀ b o,X.s₀.heap.get? b=some o->b≠X.env.locals:=fun b o e=>Nm (Nk (Heap.lt_size e) I.ok.above)
 have neC:∀ b o,X.s₀.heap.get? b=some o->b∉ch:=fun b o e hb=>by
  have:=(hch b hb).old
  rw[e]at this
  cases this
 have cellK:∀ x c,X.env.cells.lookup x=some c->∀ v,s.heap.IsCell c v->h'.IsCell c v:=fun x c e v ⟨o,ho,hd⟩=>by
  obtain⟨sl,q⟩:=any c o ho fun z=>(hch c z).nc x c e rfl
  exact⟨_,q,hd⟩
 refine⟨I.ok,I.os,I.bare,⟨fun b o e n hb hx=>?_,fun b o e n hb hx=>?_,I.base.free,fun b o e hx=>?_,I.base.tups,I.base.frzs,I.base.tbls⟩,?_,fun x c e=>?_,I.free,I.freeC,fun p hp=>?_,fun b u e=>?_,I.len⟩
 ·exact keep b o (I.base.keep b o e n hb hx) (neC b o e) fun z=>hb (fsub b z (neL b o e))
 ·obtain⟨sl,e1⟩:=I.base.slot b o e n hb hx
  obtain⟨sl',e2⟩:=any b _ e1 (neC b o e)
  exact⟨sl',e2⟩
 ·obtain⟨o',e1⟩:=I.base.there b o e hx
  obtain⟨sl,e2⟩:=any b _ e1 (neC b o e)
  exact⟨_,e2⟩
 ·obtain⟨m,⟨o,es,ep,ho,r⟩,hl⟩:=I.loc
  obtain⟨sl,e2⟩:=any _ o ho fun z=>(hch _ z).nl rfl
  refine⟨m,⟨_,es,ep,e2,r⟩,fun i x v e1 e2 e3=>?_⟩
  obtain⟨u,r,l⟩:=hl i x v e1 e2 e3
  refine⟨u,r,?_⟩
  rcases l with l | ⟨k,c,e,z⟩
  ·exact .inl l
  ·exact .inr ⟨k,c,e,cellK x c e _ z⟩
 ·obtain⟨v,z⟩:=I.cell x c e
  exact⟨v,cellK x c e v z⟩
 ·obtain⟨e,n,ne,nf,d⟩:=I.pin p hp
  exact⟨keep p.1 p.2 e (fun z=>(hch p.1 z).np p hp rfl) fun z=>nf (fsub p.1 z ne),n,ne,nf,d⟩
 ·have nof:∀ c u',H c=some u'->c∉ch/\c∉frs X.stack:=fun c u' q=>⟨fun z=>(by rw[(hch c z).trk]at q;exact nomatch q),fun z=>(by rw[I.stkFree c z]at q;exact nomatch q)⟩
  refine(I.hok b u e).stay (fun c v hc q=>?_) (fun _ q=>q) fun _ _ q=>q
  rcases hc with z | z
  ·rw[z]at q ⊢
   exact keep b v q (nof b u e).1 (nof b u e).2
  ·exact keep c v q (nof c _ z).1 (nof c _ z).2
theorem Inv.xtrack{a:Addr}{o:HO}(I:Inv X pins σ H s)(f:XOk X pins H a)(new:bT X.prog X.w (upd H a o) s.heap a o):Inv X pins σ (upd H a o) s:=by
 have ne:∀ b u,H b=some u->b≠a:=fun b u e=>aG e f.trk
 have nb:∀ b u,s.heap.get? b=some u->b≠a->H b=none->upd H a o b=none:=fun b u _ n q=>by rw[ao n];exact q
 refine⟨I.ok,I.os,I.bare,⟨I.base.keep,I.base.slot,fun b ob e n hx=>?_,I.base.there,fun b xs e=>?_,fun b ob xs e=>?_,fun b ps e=>?_⟩,I.loc,I.cell,?_,fun x c e=>?_,fun p hp=>?_,fun b u e=>?_,I.len⟩
 ·rw[ao (fun z=>by rw[z,f.old]at e;cases e)]
  exact I.base.free b ob e n hx
 ·have:=I.base.tups b xs e
  rw[ao (ne _ _ this)]
  exact this
 ·have:=I.base.frzs b ob xs e
  rw[ao (ne _ _ this)]
  exact this
 ·obtain⟨m,q⟩:=I.base.tbls b ps e
  exact⟨m,by rw[ao (ne _ _ q)];exact q⟩
 ·rw[ao (Ne.symm f.nl)]
  exact I.free
 ·rw[ao (f.nc x c e)]
  exact I.freeC x c e
 ·obtain⟨e,n,r⟩:=I.pin p hp
  exact⟨e,by rw[ao (f.np p hp)];exact n,r⟩
 ·by_cases hb:b=a
  ·rw[hb,ag]at e
   cases e
   rw[hb]
   exact new
  ·rw[ao hb]at e
   exact(I.hok b u e).stay (fun c v _ q=>q) (fun c q=>by rw[ao (ne c _ q)];exact q) fun c xs q=>by rw[ao (ne c _ q)];exact q
end
noncomputable def Trc(h:Heap)(x:Addr)(C:Value)(T:Addr):Prop :=
 ∃ oe vs a0 oT ts,h.get? x=some oe/\oe.cls=C/\vs[0]?=some a0/\oe.data=.fields vs/\vs[1]?=some (.ref T)/\T≠x/\h.get? T=some oT/\oT.data=.fields ts/\ts[3]?=some .none
noncomputable def Xnw(h:Heap)(x:Addr)(C:Value):Prop:=∃ oe vs a0,h.get? x=some oe/\oe.cls=C/\oe.data=.fields vs/\vs[0]?=some a0/\vs[1]?=some .none
noncomputable def XA(X:Cx)(pins:List (Addr×Obj))(H:Hp)(s:Shared)(x:Addr)(C:Value):Prop:=XOk X pins H x/\(Xnw s.heap x C∨∃ T,XOk X pins H T/\Trc s.heap x C T)
section
variable{X:Cx}{pins:List (Addr×Obj)}{σ:St}{H:Hp}{s:Shared}{x:Addr}{C:Value}{E:Value->Shared->Prop}
noncomputable abbrev hidX(X:Cx)(h:Heap)(ch:List Addr):Heap:=PySem.W.hideAll h (ch++frs X.stack)
theorem Inv.hidF(I:Inv X pins σ H s)(ch:List Addr):s.heap.FunFrames (hidX X s.heap ch) X.stack :=
 PySem.W.funFrames_hide I.stack fun env he a hf=>MZ _ (P5.mpr ⟨env,he,hf⟩)
theorem xY(ch:List Addr)(h:Heap):(hidX X h ch).StaysIn h:=fun _ _ e=>PySem.W.of_hideAll _ e
theorem dy{ch:List Addr}{h:Heap}{b:Addr}(hb:b∈ch):(hidX X h ch).get? b=none:=PySem.W.hideAll_none _ (Nt _ hb)
theorem Inv.left{h':Heap}{ch:List Addr}{a0:Value}(I:Inv X pins σ H s)(hx:X.ex = [])(hch:∀ b∈ch,XOk X pins H b)(k:(hidX X s.heap ch).StaysIn h')(t:h'.TracedW (hidX X s.heap ch) x C a0)(u:s.heap.UpToSlots h') :
  Inv X pins σ H { s with heap:=h' }/\∃ T,XOk X pins H T/\Trc h' x C T:=by
 have fr:∀ b o,s.heap.get? b=some o->b∈frs X.stack->∃ sl,h'.get? b=some { o with slots:=sl }:=fun b o e hb=>by
  obtain⟨_,o',ho,hd⟩:=I.stack.mem hb
  rw[e]at ho
  cases ho
  exact u b o e hd
 refine⟨I.xstep hch (fun b o e n1 n2=>k b o (OY _ e fun z=>(M5.mp z).elim n1 n2)) fun b o e _ hb=>fr b o e hb,?_⟩
 obtain⟨oe,vs,T,oT,ts,he,⟨hcls,h0⟩,hd,h1,hnT,hTe,hT,hdT,h3⟩:=t
 refine⟨T,?_,oe,vs,a0,oT,ts,he,hcls,h0,hd,h1,hTe,hT,hdT,h3⟩
 cases q:s.heap.get? T with
 |none=>exact I.xok hx q (I.hok.none_of q)
 |some o =>
  by_cases z:T∈ch
  ·exact hch T z
  ·by_cases z2:T∈frs X.stack
   ·obtain⟨_,o',ho,hd'⟩:=I.stack.mem z2
    obtain⟨sl,e⟩:=fr T o q z2
    rw[hT]at e
    cases e
    rw[q]at ho
    cases ho
    exact absurd hdT (hd' ts)
   ·have:=OY (ch++frs X.stack) q fun z3=>(M5.mp z3).elim z z2
    rw[hnT]at this
    cases this
theorem Inv.leave{Q:Unit->Shared->Prop}(I:Inv X pins σ H s)(hx:X.ex = [])(hst:X.stack=X.env::X.outer)(hfr:X.env.frame=some X.env.locals)(xa:XA X pins H s x C)
  (h:∀ h' T,Inv X pins σ H { s with heap:=h' }->XOk X pins H x->XOk X pins H T->Trc h' x C T->Q () { s with heap:=h' }):wpAny (model X.prog X.w) X.A (leaving X.env (.ref x)) Q E s:=by
 obtain⟨x1,x2⟩:=xa
 have frm:X.A.frames=some (X.env::X.outer):=by rw[← hst];exact I.ok.frames
 rcases x2 with⟨oe,vs,a0,he,hc,hd,h0,h1⟩ | ⟨T,xT,oe,vs,a0,oT,ts,he,hc,h0,hd,h1,hTe,hT,hdT,h3⟩
 ·have hch:∀ b∈[x],XOk X pins H b:=fun b hb=>by
   have e:b=x:=by simpa using hb
   rw[e]
   exact x1
  refine wpAny_leaving_firstW (base:=hidX X s.heap [x]) frm (hst▸I.hidF [x]) hfr he (xY _ _) (dy (by simp)) hd h1 h0 fun h' L=>?_
  obtain⟨k1,_,k3,k4⟩:=L
  obtain⟨I',T,xT,tr⟩:=I.left hx hch k1 k3 k4
  rw[hc]at tr
  exact h h' T I' x1 xT tr
 ·have hch:∀ b∈[x,T],XOk X pins H b:=fun b hb=>by
   rcases MV.mp hb with e | hb
   ·rw[e]
    exact x1
   ·have e:b=T:=by simpa using hb
    rw[e]
    exact xT
  refine wpAny_leaving_nextW (base:=hidX X s.heap [x,T]) frm (hst▸I.hidF [x,T]) hfr ⟨oe,vs,T,oT,ts,he,⟨hc,h0⟩,hd,h1,dy (by simp),hTe,hT,hdT,h3⟩ (xY _ _) (dy (by simp)) fun h' L=>?_
  obtain⟨k1,_,k3,k4⟩:=L
  obtain⟨I',T',xT',tr⟩:=I.left hx hch k1 k3 k4
  exact h h' T' I' x1 xT' tr
end
section
variable{X:Cx}{k:Nat}{f C:Addr}{fd:FuncData}{ps:List Str}{sp:Sp}{dvs:List V}{ds:List Value}{W:WK}{x m:Str}{p pos apos:Pos}{e o:Expr}{es:List Expr}{ta:TE}{t:TA}
end
end L2
namespace L2
open PySem PySem.Spec PyProof.Rows
abbrev veM:List Value:=[.type "ValueError",.type "Exception",.type "BaseException",.type "object"]
abbrev ExC(K:MQ)(C:Addr):Prop:=Qv K C veM "ValueError.__new__" = true
theorem GV{K:MQ}{C:Addr}{h:Heap}(e:ExC K C)(X:K.In h):∃ bm N nm qn bs hdct sn sub ab col dd k0 k1 k2 k3 k5 mN,h.get? C=some (excClassObj nm qn C N bs bm hdct sn sub ab col dd k0 k1 k2 k3 k5 "ValueError.__new__")/\h.Ns N mN/\mN "__init__" = none/\OwnTail h veM bm/\∀ B b,Pf K C B=some b->(Value.ref C::bm).contains B=b:=by
 have z:=e
 unfold ExC Qv at z
 split at z
 ·rename_i ddx cdx slx hobj
  split at z
  ·rename_i Cx bmx y0 y1 y2 y3 nx y5 hmro hslots
   have zz:=z
   simp only[Qf,beq_iff_eq,Bool.not_eq_true']at zz
   obtain⟨⟨⟨⟨⟨eC,eN⟩,edel⟩,etail⟩,ens⟩,einit⟩:=zz
   subst eC
   subst eN
   obtain⟨l⟩:=slx
   have hl:l = [y0,y1,y2,y3,some (.builtin "ValueError.__new__"),y5]:=hslots
   subst hl
   obtain⟨nm,bs,mro,ns,qn,hd,sn,sub,ab,col,del⟩:=cdx
   have hmro':mro=.ref Cx::bmx:=hmro
   have hdel':del=false:=edel
   subst hmro' hdel'
   refine⟨bmx,ns,nm,qn,bs,hd,sn,sub,ab,col,ddx,y0,y1,y2,y3,y5,_,X _ _ hobj,.of_isNs (PySem.W.isNs_of_in X ens),PySem.W.nsMap_none_of_in X ens einit,PySem.W.tail_of_in X etail,fun B b hB=>?_⟩
   unfold Pf PySem.W.clsIn at hB
   rw[hobj]at hB
   simpa using hB
  ·cases z
 ·cases z
section
variable{X:Cx}{pins:List (Addr×Obj)}{σ:St}{H:Hp}{s:Shared}{x:Addr}{C:Value}
noncomputable def Cx.marked(X:Cx)(v:Value):Cx:={ X with A:=X.A.mark (some v),calm:=false,xe:=fun _ _=>False }
theorem Inv.marked(I:Inv X pins σ H s)(v:Value):Inv (X.marked v) pins σ H s :=
 ⟨⟨I.ok.mod,I.ok.kind,I.ok.glob,I.ok.blt,I.ok.above,I.ok.inj,I.ok.has,I.ok.cab,fun z=>(by cases z),I.ok.frames,I.ok.stk,I.ok.exf,I.ok.bs,I.ok.bsz,I.ok.noex,I.ok.exfs,I.ok.funs,I.ok.frf⟩,I.os,I.bare,I.base,I.loc,I.cell,I.free,I.freeC,I.pin,I.hok,I.len⟩
theorem Inv.unmarked{hd:X.calm=true->X.A.handled=none}{fr:X.A.frames=some X.stack}{v:Value}(I:Inv (X.marked v) pins σ H s):Inv X pins σ H s :=
 ⟨⟨I.ok.mod,I.ok.kind,I.ok.glob,I.ok.blt,I.ok.above,I.ok.inj,I.ok.has,I.ok.cab,hd,fr,I.ok.stk,I.ok.exf,I.ok.bs,I.ok.bsz,I.ok.noex,I.ok.exfs,I.ok.funs,I.ok.frf⟩,I.os,I.bare,I.base,I.loc,I.cell,I.free,I.freeC,I.pin,I.hok,I.len⟩
end
section
variable{M:Model}{A:Around}{E:Value->Shared->Prop}{h:Heap}{g:Array GenState}{d:Drawn}{t:Nat}{os:OsState}
end
noncomputable def Cx.tried(X:Cx)(pins:List (Addr×Obj))(E:Value->Shared->Prop):Cx:={ X with pn:=X.pn++pins,xe:=E }
section
variable{X:Cx}{pins pins':List (Addr×Obj)}{σ:St}{H:Hp}{s:Shared}{E:Value->Shared->Prop}{b:Addr}
theorem Inv.tried(I:Inv X pins σ H s):Inv (X.tried pins E) [] σ H s :=
 ⟨⟨I.ok.mod,I.ok.kind,I.ok.glob,I.ok.blt,I.ok.above,I.ok.inj,I.ok.has,I.ok.cab,I.ok.hd,I.ok.frames,I.ok.stk,I.ok.exf,I.ok.bs,I.ok.bsz,I.ok.noex,I.ok.exfs,I.ok.funs,I.ok.frf⟩,I.os,I.bare,I.base,I.loc,I.cell,I.free,I.freeC,fun p hp=>I.pin p (by rw[Ow]at hp;exact hp),I.hok,I.len⟩
theorem Inv.untried(I:Inv (X.tried pins E) pins' σ H s):Inv X pins σ H s :=
 ⟨⟨I.ok.mod,I.ok.kind,I.ok.glob,I.ok.blt,I.ok.above,I.ok.inj,I.ok.has,I.ok.cab,I.ok.hd,I.ok.frames,I.ok.stk,I.ok.exf,I.ok.bs,I.ok.bsz,I.ok.noex,I.ok.exfs,I.ok.funs,I.ok.frf⟩,I.os,I.bare,I.base,I.loc,I.cell,I.free,I.freeC,fun p hp=>I.pin p (Nt _ hp),I.hok,I.len⟩
theorem XOk.untried(x:XOk (X.tried pins E) pins' H b):XOk X pins H b:=⟨x.old,x.trk,x.nl,x.nc,fun p hp=>x.np p (Nt _ hp)⟩
theorem SP.untried{D:Ends}{f:Flow}(h:SP (X.tried pins E) [] D f s):SP X pins D f s:=by
 cases f with
 |next=>obtain⟨σ',H',I,q⟩:=h;exact⟨σ',H',I.untried,q⟩
 |brk=>obtain⟨σ',H',I,q⟩:=h;exact⟨σ',H',I.untried,q⟩
 |cont=>obtain⟨σ',H',I,q⟩:=h;exact⟨σ',H',I.untried,q⟩
 |ret u=>obtain⟨v,σ',H',I,r,q⟩:=h;exact⟨v,σ',H',I.untried,r,q⟩
end
section
variable{X:Cx}{k:Nat}{f:Addr}{fd:FuncData}{ps:List Str}{sp:Sp}{dvs:List V}{ds:List Value}{W:WK}{x:Str}{p pos:Pos}{e:Expr}{es:List Expr}{t:TA}
end
end L2
namespace L2
open PySem PySem.Spec PyProof.Rows
end L2
namespace L2
open PySem PySem.Spec PyProof.Rows
section
variable{prog:Program}{w:World}{A:Around}{E:Value->Shared->Prop}{s:Shared}
theorem Gd:typeLookup (.type "list_reverseiterator") "__len__" = pure none:=by rw[typeLookup_type,builtinLookup_eq_fast];kernel_rfl
theorem Jn:typeLookup (.type "list_reverseiterator") "__length_hint__" = pure (some (.builtin "list_reverseiterator.__length_hint__")):=by rw[typeLookup_type,builtinLookup_eq_fast];kernel_rfl
theorem Jx{r:Addr}{Q:Bool->Shared->Prop} (hT:s.TypeIs (.ref r) "list_reverseiterator") (h:Q false s):wpAny (model prog w) A (Builtin.List.listLengthHint (.ref r)) Q E s:=by
 unfold Builtin.List.listLengthHint
 refine wpAny_bind (wpAny_specialOf hT Gd ?_)
 wp_delta
 refine wpAny_ite_split (fun hab=>absurd hab (by decide)) (fun _=>?_)
 refine wpAny_ite_split (fun hab=>absurd hab (by decide)) (fun _=>?_)
 refine wpAny_bind (wpAny_specialOf hT Jn ?_)
 generalize hid:("list_reverseiterator.__length_hint__" : String)=id0
 wp_delta
 rw[show splitId id0=some ("list_reverseiterator","__length_hint__") from by subst hid;decide +kernel]
 subst hid
 refine wpAny_bind (wpAny_isInstance (T:="list_reverseiterator") (b:=true) hT (by rw[isSubtype_type];kernel_rfl) ?_)
 refine wpAny_ite_split (fun hab=>absurd hab (by decide)) (fun _=>?_)
 refine wpAny_ite_split (fun _=>?_) (fun hab=>absurd (by decide +kernel) hab)
 refine wpAny_ite_split (fun hab=>absurd hab (by decide +kernel)) (fun _=>?_)
 exact wpAny_pure h
end
end L2
namespace L2
open PySem PySem.Spec PyProof.Rows
section
variable{prog:Program}{w:World}{A:Around}{E:Value->Shared->Prop}{s:Shared}
theorem DS{R:Result->Shared->Prop}{r l S:Addr}{items:Array Value}(hh:A.handled=none)(hit:s.heap.IsRevIter r l ((items.size:Int)-1))(hl:s.heap.IsList l items)(hSr:S≠r)(hSl:S≠l)(hrl:l≠r)(res:Value)(c0:Nat)
  (hS:s.heap.get? S=some { cls:=.type "list",data:=.seq #[] c0 })
  (hR:∀ h' tk acc' c',(∀ b o,b≠S->b≠r->s.heap.get? b=some o->h'.get? b=some o)->h'.get? S=some { cls:=.type "list",dict:=none,data:=.seq acc' c',slots:=#[] }->ItemsOf (fun i v=>items[items.size-1-i]?=some v) acc' items.size->R (.ok (.ret res)) { s with heap:=h',toks:=tk }) (hn:items.size<=sizeLine) :
  wpAny (model prog w) A.in1 (Builtin.List.listExtendWith (.ref S) (.ref r) res)
   (fun fin s'=>match fin with | .done f=>R (.ok f) s' | .again c'=>c'.quiet=true/\codeAny (model prog w) A c' R s') (fun e s'=>R (.error e) s') s:=by
 have W:=Walks.listRev (prog:=prog) (w:=w) (A:=A.in1) hh r l hrl items
 have hSf:S∉[r,l]:=by simp only[MV,NW,or_false,not_or];exact⟨hSr,hSl⟩
 have key:∀(h:Heap)(c1 tk:Nat),(0<=items.size/\h.IsRevIter r l ((items.size:Int)-1-((0:Nat):Int))/\h.IsList l items)->(∀ b o,b≠S->b≠r->s.heap.get? b=some o->h.get? b=some o) ->
   h.get? S=some { cls:=.type "list",data:=.seq #[] c1 }->codeAny (model prog w) A (.builtin "list.extend.loop" ⟨[.ref S,.ref r,res],[]⟩) R { s with heap:=h,toks:=tk }:=by
  intro h c1 tk hst hk hS1
  refine codeAny_extend_loopS W.toS hn S hSf res items.size 0 _ #[] c1 rfl (NS _) hst hS1 (ItemsOf.nil _) fun s' acc' c' hm hS' hacc=>?_
  rw[Moved.eq_with hm]
  refine hR s'.heap s'.toks acc' c' (fun b o hb hbr e=>hm.heap b o (fun hmem=>?_) (hk b o hb hbr e)) hS' hacc
  rcases MV.mp hmem with e' | hmem
  ·exact hb e'
  ·exact hbr (Nx.mp hmem)
 have hit0:s.heap.IsRevIter r l ((items.size:Int)-1-((0:Nat):Int)):=by
  have e:(items.size:Int)-1-((0:Nat):Int)=(items.size:Int)-1:=by omega
  rw[e];exact hit
 unfold Builtin.List.listExtendWith
 refine wpAny_bind (wpAny_typeOf (T:="list_reverseiterator") hit.typeIs ?_)
 have h1:Builtin.List.listSameRef (.ref S) (.ref r)=false:=by simp[Builtin.List.listSameRef,hSr]
 have h2:(Value.type "list_reverseiterator" == Value.type "list")=false:=by decide
 have h3:(Value.type "list_reverseiterator" == Value.type "tuple")=false:=by decide
 simp only[h1,h2,h3,Bool.or_false,OO,if_false]
 refine wpAny_bind (wpAny_pyIter_revIter hit ?_)
 refine wpAny_bind (wpAny_holding (Jx hit.typeIs ?_))
 refine wpAny_ite_split (fun _=>?_) (fun _=>wpAny_pure ⟨plainId_quiet Qp _,key _ c0 _ ⟨NS _,hit0,hl⟩ (fun b o _ _ e=>e) hS⟩)
 refine wpAny_bind (wpAny_rule ?_)
 refine wpAny_bind ?_
 show wpAny _ _ (updateSeq S (·.push .none) >>= fun _=>updateSeq S (·.pop)) _ _ _
 refine wpAny_bind (wpAny_updateSeq hS rfl ?_)
 have hS2:=Heap.get?_update_self (Obj.mapSeq (·.push Value.none)) hS rfl
 refine wpAny_updateSeq (hz:=by seq_fits) hS2 rfl ?_
 have hS3:=Heap.get?_update_self (Obj.mapSeq (·.pop)) hS2 rfl
 have oth:∀ b o,b≠S->s.heap.get? b=some o->((s.heap.update S (Obj.mapSeq (·.push Value.none))).update S (Obj.mapSeq (·.pop))).get? b=some o:=fun b o hb e=>(Heap.get?_update_other _ _ (Ne.symm hb)).trans ((Heap.get?_update_other _ _ (Ne.symm hb)).trans e)
 refine wpAny_pure ⟨plainId_quiet Qp _,key _ _ _ ⟨NS _,hit0.at fun o e=>oth r o (Ne.symm hSr) e,hl.at fun o e=>oth l o (Ne.symm hSl) e⟩ (fun b o hb _ e=>oth b o hb e) hS3⟩
theorem Jv{R:Result->Shared->Prop}{r l S:Addr}{items:Array Value}(hh:A.handled=none)(hit:s.heap.IsRevIter r l ((items.size:Int)-1))(hl:s.heap.IsList l items)(hSr:S≠r)(hSl:S≠l)(hrl:l≠r)
  (hS:s.heap.get? S=some { cls:=.type "list",data:=.seq #[] })
  (hR:∀ h' tk acc' c',(∀ b o,b≠S->b≠r->s.heap.get? b=some o->h'.get? b=some o)->h'.get? S=some { cls:=.type "list",dict:=none,data:=.seq acc' c',slots:=#[] }->ItemsOf (fun i v=>items[items.size-1-i]?=some v) acc' items.size->R (.ok (.ret .none)) { s with heap:=h',toks:=tk }) (hn:items.size<=sizeLine) :
  wpAny (model prog w) A.in1 (Builtin.«list.__init__» ⟨[.ref S,.ref r],[]⟩)
   (fun fin s'=>match fin with | .done f=>R (.ok f) s' | .again c'=>c'.quiet=true/\codeAny (model prog w) A c' R s') (fun e s'=>R (.error e) s') s:=by
 show wpAny _ _ (do let old ← Builtin.List.listItems (.ref S);Builtin.List.listUpdate (.ref S) (fun _=>#[]);letGo old.toList.reverse;Builtin.List.listExtendWith (.ref S) (.ref r) .none) _ _ s
 refine wpAny_bind ?_
 unfold Builtin.List.listItems
 refine wpAny_bind (wpAny_seqItems hS rfl (wpAny_pure ?_))
 show wpAny _ _ (updateSeq S (fun _=>#[]) >>= fun _=>letGo (#[]:Array Value).toList.reverse >>= fun _=>Builtin.List.listExtendWith (.ref S) (.ref r) .none) _ _ s
 refine wpAny_bind (wpAny_updateSeq hS rfl ?_)
 have hS2:=Heap.get?_update_self (Obj.mapSeq (fun _=>(#[]:Array Value))) hS rfl
 have oth:∀ b o,b≠S->s.heap.get? b=some o->(s.heap.update S (Obj.mapSeq (fun _=>(#[]:Array Value)))).get? b=some o:=fun b o hb e=>(Heap.get?_update_other _ _ (Ne.symm hb)).trans e
 refine wpAny_bind (wpAny_letGo ?_)
 refine DS hh (hit.at fun o e=>oth r o (Ne.symm hSr) e) (hl.at fun o e=>oth l o (Ne.symm hSl) e) hSr hSl hrl .none _ hS2 (fun h' tk acc' c' hk hS' hacc=>?_) hn
 exact hR h' tk acc' c' (fun b o hb hbr e=>hk b o hb hbr (oth b o hb e)) hS' hacc
theorem AK{r l:Addr}{items:Array Value}{Q:Value->Shared->Prop}(hh:A.handled=none)(hit:s.heap.IsRevIter r l ((items.size:Int)-1))(hl:s.heap.IsList l items)(hrl:l≠r)(hn:items.size<=sizeLine)
  (hQ:∀ h' tk acc' c',(∀ b o,b≠r->s.heap.get? b=some o->h'.get? b=some o)->h'.get? s.heap.objs.size=some { cls:=.type "list",dict:=none,data:=.seq acc' c',slots:=#[] }->ItemsOf (fun i v=>items[items.size-1-i]?=some v) acc' items.size->Q (.ref s.heap.objs.size) { s with heap:=h',toks:=tk }) :
  wpAny (model prog w) A (call (.type "list") [.ref r]) Q E s:=by
 refine callType_codes (Q₁:=fun obj s₁=>obj=.ref s.heap.objs.size/\s₁={ s with heap:=s.heap.push { cls:=.type "list",data:=.seq #[] } }) PySem.F.called_list (PySem.F.typeCall_list_1 _) PySem.F.entry_list_init
  (code_list_new _ ⟨rfl,rfl⟩) fun obj s₁ h₁=>?_
 obtain⟨rfl,rfl⟩:=h₁
 have hS:(s.heap.push { cls:=.type "list",data:=.seq #[] }).get? s.heap.objs.size=some { cls:=.type "list",data:=.seq #[] }:=Heap.get?_push_size _ rfl
 have hr:r<s.heap.objs.size:=let ⟨_,ho,_⟩:=hit;Heap.lt_size ho
 have hl':l<s.heap.objs.size:=let ⟨_,ho,_⟩:=hl;Heap.lt_size ho
 refine⟨⟨_,hS,rfl⟩,PySem.F.args_list_init_2 _ _,Jv (A:=A.in1) hh (hit.at fun o e=>Heap.get?_push_of_some _ e) (hl.push _) (OI hr) (OI hl') hrl hS (fun h' tk acc' c' hk hS' hacc=>?_) hn⟩
 exact⟨rfl,hQ h' tk acc' c' (fun b o hb e=>hk b o (Nm (Heap.lt_size e)) hb (Heap.get?_push_of_some _ e)) hS' hacc⟩
end
section
variable{X:Cx}
theorem Inv.track{pins:List (Addr×Obj)}{σ:St}{H:Hp}{s:Shared}{a:Addr}{o:HO}(I:Inv X pins σ H s)(f:FpOk X pins H a)(new:bT X.prog X.w (upd H a o) s.heap a o):Inv X pins σ (upd H a o) s:=by
 obtain⟨f0,f1,f2,f3,f4,f5⟩:=f
 have ne:∀ b u,H b=some u->b≠a:=fun b u e=>aG e f0
 refine I.step (g':=s.gens) (t':=s.toks) (d':=s.drawn) (h':=s.heap) (ch:=[a]) (fun b hb=>?_) (fun b o _ _ _ e _=>e) (fun b o _ _ _ e _=>⟨o.slots,e⟩) (fun b o hc e n=>?_) (fun b o _ e=>⟨o,e⟩) (fun b xs e=>by rw[ao (ne b _ e)];exact e) (fun b o u e=>by rw[ao (ne b _ e)];exact e)
  (fun b ps e=>⟨#[],by rw[ao (ne b _ e),e];simp⟩) (fun m hm=>hm) (fun b u e=>?_) I.bare
 ·have eb:b=a:=by simpa using hb
  rw[eb]
  exact⟨f3,f1,f4,f5⟩
 ·rw[ao (fun z=>hc (by simp[z]))]
  exact n
 ·by_cases hb:b=a
  ·rw[hb,ag]at e
   cases e
   rw[hb]
   exact new
  ·rw[ao hb]at e
   exact(I.hok b u e).stay (fun c v _ q=>q) (fun c q=>by rw[ao (ne c _ q)];exact q) fun c xs q=>by rw[ao (ne c _ q)];exact q
theorem Ih{ys:List V}{its:List Value}{acc:Array Value}(rv:Vals ys its)(h:ItemsOf (fun i v=>its.toArray[its.toArray.size-1-i]?=some v) acc its.toArray.size):Vals ys.reverse acc.toList:=by
 have e:acc.toList=its.reverse:=by
  apply List.ext_getElem?
  intro i
  by_cases hi:i<its.length
  ·have hacc:i<acc.size:=by rw[h.1];simpa using hi
   have q:=h.2 i acc[i] (Qt hacc)
   rw[PX,Qt hacc,List.getElem?_reverse hi,← q]
   simp
  ·rw[PR (by rw[Po,h.1];simpa using hi),PR (by rw[Pn];omega)]
 rw[e]
 exact rv.reverse
theorem rX{e:Expr}{te:TE}{p p2 pos pos2:Pos}(hc:X.calm=true) (hg:Gl X "list") (hm:X.mg "list" = none) (hg2:Gl X "reversed") (hm2:X.mg "reversed" = none) (he:PE X e te)
  (h1:starEach [.Call (.Name "reversed" p2) [e] [] pos2] X.env = [(false,eval (.Call (.Name "reversed" p2) [e] [] pos2) X.env)]:=by rfl) (h2:starEach [e] X.env=(false,eval e X.env)::starEach [] X.env:=by rfl) :
  PE X (.Call (.Name "list" p) [.Call (.Name "reversed" p2) [e] [] pos2] [] pos) (fun σ H Q=>te σ H fun x H1=>∃ l ys,x=.ref l/\SqL X.K H1 l ys/\∀ q,H1 q=none->Q (.ref q) (upd H1 q (.lst ys.reverse))):=by
 intro pins s σ H Q I h
 refine wpAny_Call_Name_kw (ik I hg hm qo ?_)
 refine PyProof.Rows.callWith_type1 ?_ h1 rfl
 rw[h1]
 refine Calls.spliced_cons ?_
 refine wpAny_Call_Name_kw (ik I hg2 hm2 BD ?_)
 refine PyProof.Rows.callWith_type1 ?_ h2 rfl
 rw[h2]
 refine Calls.spliced_cons (thn (he pins s σ H _ I h) fun u s1 ⟨x,H1,I1,r1,q1⟩=>?_)
 obtain⟨l,ys,rfl,hq,q⟩:=q1
 cases r1
 refine Calls.spliced_nil ?_
 obtain⟨its,rv,pl,hz⟩:=I1.list hq
 have hn:its.toArray.size=ys.length:=by rw[Np,rv.length]
 refine call_reversed_list pl.isList ?_
 refine Calls.spliced_nil ?_
 have hlt:l<s1.heap.objs.size:=by
  obtain⟨o,n,e1,_⟩:=pl
  exact Heap.lt_size e1
 have I2:Inv X pins σ H1 { s1 with heap:=s1.heap.push (revObj l ((its.toArray.size:Int)-1)) }:=I1.kept (t':=s1.toks) fun b o e=>Heap.get?_push_of_some _ e
 have hit:(s1.heap.push (revObj l ((its.toArray.size:Int)-1))).IsRevIter s1.heap.objs.size l ((its.toArray.size:Int)-1):=⟨_,Heap.get?_push_size _ rfl,rfl,rfl⟩
 refine AK (I.ok.hd hc) hit (pl.isList.push _) (Nm hlt) (by rw[hn];exact hz) fun h' tk acc' c' hk hS hacc=>?_
 obtain⟨f0,f1,f2,f3,f4,f5⟩:=I1.fpOk (H':=H1) (MT _) (I1.hok.fresh (MT _))
 have I3:Inv X pins σ H1 { s1 with heap:=h',toks:=tk }:=I2.turned (t':=tk) (fun b o hb e=>hk b o hb e) f0 f1 f3 f4 f5
 have fS:=I2.fpOk (H':=H1) (MT _) (I2.hok.fresh (MT _))
 have I4:=I3.track (o:=.lst ys.reverse) fS ⟨by rw[Pn];exact hz,acc'.toList,c',Ih rv hacc,by rw[Array.toArray_toList];exact hS⟩
 exact⟨.ref _,_,I4,rfl,q _ fS.1⟩
end
end L2
namespace L2
open PySem PySem.Spec PyProof.Rows
section
variable{X:Cx}
end
end L2
namespace L2
open PySem PySem.Spec PyProof.Rows
theorem Inv.turnedL{X:Cx}{pins:List (Addr×Obj)}{σ:St}{H:Hp}{s:Shared}{h':Heap}{t':Nat}{fp:List Addr}(I:Inv X pins σ H s)(k:∀ b o,b∉fp->s.heap.get? b=some o->h'.get? b=some o)(hf:∀ b∈fp,FpOk X pins H b):Inv X pins σ H { s with heap:=h',toks:=t' }:=by
 have nit:∀ b u,H b=some u->b∉fp:=fun b u e z=>by rw[(hf b z).1]at e;cases e
 refine I.step (g':=s.gens) (d':=s.drawn) (ch:=fp) (fun b hb=>?_) (fun b o _ _ hc e _=>k b o hc e) (fun b o _ _ hc e _=>⟨o.slots,k b o hc e⟩) (fun _ _ _ _ n=>n)
  (fun b o hc e=>⟨o,k b o hc e⟩) (fun _ _ e=>e) (fun _ _ _ e=>e) (fun b ps e=>⟨#[],by rw[e];simp⟩) (fun m hm=>?_) (fun b u e=>?_) I.bare
 ·obtain⟨f0,f1,f2,f3,f4,f5⟩:=hf b hb
  exact⟨f3,f1,f4,f5⟩
 ·obtain⟨o,es,ep,ho,r⟩:=hm
  exact⟨o,es,ep,k _ o (fun z=>(hf _ z).2.1 rfl) ho,r⟩
 ·refine(I.hok b u e).stay (fun c v hc q=>k c v ?_ q) (fun _ q=>q) fun _ _ q=>q
  rcases hc with z | z
  ·rw[z];exact nit b u e
  ·exact nit c _ z
noncomputable def Ite(K:MQ)(a:Addr):It :=
 ⟨fun i H=>∃ xs x,SqL K H a xs/\xs[i]?=some x,fun i H v H'=>∃ T x,H T=none/\v=.ref T/\H'=upd H T (.tup [.int (i:Int),x])/\∀ xs,SqL K H a xs->xs[i]?=some x,fun i H=>∃ xs,SqL K H a xs/\xs.length<=i⟩
theorem ED{P:Program}{w:World}{K:MQ}{es:List Expr}{k:Nat}{pos:Pos}(a e it:Addr)(hei:e≠it):Turn P w K (.Tuple es k pos) (Ite K a) [e,it] e (fun i h=>(∃ old,IsEnum h e it ((i:Nat):Int) old)/\h.IsListIter it a i) where
 mem:=by simp
 obj:=fun i h st b hb=>by
  obtain⟨⟨old,he⟩,o,e2,c,d⟩:=st
  rcases MV.mp hb with rfl | hb
  ·exact⟨_,he,fun v z=>by
    have z':Data.fields _=Data.cell v:=z
    cases z'⟩
  ·have e3:b=it:=by simpa using hb
   subst e3
   exact⟨o,e2,fun v z=>by rw[d]at z;cases z⟩
 keep:=fun i h h' st kk=>by
  obtain⟨⟨old,he⟩,hit⟩:=st
  exact⟨⟨old,kk e (by simp) _ he⟩,hit.at fun o q=>kk it (by simp) o q⟩
 item:=by
  intro X hP hw hK hc i pins s σ H E I hf st hg
  subst hP hw hK
  obtain⟨xs,x,hq,hx⟩:=hg
  obtain⟨its,rv,p,hz⟩:=I.list hq
  obtain⟨u,hu,ru⟩:=rv.get hx
  obtain⟨⟨old,he⟩,hit⟩:=st
  refine wpAny_pyNext_enum_item he hit p.isList (x:=u) (by simpa using hu) hei fun h' ho hit' hT hsz hk=>?_
  refine⟨_,rfl,?_⟩
  refine wpAny_letOwnedTupleGo_enum ho fun h2 he2 hs2=>?_
  have hs2':Heap.SameBut e h' h2:=hs2
  have hel:e<s.heap.objs.size:=Heap.lt_size he
  have hil:it<s.heap.objs.size:=by obtain⟨_,q,_⟩:=hit;exact Heap.lt_size q
  have hfr:H s.heap.objs.size=none:=I.hok.fresh (MT _)
  have I0:Inv X pins σ (upd H s.heap.objs.size (.tup [.int (i:Int),x])) { s with heap:=s.heap.push { cls:=.type "tuple",data:=.seq #[.int (i:Int) s.toks,u] },toks:=s.toks+1 } :=
   I.laid (t':=s.toks+1) (fun b u e=>Heap.get?_push_of_some _ e) (MT _) ⟨by show 2<=sizeLine;decide,[.int (i:Int) s.toks,u],.cons ⟨_,rfl⟩ (.cons ru .nil),⟨_,Heap.get?_push_size _ rfl,rfl,_,rfl⟩⟩
  have hfb:∀ b∈[e,it],b<s.heap.objs.size:=fun b hb=>by
   rcases MV.mp hb with rfl | hb
   ·exact hel
   ·have e3:b=it:=by simpa using hb
    rw[e3];exact hil
  have hn:∀ b∈[e,it],upd H s.heap.objs.size (.tup [.int (i:Int),x]) b=none:=fun b hb=>by
   rw[ao (Nm (hfb b hb))]
   exact(hf b hb).1
  have I2:Inv X pins σ (upd H s.heap.objs.size (.tup [.int (i:Int),x])) { s with heap:=h2,toks:=s.toks+1 }:=Inv.turnedL (s:={ s with heap:=s.heap.push { cls:=.type "tuple",data:=.seq #[.int (i:Int) s.toks,u] },toks:=s.toks+1 }) (h':=h2) I0 (t':=s.toks+1) (fp:=[e,it]) (fun b o hb q=>by
   have nb:b≠e:=fun z=>hb (by simp[z])
   have nb2:b≠it:=fun z=>hb (by simp[z])
   refine(hs2'.2 b nb).trans ?_
   rcases Heap.get?_push_cases q with⟨z1,z2⟩ | q
   ·rw[z1,z2];exact hT
   ·exact hk b o nb nb2 q) fun b hb=>⟨hn b hb,(hf b hb).2⟩
  refine⟨.ref s.heap.objs.size,_,I2,rfl,⟨s.heap.objs.size,x,hfr,rfl,rfl,fun ys hy=>by rw[I.list_inj hy hq];exact hx⟩,?_,hn⟩
  refine⟨⟨u,?_⟩,hit'.at fun o q=>(hs2'.2 it (Ne.symm hei)).trans q⟩
  have e4:(((i+1:Nat):Nat):Int)=(i:Int)+1:=by omega
  rw[e4]
  exact he2
 done:=by
  intro X hP hw hK hc i pins s σ H E I hf st hg
  subst hP hw hK
  obtain⟨xs,hq,hx⟩:=hg
  obtain⟨its,rv,p,hz⟩:=I.list hq
  obtain⟨⟨old,he⟩,hit⟩:=st
  have hl:=rv.length
  obtain⟨f0,f1,f2,f3,f4,f5⟩:=hf it (by simp)
  exact wpAny_pyNext_enum_end (I.ok.hd hc) he hit p.isList (by simp;omega) fun h' eb=>⟨rfl,I.turned (t':=s.toks) (fun b o hb e=>eb b o hb e) f0 f1 f3 f4 f5⟩
 self:=fun _ _ _ _ _ st h=>by
  obtain⟨⟨old,he⟩,_⟩:=st
  exact wpAny_pyIter_enum he h
section
variable{X:Cx}
noncomputable def iEnum(K:MQ)(ta:TA):TI:=fun σ H R=>ta σ H fun vs H1=>∃ a,vs = [.ref a]/\(∃ xs,SqL K H1 a xs)/\R (Ite K a) H1
theorem ui{l:Expr}{ta:TA}{es:List Expr}{k:Nat}{tp p pos:Pos} (hg:Gl X "enumerate") (hm:X.mg "enumerate" = none) (ha:PA X [l] ta) (hs:starEach [l] X.env = [(false,eval l X.env)]:=by rfl) :
  PI X (.Tuple es k tp) (.Call (.Name "enumerate" p) [l] [] pos) (iEnum X.K ta):=by
 intro pins s σ H R I h
 refine Call_ (ik I hg hm yz (PyProof.Rows.callWith_type1 (thn (ha pos pins s σ H _ I h) fun us s1 ⟨vs,H1,I1,r1,q1⟩=>?_) hs rfl))
 obtain⟨a,e,⟨xs,hq⟩,q⟩:=q1
 subst e
 obtain⟨u,rfl,ru⟩:=sZ r1
 cases ru
 obtain⟨its,rv,p,hz⟩:=I1.list hq
 refine call_enumerate_list p.isList fun h' he hit hsz hk=>?_
 refine wpAny_pyIter_enum he ?_
 refine⟨s1.heap.objs.size+1,[s1.heap.objs.size+1,s1.heap.objs.size],_,_,H1,rfl,I1.kept (t':=s1.toks) hk,ED a _ _ (Nat.succ_ne_self _),⟨⟨_,he⟩,hit⟩,fun b hb=>?_,q⟩
 have hb':s1.heap.objs.size<=b:=by
  rcases MV.mp hb with rfl | hb
  ·exact Ov _
  ·have e3:b=s1.heap.objs.size:=by simpa using hb
   rw[e3];exact MT _
 exact I1.fpOk hb' (I1.hok.fresh hb')
end
theorem vh{K:MQ}{a:Addr}{xs:List V}{g:TG}{tb:TS}{D:Ends}{σ:St}{H:Hp}(Pv:Nat->St->Hp->Prop)(h0:Pv 0 σ H)(hl:∀ i σ H,i<=xs.length->Pv i σ H->SqL K H a xs)
  (hs:∀ i x σ H T,xs[i]?=some x->Pv i σ H->H T=none->g (.ref T) σ (upd H T (.tup [.int (i:Int),x])) fun σ2 H2=>tb { D with nx:=Pv (i+1),ct:=Pv (i+1),bk:=D.nx } σ2 H2) (hd:∀ σ H,Pv xs.length σ H->D.nx σ H) :
  ∃ W:Nat->Nat->St->Hp->Prop,(∃ m,W 0 m σ H)/\∀ i m σ H,W i m σ H ->
   ((Ite K a).stop i H/\D.nx σ H)∨((Ite K a).go i H/\∃ N:St->Hp->Prop,(∀ σ' H',N σ' H'->∃ m',m'<m/\W (i+1) m' σ' H')/\∀ x H',(Ite K a).yld i H x H'->g x σ H' fun σ2 H2=>tb { D with nx:=N,ct:=N,bk:=D.nx } σ2 H2):=by
 refine⟨fun i m σ H=>m=xs.length-i/\i<=xs.length/\Pv i σ H,⟨xs.length,by simp,NS _,h0⟩,?_⟩
 rintro i m σ H ⟨rfl,hi,p⟩
 have q:=hl i σ H hi p
 by_cases hlt:i<xs.length
 ·refine .inr ⟨⟨xs,xs[i],q,by simp[hlt]⟩,Pv (i+1),fun σ' H' p'=>⟨xs.length-(i+1),by omega,rfl,hlt,p'⟩,fun v H' y=>?_⟩
  obtain⟨T,x,hT,rfl,rfl,y⟩:=y
  exact hs i x σ _ T (y xs q) p hT
 ·have e:i=xs.length:=by omega
  subst e
  exact .inl ⟨⟨xs,q,MT _⟩,hd σ H p⟩
end L2
namespace L2
open PySem PySem.Spec PyProof.Rows
section
variable{X:Cx}
noncomputable def rGetL(K:MQ):V->V->Hp->VK->Prop:=fun o i H Q=>∃ p xs k v,o=.ref p/\i=.int k/\SqL K H p xs/\0<=k/\xs[k.toNat]?=some v/\Q v H
theorem Jz:PGet X (rGetL X.K):=by
 intro pins s σ H o i ov iv Q I ro ri h
 obtain⟨p,xs,k,v,rfl,rfl,hq,h0,hx,q⟩:=h
 cases ro
 obtain⟨t,rfl⟩:=ri
 obtain⟨its,r,pl,hz⟩:=I.list hq
 obtain⟨w,ew,rw'⟩:=r.get hx
 have hl:=r.length
 have hn:=r8
 have hlt:=(MO.mp hx).1
 exact wpAny_getItem_list pl.isList h0 (by omega) (by simpa using ew) ⟨v,H,I,rw',q⟩
end
theorem pD{n j:Nat}(h:j<n):ixN n (j:Int)=some j:=by
 unfold ixN
 rw[if_pos (by omega),if_pos (by omega)]
 rfl
end L2
namespace L2
open PySem PySem.Spec PyProof.Rows
theorem iK:∀{ds:List PyData},(∀ d∈ds,d.canLay0=true)->PyData.canLayAll0 ds=true
 |[],_=>by simp[PyData.canLayAll0]
 |d::ds,h=>by
  rw[PyData.canLayAll0,h d (by simp),iK fun x hx=>h x (by simp[hx])]
  rfl
theorem jZ{n:Nat}:∀{ds:List PyData},(∀ d∈ds,d.depth<=n)->PyData.depthAll ds<=n
 |[],_=>by simp[PyData.depthAll]
 |d::ds,h=>by
  have h1:=h d (by simp)
  have h2:=jZ (ds:=ds) fun x hx=>h x (MY _ hx)
  rw[PyData.depthAll]
  omega
theorem zt{ds:List PyData}(h:∀ d∈ds,d.canLay0=true/\d.depth<=10):SeqAt.shaped (.list ds)=true:=by
 have h1:=iK fun d hd=>(h d hd).1
 have h2:=jZ fun d hd=>(h d hd).2
 have h3:PyData.depth (.list ds)<=64:=by simp only[PyData.depth];omega
 show(PyData.canLay0 (.list ds)&&decide (PyData.depth (.list ds)<=64))=true
 rw[Qf]
 exact⟨by simp only[PyData.canLay0];exact h1,decide_eq_true h3⟩
end L2
namespace L2
open PySem PySem.Spec PyProof.Rows
noncomputable def cxG(X:Cx)(scope:Scope)(fr:List (Str×Nat))(xs:List Str)(C:Addr)(ex:List Addr)(s:Shared)(H:Hp):Cx where
 prog:=X.prog
 w:=X.w
 K:=X.K
 mg:=X.mg
 base:=X.base
 A:=X.A
 N:=xs++fr.map (·.1)
 s₀:=s
 H₀:=H
 env:=compEnvC scope (clOf X.env fr) C X.env
 outer:=X.stack
 stack:=X.stack
 ex:=ex
 fn:=fun _=>false
 calm:=X.calm
 pn:=[]
 xe:=fun _ _=>False
structure ju(X:Cx)(scope:Scope)(fr:List (Str×Nat))(xs:List Str):Prop where
 clos:closureFor scope X.env=pure (clOf X.env fr)
 cell:∀ y∈scope.names,y.2≠.cell
 kind:scope.kind=.function
 names:∀ y∈scope.names,y.2=.local->scope.names.lookup y.1=some .local
 slot:∀ p∈fr,X.N[p.2]?=some p.1/\X.env.kindOf p.1=some .cell
 has:∀ y∈(relabel scope X.env).names,(y.2=.cell∨y.2=.free)->y.1∈fr.map (·.1)
 frk:∀ p∈fr,(relabel scope X.env).names.lookup p.1=some .cell
theorem ju.of{X:Cx}{scope:Scope}{fr:List (Str×Nat)}{xs:List Str}(clos:closureFor scope X.env=pure (clOf X.env fr))(cell:∀ y∈scope.names,y.2≠.cell)(kind:scope.kind=.function)(names:∀ y∈scope.names,y.2=.local->scope.names.lookup y.1=some .local)
  (slot:∀ p∈fr,X.N[p.2]?=some p.1/\X.env.kindOf p.1=some .cell) (nf:∀ z∈scope.names,z.2=.free->z.1∈fr.map (·.1)) (frk:∀ p∈fr,(relabel scope X.env).names.lookup p.1=some .cell):ju X scope fr xs where
 clos:=clos
 cell:=cell
 kind:=kind
 names:=names
 slot:=slot
 has:=fun z hz hk=>by
  obtain⟨⟨n,k⟩,hm,e⟩:=NL.mp (show z∈scope.names.map _ from hz)
  have h2:=cell _ hm
  dsimp only at e h2
  have hn:z.1=n:=by rw[← e];split<;>rfl
  have hf:k=.free:=by
   by_cases q:k=.free
   ·exact q
   ·have hb:(k == NameKind.free)=false:=by simpa using q
    rw[hb]at e
    simp only[Om,OO,if_false]at e
    subst e
    exact(hk.elim h2 q).elim
  have:=nf _ hm hf
  rw[hn]
  exact this
 frk:=frk
noncomputable abbrev nons(xs:List Str):St:=M9 xs.length none
section
variable{X:Cx}{pins:List (Addr×Obj)}{σ:St}{H:Hp}{s:Shared}{scope:Scope}{fr:List (Str×Nat)}{xs:List Str}
theorem ju.cells(O:ju X scope fr xs)(I:Inv X pins σ H s){y:Str}{c:Addr}(h:(clOf X.env fr).lookup y=some c):X.env.cells.lookup y=some c:=by
 obtain⟨hm,e⟩:=eZ h
 obtain⟨p,hp,ep⟩:=NL.mp hm
 have k:=(O.slot p hp).2
 rw[ep]at k
 obtain⟨c',e'⟩:=I.ok.has y (.inl k)
 rw[e']at e
 rw[e',e]
 rfl
theorem xW{fp:List Addr}(O:ju X scope fr xs)(I:Inv X pins σ H s)(hf:∀ b∈fp,FpOk X pins H b)(hfs:∀ b∈fp,b<s.heap.objs.size){g h':Heap}{tk:Nat}(hg:g=s.heap.push (LCg.lst []))
  (hk:∀ b o,g.get? b=some o->h'.get? b=some o) (hC:h'.Ns g.objs.size fun _=>none) :
  Inv (cxG X scope fr xs g.objs.size (s.heap.objs.size::fp) { s with heap:=g } H) (X.pn++pins++[(s.heap.objs.size,LCg.lst [])]) (nons xs++frOf fr σ) H { s with heap:=h',toks:=tk }:=by
 have hsz:g.objs.size=s.heap.objs.size+1:=by rw[hg,Heap.size_push]
 have kp:∀ b o,s.heap.get? b=some o->g.get? b=some o:=fun b o e=>by rw[hg];exact Heap.get?_push_of_some _ e
 have hk0:∀ b o,s.heap.get? b=some o->h'.get? b=some o:=fun b o e=>hk b o (kp b o e)
 have hDo:h'.get? s.heap.objs.size=some (LCg.lst []):=hk _ _ (by rw[hg];exact Heap.get?_push_size _ rfl)
 have neC:∀ b,b<s.heap.objs.size->b≠g.objs.size:=fun b e=>by rw[hsz];exact Nm (OG e)
 have hDC:s.heap.objs.size≠g.objs.size:=by rw[hsz];exact Nm (NR _)
 have hfr:H g.objs.size=none:=I.hok.fresh (by rw[hsz];exact Ov _)
 have hfD:H s.heap.objs.size=none:=I.hok.fresh (MT _)
 have cne:∀ y c,X.env.cells.lookup y=some c->c<s.heap.objs.size:=fun y c e=>by
  obtain⟨v,q⟩:=I.cell y c e
  exact q.lt
 have nst:∀ b,b≠X.env.locals->b∉X.fs->b∉frs X.stack:=fun b h1 h2 z=>(MV.mp (I.stkSub b z)).elim h1 h2
 have nstD:s.heap.objs.size∉frs X.stack:=nst _ (OI I.lt) (I.nofs (MT _))
 refine⟨⟨I.ok.mod,O.kind,I.ok.glob,I.ok.blt,MT _,?_,?_,fun _ _ z _=>(by cases z),I.ok.hd,I.ok.frames,.inl rfl,?_,?_,?_,?_,?_,?_,I.stkFree⟩,rfl,I.bare,Un.kept hk,?_,?_,hfr,?_,?_,I.hok.kept hk0,?_⟩
 ·intro y z c h1 h2
  exact I.ok.inj y z c (O.cells I h1) (O.cells I h2)
 ·intro y hy
  have hm:y∈fr.map (·.1):=by
   rcases hy with hy | hy
   ·exact O.has (y,_) (Od hy) (.inl rfl)
   ·exact O.has (y,_) (Od hy) (.inr rfl)
  exact⟨_,bF hm⟩
 ·intro b hb
  rcases MV.mp hb with rfl | hb
  ·exact⟨hDC,fun y c e=>Nm (cne y c (O.cells I e))⟩
  ·exact⟨neC b (hfs b hb),fun y c e=>(hf b hb).2.2.2.2.1 y c (O.cells I e)⟩
 ·intro b o e
  exact⟨kp b o (I.bs b o e).1,(I.bs b o e).2⟩
 ·show X.base.objs.size<=g.objs.size
  rw[hsz]
  exact Nat.le_succ_of_le (NQ I.ok.bsz I.sz)
 ·intro b o e hb
  rcases MV.mp hb with z | hb
  ·have:=Heap.lt_size (I.bs b o e).1
   rw[z]at this
   exact Nz _ this
  ·rcases(hf b hb).2.2.2.1 with z | z
   ·exact I.ok.noex b o e z
   ·exact absurd (Nk (Heap.lt_size (I.ok.bs b o e).1) z) (Nz _)
 ·intro b hb
  rcases MV.mp hb with z | hb
  ·rw[z];exact nstD
  ·exact nst b (hf b hb).2.1 (hf b hb).2.2.1
 ·exact(I.kept (h':=g) (t':=s.toks) kp).stack
 ·refine⟨_,hC,fun i y v e1 e2 e3=>?_⟩
  have e1a:(xs++fr.map (·.1))[i]?=some y:=e1
  by_cases hi:i<xs.length
  ·rw[MU (by simpa using hi)]at e2
   rw[N8,if_pos hi]at e2
   cases e2
  ·have e1':(fr.map (·.1))[i-xs.length]?=some y:=by
    rw[MR (by omega)]at e1a
    exact e1a
   have e2':(frOf fr σ)[i-xs.length]?=some (some v):=by
    rw[MR (by simp;omega)]at e2
    simpa using e2
   generalize i-xs.length=k at e1' e2'
   unfold frOf at e2'
   rw[Nq]at e1' e2'
   cases q:fr[k]? with
   |none=>rw[q]at e1';cases e1'
   |some p =>
    rw[q]at e1' e2'
    have ey:p.1=y:=Ni e1'
    have ev:(σ[p.2]?).join=some v:=Ni e2'
    have hp:p∈fr:=MP q
    obtain⟨hN,hK⟩:=O.slot p hp
    have hkk:=O.frk p hp
    rw[ey]at hN hK hkk
    have ev':σ[p.2]?=some (some v):=by
     cases q2:σ[p.2]? with
     |none=>rw[q2]at ev;cases ev
     |some w=>rw[q2]at ev;exact congrArg some ev
    obtain⟨m,hn,hl⟩:=I.loc
    obtain⟨u,r,l⟩:=hl p.2 y v hN ev' (.inr (.inl hK))
    refine⟨u,r,?_⟩
    rcases l with⟨k1,_⟩ | ⟨_,c,ec,z⟩
    ·rw[hK]at k1;cases k1
    ·have hm:y∈fr.map (·.1):=by rw[← ey];exact NL.mpr ⟨p,hp,rfl⟩
     have el:=bF (env:=X.env) hm
     rw[ec]at el
     exact .inr ⟨.inl hkk,c,el,by obtain⟨o,ho,hd⟩:=z;exact⟨o,hk0 _ _ ho,hd⟩⟩
 ·intro y c e
  obtain⟨v,o,ho,hd⟩:=I.cell y c (O.cells I e)
  exact⟨v,o,hk0 _ _ ho,hd⟩
 ·intro y c e
  exact I.freeC y c (O.cells I e)
 ·intro p hp
  rcases M5.mp hp with hp | hp
  ·cases hp
  ·rcases M5.mp hp with hp | hp
   ·obtain⟨e,n,ne,nf,d⟩:=I.pin p hp
    exact⟨hk0 _ _ e,n,neC _ (Heap.lt_size e),nst _ ne nf,d⟩
   ·have ep:p=(s.heap.objs.size,LCg.lst []):=by simpa using hp
    subst ep
    exact⟨hDo,hfD,hDC,nstD,fun v z=>by cases z⟩
 ·show(nons xs++frOf fr σ).length=(xs++fr.map (·.1)).length
  unfold frOf
  simp
theorem gB{fp:List Addr}{g:Heap}{s':Shared}{H':Hp}{σ':St}{ys:List V}{us:List Value}(I:Inv X pins σ H s)(hf:∀ b∈fp,FpOk X pins H b)(hg:g=s.heap.push (LCg.lst []))
  (J:Inv (cxG X scope fr xs g.objs.size (s.heap.objs.size::fp) { s with heap:=g } H) (X.pn++pins++[(s.heap.objs.size,LCg.lst us)]) σ' H' s') (hv:Vals ys us) (hl:ys.length<=sizeLine) :
  Inv X pins σ (upd H' s.heap.objs.size (.lst ys)) s'/\H' s.heap.objs.size=none/\FpOk X pins (upd H' s.heap.objs.size (.lst ys)) g.objs.size/\∃ m,s'.heap.Ns g.objs.size m:=by
 have hsz:g.objs.size=s.heap.objs.size+1:=by rw[hg,Heap.size_push]
 have kp:∀ b o,s.heap.get? b=some o->g.get? b=some o:=fun b o e=>by rw[hg];exact Heap.get?_push_of_some _ e
 obtain⟨eD,nD,_,_,_⟩:=J.pin (s.heap.objs.size,LCg.lst us) (by simp)
 have hDC:g.objs.size≠s.heap.objs.size:=by rw[hsz];exact OI (NR _)
 have nD':∀ b u,H' b=some u->b≠s.heap.objs.size:=fun b u e z=>by rw[z]at e;rw[e]at nD;cases nD
 have hx:∀ b o,s.heap.get? b=some o->b∉fp->b∉s.heap.objs.size::fp:=fun b o e hb z=>by
  rcases MV.mp z with z | z
  ·have:=Heap.lt_size e
   rw[z]at this
   exact Nz _ this
  ·exact hb z
 have bU:Un (frs X.stack) (s.heap.objs.size::fp) H H' g s'.heap:=J.base
 have ltD:∀ b o,s.heap.get? b=some o->b≠s.heap.objs.size:=fun b o e=>Nm (Heap.lt_size e)
 have un:Un (frs X.stack) fp H (upd H' s.heap.objs.size (.lst ys)) s.heap s'.heap:=by
  refine⟨fun b o e n hb he=>bU.keep b o (kp b o e) n hb (hx b o e he),fun b o e n hb he=>bU.slot b o (kp b o e) n hb (hx b o e he),fun b o e n he=>?_,fun b o e he=>bU.there b o (kp b o e) (hx b o e he),fun b xs e=>?_,fun b o u e=>?_,fun b ps e=>?_⟩
  ·rw[ao (ltD b o e)];exact bU.free b o (kp b o e) n (hx b o e he)
  ·have q:=bU.tups b xs e
   rw[ao (nD' b _ q)];exact q
  ·have q:=bU.frzs b o u e
   rw[ao (nD' b _ q)];exact q
  ·obtain⟨more,q⟩:=bU.tbls b ps e
   exact⟨more,by rw[ao (nD' b _ q)];exact q⟩
 have hok:HOk X.prog X.w (upd H' s.heap.objs.size (.lst ys)) s'.heap:=fun b u e=>by
  by_cases hb:b=s.heap.objs.size
  ·rw[hb,ag]at e
   cases e
   rw[hb]
   exact⟨hl,us,us.length,hv,eD⟩
  ·rw[ao hb]at e
   exact(J.hok b u e).stay (fun c v _ q=>q) (fun c q=>by rw[ao (nD' c _ q)];exact q) fun c xs q=>by rw[ao (nD' c _ q)];exact q
 have os:s'.os=s.os:=J.os
 refine⟨I.call' os un hok J.bare fun b hb=>⟨(hf b hb).2.2.2.1,(hf b hb).2.1,(hf b hb).2.2.2.2⟩,nD,?_,?_⟩
 ·refine I.fpOk (H':=upd H' s.heap.objs.size (.lst ys)) (b:=g.objs.size) (by rw[hsz];exact Ov _) ?_
  rw[ao hDC]
  exact J.free
 ·obtain⟨m,hn,_⟩:=J.loc
  exact⟨m,hn⟩
end
noncomputable def PTs(X:Cx)(ifs:List Expr)(t:TT):Prop :=
 ∀(pins:List (Addr×Obj))(s:Shared)(σ:St)(H:Hp)(Q:Bool->Hp->Prop),Inv X pins σ H s->t σ H Q ->
  wpAny (model X.prog X.w) X.A (forIn ifs true fun c r=>if r=true then do let ok ← isTrue c X.env (eval c X.env);pure (ForInStep.yield ok) else pure (ForInStep.yield r)) (fun b s'=>∃ H',Inv X pins σ H' s'/\Q b H') X.xe s
noncomputable def tYes:TT:=fun _ H Q=>Q true H
theorem t6{X:Cx}:PTs X [] tYes:=fun _ _ _ H _ I h=>wpAny_tests_nil ⟨H,I,h⟩
theorem Fh{X:Cx}{c:Expr}{t:TT}(h:PT X c t):PTs X [c] t:=fun pins s σ H Q I q=>wpAny_tests_one (h pins s σ H Q I q)
section
variable{prog:Program}{w:World}{A:Around}{s:Shared}
theorem yp{elt target iter:Expr}{ifs:List Expr}{scope:Scope}{pos:Pos}{it acc:Value}{env:Env}{R:Result->Shared->Prop}(I:Nat->Shared->Prop)
  (turn:∀ n s,I n s->wpAny (model prog w) A (pyNext it) (fun r s₁=>match r with
   |none=>R (.ok .next) s₁
   |some v=>wpAny (model prog w) A (letOwnedTupleGo target it v) (fun _ s₀=>wpAny (model prog w) A (assign target env v) (fun _ s₂ =>
     wpAny (model prog w) A (forIn ifs true fun c r=>if r=true then do let ok ← isTrue c env (eval c env);pure (ForInStep.yield ok) else pure (ForInStep.yield r)) (fun ok s₃=>if ok=true then wpAny (model prog w) A (eval elt env) (fun x s₄ =>
      wpAny (model prog w) A (call (.builtin "list.append") [acc,x]) (fun _ s₅=>∃ m,m<n/\I m s₅) (notedBy (model prog w) A env fun e s'=>R (.error e) s') s₄) (notedBy (model prog w) A env fun e s'=>R (.error e) s') s₃
      else ∃ m,m<n/\I m s₃) (notedBy (model prog w) A env fun e s'=>R (.error e) s') s₂)
     (notedBy (model prog w) A env fun e s'=>R (.error e) s') s₀) (notedBy (model prog w) A env fun e s'=>R (.error e) s') s₁) (notedBy (model prog w) A env fun e s'=>R (.error e) s') s)
  (n:Nat) (h:I n s):codeAny (model prog w) A (.compLoop (.ListComp elt [⟨target,iter,ifs,0⟩] scope pos) 0 it acc env) R s:=by
 refine codeAny_loop rfl I (fun n s hI=>?_) n h
 show wpAny _ A ((compTurn (.ListComp elt [⟨target,iter,ifs,0⟩] scope pos) 0 it acc env).onRaise (fun x=>do noteFrame x env;theTreesLotGoes x)) _ _ s
 refine wpAny_noted ?_
 rw[compTurn_list]
 refine wpAny_bind (wpAny_standAt (wpAny_bind (wpAny_mono (turn n s hI) (fun r s₁ h₁=>?_) fun _ _ h'=>h')))
 cases r with
 |none=>exact wpAny_pure h₁
 |some v =>
  refine wpAny_bind (wpAny_mono h₁ (fun _ s₀ h₀'=>?_) fun _ _ h'=>h')
  refine wpAny_bind (wpAny_mono h₀' (fun _ s₂ h₂=>?_) fun _ _ h'=>h')
  refine wpAny_bind (wpAny_mono h₂ (fun okb s₃ h₃=>?_) fun _ _ h'=>h')
  cases okb with
  |false=>exact wpAny_pure ⟨rfl,h₃⟩
  |true=>exact wpAny_bind (wpAny_bind (wpAny_mono h₃ (fun x s₄ h₄=>wpAny_bind (wpAny_mono h₄ (fun _ s₅ h₅=>wpAny_pure (wpAny_pure ⟨rfl,h₅⟩)) fun _ _ h'=>h')) fun _ _ h'=>h'))
end
noncomputable def kr(g:TG)(tt:TT)(te:TE)(n:Nat)(fv:St)(J:It)(H1:Hp)(QQ:List V->Hp->Prop):Prop :=
 ∃ W:Nat->Nat->List V->Hp->Prop,(∃ m,W 0 m [] H1)/\∀ i m ys H,W i m ys H->ys.length<=sizeLine /\
  ((J.stop i H/\QQ ys H)∨(J.go i H/\∃ N:List V->Hp->Prop,(∀ zs H2,N zs H2->∃ m',m'<m/\W (i+1) m' zs H2) /\
   ∀ x H',J.yld i H x H'->g x (M9 n none++fv) H' fun σ2 H2=>σ2.drop n=fv/\tt σ2 H2 fun b H3=>if b=true then te σ2 H3 (fun y H4=>N (ys++[y]) H4) else N ys H3))
section
variable{X:Cx}{scope:Scope}{fr:List (Str×Nat)}{xs:List Str}{elt iter tg:Expr}{ifs:List Expr}{pos:Pos}{te:TE}{tt:TT}{tgt:TG}{wi:TI}
theorem sf{pins:List (Addr×Obj)}{σ:St}{H:Hp}{s:Shared}{E:Value->Shared->Prop}{it:Addr}{fp:List Addr}{tn:Nat->Heap->Prop}{J:It}{RR:Value->Addr->Result->Shared->Prop}{QQ:List V->Hp->Prop}(hc:X.calm=true)(O:ju X scope fr xs)
  (hg0:∀ C ex s H,PG (cxG X scope fr xs C ex s H) tg tgt) (ht:∀ C ex s H,PTs (cxG X scope fr xs C ex s H) ifs tt) (he:∀ C ex s H,PE (cxG X scope fr xs C ex s H) elt te) (I:Inv X pins σ H s) (T:Turn X.prog X.w X.K tg J fp it tn) (st:tn 0 s.heap) (hf:∀ b∈fp,FpOk X pins H b) (hq:kr tgt tt te xs.length (frOf fr σ) J H QQ)
  (fin:∀ D C H4 ys s4 m,Inv X pins σ (upd H4 D (.lst ys)) s4->H4 D=none->FpOk X pins (upd H4 D (.lst ys)) C->s4.heap.Ns C m->QQ ys H4->RR (.ref D) C (.ok .next) s4) :
  wpAny (model X.prog X.w) X.A (newList []) (fun acc s₃=>wpAny (model X.prog X.w) X.A (newFunctionEnv scope X.env.globals (clOf X.env fr) [] X.env.qual none .none (some X.env)) (fun cenv s₄ =>
   codeAny (model X.prog X.w) X.A (.compStart (.ListComp elt [⟨tg,iter,ifs,0⟩] scope pos) 0 (.ref it) acc { cenv with scope:=relabel scope X.env }) (RR acc cenv.locals) s₄) E s₃) E s:=by
 obtain⟨W,⟨m0,w0⟩,turn⟩:=hq
 have hfs:∀ b∈fp,b<s.heap.objs.size:=fun b hb=>by
  obtain⟨o,e,_⟩:=T.obj 0 s.heap st b hb
  exact Heap.lt_size e
 refine wpAny_newObj_type (wpAny_newFunctionEnv O.cell (by intro y hy;simp at hy) (fun h₁ hns₁ hsb₁=>?_) O.kind)
 dsimp only at hns₁ hsb₁ ⊢
 generalize hH2:s.heap.push { cls:=.type "list",dict:=none,data:=.seq ([]:List Value).toArray }=g at hns₁ hsb₁ ⊢
 have hg:g=s.heap.push (LCg.lst []):=hH2.symm
 have hsz:g.objs.size=s.heap.objs.size+1:=by rw[hg,Heap.size_push]
 have hk:∀ b o,g.get? b=some o->h₁.get? b=some o:=fun b o e=>hsb₁.extBut b o (Nm (Heap.lt_size e)) (Heap.get?_push_of_some _ e)
 have kp:∀ b o,s.heap.get? b=some o->h₁.get? b=some o:=fun b o e=>hk b o (by rw[hg];exact Heap.get?_push_of_some _ e)
 have J0:=xW (h':=h₁) (tk:=s.toks+([]:List (Str×Value)).length) O I hf hfs hg hk hns₁
 have stat:∀{H':Hp}{us:List Value},(∀ b∈fp,H' b=none)->∀ b∈fp,FpOk (cxG X scope fr xs g.objs.size (s.heap.objs.size::fp) { s with heap:=g } H) (X.pn++pins++[(s.heap.objs.size,LCg.lst us)]) H' b:=fun{H' us} hn b hb=>by
  obtain⟨_,f1,f2,f3,f4,f5⟩:=hf b hb
  refine⟨hn b hb,?_,fun z=>(MV.mp (I.stkSub b z)).elim f1 f2,.inl (MY _ hb),fun y c e=>f4 y c (O.cells I e),fun p hp=>?_⟩
  ·show b≠g.objs.size
   rw[hsz];exact Nm (OG (hfs b hb))
  ·rcases M5.mp hp with hp | hp
   ·cases hp
   ·rcases M5.mp hp with hp | hp
    ·exact f5 p hp
    ·have ep:p=(s.heap.objs.size,LCg.lst us):=by simpa using hp
     rw[ep]
     exact OI (hfs b hb)
 have loop:codeAny (model X.prog X.w) X.A (.compLoop (.ListComp elt [⟨tg,iter,ifs,0⟩] scope pos) 0 (.ref it) (.ref s.heap.objs.size) (compEnvC scope (clOf X.env fr) g.objs.size X.env))
   (RR (.ref s.heap.objs.size) g.objs.size) { s with heap:=h₁,toks:=s.toks+([]:List (Str×Value)).length }:=by
  refine yp (fun n s'=>∃ i ys us H',Inv (cxG X scope fr xs g.objs.size (s.heap.objs.size::fp) { s with heap:=g } H) (X.pn++pins++[(s.heap.objs.size,LCg.lst us)]) (nons xs++frOf fr σ) H' s'/\Vals ys us/\tn i s'.heap/\(∀ b∈fp,H' b=none)/\W i n ys H') ?_ m0
   ⟨0,[],[],H,J0,.nil,T.keep 0 s.heap h₁ st fun b _ o e=>kp b o e,fun b hb=>(hf b hb).1,w0⟩
  rintro n s3 ⟨i,ys,us,H3,J3,hv,st3,fr3,w3⟩
  obtain⟨hlen,hh⟩:=turn i n ys H3 w3
  have none_err:∀{α:Type}{t:Sem α}{Q:α->Shared->Prop}{E':Value->Shared->Prop}{s:Shared},wpAny (model X.prog X.w) X.A t Q (fun _ _=>False) s->wpAny (model X.prog X.w) X.A t Q E' s:=fun h=>wpAny_mono h (fun _ _ q=>q) fun _ _ z=>z.elim
  have weakN:∀{σ6:St},σ6.length=(nons xs++frOf fr σ).length->σ6.drop xs.length=frOf fr σ->∀(i:Nat) v,(nons xs++frOf fr σ)[i]?=some (some v)->σ6[i]?=some (some v):=fun{σ6} hl6 e6 i v e=>by
   by_cases hi:i<xs.length
   ·rw[MU (by simpa using hi),N8,if_pos hi]at e
    cases e
   ·rw[MR (by simp;omega),← e6,List.getElem?_drop]at e
    have:xs.length+(i-(nons xs).length)=i:=by simp;omega
    rw[this]at e
    exact e
  rcases hh with⟨stop,qn⟩ | ⟨go,N,hN,step⟩
  ·refine none_err (thn (T.done (cxG X scope fr xs g.objs.size (s.heap.objs.size::fp) { s with heap:=g } H) rfl rfl rfl hc i _ s3 _ H3 _ J3 (stat fr3) st3 stop) fun r s4 ⟨hr,J4⟩=>?_)
   subst hr
   obtain⟨I4,nD,fC,m,hn⟩:=gB I hf hg J4 hv hlen
   exact fin _ _ H3 ys s4 m I4 nD fC hn qn
  ·refine none_err (thn (T.item (cxG X scope fr xs g.objs.size (s.heap.objs.size::fp) { s with heap:=g } H) rfl rfl rfl hc i _ s3 _ H3 _ J3 (stat fr3) st3 go) fun r s4 ⟨u,hr,h4⟩=>?_)
   subst hr
   refine none_err (thn h4 fun _ s5 ⟨v,H5,J5,r5,y5,st5,fr5⟩=>?_)
   have J5':=J5.pinned (stat fr5) (T.obj _ _ st5)
   refine none_err (thn (hg0 _ _ _ _ _ s5 _ H5 v u _ J5' r5 (step v H5 y5)) fun _ s6 ⟨σ6,H6,J6,e6,q6⟩=>?_)
   refine none_err (thn (ht _ _ _ _ _ s6 σ6 H6 _ J6 q6) fun b s6' ⟨H6',J6',q6'⟩=>?_)
   have hl6:σ6.length=(nons xs++frOf fr σ).length:=J6.len.trans J3.len.symm
   cases b with
   |false =>
    rw[if_neg Nn]at q6' ⊢
    obtain⟨m',hm,w7⟩:=hN ys H6' q6'
    have pinF:∀ b∈fp,∀ o,s5.heap.get? b=some o->s6'.heap.get? b=some o/\H6' b=none:=fun b hb o e=>by
     obtain⟨q1,q2,_⟩:=J6'.pin (b,o) (MZ _ (MZ _ (cm hb e)))
     exact⟨q1,q2⟩
    refine⟨m',hm,i+1,ys,us,H6',J6'.unpinned.weak (σ':=nons xs++frOf fr σ) hl6.symm (weakN hl6 e6),hv,T.keep _ _ _ st5 fun b hb o e=>(pinF b hb o e).1,fun b hb=>?_,w7⟩
    obtain⟨o,e,_⟩:=T.obj _ _ st5 b hb
    exact(pinF b hb o e).2
   |true =>
    rw[if_pos rfl]at q6' ⊢
    refine none_err (thn (he _ _ _ _ _ s6' _ H6' _ J6' q6') fun u7 s7 ⟨v7,H7,J7,r7,q7⟩=>?_)
    obtain⟨m',hm,w7⟩:=hN _ H7 q7
    obtain⟨eD,nD,dC,dF,dd⟩:=J7.pin (s.heap.objs.size,LCg.lst us) (MZ _ (Nt _ (MZ _ (by simp))))
    have hvl:=hv.length
    refine append_at (hsz:=by show us.toArray.size<=sizeLine;rw[Np,← hvl];exact hlen) eD fun h8 hs8 hD8=>?_
    have pinD:∀ p∈X.pn++pins,p.1≠s.heap.objs.size:=fun p hp z=>by
     have:=Heap.lt_size (I.pin p hp).1
     rw[z]at this
     exact Nz _ this
    have J7a:Inv (cxG X scope fr xs g.objs.size (s.heap.objs.size::fp) { s with heap:=g } H) (X.pn++pins) _ H7 s7:=J7.pins_of fun p hp=>J7.pin p (MZ _ (Nt _ (Nt _ hp)))
    have J8:Inv (cxG X scope fr xs g.objs.size (s.heap.objs.size::fp) { s with heap:=g } H) (X.pn++pins) _ H7 { s7 with heap:=h8 }:=J7a.turned (t':=s7.toks) (fun b o hb e=>(hs8.2 b hb).trans e) nD dC (.inl M3) (fun y c e z=>by
     obtain⟨w',q⟩:=I.cell y c (O.cells I e)
     have:=q.lt
     rw[z]at this
     exact Nz _ this) (fun p hp=>(M5.mp hp).elim (fun z=>by cases z) (pinD p))
    have J9:Inv (cxG X scope fr xs g.objs.size (s.heap.objs.size::fp) { s with heap:=g } H) (X.pn++pins++[(s.heap.objs.size,LCg.lst (us++[u7]))]) _ H7 { s7 with heap:=h8 }:=J8.pins_of fun p hp=>by
     rcases M5.mp hp with hp | hp
     ·exact J8.pin p (MZ _ hp)
     ·have ep:p=(s.heap.objs.size,LCg.lst (us++[u7])):=by simpa using hp
      subst ep
      exact⟨hD8.trans (congrArg some (LCg.lst_snoc us u7)),nD,dC,dF,fun v z=>by cases z⟩
    have J10:=J9.weak (σ':=nons xs++frOf fr σ) hl6.symm (weakN hl6 e6)
    have pinF:∀ b∈fp,∀ o,s5.heap.get? b=some o->s7.heap.get? b=some o/\H7 b=none:=fun b hb o e=>by
     obtain⟨q1,q2,_⟩:=J7.pin (b,o) (MZ _ (MZ _ (cm hb e)))
     exact⟨q1,q2⟩
    refine⟨m',hm,i+1,ys++[v7],us++[u7],H7,J10,hv.append (.cons r7 .nil),T.keep _ _ _ st5 fun b hb o e=>(hs8.2 b (Nm (hfs b hb))).trans (pinF b hb o e).1,fun b hb=>?_,w7⟩
    obtain⟨o,e,_⟩:=T.obj _ _ st5 b hb
    exact(pinF b hb o e).2
 exact codeAny_compStart_list loop (T.self X.A 0 _ _ _ (T.keep 0 s.heap h₁ st fun b _ o e=>kp b o e) loop)
noncomputable def tCompE(wi:TI)(g:TG)(tt:TT)(te:TE)(n:Nat)(fr:List (Str×Nat)):TE:=fun σ H Q=>wi σ H fun J H1=>kr g tt te n (frOf fr σ) J H1 fun ys H2=>∀ D,H2 D=none->Q (.ref D) (upd H2 D (.lst ys))
theorem uu(hc:X.calm=true)(O:ju X scope fr xs)(hi:PI X tg iter wi)(hg0:∀ C ex s H,PG (cxG X scope fr xs C ex s H) tg tgt)(ht:∀ C ex s H,PTs (cxG X scope fr xs C ex s H) ifs tt)(he:∀ C ex s H,PE (cxG X scope fr xs C ex s H) elt te)(hs:∀ x,foldedSetIterable iter X.env x=pure x:=by intro _;rfl) :
  PE X (.ListComp elt [⟨tg,iter,ifs,0⟩] scope pos) (tCompE wi tgt tt te xs.length fr):=by
 intro pins s σ H Q I h
 rw[eval_ListComp]
 refine wpAny_comprehension_free (use:=none) rfl hs O.clos O.kind O.names (thn (hi pins s σ H _ I h) fun xv s1 h1=>thn h1 fun itv s2 h2=>?_)
 obtain⟨it,fp,tn,J,H2,e,I2,T,st2,f2,q2⟩:=h2
 subst e
 refine sf (RR:=fun acc C=>compPost (model X.prog X.w) X.A X.xe none (EP X pins σ Q) acc C) hc O hg0 ht he I2 T st2 f2 q2 ?_
 intro D C H4 ys s4 m I4 nD fC hn q4
 refine⟨m,hn,fun h' hs'=>?_⟩
 obtain⟨g0,g1,g2,g3,g4,g5⟩:=fC
 exact⟨.ref D,_,I4.turned (t':=s4.toks) (fun b o hb e=>(hs'.2 b hb).trans e) g0 g1 g3 g4 g5,rfl,q4 D nD⟩
noncomputable def EH(i:Nat)(wi:TI)(g:TG)(tt:TT)(te:TE)(n:Nat)(fr:List (Str×Nat)):TS:=fun D σ H=>wi σ H fun J H1=>kr g tt te n (frOf fr σ) J H1 fun ys H2=>∀ a,H2 a=none->D.nx (σ.set i (some (.ref a))) (upd H2 a (.lst ys))
theorem oE{i:Nat}{y:Str}{py spos:Pos}(hc:X.calm=true)(hN:X.N.Nodup)(hi':X.N[i]?=some y)(hy:X.env.scope.names.lookup y=some .local)(O:ju X scope fr xs)(hi:PI X tg iter wi)(hg0:∀ C ex s H,PG (cxG X scope fr xs C ex s H) tg tgt)(ht:∀ C ex s H,PTs (cxG X scope fr xs C ex s H) ifs tt)(he:∀ C ex s H,PE (cxG X scope fr xs C ex s H) elt te)
  (hsw:swapsWith (.ListComp elt [⟨tg,iter,ifs,0⟩] scope pos) (some (.Name y py)) spos.line X.env=pure true:=by rfl) (hs:∀ x,foldedSetIterable iter X.env x=pure x:=by intro _;rfl) :
  PS X (.Assign [.Name y py] (.ListComp elt [⟨tg,iter,ifs,0⟩] scope pos) spos) (EH i wi tgt tt te xs.length fr):=by
 intro pins s σ H D I h
 rw[exec_Assign_Name_used _ _ _ _ hsw]
 refine wpAny_bind (wpAny_standAt (wpAny_bind ?_))
 show wpAny _ X.A (do let _ ← comprehension (.ListComp elt [⟨tg,iter,ifs,0⟩] scope pos) scope X.env _ (newList []) false (eval iter X.env) (some (assign (.Name y py) X.env))) _ _ s
 refine wpAny_bind (thn (wpAny_comprehension_free (use:=some (assign (.Name y py) X.env)) (Q:=fun _ s'=>SP X pins D .next s') rfl hs O.clos O.kind O.names (thn (hi pins s σ H _ I h) fun xv s1 h1=>thn h1 fun itv s2 h2=>?_)) fun _ s' hq=>wpAny_pure (wpAny_pure hq))
 obtain⟨it,fp,tn,J,H2,e,I2,T,st2,f2,q2⟩:=h2
 subst e
 refine sf (RR:=fun acc C=>compPost (model X.prog X.w) X.A X.xe (some (assign (.Name y py) X.env)) (fun _ s'=>SP X pins D .next s') acc C) hc O hg0 ht he I2 T st2 f2 q2 ?_
 intro a C H4 ys s4 m I4 nD fC hn q4
 obtain⟨g0,g1,g2,g3,g4,g5⟩:=fC
 obtain⟨oC,eC,hoC⟩:=LCg.ns_obj hn
 have I5:Inv X (pins++[(C,oC)]) σ (upd H4 a (.lst ys)) s4:=I4.pins_of fun p hp=>by
  rcases M5.mp hp with hp | hp
  ·exact I4.pin p (MZ _ hp)
  ·have ep:p=(C,oC):=by simpa using hp
   subst ep
   obtain⟨es,epp,hd,_⟩:=hoC
   exact⟨eC,g0,g1,g2,fun v z=>by rw[hd]at z;cases z⟩
 show wpAny _ X.A (assign (.Name y py) X.env (.ref a)) _ _ _
 refine wpAny_assign_Name (nM I5 hN hi' (.inl hy) (v:=.ref a) rfl (fun s6 I6=>?_) (.inr hy))
 obtain⟨e6,_⟩:=I6.pin (C,oC) (MZ _ (MZ _ (by simp)))
 refine⟨m,hoC.ns e6,fun h' hs'=>?_⟩
 exact⟨_,_,I6.unpinned.turned (t':=s6.toks) (fun b o hb e=>(hs'.2 b hb).trans e) g0 g1 g3 g4 g5,q4 a nD⟩
end
theorem sj{K:MQ}{a:Addr}{xs:List V}{g:TG}{tt:TT}{te:TE}{n:Nat}{fv:St}{H1:Hp}{QQ:List V->Hp->Prop}(Pv:Nat->List V->Hp->Prop)(hz:xs.length<=sizeLine)(h0:Pv 0 [] H1)(hl:∀ i ys H,i<=xs.length->Pv i ys H->SqL K H a xs)
  (hs:∀ i x ys H,xs[i]?=some x->Pv i ys H->g x (M9 n none++fv) H fun σ2 H2=>σ2.drop n=fv/\tt σ2 H2 fun b H3=>if b=true then te σ2 H3 (fun y H4=>Pv (i+1) (ys++[y]) H4) else Pv (i+1) ys H3) (hd:∀ ys H,Pv xs.length ys H->QQ ys H) (hy:∀ i ys H,Pv i ys H->ys.length<=i)
  : kr g tt te n fv (Itl K a) H1 QQ:=by
 refine⟨fun i m ys H=>m=xs.length-i/\i<=xs.length/\Pv i ys H,⟨xs.length,by simp,NS _,h0⟩,?_⟩
 rintro i m ys H ⟨rfl,hi,p⟩
 have q:=hl i ys H hi p
 have hyl:=hy i ys H p
 refine⟨by omega,?_⟩
 by_cases hlt:i<xs.length
 ·refine .inr ⟨⟨xs,xs[i],q,by simp[hlt]⟩,fun zs H2=>Pv (i+1) zs H2,fun zs H2 p2=>⟨xs.length-(i+1),by omega,rfl,hlt,p2⟩,fun x H' y=>?_⟩
  obtain⟨e,y⟩:=y
  subst e
  exact hs i x ys _ (y xs q) p
 ·have e:i=xs.length:=by omega
  subst e
  exact .inl ⟨⟨xs,q,MT _⟩,hd ys H p⟩
theorem pS{lo:Int}{k:Nat}{g:TG}{tt:TT}{te:TE}{n:Nat}{fv:St}{H1:Hp}{QQ:List V->Hp->Prop}(Pv:Nat->List V->Hp->Prop)(hz:k<=sizeLine)(h0:Pv 0 [] H1)
  (hs:∀ i ys H,i<k->Pv i ys H->g (.int (lo+i)) (M9 n none++fv) H fun σ2 H2=>σ2.drop n=fv/\tt σ2 H2 fun b H3=>if b=true then te σ2 H3 (fun y H4=>Pv (i+1) (ys++[y]) H4) else Pv (i+1) ys H3) (hd:∀ ys H,Pv k ys H->QQ ys H) (hy:∀ i ys H,Pv i ys H->ys.length<=i)
  : kr g tt te n fv (Itr lo k) H1 QQ:=by
 refine⟨fun i m ys H=>m=k-i/\i<=k/\Pv i ys H,⟨k,by simp,NS _,h0⟩,?_⟩
 rintro i m ys H ⟨rfl,hi,p⟩
 have hyl:=hy i ys H p
 refine⟨by omega,?_⟩
 by_cases hlt:i<k
 ·refine .inr ⟨hlt,fun zs H2=>Pv (i+1) zs H2,fun zs H2 p2=>⟨k-(i+1),by omega,rfl,hlt,p2⟩,fun x H' y=>?_⟩
  obtain⟨e,y⟩:=y
  subst e y
  exact hs i ys _ hlt p
 ·have e:i=k:=by omega
  subst e
  exact .inl ⟨MT _,hd ys H p⟩
theorem D8{K:MQ}{a:Addr}{xs:List V}{g:TG}{tt:TT}{te:TE}{n:Nat}{fv:St}{H1:Hp}{QQ:List V->Hp->Prop}(Pv:Nat->List V->Hp->Prop)(hz:xs.length<=sizeLine)(h0:Pv 0 [] H1)(hl:∀ i ys H,i<=xs.length->Pv i ys H->SqL K H a xs)
  (hs:∀ i x ys H T,xs[i]?=some x->Pv i ys H->H T=none->g (.ref T) (M9 n none++fv) (upd H T (.tup [.int (i:Int),x])) fun σ2 H2=>σ2.drop n=fv/\tt σ2 H2 fun b H3=>if b=true then te σ2 H3 (fun y H4=>Pv (i+1) (ys++[y]) H4) else Pv (i+1) ys H3) (hd:∀ ys H,Pv xs.length ys H->QQ ys H) (hy:∀ i ys H,Pv i ys H->ys.length<=i)
  : kr g tt te n fv (Ite K a) H1 QQ:=by
 refine⟨fun i m ys H=>m=xs.length-i/\i<=xs.length/\Pv i ys H,⟨xs.length,by simp,NS _,h0⟩,?_⟩
 rintro i m ys H ⟨rfl,hi,p⟩
 have q:=hl i ys H hi p
 have hyl:=hy i ys H p
 refine⟨by omega,?_⟩
 by_cases hlt:i<xs.length
 ·refine .inr ⟨⟨xs,xs[i],q,by simp[hlt]⟩,fun zs H2=>Pv (i+1) zs H2,fun zs H2 p2=>⟨xs.length-(i+1),by omega,rfl,hlt,p2⟩,fun v H' y=>?_⟩
  obtain⟨T,x,hT,rfl,rfl,y⟩:=y
  exact hs i x ys _ T (y xs q) p hT
 ·have e:i=xs.length:=by omega
  subst e
  exact .inl ⟨⟨xs,q,MT _⟩,hd ys H p⟩
end L2
namespace L2
open PySem PySem.Spec PyProof.Rows
section
variable{X:Cx}{K:MQ}{pos:Pos}
theorem Jt(h:X.K=K):IxR X (rIxL K):=h▸aA
theorem ve(h:X.K=K):IxR X (rIxT K):=h▸aS
theorem zY{es:List Expr}{k:Nat}{t:TGs}{n:Nat}(hK:X.K=K)(hc:X.calm=true)(h:PGs X es t)(hn:(assignEach es X.env).length=n:=by rfl)(hst:(assignEach es X.env).findIdx? (·.1)=none:=by rfl):PG X (.Tuple es k pos) (gTup K n t):=hK▸rW hc h hn hst
theorem D9(h:X.K=K):nL X (.type "list") (fun xs H Q=>∃ p ys,xs = [.ref p]/\(SqL K H p ys∨SqT K H p ys)/\∀ l,H l=none->Q (.ref l) (upd H l (.lst ys))):=h▸mR
theorem z8{e:Expr}{f:Str}{ta:TE}(h:X.K=K)(he:PE X e ta)(hb:attributeBase e f X.env (eval e X.env)=eval e X.env):PE X (.Attribute e f pos) (tFld K ta f):=h▸bQ he hb
end
end L2
namespace L2
open PySem PySem.Spec PyProof.Rows
section
variable{X:Cx}
theorem nW:∀{ns:List Int}{us:List Value},Vals (ns.map V.int) us->IntsAre us ns
 |[],_,.nil=>.nil
 |n::ns,_,.cons r rr=>by
  obtain⟨t,rfl⟩:=r
  exact .cons n t (nW rr)
theorem JM(hc:X.calm=true):nL X (.builtin "sum") (fun xs H Q=>∃(p:Addr)(ns:List Int),xs = [.ref p]/\SqL X.K H p (ns.map V.int)/\Q (.int ns.sum) H):=by
 intro pins s σ H xs us Q I r h
 obtain⟨p,ns,rfl,hq,q⟩:=h
 obtain⟨u,rfl,ru⟩:=sZ r
 cases ru
 obtain⟨its,rv,pl,hz⟩:=I.list hq
 have hi:=nW rv
 obtain⟨zs,e⟩:=hi.allInts.items
 have hns:(numsOf its)=ns:=hi.numsOf
 have hl:s.heap.IsList p (intItems zs):=by rw[← e];exact pl.isList
 refine sum_intListG (I.ok.hd hc) hl fun h' tk t' hk=>⟨.int ns.sum,H,I.kept (t':=tk) hk,⟨t',?_⟩,q⟩
 have h2:numsOf (intItems zs).toList=ns:=by rw[← e];exact hns
 rw[nums_intItems]at h2
 rw[preSum_eq,O6 (by simp),← h2]
end
end L2
namespace L2
open PySem PySem.Spec PyProof.Rows
theorem om:∀{ps:List Nat},(∀ p∈ps,p<1000)->PyData.weightAll ((ps.map fun(p:Nat)=>((p:Nat):Int)).map PyData.int)<=12*ps.length
 |[],_=>by simp[PyData.weightAll]
 |p::ps,h=>by
  have ih:=om (ps:=ps) fun x hx=>h x (MY _ hx)
  have hp:=h p (by simp)
  have hw:PyData.weight (.int (p:Int))<=11:=by
   rw[PyData.weight]
   split
   ·exact NS _
   ·rename_i z
    have z':p≠0:=fun e=>z (by rw[e];rfl)
    have e:((p:Int)).natAbs=p:=rfl
    rw[e]
    have:=(Nat.log2_lt z').mpr (show p<2^10 by omega)
    omega
  rw[Nj,Nj,PyData.weightAll,Nv]
  omega
theorem Jp{ps:List Nat}(h:∀ p∈ps,p<1000)(hl:ps.length<=1000):PyData.layable0 (.list ((ps.map fun(p:Nat)=>((p:Nat):Int)).map PyData.int))=true:=by
 have h1:=PySem.W.shaped_ints (ps.map fun(p:Nat)=>((p:Nat):Int))
 have h2:=om h
 have h3:PyData.weight (.list ((ps.map fun(p:Nat)=>((p:Nat):Int)).map PyData.int))<=2^20:=by
  rw[PyData.weight];omega +splitDisjunctions
 unfold PyData.layable0
 unfold SeqAt.shaped at h1
 rw[h1,decide_eq_true h3]
 rfl
section
variable{X:Cx}
noncomputable def rIndex(K:MQ):V->List V->Hp->VK->Prop:=fun x vs H Q=>∃(l:Addr)(ps:List Nat)(k:Nat),x=.ref l/\vs = [.int (k:Int)]/\SqL K H l (ps.map fun(p:Nat)=>V.int (p:Int))/\(∀ p∈ps,p<1000)/\ps.length<=1000/\k∈ps/\Q (.int ((ps.idxOf k:Nat):Int)) H
theorem Jw{ps:List Nat}{k:Nat}:(ps.map fun(p:Nat)=>((p:Nat):Int)).idxOf (k:Int)=ps.idxOf k:=by
 induction ps with
 |nil=>rfl
 |cons p ps ih =>
  rw[Nj,List.idxOf_cons,List.idxOf_cons,ih]
  have e:(((p:Nat):Int) == (k:Int))=(p == k):=by
   by_cases h:p=k
   ·subst h;simp
   ·have h2:¬ (p:Int)=(k:Int):=fun z=>h (by omega)
    rw[beq_eq_false_iff_ne.mpr h,beq_eq_false_iff_ne.mpr h2]
  rw[e]
theorem Jd:MtM X "list.index" (rIndex X.K):=by
 intro pins s σ H x vs v us Q I rx rv h
 obtain⟨l,ps,k,rfl,rfl,hq,hs,hl,hk,q⟩:=h
 cases rx
 obtain⟨u,rfl,ru⟩:=rv.one
 obtain⟨t,rfl⟩:=ru
 have e:(ps.map fun(p:Nat)=>V.int (p:Int))=(ps.map fun(p:Nat)=>((p:Nat):Int)).map V.int:=by rw[Pc];rfl
 rw[e]at hq
 obtain⟨its,r,pl,hz⟩:=I.list hq
 refine index_list_ints pl.isList (nW r) (Jp hs hl) (NL.mpr ⟨k,hk,rfl⟩) ?_
 rw[Jw]
 exact⟨.int _,H,I.tok _,⟨_,rfl⟩,q⟩
end
end L2
namespace L2
open PySem PySem.Spec PyProof.Rows
theorem Ez:∀{us:List Value}{ns:List Int},IntsAre us ns->Vals (ns.map V.int) us
 |_,_,.nil=>.nil
 |_,_,.cons _ t r=>.cons ⟨t,rfl⟩ (Ez r)
section
variable{X:Cx}
noncomputable def Ff(K:MQ):List V->Hp->VK->Prop:=fun xs H Q=>∃(p:Addr)(ns:List Int),xs = [.ref p]/\SqL K H p (ns.map V.int)/\ns.length<64/\∀(l:Addr)(out:List Int),H l=none->out.Perm ns->out.Pairwise (·<=·)->Q (.ref l) (upd H l (.lst (out.map V.int)))
theorem BA:nL X (.builtin "sorted") (Ff X.K):=by
 intro pins s σ H xs us Q I r h
 obtain⟨p,ns,rfl,hq,h64,q⟩:=h
 obtain⟨u,rfl,ru⟩:=sZ r
 cases ru
 obtain⟨its,rv,pl,hz⟩:=I.list hq
 have hi:=nW rv
 have hl:=rv.length
 rw[M7]at hl
 refine sorted_ints pl.isList hi (by omega) fun out ns' a1 a2 a3=>?_
 obtain⟨e,he⟩:=sortedAll_at s.heap its out
 refine⟨.ref (s.heap.objs.size+1),_,I.laid (t':=s.toks) (fun _ _=>sortedAll_old) (Ov _) (show bT X.prog X.w _ _ _ (.lst (ns'.map V.int)) from⟨?_,out.toList,e,Ez a1,?_⟩),rfl,q _ ns' (I.hok.fresh (Ov _)) a2 a3⟩
 ·rw[M7,a2.length_eq]
  exact NM (ax (by omega))
 ·exact he
theorem yy{K:MQ}(h:X.K=K):nL X (.builtin "sorted") (Ff K):=h▸BA
end
end L2
namespace L2
open PySem PySem.Spec PyProof.Rows
section
variable{X:Cx}{tg:Expr}
end
end L2
namespace L2
open PySem PySem.Spec PyProof.Rows
theorem Kq:bootBuiltins "min" = some (.builtin "min"):=by decide +kernel
theorem Kr:bootBuiltins "max" = some (.builtin "max"):=by decide +kernel
section
variable{X:Cx}
end
end L2
namespace L2
open PySem PySem.Spec PyProof.Rows
theorem yesT{σ:St}{H:Hp}{A B:Hp->Prop}(h:A H):tYes σ H fun b H3=>if b=true then A H3 else B H3 :=
 show(if true=true then A H else B H) from iteT (B:=B H) h
theorem bt_zip:bootBuiltins "zip" = some (.type "zip"):=by decide +kernel
noncomputable def Itz(K:MQ)(a b:Addr):It :=
 ⟨fun i H=>∃ xs ys x y,SqL K H a xs/\SqL K H b ys/\xs[i]?=some x/\ys[i]?=some y,
  fun i H v H'=>∃ T x y,H T=none/\v=.ref T/\H'=upd H T (.tup [x,y])/\(∀ xs,SqL K H a xs->xs[i]?=some x)/\∀ ys,SqL K H b ys->ys[i]?=some y,
  fun i H=>∃ xs ys,SqL K H a xs/\SqL K H b ys/\(xs.length<=i∨ys.length<=i)⟩
theorem Ii{P:Program}{w:World}{K:MQ}{es:List Expr}{k:Nat}{pos:Pos}(a b z TI TO i1 i2:Addr)(D:ZipApart z TI TO i1 i2 a b):Turn P w K (.Tuple es k pos) (Itz K a b) [z,TI,TO,i1,i2] z
  (fun i h=>IsZip h z TI TO .none/\IsPair h TI (.ref i1) (.ref i2)/\(∃ u v,IsPair h TO u v)/\h.IsListIter i1 a i/\h.IsListIter i2 b i) where
 mem:=by simp
 obj:=fun i h st c hc=>by
  obtain⟨kz,kI,⟨u,v,kO⟩,⟨o1,q1,c1,d1⟩,⟨o2,q2,c2,d2⟩⟩:=st
  simp only[MV,NW,or_false]at hc
  rcases hc with rfl | rfl | rfl | rfl | rfl
  ·exact⟨_,kz,fun v z=>by have z':Data.fields _=Data.cell v:=z;cases z'⟩
  ·exact⟨_,kI,fun v z=>by have z':Data.seq _ _=Data.cell v:=z;cases z'⟩
  ·exact⟨_,kO,fun v z=>by have z':Data.seq _ _=Data.cell v:=z;cases z'⟩
  ·exact⟨o1,q1,fun v z=>by rw[d1]at z;cases z⟩
  ·exact⟨o2,q2,fun v z=>by rw[d2]at z;cases z⟩
 keep:=fun i h h' st kk=>by
  obtain⟨kz,kI,⟨u,v,kO⟩,k1,k2⟩:=st
  exact⟨kk _ (by simp) _ kz,kk _ (by simp) _ kI,⟨u,v,kk _ (by simp) _ kO⟩,k1.at fun o q=>kk i1 (by simp) o q,k2.at fun o q=>kk i2 (by simp) o q⟩
 item:=by
  intro X hP hw hK hc i pins s σ H E I hf st hg
  subst hP hw hK
  obtain⟨xs,ys,x,y,hq,hr,hx,hy⟩:=hg
  obtain⟨its,rv,p,hz⟩:=I.list hq
  obtain⟨its2,rv2,p2,hz2⟩:=I.list hr
  obtain⟨u,hu,ru⟩:=rv.get hx
  obtain⟨u2,hu2,ru2⟩:=rv2.get hy
  obtain⟨kz,kI,⟨o1,o2,kO⟩,k1,k2⟩:=st
  refine wpAny_pyNext_zip_item D kz kI kO k1 k2 p.isList p2.isList (x:=u) (y:=u2) (by simpa using hu) (by simpa using hu2) fun h' a1 a2 a3 a4 a5 a6 hk=>?_
  refine⟨_,rfl,?_⟩
  refine wpAny_letOwnedTupleGo_zip a1 fun h2 g1 hs2=>?_
  have hs2':Heap.SameBut z h' h2:=hs2
  have lz:z<s.heap.objs.size:=Heap.lt_size kz
  have lI:TI<s.heap.objs.size:=Heap.lt_size kI
  have lO:TO<s.heap.objs.size:=Heap.lt_size kO
  have l1:i1<s.heap.objs.size:=by obtain⟨_,q,_⟩:=k1;exact Heap.lt_size q
  have l2:i2<s.heap.objs.size:=by obtain⟨_,q,_⟩:=k2;exact Heap.lt_size q
  have hfr:H s.heap.objs.size=none:=I.hok.fresh (MT _)
  have I0:Inv X pins σ (upd H s.heap.objs.size (.tup [x,y])) { s with heap:=s.heap.push { cls:=.type "tuple",data:=.seq #[u,u2] },toks:=s.toks } :=
   I.laid (t':=s.toks) (fun b u e=>Heap.get?_push_of_some _ e) (MT _) ⟨by show 2<=sizeLine;decide,[u,u2],.cons ru (.cons ru2 .nil),⟨_,Heap.get?_push_size _ rfl,rfl,_,rfl⟩⟩
  have hfb:∀ c∈[z,TI,TO,i1,i2],c<s.heap.objs.size:=fun c hc=>by
   simp only[MV,NW,or_false]at hc
   rcases hc with rfl | rfl | rfl | rfl | rfl<;>assumption
  have hn:∀ c∈[z,TI,TO,i1,i2],upd H s.heap.objs.size (.tup [x,y]) c=none:=fun c hc=>by
   rw[ao (Nm (hfb c hc))]
   exact(hf c hc).1
  have I2:Inv X pins σ (upd H s.heap.objs.size (.tup [x,y])) { s with heap:=h2,toks:=s.toks }:=Inv.turnedL (s:={ s with heap:=s.heap.push { cls:=.type "tuple",data:=.seq #[u,u2] },toks:=s.toks }) (h':=h2) I0 (t':=s.toks) (fp:=[z,TI,TO,i1,i2]) (fun c o hc q=>by
   have n1:c≠z:=fun e=>hc (by simp[e])
   have n3:c≠TO:=fun e=>hc (by simp[e])
   have n4:c≠i1:=fun e=>hc (by simp[e])
   have n5:c≠i2:=fun e=>hc (by simp[e])
   refine(hs2'.2 c n1).trans ?_
   rcases Heap.get?_push_cases q with⟨z1,z2⟩ | q
   ·rw[z1,z2];exact a5
   ·exact hk c o n1 n3 n4 n5 q) fun c hc=>⟨hn c hc,(hf c hc).2⟩
  refine⟨.ref s.heap.objs.size,_,I2,rfl,⟨s.heap.objs.size,x,y,hfr,rfl,rfl,fun zs h=>by rw[I.list_inj h hq];exact hx,fun zs h=>by rw[I.list_inj h hr];exact hy⟩,?_,hn⟩
  refine⟨g1,(hs2'.2 TI D.TIz).trans (hk _ _ D.TIz D.TITO D.TIi1 D.TIi2 kI),⟨_,_,(hs2'.2 TO D.TOz).trans a2⟩,a3.at fun o q=>(hs2'.2 i1 D.i1z).trans q,a4.at fun o q=>(hs2'.2 i2 D.i2z).trans q⟩
 done:=by
  intro X hP hw hK hc i pins s σ H E I hf st hg
  subst hP hw hK
  obtain⟨xs,ys,hq,hr,hx⟩:=hg
  obtain⟨its,rv,p,hz⟩:=I.list hq
  obtain⟨its2,rv2,p2,hz2⟩:=I.list hr
  obtain⟨kz,kI,⟨o1,o2,kO⟩,k1,k2⟩:=st
  have hl:=rv.length
  have hl2:=rv2.length
  refine wpAny_pyNext_zip_end (I.ok.hd hc) D kz kI kO k1 k2 p.isList p2.isList ?_ fun h' eb=>⟨rfl,Inv.turnedL I (t':=s.toks) (fun c o hc e=>eb c o (fun e=>hc (by simp[e])) (fun e=>hc (by simp[e])) (fun e=>hc (by simp[e])) (fun e=>hc (by simp[e])) e) hf⟩
  rcases hx with hx | hx
  ·exact .inl (by simp;omega)
  ·exact .inr (by simp;omega)
 self:=fun _ _ _ _ _ st h=>wpAny_pyIter_zip st.1 h
theorem cM(x y:Nat)(h:¬ x=y):@Ne Addr x y:=h
theorem Et(n a b:Nat)(ha:a<n)(hb:b<n):ZipApart (n+4) (n+2) (n+3) n (n+1) a b :=
 ⟨cM _ _ (by omega),cM _ _ (by omega),cM _ _ (by omega),cM _ _ (by omega),cM _ _ (by omega),cM _ _ (by omega),cM _ _ (by omega),cM _ _ (by omega),cM _ _ (by omega),
  cM _ _ (by omega),cM _ _ (by omega),cM _ _ (by omega),cM _ _ (by omega),cM _ _ (by omega),cM _ _ (by omega),cM _ _ (by omega),cM _ _ (by omega),cM _ _ (by omega)⟩
section
variable{X:Cx}
noncomputable def iZip(K:MQ)(ta:TA):TI:=fun σ H R=>ta σ H fun vs H1=>∃ a b,vs = [.ref a,.ref b]/\(∃ xs,SqL K H1 a xs)/\(∃ ys,SqL K H1 b ys)/\R (Itz K a b) H1
theorem pi_zip{l1 l2:Expr}{ta:TA}{es:List Expr}{k:Nat}{tp p pos:Pos} (hg:Gl X "zip") (hm:X.mg "zip" = none) (ha:PA X [l1,l2] ta) (hs:starEach [l1,l2] X.env=(false,eval l1 X.env)::starEach [l2] X.env:=by rfl) (hs2:(backTo pos (starEach [l2] X.env)).any (·.1)=false:=by rfl) :
  PI X (.Tuple es k tp) (.Call (.Name "zip" p) [l1,l2] [] pos) (iZip X.K ta):=by
 intro pins s σ H R I h
 refine Call_ (ik I hg hm bt_zip (PyProof.Rows.callWith_type1 (thn (ha pos pins s σ H _ I h) fun us s1 ⟨vs,H1,I1,r1,q1⟩=>?_) hs hs2))
 obtain⟨a,b,e,⟨xs,hq⟩,⟨ys,hr⟩,q⟩:=q1
 subst e
 obtain⟨u,u2,rfl,ru,ru2⟩:=KN r1
 cases ru
 cases ru2
 obtain⟨its,rv,p,hz⟩:=I1.list hq
 obtain⟨its2,rv2,p2,hz2⟩:=I1.list hr
 have la:a<s1.heap.objs.size:=by obtain⟨_,_,q,_⟩:=p;exact Heap.lt_size q
 have lb:b<s1.heap.objs.size:=by obtain⟨_,_,q,_⟩:=p2;exact Heap.lt_size q
 refine call_zip_2 p.isList p2.isList fun h' kz kI kO k1 k2 hsz hk=>?_
 refine wpAny_pyIter_zip kz ?_
 refine⟨s1.heap.objs.size+4,[s1.heap.objs.size+4,s1.heap.objs.size+2,s1.heap.objs.size+3,s1.heap.objs.size,s1.heap.objs.size+1],_,_,H1,rfl,I1.kept (t':=s1.toks) hk,
  Ii a b (s1.heap.objs.size+4) (s1.heap.objs.size+2) (s1.heap.objs.size+3) s1.heap.objs.size (s1.heap.objs.size+1) (Et _ a b la lb),⟨kz,kI,⟨_,_,kO⟩,k1,k2⟩,fun c hc=>?_,q⟩
 have hb':s1.heap.objs.size<=c:=by
  simp only[MV,NW,or_false]at hc
  rcases hc with rfl | rfl | rfl | rfl | rfl
  ·exact PF _ _
  ·exact PF _ _
  ·exact PF _ _
  ·exact MT _
  ·exact PF _ _
 exact I1.fpOk hb' (I1.hok.fresh hb')
end
theorem Hn{K:MQ}{a b:Addr}{xs zs:List V}{g:TG}{tt:TT}{te:TE}{n:Nat}{fv:St}{H1:Hp}{QQ:List V->Hp->Prop}(Pv:Nat->List V->Hp->Prop)(hz:xs.length<=sizeLine)(he:zs.length=xs.length)(h0:Pv 0 [] H1)(hl:∀ i ys H,i<=xs.length->Pv i ys H->SqL K H a xs/\SqL K H b zs)
  (hs:∀ i x z ys H T,xs[i]?=some x->zs[i]?=some z->Pv i ys H->H T=none->g (.ref T) (M9 n none++fv) (upd H T (.tup [x,z])) fun σ2 H2=>σ2.drop n=fv/\tt σ2 H2 fun b H3=>if b=true then te σ2 H3 (fun y H4=>Pv (i+1) (ys++[y]) H4) else Pv (i+1) ys H3) (hd:∀ ys H,Pv xs.length ys H->QQ ys H) (hy:∀ i ys H,Pv i ys H->ys.length<=i)
  : kr g tt te n fv (Itz K a b) H1 QQ:=by
 refine⟨fun i m ys H=>m=xs.length-i/\i<=xs.length/\Pv i ys H,⟨xs.length,by simp,NS _,h0⟩,?_⟩
 rintro i m ys H ⟨rfl,hi,p⟩
 have q:=hl i ys H hi p
 have hyl:=hy i ys H p
 refine⟨by omega,?_⟩
 by_cases hlt:i<xs.length
 ·have hlz:i<zs.length:=by omega
  refine .inr ⟨⟨xs,zs,xs[i],zs[i],q.1,q.2,by simp[hlt],by simp[hlz]⟩,fun zs H2=>Pv (i+1) zs H2,fun zs H2 p2=>⟨xs.length-(i+1),by omega,rfl,hlt,p2⟩,fun v H' y=>?_⟩
  obtain⟨T,x,z,hT,rfl,rfl,y1,y2⟩:=y
  exact hs i x z ys _ T (y1 xs q.1) (y2 zs q.2) p hT
 ·have e:i=xs.length:=by omega
  subst e
  exact .inl ⟨⟨xs,zs,q.1,q.2,.inl (MT _)⟩,hd ys H p⟩
section
variable{X:Cx}
end
end L2
namespace L2
open PySem PySem.Spec PyProof.Rows
noncomputable def LsAt{α:Type}(R:Hp->V->α->Prop)(H:Hp)(ys:List V)(xs:List α):Prop:=ys.length=xs.length/\∀(i:Nat)(x:α),xs[i]?=some x->∃ y,ys[i]?=some y/\R H y x
theorem LsAt.nil{α:Type}{R:Hp->V->α->Prop}{H:Hp}:LsAt R H [] []:=⟨rfl,fun i x e=>by simp at e⟩
theorem LsAt.imp{α:Type}{R R':Hp->V->α->Prop}{H H':Hp}{ys:List V}{xs:List α}(h:LsAt R H ys xs)(m:∀ y x,R H y x->R' H' y x):LsAt R' H' ys xs:=⟨h.1,fun i x e=>by
 obtain⟨y,a,b⟩:=h.2 i x e
 exact⟨y,a,m y x b⟩⟩
theorem LsAt.snoc{α:Type}{R:Hp->V->α->Prop}{H:Hp}{ys:List V}{xs:List α}{y:V}{x:α}(h:LsAt R H ys xs)(r:R H y x):LsAt R H (ys++[y]) (xs++[x]):=by
 refine⟨by rw[MX,MX,h.1];rfl,fun j k e=>?_⟩
 by_cases hj:j<xs.length
 ·rw[MU hj]at e
  obtain⟨p,a1,a2⟩:=h.2 j k e
  exact⟨p,by rw[MU (by rw[h.1];exact hj)];exact a1,a2⟩
 ·rw[MR (by omega)]at e
  have hj2:j=xs.length:=by
   have:=(MO.mp e).1
   rw[Nc]at this
   omega
  subst hj2
  rw[Nl]at e
  cases e
  exact⟨y,by rw[← h.1,MR (MT _),Nl];rfl,r⟩
theorem LsAt.get{α:Type}{R:Hp->V->α->Prop}{H:Hp}{ys:List V}{xs:List α}{i:Nat}{y:V}(h:LsAt R H ys xs)(e:ys[i]?=some y):∃ x,xs[i]?=some x/\R H y x:=by
 have hi:i<xs.length:=by rw[← h.1];exact(MO.mp e).1
 obtain⟨z,a,b⟩:=h.2 i _ (MN hi)
 rw[e]at a
 cases a
 exact⟨_,MN hi,b⟩
end L2
namespace L2
open PySem PySem.Spec PyProof.Rows
theorem EA:∀{ys:List V}{us:List Value},ys.length=us.length->(∀(i:Nat)(y:V)(u:Value),ys[i]?=some y->us[i]?=some u->RelV y u)->Vals ys us
 |[],[],_,_=>.nil
 |[],_::_,e,_=>by cases e
 |_::_,[],e,_=>by cases e
 |y::ys,u::us,e,h=>.cons (h 0 y u rfl rfl) (EA (Nat.succ.inj e) fun i y u a b=>h (i+1) y u a b)
section
variable{X:Cx}
theorem w4{e:Expr}{te:TE}{p p2 pos pos2:Pos}(hc:X.calm=true) (hg:Gl X "list") (hm:X.mg "list" = none) (hg2:Gl X "range") (hm2:X.mg "range" = none) (he:PE X e te)
  (h1:starEach [.Call (.Name "range" p2) [e] [] pos2] X.env = [(false,eval (.Call (.Name "range" p2) [e] [] pos2) X.env)]:=by rfl) (h2:starEach [e] X.env=(false,eval e X.env)::starEach [] X.env:=by rfl) :
  PE X (.Call (.Name "list" p) [.Call (.Name "range" p2) [e] [] pos2] [] pos) (fun σ H Q=>te σ H fun x H1=>∃ n:Nat,x=.int (n:Int)/\n<=1000/\∀ q,H1 q=none->Q (.ref q) (upd H1 q (.lst ((Na n).map fun(i:Nat)=>V.int ((i:Nat):Int))))):=by
 intro pins s σ H Q I h
 refine wpAny_Call_Name_kw (ik I hg hm qo ?_)
 refine PyProof.Rows.callWith_type1 ?_ h1 rfl
 rw[h1]
 refine Calls.spliced_cons ?_
 refine wpAny_Call_Name_kw (ik I hg2 hm2 boot_range ?_)
 refine PyProof.Rows.callWith_type1 ?_ h2 rfl
 rw[h2]
 refine Calls.spliced_cons (thn (he pins s σ H _ I h) fun u s1 ⟨x,H1,I1,r1,q1⟩=>?_)
 obtain⟨n,rfl,hn,q⟩:=q1
 obtain⟨t,rfl⟩:=r1
 refine Calls.spliced_nil ?_
 refine call_range_1 ?_
 refine Calls.spliced_nil ?_
 have I2:Inv X pins σ H1 { s1 with heap:=s1.heap.push { cls:=.type "range",data:=.fields #[.int 0 s1.toks,.int (n:Int) t,.int 1 (s1.toks+1)] },toks:=s1.toks+1+1 }:=I1.kept fun b o e=>Heap.get?_push_of_some _ e
 refine call_list_range (n:=n) (I.ok.hd hc) (IsRange.new ..) (small_one (by omega) (by omega) (by omega) (by omega)) (by rw[rangeSize_one];split<;>omega) (by omega) fun h' tk acc' c' hk hS hacc=>?_
 have I3:Inv X pins σ H1 { s1 with heap:=h',toks:=tk }:=I2.kept (t':=tk) fun b o e=>hk b o e
 have fS:=I2.fpOk (H':=H1) (MT _) (I2.hok.fresh (MT _))
 have hz:((Na n).map fun(i:Nat)=>V.int ((i:Nat):Int)).length<=sizeLine:=by
  rw[M7,NN]
  exact NQ hn (by decide)
 have hv:Vals ((Na n).map fun(i:Nat)=>V.int ((i:Nat):Int)) acc'.toList:=by
  refine EA (by rw[M7,NN,Po,hacc.1]) fun i y u a b=>?_
  rw[PX]at b
  obtain⟨tk',e⟩:=hacc.2 i u b
  rw[Nq]at a
  obtain⟨j,a1,a2⟩:=NI.mp a
  have hi:i<n:=by
   have:=(MO.mp a1).1
   rwa[NN]at this
  rw[O0 hi]at a1
  cases a1
  subst a2
  subst e
  exact⟨tk',by rw[OJ,Int.mul_one]⟩
 have I4:=I3.track (o:=.lst ((Na n).map fun(i:Nat)=>V.int ((i:Nat):Int))) fS ⟨hz,acc'.toList,c',hv,by rw[Array.toArray_toList];exact hS⟩
 exact⟨.ref _,_,I4,rfl,q _ fS.1⟩
end
section
variable{X:Cx}{tg:Expr}
end
section
variable{P:Program}{w:World}{K:MQ}{mg:Str->Option Value}{base:Heap}
end
end L2
namespace L2
open PySem PySem.Spec PyProof.Rows
section
variable{X:Cx}
end
end L2
namespace L2
open PySem PySem.Spec PyProof.Rows
section
variable{prog:Program}{w:World}{A:Around}{E:Value->Shared->Prop}{s:Shared}{z TI TO i1 i2 l1 l2:Addr}{f0:Value}{f1:Bool}
end
section
variable{X:Cx}
end
end L2
namespace L2
open PySem PySem.Spec PyProof.Rows
section
variable{X:Cx}
end
end L2
namespace L2
open PySem PySem.Spec PyProof.Rows
section
variable{prog:Program}{w:World}{A:Around}{E:Value->Shared->Prop}{s:Shared}{d:Addr}
end
section
variable{X:Cx}{pins:List (Addr×Obj)}{σ:St}{H:Hp}{s:Shared}{d:Addr}{u:HO}{o:Obj}
end
section
variable{X:Cx}
end
end L2
namespace L2
open PySem PySem.Spec PyProof.Rows
section
open PySem.W
end
section
open PySem.W
variable{prog:Program}{w:World}{A:Around}{E:Value->Shared->Prop}{s:Shared}
end
section
variable{X:Cx}
end
section
variable{X:Cx}
end
end L2
namespace L2
open PySem PySem.Spec PyProof.Rows
noncomputable abbrev r9(p:Pos):Arguments:={ posonlyargs:=[],args:=[{ arg:="each",annotation:=none,pos:=p }],vararg:=none,kwonlyargs:=[],kw_defaults:=[],kwarg:=none,defaults:=[] }
noncomputable abbrev AM:Scope:={ kind:=.function,names:=[("each",.local),("told",.free)],isGenerator:=false,isCoroutine:=false,more:=[] }
noncomputable abbrev DH(p1 p2 p3:Pos):Expr:=.Subscript (.Name "told" p1) (.Name "each" p2) p3
section
variable{prog:Program}{w:World}{A:Around}{E:Value->Shared->Prop}{s:Shared}
theorem LZ{f c' ct t:Addr}{qual:Str}{p0 p1 p2 p3:Pos}{pm ctv v:Value}{its:Array Value}{k:Int}{tk:Tok}{Q:Value->Shared->Prop}
  (hroom:A.depth<recursionLimit) (hf:s.heap.get? f=some (PM "<lambda>" qual (r9 p0) (DH p1 p2 p3) AM [("told",ct)] pm c' ctv)) (hcr:s.heap.CodeRec (.ref c') qual) (lim:s.heap.NoLimit)
  (hc:s.heap.IsCell ct (some (.ref t))) (hl:s.heap.IsList t its) (k0:0<=k) (k63:k<2^63) (hit:its[k.toNat]?=some v)
  (hQ:∀ h' tk',(∀ b o,s.heap.get? b=some o->h'.get? b=some o)->Q v { s with heap:=h',toks:=tk' }) :
  wpAny (model prog w) A (call (.ref f) [.int k tk]) Q E s:=by
 refine wpAny_call (PySem.W.kla_callFunE hroom hf rfl rfl rfl rfl hcr ?_)
 have hb:bindArgs (PySem.W.kla_fn "<lambda>" qual (r9 p0) (DH p1 p2 p3) AM [("told",ct)] pm (.ref c') ctv) ⟨[.int k tk],[]⟩=(pure [(("each" : Str),Value.int k tk)]:Sem (List (Str×Value))):=rfl
 rw[hb]
 refine wpAny_pure (wpAny_newFunctionEnv (fun x hx=>?_) (fun x hx=>?_) (fun h1 hns hsb=>?_) rfl)
 ·have hx':x=(("each" : Str),NameKind.local)∨x=(("told" : Str),NameKind.free):=by simpa using hx
  rcases hx' with rfl | rfl<;>exact fun z=>by cases z
 ·rw[Nx.mp hx]
  rfl
 have kp:∀ b o,s.heap.get? b=some o->h1.get? b=some o:=fun b o e=>hsb.extBut b o (Nm (Heap.lt_size e)) (Heap.get?_push_of_some _ e)
 refine⟨lim.keeps kp,PySem.W.kla_codeExpr ?_⟩
 refine Subscript_ (wpAny_Name (wpAny_loadName_free (c:=ct) rfl rfl rfl (hc.keeps kp) ?_))
 refine wpAny_Name (wpAny_loadName_local rfl rfl hns rfl ?_)
 exact item_listR (hl.at fun o e=>kp _ _ e) k0 k63 hit (hQ _ _ kp)
noncomputable abbrev Kp(h h':Heap):Prop:=∀ b o,h.get? b=some o->h'.get? b=some o
theorem Kp.but{g h h':Heap}{I:Addr}(k:Kp g h)(n:g.get? I=none)(m:∀ b o,b∉[I]->h.get? b=some o->h'.get? b=some o):Kp g h':=fun b o e=>m b o (fun z=>by rw[Nx.mp z,n]at e;cases e) (k b o e)
theorem Kp.same{g h h':Heap}{S:Addr}(k:Kp g h)(n:g.get? S=none)(m:Heap.SameBut S h h'):Kp g h':=fun b o e=>(m.2 b (fun z=>by rw[z,n]at e;cases e)).trans (k b o e)
theorem Je{J S q:Addr}{fp:List Addr}{n:Nat}{P:Nat->Value->Prop}{St:Nat->Heap->Prop}{g:Heap}{R:Result->Shared->Prop}(W:Walks prog w A.in1 J fp [J] n P St)(gJ:g.get? J=none)(gS:g.get? S=none)(hSJ:S≠J)(hSf:S∉fp)
  (turn:∀ i v,i<n->P i v->∀(h:Heap)(tk:Nat)(Q:Value->Shared->Prop)(E:Value->Shared->Prop),Kp g h->(∀ nv t h' tk',Kp h h'->Q (.int nv t) { s with heap:=h',toks:=tk' })->wpAny (model prog w) A.in1 (call (.ref q) [v]) Q E { s with heap:=h,toks:=tk })
  (fin:∀ i v h' tk',i<n->P i v->Kp g h'->R (.ok (.ret v)) { s with heap:=h',toks:=tk' }) :
  ∀(r j i:Nat)(h:Heap)(tk:Nat)(vb:Value)(nb:Int)(tb:Tok)(c:Nat),n-(j+1)=r->j+1<=n->Kp g h->h.get? S=some (seqObj "list" #[vb,.int nb tb] c)->St (j+1) h->i<n->P i vb ->
   codeAny (model prog w) A (.builtin "min.loop" ⟨[.ref J,.ref q,.ref S],[]⟩) R { s with heap:=h,toks:=tk }:=by
 have nm:(toString "min"++toString ".loop" : String) = "min.loop":=by decide
 intro r
 induction r with
 |zero =>
  intro j i h tk vb nb tb c er hj kg hS st hi hP
  have ej:j+1=n:=by omega
  refine codeAny_builtin Ox ?_;rw[Around.under_plainId NC _]
  refine wpAny_bind (m:=seqItems? (.ref S)) (wpAny_seqItems hS rfl ?_)
  show wpAny _ A.in1 (tryCatch (pyNext (.ref J)) _ >>= _) _ _ _
  refine wpAny_bind (wpAny_tryCatch (W.done _ _ _ (by rw[← ej];exact st) fun h' tk' kk=>?_))
  have kg':=kg.but gJ kk
  have hS':=kk S _ (by simpa using hSJ) hS
  have su:=Heap.SameBut.update h' S (Obj.mapSeq fun _=>(#[]:Array Value))
  refine wpAny_bind (m:=updateSeq S fun _=>#[]) (wpAny_updateSeq hS' rfl (wpAny_bind (wpAny_letGo (wpAny_pure ?_))))
  exact fin i vb _ _ hi hP (kg'.same gS su)
 |succ r ih =>
  intro j i h tk vb nb tb c er hj kg hS st hi hP
  have lt:j+1<n:=by omega
  refine codeAny_builtin Ox ?_;rw[Around.under_plainId NC _]
  refine wpAny_bind (m:=seqItems? (.ref S)) (wpAny_seqItems hS rfl ?_)
  show wpAny _ A.in1 (tryCatch (pyNext (.ref J)) _ >>= _) _ _ _
  refine wpAny_bind (wpAny_tryCatch (W.item (j+1) _ _ _ lt st fun v h1 tk1 hv st1 k1=>?_))
  have kg1:=kg.but gJ k1
  have hS1:=k1 S _ (by simpa using hSJ) hS
  show wpAny _ A.in1 (tryCatch (holding [v] (call (.ref q) [v])) _ >>= _) _ _ _
  refine wpAny_bind (wpAny_tryCatch (wpAny_holding (turn (j+1) v lt hv h1 tk1 _ _ kg1 fun nv t h2 tk2 k2=>?_)))
  have kg2:Kp g h2:=fun b o e=>k2 b o (kg1 b o e)
  have hS2:=k2 _ _ hS1
  have st2:=W.frame _ _ h2 st1 fun b _ o e=>k2 b o e
  show wpAny _ A.in1 (tryCatch (holding [v,.int nv t] (richCompare .Lt (.int nv t) (.int nb tb) >>= _)) _ >>= _) _ _ _
  refine wpAny_bind (wpAny_tryCatch (wpAny_holding (wpAny_bind (CmpOf.ints_lt (prog:=prog) (w:=w) (A:=A.in1) (P:=fun(i:Nat) v=>∃ t,v=.int (if i=0 then nv else nb) t) (fun i=>if i=0 then nv else nb) (fun i v h=>h) 0 1 _ _ _ _ _ ⟨t,rfl⟩ ⟨tb,rfl⟩ ?_))))
  refine wpAny_bind (wpAny_holding (wpAny_truthy_bool (wpAny_bind (wpAny_letGo (wpAny_pure ?_)))))
  by_cases cc:nv<nb
  ·have su:=Heap.SameBut.update h2 S (Obj.mapSeq fun _=>#[v,.int nv t])
   obtain⟨c2,hc2⟩:∃ c2,(h2.update S (Obj.mapSeq fun _=>#[v,.int nv t])).get? S=some (seqObj "list" #[v,.int nv t] c2):=⟨_,get?_update_seq hS2 fun _=>#[v,.int nv t]⟩
   simp[cc]
   refine wpAny_bind (wpAny_updateSeq hS2 rfl (wpAny_bind (wpAny_letGo ?_)))
   refine wpAny_pure ⟨plainId_quiet NC _,ih (j+1) (j+1) _ _ v nv t c2 (by omega) lt (kg2.same gS su) hc2 (W.frame _ _ _ st2 fun b hb o e=>(su.2 b (fun z=>hSf (z▸hb))).trans e) lt hv⟩
  ·simp[cc]
   refine wpAny_bind (wpAny_letGo (wpAny_pure ?_));refine⟨plainId_quiet NC _,ih (j+1) i _ _ vb nb tb c (by omega) lt kg2 hS2 st2 hi hP⟩
theorem LS{d q:Addr}{KK:Type} [DecidableEq KK] {knd:PySem.KeyKind prog w KK} {kvs:List (KK×Value)} {ep:Nat} {Q:Value->Shared->Prop} (hh:A.handled=none) (hd:Heap.DictAt knd s.heap d kvs ep) (ds:(d == sysModules)=false) (hne:0<kvs.length)
  (turn:∀(i:Nat)(v:Value)(k:KK)(x:Value),kvs[i]?=some (k,x)->knd.is k v=true->∀(h:Heap)(tk:Nat)(Q:Value->Shared->Prop)(E:Value->Shared->Prop),Kp s.heap h->(∀ nv t h' tk',Kp h h'->Q (.int nv t) { s with heap:=h',toks:=tk' })->wpAny (model prog w) A.in1 (call (.ref q) [v]) Q E { s with heap:=h,toks:=tk })
  (fin:∀(i:Nat)(v:Value)(k:KK)(x:Value)(h':Heap)(tk':Nat),kvs[i]?=some (k,x)->knd.is k v=true->Kp s.heap h'->Q v { s with heap:=h',toks:=tk' }) :
  wpAny (model prog w) A (call (.builtin "min") [.ref d] [(Str.ofString "key",.ref q)]) Q E s:=by
 have nm:(toString "min"++toString ".loop" : String) = "min.loop":=by decide
 obtain⟨od,_,hod,_⟩:=id hd
 have dl:d<s.heap.objs.size:=Heap.lt_size hod
 refine kmk_tree PySem.F.kind_min PySem.F.plain_min PySem.F.entry_min (kmk_min_key _ _) ?_
 show wpAny _ A.in1 (Builtin.Builtins.bindParams "min" ["key","default"] 0 ⟨[],[(Str.ofString "key",.ref q)]⟩ >>= _) _ _ s
 refine wpAny_bind (wpAny_of_eq (show Builtin.Builtins.bindParams "min" ["key","default"] 0 ⟨[],[(Str.ofString "key",.ref q)]⟩=pure [some (.ref q),none] from rfl) (wpAny_bind (wpAny_pure (wpAny_bind (wpAny_pyIter_dict ds hd ?_)))))
 refine wpAny_bind (wpAny_newList ?_ (NS _));rw[nm]
 obtain⟨ob,eob⟩:∃ ob:Obj,ob={ cls:=Value.type "dict_keyiterator",data:=Data.fields #[Value.ref d,Value.int 0 0,Value.int (kvs.length:Int) 0,Value.int (ep:Int) 0] }:=⟨_,rfl⟩
 rw[← eob]
 have sz:(s.heap.push ob).objs.size=s.heap.objs.size+1:=by rw[Heap.size_push]
 have neS:(s.heap.push ob).objs.size≠s.heap.objs.size:=by omega
 have neD:d≠s.heap.objs.size:=Nm dl
 have fr:∀ b,s.heap.objs.size<=b->s.heap.get? b=none:=fun b hb=>Heap.get?_none_of_le hb
 have kp:Kp s.heap ((s.heap.push ob).push (seqObj "list" #[] 0)):=fun b o e=>Heap.get?_push_of_some _ (Heap.get?_push_of_some _ e)
 have hS:((s.heap.push ob).push (seqObj "list" #[] 0)).get? (s.heap.push ob).objs.size=some (seqObj "list" #[] 0):=Heap.get?_push_size _ rfl
 have hJ:((s.heap.push ob).push (seqObj "list" #[] 0)).get? s.heap.objs.size=some ob:=Heap.get?_push_of_some _ (Heap.get?_push_size _ (by rw[eob];rfl))
 have W:=Walks.dictKeys (prog:=prog) (w:=w) (knd:=knd) (A:=A.in1) hh s.heap.objs.size d neD kvs ep
 have turn':∀(i:Nat)(v:Value),i<kvs.length->(∃ k x,kvs[i]?=some (k,x)/\knd.is k v=true)->∀(h:Heap)(tk:Nat)(Q:Value->Shared->Prop)(E:Value->Shared->Prop),Kp s.heap h->(∀ nv t h' tk',Kp h h'->Q (.int nv t) { s with heap:=h',toks:=tk' })->wpAny (model prog w) A.in1 (call (.ref q) [v]) Q E { s with heap:=h,toks:=tk }:=fun i v _ ⟨k,x,e1,e2⟩=>turn i v k x e1 e2
 refine wpAny_pure ⟨plainId_quiet NC _,codeAny_builtin Ox ?_⟩;rw[Around.under_plainId NC _]
 refine wpAny_bind (m:=seqItems? (.ref (s.heap.push ob).objs.size)) (wpAny_seqItems hS rfl ?_)
 show wpAny _ A.in1 (tryCatch (pyNext (.ref s.heap.objs.size)) _ >>= _) _ _ _
 refine wpAny_bind (wpAny_tryCatch (W.item 0 _ _ _ hne ⟨⟨ob,hJ,by rw[eob],by rw[eob];rfl⟩,hd.at' fun o e=>kp _ _ e⟩ fun v h1 tk1 hv st1 k1=>?_))
 have kg1:=kp.but (fr _ (MT _)) k1
 have hS1:=k1 _ _ (by simpa using neS) hS
 show wpAny _ A.in1 (tryCatch (holding [v] (call (.ref q) [v])) _ >>= _) _ _ _
 refine wpAny_bind (wpAny_tryCatch (wpAny_holding (turn' 0 v hne hv h1 tk1 _ _ kg1 fun nv t h2 tk2 k2=>?_)))
 have kg2:Kp s.heap h2:=fun b o e=>k2 b o (kg1 b o e)
 have hS2:=k2 _ _ hS1
 have st2:=W.frame _ _ h2 st1 fun b _ o e=>k2 b o e
 have su:=Heap.SameBut.update h2 (s.heap.push ob).objs.size (Obj.mapSeq fun _=>#[v,.int nv t])
 obtain⟨c2,hc2⟩:∃ c2,(h2.update (s.heap.push ob).objs.size (Obj.mapSeq fun _=>#[v,.int nv t])).get? (s.heap.push ob).objs.size=some (seqObj "list" #[v,.int nv t] c2):=⟨_,get?_update_seq hS2 fun _=>#[v,.int nv t]⟩
 have nf:(s.heap.push ob).objs.size∉[s.heap.objs.size,d]:=fun z=>by
  rcases MV.mp z with z | z
  ·exact neS z
  ·have z':=Nx.mp z
   exact absurd dl (by rw[← z',sz];exact Qb (Ov _))
 refine wpAny_bind (m:=updateSeq _ fun _=>#[v,.int nv t]) (wpAny_updateSeq hS2 rfl ?_);rw[nm]
 refine wpAny_pure ⟨plainId_quiet NC _,Je W (fr _ (MT _)) (fr _ (by omega)) neS nf turn' (fun i v h' tk' _ ⟨k,x,e1,e2⟩ kk=>fin i v k x h' tk' e1 e2 kk) _ 0 0 _ _ v nv t c2 rfl hne (kg2.same (fr _ (by omega)) su) hc2 (W.frame _ _ _ st2 fun b hb o e=>(su.2 b (fun z=>nf (z▸hb))).trans e) hne hv⟩
end
section
variable{X:Cx}{pins:List (Addr×Obj)}{σ:St}{H:Hp}{s:Shared}{h':Heap}{T:Addr}{ps more:Array Value}{t':Nat}
theorem Inv.tab(I:Inv X pins σ H s)(e:H T=some (.tbl ps))(hx:∀ b o,b≠T->s.heap.get? b=some o->h'.get? b=some o)(hT:h'.get? T=some { cls:=.none,data:=.fields (ps++more) }) :
  Inv X pins σ (upd H T (.tbl (ps++more))) { s with heap:=h',toks:=t' }:=by
 have ne:∀{b:Addr}{o:Option HO},H b=o->o≠some (.tbl ps)->b≠T:=fun q n z=>n (by rw[← q,z,e])
 refine I.un ⟨fun b o g n _ _=>hx b o (ne n (by simp)) g,fun b o g n _ _=>⟨o.slots,hx b o (ne n (by simp)) g⟩,fun b o g n _=>?_,fun b o g _=>?_,fun b xs q=>?_,fun b o u q=>?_,fun b p q=>?_⟩ fun b u q=>?_
 ·rw[ao (ne n (by simp))]
  exact n
 ·by_cases z:b=T
  ·rw[z];exact⟨_,hT⟩
  ·exact⟨o,hx b o z g⟩
 ·rw[ao (ne q (by simp))]
  exact q
 ·rw[ao (ne q (by simp))]
  exact q
 ·by_cases z:b=T
  ·subst z
   rw[e]at q
   cases q
   exact⟨more,ag⟩
  ·exact⟨#[],by rw[ao z,q];simp⟩
 ·by_cases z:b=T
  ·subst z
   rw[ag]at q
   cases q
   exact hT
  ·rw[ao z]at q
   refine(I.hok b u q).stay (fun c o hc g=>hx c o (fun y=>?_) g) (fun c g=>?_) fun c o g=>?_
   ·rcases hc with y2 | y2
    ·exact z (y2▸y)
    ·rw[y,e]at y2;cases y2
   ·rw[ao (ne g (by simp))];exact g
   ·rw[ao (ne g (by simp))];exact g
end
noncomputable def codO(c:Addr)(q:Str):HO:=.ext fun h=>h.CodeRec (.ref c) q
noncomputable def Tb(q:Str)(lp:Pos)(T:Addr)(H:Hp):Prop:=H T=some (.tbl #[])∨∃ c,H T=some (.tbl #[rawInt lp.line,rawInt lp.col,.ref c])/\H c=some (codO c q)
noncomputable def TbS(T:Addr)(H H':Hp):Prop:=∀ b o,b≠T->H b=some o->H' b=some o
structure Lam(X:Cx)(c T ct:Addr)(lq:Str):Prop where
 code:X.env.code=.ref c
 hd:OL X.base c T
 bm:∃ bm o,X.mg "__builtins__" = some (.ref bm)/\bm≠builtinsNs/\X.base.get? bm=some o/\o.cls=.type "module"/\o.dict=some builtinsNs/\o.data=.plain
 kind:X.env.kindOf "told" = some .cell
 cl:closureFor AM X.env=pure [(("told" : Str),ct)]
 cell:X.env.cells.lookup ("told" : Str)=some ct
 q:X.env.qual++"<lambda>" = lq
theorem L5{κ:Type}:∀{kvs:List (κ×V)}{vs:List (κ×Value)},KV kvs vs->∀{i:Nat}{k:κ}{y:Value},vs[i]?=some (k,y)->∃ kv,kv∈kvs/\k=kv.1
 |_,_,.nil,i,k,y,e=>by simp at e
 |p::_,q::_,.cons h r,0,k,y,e=>by
  cases e
  exact⟨p,M3 ..,h.1.symm⟩
 |p::_,_::_,.cons _ r,i+1,k,y,e=>by
  obtain⟨kv,m,ek⟩:=L5 r (show _=some (k,y) from e)
  exact⟨kv,MY _ m,ek⟩
noncomputable def tMinK(lq:Str)(lp:Pos)(T:Addr)(it:Nat)(t:TA):TE:=fun σ H Q=>t σ H fun vs H1=>∃ d kvs a xs,vs = [.ref d]/\H1 d=some (.dK kvs)/\kvs≠[]/\σ[it]?=some (some (.ref a))/\H1 a=some (.lst xs)/\Tb lq lp T H1 /\
 (∀ kv∈kvs,∃(k:Nat)(n:Int),kv.1=.inl (k:Int)/\xs[k]?=some (.int n))/\∀ kv∈kvs,∀ H',TbS T H1 H'->Tb lq lp T H'->Q (kV kv.1) H'
theorem Lm{X:Cx}{c T ct:Addr}{lq x:Str}{it:Nat}{t:TA}{np xp p0 p1 p2 p3 lp kp pos:Pos}(L:Lam X c T ct lq)(hx:X.ex = [])(hc:X.calm=true)(hr:Room 0 X.A) (hN:X.N[it]?=some ("told" : Str)) (hv:Vis X.env.scope "told") (hg:Gl X "min") (hm:X.mg "min" = none) (ha:PA X [.Name x xp] t) :
  PE X (.Call (.Name "min" np) [.Name x xp] [⟨some "key",.Lambda (r9 p0) (DH p1 p2 p3) AM lp,kp⟩] pos) (tMinK lq lp T it t):=by
 intro pins s σ H Q I h
 refine wpAny_Call_Name_kw (ik I hg hm Kq ?_)
 refine callWith_kw (thn (ha pos pins s σ H _ I h) fun us s1 ⟨vs,H1,I1,r1,q1⟩=>?_)
 obtain⟨d,kvs,a,xs,rfl,hd,hne,hσ,hl,tb,hk,q⟩:=q1
 obtain⟨u,rfl,ru⟩:=sZ r1
 cases ru
 refine kws_cons (PySem.W.kla_eval rfl ?_)
 rw[L.q]
 have lp':0<kvs.length:=List.length_pos_iff.mpr hne
 have go:∀(H2:Hp)(s2:Shared)(f c':Addr)(pm ctv:Value),Inv X pins σ H2 s2->s2.heap.get? f=some (PM "<lambda>" lq (r9 p0) (DH p1 p2 p3) AM [("told",ct)] pm c' ctv)->s2.heap.CodeRec (.ref c') lq->H2 d=some (.dK kvs)->H2 a=some (.lst xs)->(∀ kv∈kvs,Q (kV kv.1) H2) ->
   wpAny (model X.prog X.w) X.A (call (.builtin "min") [.ref d] [(Str.ofString "key",.ref f)]) (EP X pins σ Q) X.xe s2:=by
  intro H2 s2 f c' pm ctv I2 hf hcr hd2 hl2 q2
  obtain⟨_,ds,vs,kv2,od,es,ep,hod⟩:=DT I2.hok hd2
  have vl:=kv2.length
  refine LS (knd:=bE X.prog X.w) (kvs:=vs) (ep:=ep) (I2.ok.hd hc) ⟨od,es,hod⟩ ds (by omega) ?_ ?_
  ·intro i v k y e1 e2 h' tk Q' E' kk hQ'
   obtain⟨⟨k1,w1⟩,m1,ek⟩:=L5 kv2 e1
   obtain⟨j,n,ej,hn⟩:=hk _ m1
   have ek':k=.inl (j:Int):=ek.trans ej
   subst ek'
   have sh:∃ t,v=Value.int (j:Int) t:=by
    rcases a7 (show xJ (.inl (j:Int)) v=true from e2) with⟨i',t',z1,z2⟩ | ⟨_,_,z1,_⟩
    ·cases z1;exact⟨t',z2⟩
    ·cases z1
   obtain⟨tv,rfl⟩:=sh
   obtain⟨hz,its,ncap,rv,hgl⟩:=I2.hok a _ hl2
   obtain⟨wv,hwv,rwv⟩:=rv.get hn
   obtain⟨tn,rfl⟩:=rwv
   have jl:j<xs.length:=(MO.mp hn).1
   have l63:=r8
   obtain⟨m,hns,hlook⟩:=I2.loc
   obtain⟨u,ru,lk⟩:=hlook it "told" (.ref a) hN hσ hv
   cases ru
   have hcell:s2.heap.IsCell ct (some (.ref a)):=by
    rcases lk with⟨kl,_⟩ | ⟨_,c2,ec,z⟩
    ·exact absurd kl (by rw[L.kind];intro z;cases z)
    ·rw[L.cell]at ec;cases ec;exact z
   refine LZ (A:=X.A.in1) (f:=f) (c':=c') (t:=a) (its:=its.toArray) (k:=(j:Int)) ?_ (kk _ _ hf) (hcr.keeps kk) (I2.nolimit.keeps kk) (hcell.keeps kk) ⟨_,kk _ _ hgl,rfl,_,rfl⟩ (by omega) (by omega) (by rw[Ng];simpa using hwv) fun h3 tk3 k3=>hQ' _ _ _ _ k3
   have:=hr.dp
   show X.A.depth<recursionLimit
   omega
  ·intro i v k y h' tk e1 e2 kk
   obtain⟨kv,m1,ek⟩:=L5 kv2 e1
   refine⟨kV k,H2,I2.kept kk,?_,by rw[ek];exact q2 kv m1⟩
   rcases a7 (show xJ k v=true from e2) with⟨i',t',rfl,rfl⟩ | ⟨y',t',rfl,rfl⟩
   ·exact⟨t',rfl⟩
   ·exact⟨t',rfl⟩
 have bat:s1.heap.BuiltinsAt X.mg T:=by
  obtain⟨bm,o,b1,b2,b3,b4,b5,b6⟩:=L.bm
  obtain⟨o1,es1,ep1,g1,g2,_⟩:=id I1.mod.glob
  have hT:H1 T≠none:=by
   rcases tb with z | ⟨_,z,_⟩<;>rw[z]<;>simp
  refine⟨bm,o,b1,b2,fun z=>?_,fun z=>?_,I1.bk _ _ b3,b4,b5,b6⟩
  ·rw[z,g1]at b3;cases b3;rw[g2]at b6;cases b6
  ·rw[z]at b3;exact hT (I1.bs _ _ b3).2
 have neT:mainGlobals≠T:=fun z=>by
  obtain⟨o1,es1,ep1,g1,g2,_⟩:=id I1.mod.glob
  have:=(I1.bs _ _ g1).2
  rw[z]at this
  rcases tb with y | ⟨_,y,_⟩<;>rw[y]at this<;>cases this
 have nsg:=I1.mod.glob.keeps I1.bk
 rcases tb with hT | ⟨c',hT,hco⟩
 ·have gT:s1.heap.get? T=some (Qo #[]):=I1.hok T _ hT
  refine PySem.W.kla_makeFunction (mg:=X.mg) L.cl I1.ok.glob nsg L.code (L.hd.keeps I1.bk) gT trivial rfl neT bat fun c' ctv h' tk hxt hge hlt hrec htb=>kws_nil ?_
  have cT:c'≠T:=fun z=>by
   have:=Heap.lt_size gT
   rw[← z]at this
   exact absurd this (Qb hge)
  have I2:=I1.tab (more:=#[rawInt lp.line,rawInt lp.col,.ref c']) (t':=tk) hT (fun b o n e=>hxt b o n e) (by simpa using htb)
  have e0:(#[]:Array Value)++#[rawInt lp.line,rawInt lp.col,.ref c']=#[rawInt lp.line,rawInt lp.col,.ref c']:=by simp
  rw[e0]at I2
  have fr:s1.heap.get? c'=none:=Heap.get?_none_of_le hge
  have H1c:H1 c'=none:=I1.hok.none_of fr
  obtain⟨c3,oc,vs3,t3,ec,g1,g2,g3⟩:=id hrec
  cases ec
  have I3:=I2.xtrack (a:=c') (o:=codO c' lq) (I1.xok hx fr (by rw[ao cT];exact H1c)) ⟨hrec,⟨oc,g1⟩,fun h1 h2 ⟨c4,o4,v4,t4,z1,z2,z3,z4⟩ kk=>by cases z1;exact⟨_,o4,v4,t4,rfl,kk o4 z2,z3,z4⟩⟩
  have kpsh:Kp h' (h'.push (PM "<lambda>" lq (r9 p0) (DH p1 p2 p3) AM [("told",ct)] ((X.mg "__name__").getD .none) c' ctv)):=fun b o e=>Heap.get?_push_of_some _ e
  have I4:=I3.kept (t':=tk) kpsh
  have dT:d≠T:=fun z=>by rw[z,hT]at hd;cases hd
  have aT:a≠T:=fun z=>by rw[z,hT]at hl;cases hl
  have dc:d≠c':=fun z=>by rw[z,H1c]at hd;cases hd
  have ac:a≠c':=fun z=>by rw[z,H1c]at hl;cases hl
  have sm:TbS T H1 (upd (upd H1 T (.tbl #[rawInt lp.line,rawInt lp.col,.ref c'])) c' (codO c' lq)):=fun b o n e=>by
   rw[ao (fun z=>by rw[z,H1c]at e;cases e),ao n]
   exact e
  refine go _ _ h'.objs.size c' _ _ I4 (Heap.get?_push_size _ rfl) (hrec.keeps kpsh) (sm _ _ dT hd) (sm _ _ aT hl) fun kv m=>q kv m _ sm (.inr ⟨c',by rw[ao (Ne.symm cT)];exact ag,ag⟩)
 ·have gT:s1.heap.get? T=some (Qo #[rawInt lp.line,rawInt lp.col,.ref c']):=I1.hok T _ hT
  obtain⟨hrec,_,_⟩:=(show bT X.prog X.w H1 s1.heap c' (codO c' lq) from I1.hok c' _ hco)
  refine PySem.W.kla_makeFunctionHit (mg:=X.mg) (cv:=.ref c') L.cl I1.ok.glob nsg L.code (L.hd.keeps I1.bk) gT trivial (by simp[codeAmong,rawInt]) bat fun ctv h' tk kk sz=>kws_nil ?_
  have kpsh:Kp s1.heap (h'.push (PM "<lambda>" lq (r9 p0) (DH p1 p2 p3) AM [("told",ct)] ((X.mg "__name__").getD .none) c' ctv)):=fun b o e=>Heap.get?_push_of_some _ (kk b o e)
  have I4:=I1.kept (t':=tk) kpsh
  exact go _ _ h'.objs.size c' _ _ I4 (Heap.get?_push_size _ rfl) (hrec.keeps kpsh) hd hl fun kv m=>q kv m _ (fun b o _ e=>e) (.inr ⟨c',hT,hco⟩)
noncomputable abbrev Bm(mg:Str->Option Value)(h:Heap):Prop:=∃ bm o,mg "__builtins__" = some (.ref bm)/\bm≠builtinsNs/\h.get? bm=some o/\o.cls=.type "module"/\o.dict=some builtinsNs/\o.data=.plain
theorem Gi{P:Program}{w:World}{K:MQ}{mg mb:Str->Option Value}{CX:CXT}{k:Nat}{fa a c T:Addr}{fd:FuncData}{x:Str}{sp:Sp}{s:Shared}{vs:List Value}{ns:List Int}
  (KX:K.In s.heap) (hg:s.heap.Ns mainGlobals mg) (hb:s.heap.Ns builtinsNs mb) (hbb:∀ x:Str,x≠"__name__"->mb x=bootBuiltins x) (lim:s.heap.NoLimit) (gens:s.gens=#[])
  (hc:OL s.heap c T) (hT:s.heap.get? T=some (Qo #[])) (nT:K.lookup T=none) (hbm:Bm mg s.heap)
  (ha:s.heap.get? a=some { cls:=.type "list",data:=.seq vs.toArray }) (hi:IntsAre vs ns) (hl:ns.length<=sizeLine) (hr:Room k callerA)
  (F:∀ base:Heap,K.In base->base.Ns mainGlobals mg->OL base c T->Bm mg base->FnOk P w K mg base CX k fa fd [x] sp) (bind:∀(s:Shared)(u:Value),BindsTo s fd ⟨[u],[]⟩ [(x,u)])
  (hsp:∀ H:Hp,H T=some (.tbl #[])->SqL K H a (ns.map V.int)->sp [.ref a] H (fun v _=>v=.bl true) fun _ _ _=>False)
  (hCX:∀ H e s',CX [] H s (fun _ _ _=>False) e s'->False) :
  codeAny (model P w) callerA (.call (.ref fa) ⟨[.ref a],[]⟩) (fun r s'=>r=.ok (.ret (.bool true))/\OldK s.heap s'.heap/\s'.os=s.os/\AllBare s'.gens) s:=by
 have rv:=wq hi
 have aT:a≠T:=fun z=>by rw[z,hT]at ha;cases ha
 obtain⟨H,eT,eS,hok,only,frz⟩:∃ H:Hp,H T=some (.tbl #[])/\SqL K H a (ns.map V.int)/\HOk P w H s.heap/\(∀ b,H b≠none->(b=T∨b=a)/\K.lookup b=none)/\(∀ b u,H b=some u->b≠T->∃ o ys,u=.frz o (.lst ys)):=by
  cases hk:K.lookup a with
  |some o =>
   have e:=KX a o hk
   rw[ha]at e
   cases e
   refine⟨upd (fun _=>none) T (.tbl #[]),ag,.inr ⟨_,vs.toArray,_,hk,rfl,rfl,rfl,by rw[Np,hi.length];exact hl,by simpa using rv⟩,fun b u z=>?_,fun b z=>?_,fun b u z n=>?_⟩
   ·by_cases y:b=T
    ·subst y;rw[ag]at z;cases z;exact hT
    ·rw[ao y]at z;cases z
   ·by_cases y:b=T
    ·exact⟨.inl y,y▸nT⟩
    ·rw[ao y]at z;exact absurd rfl z
   ·rw[ao n]at z;cases z
  |none =>
   refine⟨upd (upd (fun _=>none) a (.frz { cls:=.type "list",data:=.seq vs.toArray } (.lst (ns.map V.int)))) T (.tbl #[]),ag,.inl (.inr ⟨{ cls:=.type "list",data:=.seq vs.toArray },by rw[ao aT];exact ag⟩),fun b u z=>?_,fun b z=>?_,fun b u z n=>?_⟩
   ·by_cases y:b=T
    ·subst y;rw[ag]at z;cases z;exact hT
    ·rw[ao y]at z
     by_cases y2:b=a
     ·subst y2;rw[ag]at z;cases z
      exact⟨ha,by rw[M7];exact hl,vs,_,rv,ha⟩
     ·rw[ao y2]at z;cases z
   ·by_cases y:b=T
    ·exact⟨.inl y,y▸nT⟩
    ·rw[ao y]at z
     by_cases y2:b=a
     ·exact⟨.inr y2,y2▸hk⟩
     ·rw[ao y2]at z;exact absurd rfl z
   ·rw[ao n]at z
    by_cases y2:b=a
    ·subst y2;rw[ag]at z;cases z;exact⟨_,_,rfl⟩
    ·rw[ao y2]at z;cases z
 have un0:∀{b:Addr}{o:Obj},s.heap.get? b=some o->o.cls≠.none->o.cls≠.type "list"->H b=none:=fun{b o} e n1 n2=>by
  cases q:H b with
  |none=>rfl
  |some u =>
   rcases(only b (by rw[q];simp)).1 with z | z
   ·rw[z,hT]at e;cases e;exact absurd rfl n1
   ·rw[z,ha]at e;cases e;exact absurd rfl n2
 have unD:∀{b:Addr}{o:Obj}{es:Array DictEntry}{ep:Nat},s.heap.get? b=some o->o.data=.dict es ep->H b=none:=fun{b o es ep} e d=>by
  cases q:H b with
  |none=>rfl
  |some u =>
   rcases(only b (by rw[q];simp)).1 with z | z
   ·rw[z,hT]at e;cases e;cases d
   ·rw[z,ha]at e;cases e;cases d
 have nsB:∀{b:Addr}{m:Str->Option Value},s.heap.Ns b m->(hidT s.heap H).Ns b m:=fun{b m} ⟨o,es,ep,e,d,r⟩=>⟨o,es,ep,nX e (unD e d),d,r⟩
 have kB:K.In (hidT s.heap H):=fun b o e=>nX (KX b o e) (by
  cases q:H b with
  |none=>rfl
  |some u=>rw[(only b (by rw[q];simp)).2]at e;cases e)
 have cB:OL (hidT s.heap H) c T:=by
  obtain⟨o,v2,file,tf,flags,tg,inF,text,tt,e1,e2,r⟩:=hc
  exact⟨o,v2,file,tf,flags,tg,inF,text,tt,nX e1 (un0 e1 (by rw[e2];simp) (by rw[e2];simp)),e2,r⟩
 have bB:Bm mg (hidT s.heap H):=by
  obtain⟨bm,o,b1,b2,b3,b4,r⟩:=hbm
  exact⟨bm,o,b1,b2,nX b3 (un0 b3 (by rw[b4];simp) (by rw[b4];simp)),b4,r⟩
 have md:Mod K mg (hidT s.heap H):=⟨kB,nsB hg,⟨mb,nsB hb,hbb⟩,let ⟨mc,h1,h2⟩:=lim;⟨mc,nsB h1,h2⟩⟩
 have e0:Env0 P w K mg (hidT s.heap H) callerA [] s H:=⟨rfl,md,fun b o e=>LA e,P9 (GN _ _),trivial,fun b z=>absurd (show b∈([]:List Addr) from z) (by simp),hok,.of_eq gens⟩
 refine codeAny_mono ((F _ kB (nsB hg) cB bB).run callerA [] s H ⟨[.ref a],[]⟩ [.ref a] [.ref a] _ _ hr e0 (bind s (.ref a)) (.cons rfl .nil) (hsp H eT eS)) fun r s' h=>?_
 cases r with
 |error e=>exact(hCX H e s' h).elim
 |ok fl =>
  cases fl with
  |next=>exact False.elim h
  |brk=>exact False.elim h
  |cont=>exact False.elim h
  |ret u =>
   obtain⟨v,H',os,bare,un,hok',r',q⟩:=h
   have q':v=.bl true:=q
   subst q'
   obtain rfl:u=Value.bool true:=r'
   have nil:∀ b:Addr,b∉frs []:=fun b z=>absurd (show b∈([]:List Addr) from z) (by simp)
   have gT:∃ more,s'.heap.get? T=some { cls:=.none,data:=.fields (#[]++more) }:=by
    obtain⟨more,e⟩:=un.tbls T _ eT
    exact⟨more,hok' T _ e⟩
   have kp:∀ b o,b≠T->s.heap.get? b=some o->s'.heap.get? b=some o:=fun b o n e=>by
    cases q:H b with
    |none=>exact un.keep b o e q (nil b) (by simp)
    |some u =>
     obtain⟨ob,ys,rfl⟩:=frz b u q n
     have z2:=un.frzs b ob _ q
     obtain⟨g1,_⟩:=hok b _ q
     obtain⟨g2,_⟩:=hok' b _ z2
     rw[e]at g1;cases g1
     exact g2
   refine⟨rfl,⟨fun b o e=>?_,fun b o e=>?_⟩,os,bare⟩
   ·by_cases z:b=T
    ·subst z
     rw[hT]at e
     cases e
     obtain⟨more,g⟩:=gT
     exact .inr (.inl ⟨(hc.tab hT).isCodeTable,rfl,#[],more,rfl,g⟩)
    ·exact .inl (kp b o z e)
   ·by_cases z:b=T
    ·subst z
     obtain⟨more,g⟩:=gT
     exact⟨_,g⟩
    ·exact⟨o,kp b o z e⟩
theorem walk_ofT{l:Qh}{n k:Nat}{q:Program}{loose:List Str}{XP:(Str->Option Value)->Heap->Prop}{YP:World->Heap->Prop}{d df:DefRec}{K:Params->MQ}{CX:CXT}{sp:MQ->Addr->Sp}{x fn:Str}
  (hn:l.most=some n) (hn2:n<=sizeLine) (hdf:d.params.defaults = []) (hr:Room k callerA) (hY:∀(w:World)(h:Heap),YP w h->(K w.params).In h)
  (hrec:(recsOf q).find? (fun e=>e.name == fn)=some df)
  (F:∀(w:World)(mg:Str->Option Value)(fa:Addr)(h:Heap),(K w.params).In h->h.Ns mainGlobals mg->mg d.name=some (.ref fa)->∃ fd:FuncData,(∀(s:Shared)(u:Value),BindsTo s fd ⟨[u],[]⟩ [(x,u)]) /\
   ∃ c T,OT (K w.params) fn=some (c,T)/\(K w.params).lookup T=none/\∀ base:Heap,(K w.params).In base->base.Ns mainGlobals mg->OL base c T->Bm mg base->FnOk l.prog w (K w.params) mg base CX k fa fd [x] (sp (K w.params) T))
  (hsp:∀(K:MQ)(T:Addr)(H:Hp)(a:Addr)(ns:List Int),ns.length<=n->H T=some (.tbl #[])->SqL K H a (ns.map V.int)->sp K T [.ref a] H (fun v _=>v=.bl true) fun _ _ _=>False)
  (hCX:∀(H:Hp)(s:Shared)(e:Value)(s':Shared),CX [] H s (fun _ _ _=>False) e s'->False) :
  PySem.W.WalkO q loose XP YP l.row.toRowW d [] (fun f vs=>PySem.call f vs):=by
 refine Att.attach_call hn hdf fun w s₀ s₁ mg mb fa o pm cd doc a vs ns G Y ho hd hcd hmg hobj hints hlen hg=>?_
 have KX:=hY w _ Y
 obtain⟨fd,hb,c,T,ht,nT,hF⟩:=F w mg fa _ KX G.T.g hmg
 obtain⟨t1,t2⟩:=PySem.W.tab_of G.T KX hrec ht
 exact Gi KX G.T.g G.T.b G.T.builtins G.T.nolimit hg t1 t2 nT G.T.bmain hobj hints (NQ hlen hn2) hr hF hb (fun H h1 h2=>hsp _ T H a ns hlen h1 h2) fun H e s'=>hCX H s₁ e s'
theorem op_neE{X:Cx}(hu:X.A.units+64<cLine):OpR X (compareOp .NotEq) (fun x y H Q=>∃ a b kvs,x=.ref a/\y=.ref b/\H a=some (.dK kvs)/\H b=some (.dK [])/\Q (.bl (!kvs.isEmpty)) H):=by
 intro pins s σ H x y v u Q I rx ry h
 obtain⟨a,b,kvs,rfl,rfl,ha,hb,q⟩:=h
 cases rx
 cases ry
 obtain⟨_,da,vs,kv,dd⟩:=DT I.hok ha
 obtain⟨_,db,vs2,kv2,dd2⟩:=DT I.hok hb
 have l1:=kv.length
 have l2:=kv2.length
 have e2:vs2 = []:=Qd l2.symm
 subst e2
 refine PySem.W.keq_ne (r:=true) da db dd dd2 (by omega) (fun e=>?_) ⟨.bl (!(vs.length == 0&&true)),H,I,rfl,?_⟩
 ·have e1:vs = []:=Qd e
  subst e1
  exact .nil
 ·cases kvs with
  |nil =>
   cases vs with
   |nil=>exact q
   |cons p r=>cases l1
  |cons p r =>
   cases vs with
   |nil=>cases l1
   |cons p r=>exact q
end L2
namespace L2
open PySem PySem.Spec PyProof.Rows
noncomputable def lexB:List (Int×Int)->Bool
 |[]=>false
 | (x,y)::r=>if x=y then lexB r else decide (x<y)
section
variable{prog:Program}{w:World}{A:Around}{E:Value->Shared->Prop}{s:Shared}
noncomputable def Ps:List (Value×Value)->List (Int×Int)->Prop
 |[],[]=>True
 | (u,v)::r,(x,y)::q=>(∃ t,u=.int x t)/\(∃ t,v=.int y t)/\Ps r q
 |_,_=>False
theorem KO{a b:Addr}{oa ob:Obj}{us vs:Array Value}{na nb:Nat}{ps:List (Int×Int)}{P:PySem.Fin->Shared->Prop}(ga:s.heap.get? a=some oa)(da:oa.data=.seq us na)(gb:s.heap.get? b=some ob) (cb:ob.cls=.type "tuple") (db:ob.data=.seq vs nb)
  (hp:Ps (us.toList.zip vs.toList) ps) (hl:us.size=vs.size) (h:P (.done (.ret (.bool (lexB ps)))) s):wpAny (model prog w) A (Builtin.«tuple.__lt__» ⟨[.ref a,.ref b],[]⟩) P E s:=by
 show wpAny _ _ (isInstance (.ref b) (.type "tuple") >>= _) _ _ s
 refine wpAny_bind (wpAny_isInstance (T:="tuple") ⟨ob,gb,cb⟩ isSubtype_tuple_tuple ?_)
 simp only[Bool.not_true,OO,if_false]
 refine wpAny_bind (wpAny_tupleItemsOf ga da (wpAny_bind (wpAny_tupleItemsOf gb db (wpAny_bind ?_))))
 refine wpAny_forIn_list _ (fun rest r s'=>r.1=none/\s'=s/\∃ q,Ps rest q/\lexB q=lexB ps) _ ?_ ?_ _ _ ⟨rfl,rfl,ps,hp,rfl⟩
 ·rintro⟨u,v⟩ rest r s' ⟨hr,rfl,q,hq,e⟩
  match q,hq with
  | (x,y)::q,⟨⟨t,h1⟩,⟨t',h2⟩,hq'⟩ =>
   subst h1;subst h2
   refine wpAny_bind (wpAny_eqBool_int ?_)
   by_cases c:x=y
   ·have:(x == y)=true:=by simp[c]
    rw[this]
    simp only[Bool.not_true,OO,if_false]
    refine wpAny_pure ⟨rfl,rfl,q,hq',?_⟩
    rw[← e]
    show lexB q=if x=y then lexB q else decide (x<y)
    rw[if_pos c]
   ·have:(x == y)=false:=by simp[c]
    rw[this]
    simp only[Bool.not_false,if_true]
    have e2:lexB ps=decide (x<y):=by
     rw[← e]
     show(if x=y then lexB q else decide (x<y))=_
     rw[if_neg c]
    rw[e2]at h
    refine wpAny_bind (wpAny_rule (wpAny_bind (CmpOf.ints_lt (prog:=prog) (w:=w) (A:=A) (P:=fun(i:Nat) v=>∃ t,v=.int (if i=0 then x else y) t) (fun i=>if i=0 then x else y) (fun i v h=>h) 0 1 _ _ _ _ _ ⟨t,rfl⟩ ⟨t',rfl⟩ ?_)))
    exact wpAny_bind (wpAny_pure (wpAny_pure (wpAny_pure h)))
 ·rintro⟨r1,r2⟩ s' ⟨hr,rfl,q,hq,e⟩
  simp only at hr
  subst hr
  have q0:q = []:=by
   cases q with
   |nil=>rfl
   |cons z q=>exact hq.elim
  subst q0
  have e3:Builtin.Tuple.tupleCompareSizes CmpOp.Lt us.size vs.size=Value.bool (lexB ps):=by
   rw[← e,hl]
   show Value.bool (decide (vs.size<vs.size))=Value.bool false
   rw[decide_eq_false (Nz _)]
  show wpAny _ _ (ret (Builtin.Tuple.tupleCompareSizes CmpOp.Lt us.size vs.size)) _ _ _
  rw[e3]
  exact wpAny_pure h
theorem tup_lt{a b:Addr}{oa ob:Obj}{us vs:Array Value}{na nb:Nat}{ps:List (Int×Int)}{Q:Value->Shared->Prop}(ga:s.heap.get? a=some oa) (ca:oa.cls=.type "tuple") (da:oa.data=.seq us na) (gb:s.heap.get? b=some ob) (cb:ob.cls=.type "tuple") (db:ob.data=.seq vs nb)
  (hp:Ps (us.toList.zip vs.toList) ps) (hl:us.size=vs.size) (hu:A.units<cLine) (h:Q (.bool (lexB ps)) s):wpAny (model prog w) A (richCompare .Lt (.ref a) (.ref b)) Q E s:=by
 refine wpAny_richCompare_same_room (op:=.Lt) (T:="tuple") ⟨oa,ga,ca⟩ ⟨ob,gb,cb⟩ PySem.F.slot_tuple_lt (wpAny_call_entry PySem.F.slot_tuple_lt ⟨oa,ga,ca⟩ PySem.F.entry_tuple_lt ?_ (PySem.F.args_tuple_lt_2 _ _)) hu
 exact KO ga da gb cb db hp hl ⟨_,rfl,(fun z=>by cases z),h⟩
theorem F5{J S:Addr}{fp:List Addr}{n:Nat}{P:Nat->Value->Prop}{St:Nat->Heap->Prop}{g:Heap}{R:Result->Shared->Prop}(W:Walks prog w A.in1 J fp [J] n P St)(bt:Nat->Nat->Bool)(gJ:g.get? J=none)(gS:g.get? S=none)(hSJ:S≠J)(hSf:S∉fp)
  (cmp:∀ i j u v,i<n->j<n->P i u->P j v->∀(h:Heap)(tk:Nat)(Q:Value->Shared->Prop)(E:Value->Shared->Prop),Kp g h->Q (.bool (bt i j)) { s with heap:=h,toks:=tk }->wpAny (model prog w) A.in1 (richCompare .Lt u v) Q E { s with heap:=h,toks:=tk })
  (fin:∀ v h' tk',P (argBest bt (n-1)) v->Kp g h'->R (.ok (.ret v)) { s with heap:=h',toks:=tk' }) :
  ∀(r j:Nat)(h:Heap)(tk:Nat)(vb:Value)(c:Nat),n-(j+1)=r->j+1<=n->Kp g h->h.get? S=some (seqObj "list" #[vb,vb] c)->St (j+1) h->P (argBest bt j) vb->argBest bt j<n ->
   codeAny (model prog w) A (.builtin "min.loop" ⟨[.ref J,.none,.ref S],[]⟩) R { s with heap:=h,toks:=tk }:=by
 intro r
 induction r with
 |zero =>
  intro j h tk vb c er hj kg hS st hP hb
  have ej:j+1=n:=by omega
  refine codeAny_builtin Ox ?_;rw[Around.under_plainId NC _]
  refine wpAny_bind (m:=seqItems? (.ref S)) (wpAny_seqItems hS rfl ?_)
  show wpAny _ A.in1 (tryCatch (pyNext (.ref J)) _ >>= _) _ _ _
  refine wpAny_bind (wpAny_tryCatch (W.done _ _ _ (by rw[← ej];exact st) fun h' tk' kk=>?_))
  have kg':=kg.but gJ kk
  have hS':=kk S _ (by simpa using hSJ) hS
  have su:=Heap.SameBut.update h' S (Obj.mapSeq fun _=>(#[]:Array Value))
  refine wpAny_bind (m:=updateSeq S fun _=>#[]) (wpAny_updateSeq hS' rfl (wpAny_bind (wpAny_letGo (wpAny_pure ?_))))
  exact fin vb _ _ (by rw[← ej];exact hP) (kg'.same gS su)
 |succ r ih =>
  intro j h tk vb c er hj kg hS st hP hb
  have lt:j+1<n:=by omega
  refine codeAny_builtin Ox ?_;rw[Around.under_plainId NC _]
  refine wpAny_bind (m:=seqItems? (.ref S)) (wpAny_seqItems hS rfl ?_)
  show wpAny _ A.in1 (tryCatch (pyNext (.ref J)) _ >>= _) _ _ _
  refine wpAny_bind (wpAny_tryCatch (W.item (j+1) _ _ _ lt st fun v h1 tk1 hv st1 k1=>?_))
  have kg1:=kg.but gJ k1
  have hS1:=k1 S _ (by simpa using hSJ) hS
  show wpAny _ A.in1 (tryCatch (holding [v,v] (richCompare .Lt v vb >>= _)) _ >>= _) _ _ _
  refine wpAny_bind (wpAny_tryCatch (wpAny_holding (wpAny_bind (cmp (j+1) (argBest bt j) v vb lt hb hv hP h1 tk1 _ _ kg1 ?_))))
  refine wpAny_bind (wpAny_holding (wpAny_truthy_bool (wpAny_bind (wpAny_letGo (wpAny_pure ?_)))))
  have eA:argBest bt (j+1)=if bt (j+1) (argBest bt j)=true then j+1 else argBest bt j:=rfl
  cases cc:bt (j+1) (argBest bt j) with
  |true =>
   have su:=Heap.SameBut.update h1 S (Obj.mapSeq fun _=>#[v,v])
   obtain⟨c2,hc2⟩:∃ c2,(h1.update S (Obj.mapSeq fun _=>#[v,v])).get? S=some (seqObj "list" #[v,v] c2):=⟨_,get?_update_seq hS1 fun _=>#[v,v]⟩
   simp
   refine wpAny_bind (wpAny_updateSeq hS1 rfl (wpAny_bind (wpAny_letGo ?_)))
   rw[if_pos cc]at eA
   refine wpAny_pure ⟨plainId_quiet NC _,ih (j+1) _ _ v c2 (by omega) lt (kg1.same gS su) hc2 (W.frame _ _ _ st1 fun b hb o e=>(su.2 b (fun z=>hSf (z▸hb))).trans e) (by rw[eA];exact hv) (by rw[eA];exact lt)⟩
  |false =>
   simp
   rw[if_neg (by rw[cc];simp)]at eA
   refine wpAny_bind (wpAny_letGo (wpAny_pure ?_));refine⟨plainId_quiet NC _,ih (j+1) _ _ vb c (by omega) lt kg1 hS1 st1 (by rw[eA];exact hP) (by rw[eA];exact hb)⟩
theorem Jf{l:Addr}{vs:List Value}{Q:Value->Shared->Prop}(bt:Nat->Nat->Bool)(hh:A.handled=none)(hl:s.heap.IsList l vs.toArray)(hne:0<vs.length)
  (cmp:∀(i j:Nat)(u v:Value),vs[i]?=some u->vs[j]?=some v->∀(h:Heap)(tk:Nat)(Q:Value->Shared->Prop)(E:Value->Shared->Prop),Kp s.heap h->Q (.bool (bt i j)) { s with heap:=h,toks:=tk }->wpAny (model prog w) A.in1 (richCompare .Lt u v) Q E { s with heap:=h,toks:=tk })
  (fin:∀ v h' tk',vs[argBest bt (vs.length-1)]?=some v->Kp s.heap h'->Q v { s with heap:=h',toks:=tk' }) :
  wpAny (model prog w) A (call (.builtin "min") [.ref l]) Q E s:=by
 have nm:(toString "min"++toString ".loop" : String) = "min.loop":=by decide
 obtain⟨ol,hol,_⟩:=id hl
 have ll:l<s.heap.objs.size:=Heap.lt_size hol
 refine kmk_tree PySem.F.kind_min PySem.F.plain_min PySem.F.entry_min (PySem.F.args_min1 _) ?_
 show wpAny _ A.in1 (Builtin.Builtins.bindParams "min" ["key","default"] 0 ⟨[],[]⟩ >>= _) _ _ s
 refine wpAny_bind (wpAny_of_eq (show Builtin.Builtins.bindParams "min" ["key","default"] 0 ⟨[],[]⟩=pure [none,none] from rfl) (wpAny_bind (wpAny_pure (wpAny_bind (wpAny_pyIter_list hl ?_)))))
 refine wpAny_bind (wpAny_newList ?_ (NS _));rw[nm]
 obtain⟨ob,eob⟩:∃ ob:Obj,ob={ cls:=Value.type "list_iterator",data:=Data.fields #[Value.ref l,Value.int 0 0] }:=⟨_,rfl⟩
 rw[← eob]
 have sz:(s.heap.push ob).objs.size=s.heap.objs.size+1:=by rw[Heap.size_push]
 have neS:(s.heap.push ob).objs.size≠s.heap.objs.size:=by omega
 have neL:l≠s.heap.objs.size:=Nm ll
 have fr:∀ b,s.heap.objs.size<=b->s.heap.get? b=none:=fun b hb=>Heap.get?_none_of_le hb
 have kp:Kp s.heap ((s.heap.push ob).push (seqObj "list" #[] 0)):=fun b o e=>Heap.get?_push_of_some _ (Heap.get?_push_of_some _ e)
 have hS:((s.heap.push ob).push (seqObj "list" #[] 0)).get? (s.heap.push ob).objs.size=some (seqObj "list" #[] 0):=Heap.get?_push_size _ rfl
 have hJ:((s.heap.push ob).push (seqObj "list" #[] 0)).get? s.heap.objs.size=some ob:=Heap.get?_push_of_some _ (Heap.get?_push_size _ (by rw[eob];rfl))
 have W:=Walks.list (prog:=prog) (w:=w) (A:=A.in1) hh s.heap.objs.size l neL vs.toArray
 have vsz:vs.toArray.size=vs.length:=Np ..
 rw[vsz]at W
 have cmp':∀ i j u v,i<vs.length->j<vs.length->vs.toArray[i]?=some u->vs.toArray[j]?=some v->∀(h:Heap)(tk:Nat)(Q:Value->Shared->Prop)(E:Value->Shared->Prop),Kp s.heap h->Q (.bool (bt i j)) { s with heap:=h,toks:=tk }->wpAny (model prog w) A.in1 (richCompare .Lt u v) Q E { s with heap:=h,toks:=tk }:=fun i j u v _ _ h1 h2=>cmp i j u v (by simpa using h1) (by simpa using h2)
 refine wpAny_pure ⟨plainId_quiet NC _,codeAny_builtin Ox ?_⟩;rw[Around.under_plainId NC _]
 refine wpAny_bind (m:=seqItems? (.ref (s.heap.push ob).objs.size)) (wpAny_seqItems hS rfl ?_)
 show wpAny _ A.in1 (tryCatch (pyNext (.ref s.heap.objs.size)) _ >>= _) _ _ _
 refine wpAny_bind (wpAny_tryCatch (W.item 0 _ _ _ hne ⟨⟨ob,hJ,by rw[eob],by rw[eob];rfl⟩,hl.at fun o e=>kp _ _ e⟩ fun v h1 tk1 hv st1 k1=>?_))
 have kg1:=kp.but (fr _ (MT _)) k1
 have hS1:=k1 _ _ (by simpa using neS) hS
 have su:=Heap.SameBut.update h1 (s.heap.push ob).objs.size (Obj.mapSeq fun _=>#[v,v])
 obtain⟨c2,hc2⟩:∃ c2,(h1.update (s.heap.push ob).objs.size (Obj.mapSeq fun _=>#[v,v])).get? (s.heap.push ob).objs.size=some (seqObj "list" #[v,v] c2):=⟨_,get?_update_seq hS1 fun _=>#[v,v]⟩
 have nf:(s.heap.push ob).objs.size∉[s.heap.objs.size,l]:=fun z=>by
  rcases MV.mp z with z | z
  ·exact neS z
  ·have z':=Nx.mp z
   exact absurd ll (by rw[← z',sz];exact Qb (Ov _))
 refine wpAny_bind (m:=updateSeq _ fun _=>#[v,v]) (wpAny_updateSeq hS1 rfl ?_);rw[nm]
 refine wpAny_pure ⟨plainId_quiet NC _,F5 W bt (fr _ (MT _)) (fr _ (by omega)) neS nf cmp' (fun v h' tk' e kk=>fin v h' tk' (by simpa using e) kk) _ 0 _ _ v c2 rfl hne (kg1.same (fr _ (by omega)) su) hc2 (W.frame _ _ _ st1 fun b hb o e=>(su.2 b (fun z=>nf (z▸hb))).trans e) hv hne⟩
end
noncomputable abbrev T3:=Int×Int×Int
noncomputable def TrA(H:Hp)(v:V)(t:T3):Prop:=∃ a,v=.ref a/\H a=some (.tup [.int t.1,.int t.2.1,.int t.2.2])
noncomputable def lt3(a b:T3):Bool:=lexB [(a.1,b.1),(a.2.1,b.2.1),(a.2.2,b.2.2)]
theorem lt3_le{a b:T3}(h:lt3 a b=true):a.1<=b.1:=by
 unfold lt3 lexB at h
 by_cases c:a.1=b.1
 ·omega
 ·rw[if_neg c]at h
  have:=of_decide_eq_true h
  omega
theorem lt3_ge{a b:T3}(h:lt3 a b=false):b.1<=a.1:=by
 unfold lt3 lexB at h
 by_cases c:a.1=b.1
 ·omega
 ·rw[if_neg c]at h
  have:=of_decide_eq_false h
  omega
theorem best3(W:Nat->T3):∀ k,argBest (fun i j=>lt3 (W i) (W j)) k<=k/\∀ j,j<=k->(W (argBest (fun i j=>lt3 (W i) (W j)) k)).1<=(W j).1
 |0=>by
  refine⟨MT _,fun j hj=>?_⟩
  have e:j=0:=by omega
  rw[e]
  exact Oj _
 |k+1=>by
  obtain⟨h1,h2⟩:=best3 W k
  have e:argBest (fun i j=>lt3 (W i) (W j)) (k+1)=if lt3 (W (k+1)) (W (argBest (fun i j=>lt3 (W i) (W j)) k))=true then k+1 else argBest (fun i j=>lt3 (W i) (W j)) k:=rfl
  rw[e]
  cases c:lt3 (W (k+1)) (W (argBest (fun i j=>lt3 (W i) (W j)) k)) with
  |true =>
   rw[if_pos rfl]
   have h3:=lt3_le c
   refine⟨MT _,fun j hj=>?_⟩
   by_cases z:j=k+1
   ·subst z;exact Oj _
   ·have:=h2 j (by omega);omega
  |false =>
   rw[if_neg Nn]
   have h3:=lt3_ge c
   refine⟨by omega,fun j hj=>?_⟩
   by_cases z:j=k+1
   ·subst z;exact h3
   ·exact h2 j (by omega)
noncomputable def rMin3(K:MQ):List V->Hp->VK->Prop:=fun xs H Q=>∃ p ys ws,xs = [.ref p]/\SqL K H p ys/\LsAt TrA H ys ws/\ws≠[]/\∀(i:Nat)(y:V)(t:T3),ys[i]?=some y->ws[i]?=some t->(∀ t'∈ws,t.1<=t'.1)->Q y H
theorem Hu{X:Cx}(hc:X.calm=true)(hu:X.A.units+64<cLine):nL X (.builtin "min") (rMin3 X.K):=by
 intro pins s σ H xs us Q I r h
 obtain⟨p,ys,ws,rfl,hS,hL,hne,q⟩:=h
 obtain⟨u,rfl,rx⟩:=sZ r
 cases rx
 obtain⟨its,rv,pl,_⟩:=I.list hS
 have yl:=hL.1
 have il:=rv.length
 have wp:0<ws.length:=List.length_pos_iff.mpr hne
 let W:Nat->T3:=fun i=>ws.getD i (0,0,0)
 have Wi:∀ i t,ws[i]?=some t->W i=t:=fun i t e=>by show ws.getD i (0,0,0)=t;rw[Ny,e];rfl
 have look:∀(i:Nat)(v:Value),its[i]?=some v->∃ a o y1 y2 y3 n,v=.ref a/\s.heap.get? a=some o/\o.cls=.type "tuple"/\o.data=.seq #[y1,y2,y3] n/\(∃ t,y1=.int (W i).1 t)/\(∃ t,y2=.int (W i).2.1 t)/\(∃ t,y3=.int (W i).2.2 t):=fun i v e=>by
  have hi:i<ys.length:=by rw[il];exact(MO.mp e).1
  obtain⟨t,ht,a,ea,ha⟩:=hL.get (MN hi)
  obtain⟨v',ev,rv'⟩:=rv.get (MN hi)
  rw[e]at ev
  cases ev
  rw[ea]at rv'
  obtain rfl:v=.ref a:=rv'
  obtain⟨_,tis,rt,o,ho,hcl,n,hd⟩:=I.hok a _ ha
  rw[Wi i t ht]
  match tis,rt with
  |[y1,y2,y3],.cons r1 (.cons r2 (.cons r3 .nil))=>exact⟨a,o,y1,y2,y3,n,rfl,ho,hcl,hd,r1,r2,r3⟩
 refine Jf (vs:=its) (fun i j=>lt3 (W i) (W j)) (I.ok.hd hc) pl.isList (by omega) ?_ ?_
 ·intro i j u v hu' hv' h tk Q' E' kk hQ
  have in1u:X.A.in1.units<cLine:=by
   have e:X.A.in1.units<=X.A.units+64:=by simp[Around.in1]
   omega
  obtain⟨a,oa,y1,y2,y3,n,rfl,ga,ca,da,r1,r2,r3⟩:=look i u hu'
  obtain⟨b,ob,z1,z2,z3,m,rfl,gb,cb,db,q1,q2,q3⟩:=look j v hv'
  exact tup_lt (kk _ _ ga) ca da (kk _ _ gb) cb db (ps:=[((W i).1,(W j).1),((W i).2.1,(W j).2.1),((W i).2.2,(W j).2.2)]) ⟨r1,q1,r2,q2,r3,q3,trivial⟩ rfl in1u hQ
 ·intro v h' tk e kk
  obtain⟨b1,b2⟩:=best3 W (its.length-1)
  have hi:argBest (fun i j=>lt3 (W i) (W j)) (its.length-1)<ys.length:=by omega
  obtain⟨t,ht,_⟩:=hL.get (MN hi)
  obtain⟨v',ev,rv'⟩:=rv.get (MN hi)
  rw[e]at ev
  cases ev
  refine⟨_,H,I.kept kk,rv',q _ _ t (MN hi) ht fun t' ht'=>?_⟩
  obtain⟨j,hj,ej⟩:=Oi ht'
  have:=b2 j (by omega)
  rw[Wi _ t ht,Wi j t' (by rw[MN hj,ej])]at this
  exact this
end L2
namespace L2
open PySem PySem.Spec PyProof.Rows PySem.Calls Builtin Builtin.ObjectAttr Builtin.Getset_descriptor
section
variable{prog:Program}{w:World}{A:Around}{E:Value->Shared->Prop}{s:Shared}{K:MQ}{x D:Addr}
end
end L2
namespace L2
open PySem PySem.Spec PyProof.Rows
structure DK(h h':Heap):Prop where
 le:h.objs.size<=h'.objs.size
 d:∀(e:Addr)(o':Obj),e<h.objs.size->h'.get? e=some o'->∃ o,h.get? e=some o/\o'.dict=o.dict
theorem DK.rfl'(h:Heap):DK h h:=⟨MT _,fun _ o' _ q=>⟨o',q,rfl⟩⟩
theorem DK.trans{a b c:Heap}(x:DK a b)(y:DK b c):DK a c:=⟨NQ x.le y.le,fun e o' he q=>by
 obtain⟨o1,q1,d1⟩:=y.d e o' (Nk he x.le) q
 obtain⟨o,q0,d0⟩:=x.d e o1 he q1
 exact⟨o,q0,d1.trans d0⟩⟩
theorem DK.upd{h:Heap}{a:Addr}{f:Obj->Obj}(ha:(h.get? a).isSome)(hf:∀ o,(f o).dict=o.dict):DK h (h.update a f):=by
 refine⟨P9 (Heap.size_update ..).symm,fun e o' he q=>?_⟩
 by_cases z:a=e
 ·subst z
  obtain⟨o,q0⟩:=Pu.mp ha
  obtain⟨q1,_⟩:=Heap.get?_some_iff.mp q
  obtain⟨q2,_⟩:=Heap.get?_some_iff.mp q0
  refine⟨o,q0,?_⟩
  cases h
  simp only[Heap.update,Array.getElem?_modify,if_true]at q1
  simp only at q2
  rw[q2]at q1
  cases q1
  exact hf o
 ·rw[Heap.get?_update_other _ _ z]at q
  exact⟨o',q,rfl⟩
theorem DK.psh(h:Heap)(o:Obj):DK h (h.push o):=by
 refine⟨by rw[Heap.size_push];exact Ov _,fun e o' he q=>?_⟩
 rw[Heap.get?_push_ne _ _ _ (Nm he)]at q
 exact⟨o',q,rfl⟩
noncomputable def aN{α:Type}:Sem α->Prop
 |.pure _=>True
 |.raise _=>True
 |.unsupported _=>True
 |.finish _=>True
 |.rule _ k=>aN (k ())
 |.at _ k=>aN (k ())
 |.load _ _ k=>∀ o,aN (k o)
 |.update _ _ f k=>(∀ o,(f o).dict=o.dict)/\aN (k ())
 |.alloc _ k=>∀ a,aN (k a)
 |.loadIfAlive _ k=>∀ o,aN (k o)
 |.point _ k=>aN (k ())
 |.register _ _=>True
 |.fresh k=>∀ t,aN (k t)
 |.ask k=>∀ t,aN (k t)
 |.choose _ _ k=>∀ t,aN (k t)
 |.os _ _ k=>∀ t,aN (k t)
 |.call _ _ _ _ _=>False
 |.handled _ k=>∀ t,aN (k t)
 |.newGen _ k=>∀ t,aN (k t)
 |.genState _ k=>∀ t,aN (k t)
 |.resume _ _ _ _=>False
 |.yield _ _ _ _=>True
 |.stack k=>∀ t,aN (k t)
 |.fork _ _=>True
 |.thread k=>∀ t,aN (k t)
 |.await _ _ _ _ _=>True
theorem aN.bind{α β:Type}{m:Sem α}{f:α->Sem β}(hm:aN m)(hf:∀ a,aN (f a)):aN (m >>= f):=by
 show aN (m.bind f)
 induction m with
 |pure a=>exact hf a
 |raise e=>exact True.intro
 |unsupported w=>exact True.intro
 |finish e=>exact True.intro
 |rule t k ih=>exact ih () hm
 | «at» p k ih=>exact ih () hm
 |load a p k ih=>exact fun o=>ih o (hm o)
 |update a p g k ih=>exact⟨hm.1,ih () hm.2⟩
 |alloc o k ih=>exact fun a=>ih a (hm a)
 |loadIfAlive a k ih=>exact fun o=>ih o (hm o)
 |point l k ih=>exact ih () hm
 |register a k ih=>exact True.intro
 |fresh k ih=>exact fun o=>ih o (hm o)
 |ask k ih=>exact fun o=>ih o (hm o)
 |choose s n k ih=>exact fun o=>ih o (hm o)
 |os q l k ih=>exact fun o=>ih o (hm o)
 |call c h g l k ih=>exact hm.elim
 |handled o k ih=>exact fun o=>ih o (hm o)
 |newGen c k ih=>exact fun o=>ih o (hm o)
 |genState g k ih=>exact fun o=>ih o (hm o)
 |resume g r l k ih=>exact hm.elim
 |yield v g l k ih=>exact True.intro
 |stack k ih=>exact fun o=>ih o (hm o)
 |fork c k ih=>exact True.intro
 |thread k ih=>exact fun o=>ih o (hm o)
 |await a t d l k ih=>exact True.intro
theorem JD{α:Type}{M:Model}{Γ:PySem.Ctx}(m:Sem α)(hm:aN m)(Q:α->Pos->Shared->Prop)(E:Value->Pos->Shared->Prop)(p:Pos)(s:Shared)(h:Sem.wp M Γ m Q E p s) :
  Sem.wp M Γ m (fun a p' s'=>Q a p' s'/\DK s.heap s'.heap) (fun e p' s'=>E e p' s'/\DK s.heap s'.heap) p s:=by
 have go:∀{m:Sem α}{p:Pos}{s s1:Shared},DK s.heap s1.heap->Sem.wp M Γ m (fun a p' s'=>Q a p' s'/\DK s1.heap s'.heap) (fun e p' s'=>E e p' s'/\DK s1.heap s'.heap) p s1->Sem.wp M Γ m (fun a p' s'=>Q a p' s'/\DK s.heap s'.heap) (fun e p' s'=>E e p' s'/\DK s.heap s'.heap) p s1 :=
  fun{m p s s1} d z=>Sem.wp_mono M Γ m (fun a p' s' q=>⟨q.1,d.trans q.2⟩) (fun a p' s' q=>⟨q.1,d.trans q.2⟩) p s1 z
 induction m generalizing p s with
 |pure a=>rw[Sem.wp]at h ⊢;exact⟨h,DK.rfl' _⟩
 |raise e=>rw[Sem.wp]at h ⊢;exact⟨h,DK.rfl' _⟩
 |unsupported w=>rw[Sem.wp]at h;exact h.elim
 |finish e=>rw[Sem.wp]at h;exact h.elim
 |rule t k ih=>rw[Sem.wp]at h ⊢;exact ih () hm p s h
 | «at» p' k ih=>rw[Sem.wp]at h ⊢;exact ih () hm p' s h
 |load a pt k ih=>rw[Sem.wp]at h ⊢;obtain⟨o,e,h⟩:=h;exact⟨o,e,ih o (hm o) p s h⟩
 |update a pt g k ih=>rw[Sem.wp]at h ⊢;exact⟨h.1,go (DK.upd h.1 hm.1) (ih () hm.2 p _ h.2)⟩
 |alloc o k ih=>rw[Sem.wp]at h ⊢;exact go (DK.psh _ _) (ih _ (hm _) p _ h)
 |loadIfAlive a k ih=>rw[Sem.wp]at h ⊢;exact ih _ (hm _) p s h
 |point l k ih=>rw[Sem.wp]at h ⊢;exact ih () hm p s h
 |register a k ih=>rw[Sem.wp]at h;exact h.elim
 |fresh k ih=>rw[Sem.wp]at h ⊢;exact ih _ (hm _) p _ h
 |ask k ih=>rw[Sem.wp]at h ⊢;exact ih _ (hm _) p s h
 |choose sr n k ih=>rw[Sem.wp]at h ⊢;exact⟨h.1,ih _ (hm _) p _ h.2⟩
 |os q l k ih=>rw[Sem.wp]at h ⊢;exact ih _ (hm _) p _ h
 |call c hh g l k ih=>exact hm.elim
 |handled o k ih=>rw[Sem.wp]at h ⊢;exact ih _ (hm _) p s h
 |newGen c k ih=>rw[Sem.wp]at h ⊢;exact ih _ (hm _) p _ h
 |genState g k ih=>rw[Sem.wp]at h ⊢;obtain⟨o,e,h⟩:=h;exact⟨o,e,ih _ (hm _) p s h⟩
 |resume g r l k ih=>exact hm.elim
 |yield v g l k ih=>rw[Sem.wp]at h;exact h.elim
 |stack k ih=>rw[Sem.wp]at h ⊢;exact ih _ (hm _) p s h
 |fork c k ih=>rw[Sem.wp]at h;exact h.elim
 |thread k ih=>rw[Sem.wp]at h ⊢;exact ih _ (hm _) p s h
 |await a t d l k ih=>rw[Sem.wp]at h;exact h.elim
theorem sY{α:Type}{M:Model}{A:Around}{m:Sem α}(hm:aN m){Q:α->Shared->Prop}{E:Value->Shared->Prop}{s:Shared}(h:wpAny M A m Q E s):wpAny M A m (fun a s'=>Q a s'/\DK s.heap s'.heap) (fun e s'=>E e s'/\DK s.heap s'.heap) s :=
 fun Γ p hΓ=>JD m hm _ _ p s (h Γ p hΓ)
theorem aV{α:Type}(a:α):aN (pure a:Sem α):=True.intro
theorem x8{α:Type}(w:String):aN (PySem.unsupported w:Sem α):=True.intro
theorem cK{α:Type}{c:Prop} [Decidable c] {a b:Sem α} (ha:aN a) (hb:aN b):aN (if c then a else b):=by split<;>assumption
theorem lV(a:Addr):aN (load a):=fun _=>True.intro
theorem jY:aN stack:=fun _=>True.intro
theorem rB(v:Value):aN (fieldsOf v):=by
 unfold fieldsOf
 cases v with
 |ref a =>
  refine aN.bind (lV a) fun o=>?_
  cases o.data<;>exact True.intro
 |_=>exact True.intro
theorem gI(v:Value)(i:Nat):aN (field v i):=by
 unfold field
 refine aN.bind (rB v) fun vs=>?_
 cases vs[i]?<;>exact True.intro
theorem fu(v:Value)(i:Nat)(x:Value):aN (setField v i x):=by
 unfold setField
 cases v with
 |ref a =>
  show aN (updateField a i x)
  unfold updateField
  refine aN.bind (lV a) fun o=>?_
  cases o.data with
  |fields vs =>
   refine cK ?_ (x8 _)
   refine⟨fun o=>?_,True.intro⟩
   unfold Obj.mapFields
   split<;>rfl
  |_=>exact True.intro
 |_=>exact True.intro
theorem pI(e:Value)(f:Option Addr):aN (setFlight e f):=by
 unfold setFlight
 refine aN.bind (gI e 1) fun tb=>?_
 exact cK (fu _ _ _) (aV _)
theorem pJ:∀ l:List Env,aN (readyFrames l)
 |[]=>True.intro
 |env::outer=>by
  unfold readyFrames
  cases env.frame with
  |none=>exact True.intro
  |some f =>
   refine aN.bind (lV f) fun o=>?_
   refine cK (aV _) ?_
   refine aN.bind ?_ fun i=>aN.bind ?_ fun b=>aN.bind ⟨fun o=>rfl,True.intro⟩ fun _=>pJ outer
   ·unfold behindIsImport
    refine cK (aV _) (cK (aV _) (aN.bind (gI _ _) fun _=>aV _))
   ·unfold keptBack
    cases outer with
    |nil=>exact cK (aV _) (aN.bind (by unfold underTheClaimsCaller;exact aN.bind jY fun _=>aV _) fun _=>aV _)
    |cons c r=>exact aV _
theorem vn(env:Env):aN (P2 env):=by
 unfold P2 frameObject frameEnvs
 refine aN.bind (aN.bind jY fun _=>aV _) fun l=>aN.bind ?_ fun o=>?_
 ·cases (l.dropWhile fun x=>x.frame != env.frame) with
  |nil=>exact aV _
  |cons e r=>exact aN.bind (pJ _) fun _=>aV _
 ·cases o<;>exact True.intro
theorem A9(f:Addr)(b:Bool):aN (entryPlaceOf f b):=by
 unfold entryPlaceOf
 refine aN.bind jY fun acts=>?_
 split<;>exact True.intro
theorem iG(e:Value)(env:Env):aN (noteFrame e env):=by
 unfold noteFrame
 cases env.frame with
 |none=>exact True.intro
 |some f =>
  refine aN.bind (gI _ _) fun head=>?_
  have last:aN (do
    let a ← P2 env
    let pl ← entryPlaceOf f (head != .none)
    let b ← EntryCells.newEntry head a .none (rawInt f) .none pl
    setField e 1 b):=by
   refine aN.bind (vn env) fun a=>aN.bind (A9 _ _) fun pl=>aN.bind ?_ fun b=>fu _ _ _
   unfold EntryCells.newEntry newFields newObj
   dsimp only
   have nw:∀ d:Data,aN (newObjAsIs (.type "traceback") d):=fun d=>aN.bind (fun _=>True.intro) fun _=>aV _
   exact cK (aN.bind (x8 _) fun _=>nw _) (nw _)
  refine cK (aN.bind (gI _ _) fun z=>cK (aV _) (aN.bind (fu _ _ _) fun _=>last)) last
theorem k8(env:Env)(e:Value):aN (leaving env e):=aN.bind (iG e env) fun _=>pI e none
end L2
namespace L2
open PySem PySem.Spec PyProof.Rows
noncomputable def Xd(h:Heap)(x:Addr)(d:Option Addr):Prop:=∃ oe,h.get? x=some oe/\oe.dict=d
theorem Xd.dk{h h':Heap}{x:Addr}{d:Option Addr}(z:Xd h x d)(k:DK h h')(ex:∃ o,h'.get? x=some o):Xd h' x d:=by
 obtain⟨oe,e,hd⟩:=z
 obtain⟨o',e'⟩:=ex
 obtain⟨o,e2,d2⟩:=k.d x o' (Heap.lt_size e) e'
 rw[e]at e2
 cases e2
 exact⟨o',e',d2.trans hd⟩
theorem Trc.there{h:Heap}{x T:Addr}{C:Value}(t:Trc h x C T):∃ o,h.get? x=some o:=by
 obtain⟨oe,_,_,_,_,he,_⟩:=t
 exact⟨oe,he⟩
noncomputable def CXd(P:Program)(w:World):CXT:=fun outer H s E e s'=>∃(x:Addr)(C:Value)(T:Addr)(H':Hp)(d:Option Addr),e=.ref x/\s'.os=s.os/\AllBare s'.gens/\Un (frs outer) [] H H' s.heap s'.heap/\HOk P w H' s'.heap /\
 s.heap.get? x=none/\s.heap.get? T=none/\H' x=none/\H' T=none/\Trc s'.heap x C T/\Xd s'.heap x d/\E C d H'
noncomputable abbrev WKD:=Value->Option Addr->St->Hp->Prop
noncomputable def WshD(X:Cx)(W:WKD):Prop:=∀(pins:List (Addr×Obj))(σ:St)(H:Hp)(s:Shared)(x:Addr)(C:Value)(d:Option Addr),Inv X pins σ H s->XA X pins H s x C->Xd s.heap x d->W C d σ H->X.xe (.ref x) s
theorem lE{P:Program}{w:World}{K:MQ}{mg:Str->Option Value}{base:Heap}{N:List Str}{qual:Str}{scope:Scope}{f:Addr}{cd:Value}{A:Around}{outer:List Env}{s₀:Shared}{H₀:Hp}{E:XK} :
  WshD (cxOf (CXd P w) P w K mg base N qual scope f cd A outer s₀ H₀ E) (fun C d _ H=>E C d H):=fun pins σ H s x C d I xa z hE=>by
 show wpAny (model P w) (A.deeper (envOfC qual scope s₀.heap.objs.size f cd)) (leaving (envOfC qual scope s₀.heap.objs.size f cd) (.ref x)) _ _ s
 refine wpAny_mono (sY (k8 _ _) (Inv.leave (Q:=fun _ s'=>∃ h' T,s'={ s with heap:=h' }/\Inv (cxOf (CXd P w) P w K mg base N qual scope f cd A outer s₀ H₀ E) pins σ H { s with heap:=h' }/\XOk (cxOf (CXd P w) P w K mg base N qual scope f cd A outer s₀ H₀ E) pins H x/\XOk (cxOf (CXd P w) P w K mg base N qual scope f cd A outer s₀ H₀ E) pins H T/\Trc h' x C T) (E:=fun _ _=>False) I rfl rfl rfl xa fun h' T I' x1 xT tr=>⟨h',T,rfl,I',x1,xT,tr⟩)) ?_ (fun _ _ q=>q.1.elim)
 rintro _ s' ⟨⟨h',T,rfl,I',x1,xT,tr⟩,dk⟩
 exact⟨x,C,T,H,d,rfl,I'.os,I'.bare,I'.base,I'.hok,x1.old,xT.old,x1.trk,xT.trk,tr,z.dk dk tr.there,hE⟩
structure CalD(P:Program)(w:World)(K:MQ)(mg:Str->Option Value)(base:Heap)(k:Nat)(x:Str)(ps:List Str)(sp:Sp)(f:Addr)(fd:FuncData):Prop where
 ok:FnOk P w K mg base (CXd P w) k f fd ps sp
 bn:gX K fd ps []
 mg:mg x=some (.ref f)
 kp:M0 K (.ref f)=true
theorem Fun.okD{P:Program}{w:World}{K:MQ}{mg:Str->Option Value}{base:Heap}{x qual:Str}{st:Stmt}{f:Addr}{fd:FuncData}{N ps:List Str}{k:Nat}{sp:Sp}(F:Fun K x qual st f fd)(S:av N ps (ah st))(len:∀ vs H Q E,sp vs H Q E->vs.length=ps.length)
  (hbody:∀(cdv:Value)(A:Around)(outer:List Env)(s:Shared)(H:Hp)(vs:List V)(Q:VK)(E:XK),Room k (A.deeper (envOfC qual (ah st) s.heap.objs.size f cdv))->sp vs H Q E ->
   ∃ t,PSs (cxOf (CXd P w) P w K mg base N qual (ah st) f cdv A outer s H E) (au st) t/\t { nx:=fun _ H'=>Q .non H',rt:=Q } (qS N vs) H):FnOk P w K mg base (CXd P w) (k+1) f fd ps sp:=by
 obtain⟨oc,od,kV,doc,pm,an,cdv,ct,osl,rfl,lk,hcd⟩:=F.ex
 exact Mg lk hcd S len fun A outer s H vs Q E hr hsp=>hbody cdv A outer s H vs Q E hr hsp
section
variable{X:Cx}{k:Nat}{f C:Addr}{fd:FuncData}{ps:List Str}{sp:Sp}{dvs:List V}{ds:List Value}{W:WKD}{x m:Str}{p pos apos:Pos}{e o:Expr}{es:List Expr}{ta:TE}{t:TA}
theorem WshD.of{pins:List (Addr×Obj)}{σ:St}{H:Hp}{s s':Shared}{v:Value}(ws:WshD X W)(hx:X.ex = [])(I:Inv X pins σ H s)(h:CXd X.prog X.w X.stack H s (fun C d H'=>W C d σ H') v s'):X.xe v s':=by
 obtain⟨x,C,T,H',d,rfl,os,bare,un,hok,nx,nT,tx,tT,tr,z,q⟩:=h
 have I':Inv X pins σ H' s':=I.call' os un hok bare fun b z=>absurd z (by simp)
 exact ws pins σ H' s' x C d I' ⟨I.xok hx nx tx,.inr ⟨T,I.xok hx nT tT,tr⟩⟩ z q
theorem Lb{pins:List (Addr×Obj)}{σ:St}{H:Hp}{s:Shared}{Q:VK}{us:List Value}{vs:List V}(F:FnOk X.prog X.w X.K X.mg X.base (CXd X.prog X.w) k f fd ps sp)(hr:Room k X.A)(hb:gX X.K fd ps ds)(hd:Vals dvs ds)(ws:WshD X W)(hx:X.ex = [])
  (I:Inv X pins σ H s) (r:Vals vs us) (h:sp (vs++dvs) H Q (fun C d H'=>W C d σ H')):wpAny (model X.prog X.w) X.A (call (.ref f) us) (EP X pins σ Q) X.xe s:=by
 have r2:Vals (vs++dvs) (us++ds):=r.append hd
 have hl:(us++ds).length=ps.length:=by rw[← r2.length];exact F.len _ _ _ _ h
 refine wpAny_call (codeAny_mono (F.run X.A X.stack s H ⟨us,[]⟩ (us++ds) (vs++dvs) Q _ hr I.env0 (hb s us I.kIn hl) r2 h) fun r s' hq=>?_)
 cases r with
 |error e=>exact ws.of hx I hq
 |ok fl =>
  cases fl with
  |ret u=>exact I.after hq
  |next=>exact False.elim hq
  |brk=>exact False.elim hq
  |cont=>exact False.elim hq
noncomputable def EG(sp:Sp)(dvs:List V)(W:WKD)(t:TA):TE:=fun σ H Q=>t σ H fun vs H1=>sp (vs++dvs) H1 Q fun C d H'=>W C d σ H'
theorem kJ(F:FnOk X.prog X.w X.K X.mg X.base (CXd X.prog X.w) k f fd ps sp)(hr:Room k X.A)(hg:Gl X x)(hm:X.mg x=some (.ref f))(hk:M0 X.K (.ref f)=true)(hb:gX X.K fd ps ds)(hd:Vals dvs ds)(ws:WshD X W)(hx:X.ex = [])
  (ha:PA X (e::es) t) (hdb:(x == ("__debug__" : Str))=false:=by decide) (he:starEach (e::es) X.env=(false,eval e X.env)::starEach es X.env:=by rfl) (hpl:(backTo pos (starEach es X.env)).any (·.1)=false:=by rfl) :
  PE X (.Call (.Name x p) (e::es) [] pos) (EG sp dvs W t):=by
 intro pins s σ H Q I h
 refine wpAny_Call_Name_kw (ij I hg hm ?_ hdb)
 refine O2 (h₀:=X.base) I.ok.mod.kin hk (thn (ha pos pins s σ H _ I h) fun us s1 ⟨vs,H1,I1,r,q⟩=>⟨I1.kIn,?_⟩) he hpl
 exact Lb F hr hb hd ws hx I1 r q
end
noncomputable def KQ(C:Addr)(W:WKD)(t:TA):TS:=fun _ σ H=>t σ H fun vs H1=>vs.length<=sizeLine/\W (.ref C) none σ H1
theorem Fi{X:Cx}{x:Str}{C:Addr}{e:Expr}{es:List Expr}{t:TA}{W:WKD}{np cpos pos:Pos}(ec:ExC X.K C)(hm:X.mg x=some (.ref C))(hg:Gl X x)(ws:WshD X W)(hx:X.ex = [])(hc:X.calm=true)(ha:PA X (e::es) t)
  (he:starEach (e::es) X.env=(false,eval e X.env)::starEach es X.env:=by rfl) (hpl:(backTo cpos (starEach es X.env)).any (·.1)=false:=by rfl) (hdb:(x == ("__debug__" : Str))=false:=by decide) :
  PS X (.Raise (some (.Call (.Name x np) (e::es) [] cpos)) none pos) (KQ C W t):=by
 intro pins s σ H D I h
 obtain⟨tl,N,nm,qn,bs,hdct,sn,sub,ab,col,dd,k0,k1,k2,k3,k5,mN,hC,hN,hni,T,_⟩:=GV ec I.ok.mod.kin
 have hpl2:(backTo cpos (starEach (e::es) X.env)).any (·.1)=false:=by
  rw[he]
  show(false||(backTo cpos (starEach es X.env)).any (·.1))=false
  rw[hpl];rfl
 refine wpAny_Raise_call_subT (C:=C) (nm:=nm) (q:=qn) (N:=N) (bs:=bs) (bm:=tl) (hdct:=hdct) (sn:=sn) (sub:=sub) (ab:=ab) (col:=col) (dd:=dd) (k0:=k0) (k1:=k1) (k2:=k2) (k3:=k3) (k5:=k5) Ql (mN:=mN) (T.hasType Ql.hasBase) (I.ok.hd hc) hpl2 hni (ij I hg hm ⟨rfl,?_⟩ hdb)
 have z:=ha cpos pins s σ H _ I h
 rw[he]at z ⊢
 refine Calls.evalArgs_plain (wpAny_mono z (fun us s2 zz=>?_) fun _ _ y=>y)
 obtain⟨vs,H1,I2,r,hz,q⟩:=zz
 refine⟨rfl,by rw[← r.length];exact hz,I2.bk _ _ hC,hN.keeps I2.bk,T.keeps I2.bk,fun h' e' hme=>?_⟩
 obtain⟨t0,ht0,_,_⟩:=hme.there
 have I3:Inv X pins σ H1 { s2 with heap:=h' }:=I2.kept (t':=s2.toks) hme.keeps
 exact ws pins σ H1 _ e' (.ref C) none I3 ⟨I2.xok hx hme.new (I2.hok.none_of hme.new),.inl ⟨_,_,_,ht0,rfl,rfl,rfl,rfl⟩⟩ ⟨_,ht0,rfl⟩ q
noncomputable def HU(X:Cx)(W:WKD):Prop:=∀(pins:List (Addr×Obj))(σ:St)(H:Hp)(s:Shared)(x T:Addr)(C:Value)(d:Option Addr),Inv X pins σ H s->XOk X pins H x->XOk X pins H T->Trc s.heap x C T->Xd s.heap x d->W C d σ H->X.xe (.ref x) s
section
variable{X:Cx}{k:Nat}{f:Addr}{fd:FuncData}{ps:List Str}{sp:Sp}{dvs:List V}{ds:List Value}{W:WKD}{x:Str}{p pos:Pos}{e:Expr}{es:List Expr}{t:TA}
theorem FC(F:FnOk X.prog X.w X.K X.mg X.base (CXd X.prog X.w) k f fd ps sp)(hr:Room k X.A)(hg:Gl X x)(hm:X.mg x=some (.ref f))(hk:M0 X.K (.ref f)=true)(hb:gX X.K fd ps ds)(hd:Vals dvs ds)(ws:HU X W)(hx:X.ex = [])
  (ha:PA X (e::es) t) (hdb:(x == ("__debug__" : Str))=false:=by decide) (he:starEach (e::es) X.env=(false,eval e X.env)::starEach es X.env:=by rfl) (hpl:(backTo pos (starEach es X.env)).any (·.1)=false:=by rfl) :
  PE X (.Call (.Name x p) (e::es) [] pos) (EG sp dvs W t):=by
 intro pins s σ H Q I h
 refine wpAny_Call_Name_kw (ij I hg hm ?_ hdb)
 refine O2 (h₀:=X.base) I.ok.mod.kin hk (thn (ha pos pins s σ H _ I h) fun us s1 ⟨vs,H1,I1,r,q⟩=>⟨I1.kIn,?_⟩) he hpl
 have r2:Vals (vs++dvs) (us++ds):=r.append hd
 have hl:(us++ds).length=ps.length:=by rw[← r2.length];exact F.len _ _ _ _ q
 refine wpAny_call (codeAny_mono (F.run X.A X.stack s1 H1 ⟨us,[]⟩ (us++ds) (vs++dvs) Q _ hr I1.env0 (hb s1 us I1.kIn hl) r2 q) fun r s' hq=>?_)
 cases r with
 |error e =>
  obtain⟨x,C,T,H',d,rfl,os,bare,un,hok,nx,nT,tx,tT,tr,z,q'⟩:=hq
  have I':Inv X pins σ H' s':=I1.call' os un hok bare fun b z=>absurd z (by simp)
  exact ws pins σ H' s' x T C d I' (I1.xok hx nx tx) (I1.xok hx nT tT) tr z q'
 |ok fl =>
  cases fl with
  |ret u=>exact I1.after hq
  |next=>exact False.elim hq
  |brk=>exact False.elim hq
  |cont=>exact False.elim hq
end
section
variable{M:Model}{A:Around}{E:Value->Shared->Prop}{h:Heap}{g:Array GenState}{d:Drawn}{t:Nat}{os:OsState}
theorem Mj{C D:Addr}{nm2 qn2:Str}{N2:Addr}{bs2 bm2:List Value}{hdct2:Bool}{sn2:List Str}{sub2:List Value}{ab2:Bool}{col2:Option Bool}{dd2:Option Addr}{j0 j1 j2 j3 j5:Option Value}{id2:String}{x:Addr}{ob:Obj}{Q:Bool->Shared->Prop}
  (hD:h.get? D=some (excClassObj nm2 qn2 D N2 bs2 bm2 hdct2 sn2 sub2 ab2 col2 dd2 j0 j1 j2 j3 j5 id2)) (hob:h.get? x=some ob) (hcl:ob.cls=.ref C)
  (hDB:(Value.ref D::bm2).contains (.type "BaseException")=true) (lk:PySem.W.Looks M h (isSubtype (.ref C) (.ref D)) true) (hq:Q true ⟨h,g,d,t,os⟩):wpAny M A (excMatches (.ref x) (.ref D)) Q E ⟨h,g,d,t,os⟩:=by
 have ntup:=tc_notTuple
 unfold excMatches
 repeat (first | (with_reducible refine wpAny_loadPart_at hob ?_;rw[hcl]) | with_reducible refine wpAny_loadPart_at hD ?_ | (with_reducible refine wpAny_isSubtype_exc hD ?_;rw[hDB]) | with_reducible refine lk.at ?_ | wp_step)
 exact hq
end
end L2
namespace L2
open PySem PySem.Spec PyProof.Rows PySem.Calls Builtin Builtin.ObjectAttr
section
variable{prog:Program}{w:World}{A:Around}{E:Value->Shared->Prop}{h:Heap}{g:Array GenState}{d:Drawn}{t:Nat}{os:OsState}
variable{nm q:Str}{C N:Addr}{bs bm bmB:List Value}{hdct:Bool}{sn:List Str}{sub:List Value}{ab:Bool}{col:Option Bool}{dd:Option Addr}{k0 k1 k2 k3 k5:Option Value}{B newId initId:String}
end
section
variable{prog:Program}{w:World}{A:Around}{E:Value->Shared->Prop}{s:Shared}{K:MQ}{x C fI:Addr}{name:Str}{v:Value}
end
section
variable{X:Cx}{pins:List (Addr×Obj)}{σ:St}{H:Hp}{s:Shared}{A:Around}{E:Value->Shared->Prop}{a C fI:Addr}{f:Str}
end
section
variable{prog:Program}{w:World}{A:Around}{E:Value->Shared->Prop}{s:Shared}{env:Env}
variable{nm q:Str}{C N:Addr}{bs bm bmB:List Value}{hdct:Bool}{sn:List Str}{sub:List Value}{ab:Bool}{col:Option Bool}{dd:Option Addr}{k0 k1 k2 k3 k5:Option Value}{B newId initId:String}
end
end L2
namespace L2
open PySem PySem.Spec PyProof.Rows
noncomputable def PnX(X:Cx):Prop:=∀ b∈X.ex,∃ o,(b,o)∈X.pn
section
variable{X:Cx}{pins:List (Addr×Obj)}{σ:St}{H H':Hp}{s s':Shared}{b:Addr}
theorem Inv.xokP(I:Inv X pins σ H s)(hx:PnX X)(e:s.heap.get? b=none)(n:H' b=none):XOk X pins H' b:=by
 refine⟨?_,n,fun z=>?_,fun x c q z=>?_,fun p hp z=>?_⟩
 ·cases q:X.s₀.heap.get? b with
  |none=>rfl
  |some o =>
   obtain⟨o',e'⟩:=I.base.there b o q fun z=>by
    obtain⟨o1,h1⟩:=hx b z
    have:=(I.pin (b,o1) (Nt _ h1)).1
    rw[e]at this
    cases this
   rw[e]at e'
   cases e'
 ·obtain⟨m,⟨o,_,_,ho,_⟩,_⟩:=I.loc
  rw[z,ho]at e
  cases e
 ·obtain⟨v,o,ho,_⟩:=I.cell x c q
  rw[z,e]at ho
  cases ho
 ·have:=(I.pin p hp).1
  rw[z,e]at this
  cases this
noncomputable def TrcF(h:Heap)(x:Addr)(C:Value)(T:Addr):Prop :=
 ∃ oe vs a0 oT ts fl,h.get? x=some oe/\oe.cls=C/\vs[0]?=some a0/\oe.data=.fields vs/\vs[1]?=some (.ref T)/\T≠x/\h.get? T=some oT/\oT.data=.fields ts/\ts[3]?=some fl
theorem Inv.leftF{h':Heap}{ch:List Addr}{a0 C fl:Value}{x:Addr}(I:Inv X pins σ H s)(hx:PnX X)(hch:∀ b∈ch,XOk X pins H b)(k:(hidX X s.heap ch).StaysIn h')(t:h'.TracedAtW (hidX X s.heap ch) x C a0 fl)(u:s.heap.UpToSlots h') :
  Inv X pins σ H { s with heap:=h' }/\∃ T,XOk X pins H T/\TrcF h' x C T:=by
 have fr:∀ b o,s.heap.get? b=some o->b∈frs X.stack->∃ sl,h'.get? b=some { o with slots:=sl }:=fun b o e hb=>by
  obtain⟨_,o',ho,hd⟩:=I.stack.mem hb
  rw[e]at ho
  cases ho
  exact u b o e hd
 refine⟨I.xstep hch (fun b o e n1 n2=>k b o (OY _ e fun z=>(M5.mp z).elim n1 n2)) fun b o e _ hb=>fr b o e hb,?_⟩
 obtain⟨oe,vs,T,oT,ts,he,⟨hcls,h0⟩,hd,h1,hnT,hTe,hT,hdT,h3⟩:=t
 refine⟨T,?_,oe,vs,a0,oT,ts,fl,he,hcls,h0,hd,h1,hTe,hT,hdT,h3⟩
 cases q:s.heap.get? T with
 |none=>exact I.xokP hx q (I.hok.none_of q)
 |some o =>
  by_cases z:T∈ch
  ·exact hch T z
  ·by_cases z2:T∈frs X.stack
   ·obtain⟨_,o',ho,hd'⟩:=I.stack.mem z2
    obtain⟨sl,e⟩:=fr T o q z2
    rw[hT]at e
    cases e
    rw[q]at ho
    cases ho
    exact absurd hdT (hd' ts)
   ·have:=OY (ch++frs X.stack) q fun z3=>(M5.mp z3).elim z z2
    rw[hnT]at this
    cases this
end
section
variable{M:Model}{A:Around}{E:Value->Shared->Prop}{s:Shared}
theorem AL{base:Heap}{env:Env}{outer:List Env}{L e:Addr}{cls a0 fl:Value}{Q:Unit->Shared->Prop}(hfr:A.frames=some (env::outer))(hl:s.heap.FunFrames base (env::outer))(hf:env.frame=some L)
  (ht:s.heap.TracedAtW base e cls a0 fl) (hkb:base.StaysIn s.heap) (hen:base.get? e=none)
  (h:∀ h',base.StaysIn h'->h'.TracedW base e cls a0->s.heap.UpToSlots h'->Q () { s with heap:=h' }):wpAny M A (leaving env (.ref e)) Q E s:=by
 by_cases c:fl=rawInt L
 ·subst c
  unfold leaving
  exact wpAny_bind (wpAny_noteFrame_againW hf ht (wpAny_landsW ⟨hkb,hen,hl,ht⟩ fun h' z up=>h h' z.1 z.2.2.2 up))
 ·obtain⟨oe,vs,T,oT,ts,he,⟨hc,h0⟩,hd,h1,nT,Te,hT,dT,h3⟩:=ht
  have b1:(Value.ref T != Value.none)=true:=by simp
  have b2:¬ ((fl == rawInt L)=true):=fun z=>c (eq_of_beq z)
  have i1:=(Pp.mp h1).1
  have i3:=(Pp.mp h3).1
  unfold leaving noteFrame
  simp only[hf]
  refine wpAny_bind (wpAny_bind (wpAny_field he hd h1 ?_))
  rw[if_pos b1]
  refine wpAny_bind (wpAny_field hT dT h3 ?_)
  rw[if_neg b2]
  refine wpAny_bind (wpAny_setField hT dT i3 ?_)
  generalize hg:s.heap.update T (Obj.mapFields (·.setIfInBounds 3 Value.none))=g
  have oth:∀ b,b≠T->g.get? b=s.heap.get? b:=fun b z=>by rw[← hg];exact Heap.get?_update_other _ _ (Ne.symm z)
  have isT:∀ b o,s.heap.get? b=some o->(∀ ws,o.data≠.fields ws)->b≠T:=fun b o q n z=>by
   subst z
   rw[hT]at q
   cases q
   exact n ts dT
  have kb:base.StaysIn g:=fun b o q=>by
   rw[oth b fun z=>by rw[z,nT]at q;cases q]
   exact hkb b o q
  have z:=wpAny_newEntryW (M:=M) (E:=E) (Q:=Q) (s:={ s with heap:=g }) (head:=.ref T) (hadNext:=Value.ref T != Value.none) hfr (hl.of_keeps fun b o q n=>⟨o,by rw[oth b (isT b o q n)];exact q,rfl⟩) hf (by show g.get? e=some oe;rw[oth e (Ne.symm Te)];exact he) kb hen hd i1 h0
   fun h' y=>by
    refine h h' y.1 (hc▸y.2.2.1) fun b o q n=>y.2.2.2 b o ?_ n
    show g.get? b=some o
    rw[oth b (isT b o q n)]
    exact q
  exact z
end
section
variable{X:Cx}{pins:List (Addr×Obj)}{σ:St}{H:Hp}{s:Shared}{x T:Addr}{C:Value}{E:Value->Shared->Prop}
theorem Ca{x T:Addr}(x1:XOk X pins H x)(xT:XOk X pins H T):∀ b∈[x,T],XOk X pins H b:=fun b hb=>by
 rcases MV.mp hb with e | hb
 ·rw[e]
  exact x1
 ·have e:b=T:=by simpa using hb
  rw[e]
  exact xT
theorem Inv.leaveF{Q:Unit->Shared->Prop}(I:Inv X pins σ H s)(hx:X.ex = [])(hst:X.stack=X.env::X.outer)(hfr:X.env.frame=some X.env.locals)(x1:XOk X pins H x)(xT:XOk X pins H T)(tr:TrcF s.heap x C T)
  (h:∀ h' T,Inv X pins σ H { s with heap:=h' }->XOk X pins H x->XOk X pins H T->Trc h' x C T->Q () { s with heap:=h' }):wpAny (model X.prog X.w) X.A (leaving X.env (.ref x)) Q E s:=by
 have frm:X.A.frames=some (X.env::X.outer):=by rw[← hst];exact I.ok.frames
 obtain⟨oe,vs,a0,oT,ts,fl,he,hc,h0,hd,h1,hTe,hT,hdT,h3⟩:=tr
 refine AL (base:=hidX X s.heap [x,T]) frm (hst▸I.hidF [x,T]) hfr ⟨oe,vs,T,oT,ts,he,⟨hc,h0⟩,hd,h1,dy (by simp),hTe,hT,hdT,h3⟩ (xY _ _) (dy (by simp)) fun h' k1 k3 k4=>?_
 obtain⟨I',T',xT',tr'⟩:=I.left hx (Ca x1 xT) k1 k3 k4
 exact h h' T' I' x1 xT' tr'
end
noncomputable def WshF(X:Cx)(W:WKD):Prop:=∀(pins:List (Addr×Obj))(σ:St)(H:Hp)(s:Shared)(x T:Addr)(C:Value)(d:Option Addr),Inv X pins σ H s->XOk X pins H x->XOk X pins H T->TrcF s.heap x C T->Xd s.heap x d->W C d σ H->X.xe (.ref x) s
theorem KL{P:Program}{w:World}{K:MQ}{mg:Str->Option Value}{base:Heap}{N:List Str}{qual:Str}{scope:Scope}{f:Addr}{cd:Value}{A:Around}{outer:List Env}{s₀:Shared}{H₀:Hp}{E:XK} :
  WshF (cxOf (CXd P w) P w K mg base N qual scope f cd A outer s₀ H₀ E) (fun C d _ H=>E C d H):=fun pins σ H s x T C d I x1 xT tr z hE=>by
 show wpAny (model P w) (A.deeper (envOfC qual scope s₀.heap.objs.size f cd)) (leaving (envOfC qual scope s₀.heap.objs.size f cd) (.ref x)) _ _ s
 refine wpAny_mono (sY (k8 _ _) (Inv.leaveF (Q:=fun _ s'=>∃ h' T,s'={ s with heap:=h' }/\Inv (cxOf (CXd P w) P w K mg base N qual scope f cd A outer s₀ H₀ E) pins σ H { s with heap:=h' }/\XOk (cxOf (CXd P w) P w K mg base N qual scope f cd A outer s₀ H₀ E) pins H x/\XOk (cxOf (CXd P w) P w K mg base N qual scope f cd A outer s₀ H₀ E) pins H T/\Trc h' x C T) (E:=fun _ _=>False) I rfl rfl rfl x1 xT tr fun h' T I' x1 xT tr=>⟨h',T,rfl,I',x1,xT,tr⟩)) ?_ (fun _ _ q=>q.1.elim)
 rintro _ s' ⟨⟨h',T,rfl,I',x1,xT,tr⟩,dk⟩
 exact⟨x,C,T,H,d,rfl,I'.os,I'.bare,I'.base,I'.hok,x1.old,xT.old,x1.trk,xT.trk,tr,z.dk dk tr.there,hE⟩
section
variable{X:Cx}{k:Nat}{f:Addr}{fd:FuncData}{ps:List Str}{sp:Sp}{dvs:List V}{ds:List Value}{W:WKD}{x:Str}{p pos:Pos}{e:Expr}{es:List Expr}{t:TA}
theorem FD(F:FnOk X.prog X.w X.K X.mg X.base (CXd X.prog X.w) k f fd ps sp)(hr:Room k X.A)(hg:Gl X x)(hm:X.mg x=some (.ref f))(hk:M0 X.K (.ref f)=true)(hb:gX X.K fd ps ds)(hd:Vals dvs ds)(ws:HU X W)(hx:PnX X)
  (ha:PA X (e::es) t) (hdb:(x == ("__debug__" : Str))=false:=by decide) (he:starEach (e::es) X.env=(false,eval e X.env)::starEach es X.env:=by rfl) (hpl:(backTo pos (starEach es X.env)).any (·.1)=false:=by rfl) :
  PE X (.Call (.Name x p) (e::es) [] pos) (EG sp dvs W t):=by
 intro pins s σ H Q I h
 refine wpAny_Call_Name_kw (ij I hg hm ?_ hdb)
 refine O2 (h₀:=X.base) I.ok.mod.kin hk (thn (ha pos pins s σ H _ I h) fun us s1 ⟨vs,H1,I1,r,q⟩=>⟨I1.kIn,?_⟩) he hpl
 have r2:Vals (vs++dvs) (us++ds):=r.append hd
 have hl:(us++ds).length=ps.length:=by rw[← r2.length];exact F.len _ _ _ _ q
 refine wpAny_call (codeAny_mono (F.run X.A X.stack s1 H1 ⟨us,[]⟩ (us++ds) (vs++dvs) Q _ hr I1.env0 (hb s1 us I1.kIn hl) r2 q) fun r s' hq=>?_)
 cases r with
 |error e =>
  obtain⟨x,C,T,H',d,rfl,os,bare,un,hok,nx,nT,tx,tT,tr,z,q'⟩:=hq
  have I':Inv X pins σ H' s':=I1.call' os un hok bare fun b z=>absurd z (by simp)
  exact ws pins σ H' s' x T C d I' (I1.xokP hx nx tx) (I1.xokP hx nT tT) tr z q'
 |ok fl =>
  cases fl with
  |ret u=>exact I1.after hq
  |next=>exact False.elim hq
  |brk=>exact False.elim hq
  |cont=>exact False.elim hq
end
section
variable{X:Cx}{pins:List (Addr×Obj)}{σ:St}{H:Hp}{s:Shared}{x T L:Addr}{C:Value}{d:Option Addr}{R:Value->Shared->Prop}{fenv cenv:Env}{outer:List Env}
theorem LP{e:Value}{a b:Env}(h:a.frame=b.frame):noteFrame e a=noteFrame e b:=by
 unfold noteFrame P2 frameObject frameEnvs
 rw[h]
theorem Jb(hx:PnX X)(hst:X.stack=fenv::outer)(hf:fenv.frame=some L)(hfe:cenv.frame=fenv.frame)(hA:X.A=X.A)(I:Inv X pins σ H s)(x1:XOk X pins H x)(xT:XOk X pins H T)(tr:Trc s.heap x C T)(zd:Xd s.heap x d)
  (h:∀ s4 T4,Inv X pins σ H s4->XOk X pins H T4->TrcF s4.heap x C T4->Xd s4.heap x d->R (.ref x) s4):notedBy (model X.prog X.w) X.A cenv R (.ref x) s:=by
 have frm:X.A.frames=some (fenv::outer):=by rw[← hst];exact I.ok.frames
 obtain⟨oe,vs,a0,oT,ts,he,hc,h0,hd,h1,hTe,hT,hdT,h3⟩:=tr
 unfold notedBy
 rw[LP hfe]
 refine wpAny_mono (sY (iG _ _) (wpAny_looks_onW (Q:=fun _ s'=>∃ h4,s'={ s with heap:=h4 }/\Heap.HeldW (hidX X s.heap [x,T]) (fenv::outer) x C a0 L h4/\s.heap.UpToSlots h4) (E:=fun _ _=>False) frm hf ⟨xY _ _,dy (by simp),hst▸I.hidF [x,T],oe,vs,T,oT,ts,he,⟨hc,h0⟩,hd,h1,dy (by simp),hTe,hT,hdT,h3⟩ fun h4 a b=>⟨h4,rfl,a,b⟩)) ?_ (fun _ _ q=>q.1.elim)
 rintro _ s4 ⟨⟨h4,rfl,held,up⟩,dk⟩
 obtain⟨I4,T4,xT4,tr4⟩:=I.leftF hx (Ca x1 xT) held.1 held.2.2.2 up
 obtain⟨o4,_,_,_,_,_,e4,_⟩:=id tr4
 exact h _ T4 I4 xT4 tr4 (zd.dk dk ⟨o4,e4⟩)
theorem FE{W:WKD}{what:String}{env:Env}(ws:WshF X W)(I:Inv X pins σ H s)(x1:XOk X pins H x)(xT:XOk X pins H T)(tr:TrcF s.heap x C T)(zd:Xd s.heap x d)(h:W C d σ H):wpAny (model X.prog X.w) X.A (PySem.passOn what (.ref x) env:Sem Value) (fun _ _=>False) X.xe s:=by
 obtain⟨oe,vs,a0,oT,ts,fl,he,hc,h0,hd,h1,hTe,hT,hdT,h3⟩:=tr
 have i3:=(Pp.mp h3).1
 unfold PySem.passOn setFlight
 refine wpAny_bind (wpAny_field he hd h1 ?_)
 rw[if_neg (show ¬ ((Value.ref T == Value.none)=true) from by simp)]
 refine wpAny_bind (wpAny_bind (wpAny_field he hd h1 ?_))
 rw[if_pos (show(Value.ref T != Value.none)=true from by simp)]
 refine wpAny_setField hT hdT i3 ?_
 generalize hv:(env.frame.elim Value.none fun f=>rawInt f)=v
 have oth:∀ b,b≠T->(s.heap.update T (Obj.mapFields (·.setIfInBounds 3 v))).get? b=s.heap.get? b:=fun b z=>Heap.get?_update_other _ _ (Ne.symm z)
 have one:∀ b∈[T],XOk X pins H b:=fun b hb=>by
  have e:b=T:=by simpa using hb
  rw[e]
  exact xT
 have I2:Inv X pins σ H { s with heap:=s.heap.update T (Obj.mapFields (·.setIfInBounds 3 v)) }:=I.xstep one (fun b o e n _=>(oth b fun z=>n (by simp[z])).trans e) fun b o e n _=>⟨o.slots,(oth b fun z=>n (by simp[z])).trans e⟩
 refine wpAny_throw (ws pins σ H _ x T C d I2 x1 xT ⟨oe,vs,a0,_,_,v,(oth x (Ne.symm hTe)).trans he,hc,h0,hd,h1,hTe,Heap.get?_update_self _ hT (Obj.isFreed_of_fields (Obj.data_mapFields hdT _)),Obj.data_mapFields hdT _,by simp[i3]⟩ ?_ h)
 obtain⟨o2,e2,d2⟩:=zd
 exact⟨o2,(oth x (Ne.symm hTe)).trans e2,d2⟩
end
section
variable{X:Cx}{scope:Scope}{fr:List (Str×Nat)}{xs:List Str}{elt iter tg:Expr}{ifs:List Expr}{pos:Pos}{tt:TT}{tgt:TG}{wi:TI}
theorem By{pins:List (Addr×Obj)}{σ:St}{H:Hp}{s:Shared}{E:Value->Shared->Prop}{it:Addr}{fp:List Addr}{tn:Nat->Heap->Prop}{J:It}{RR:Value->Addr->Result->Shared->Prop}{QQ:List V->Hp->Prop}(hc:X.calm=true)(O:ju X scope fr xs)
  (hg0:∀ C ex s H,PG (cxG X scope fr xs C ex s H) tg tgt) (ht:∀ C ex s H,PTs (cxG X scope fr xs C ex s H) ifs tt) {teW:WKD->TE} {Wi:WKD} (he:∀ C ex s H ps XE Wi,PnX ((cxG X scope fr xs C ex s H).tried ps XE)->HU ((cxG X scope fr xs C ex s H).tried ps XE) Wi->PE ((cxG X scope fr xs C ex s H).tried ps XE) elt (teW Wi)) (hX0:X.ex = []) (hstX:X.stack=X.env::X.outer) (hfrX:X.env.frame=some X.env.locals) (I:Inv X pins σ H s) (T:Turn X.prog X.w X.K tg J fp it tn) (st:tn 0 s.heap) (hf:∀ b∈fp,FpOk X pins H b) (hq:kr tgt tt (teW Wi) xs.length (frOf fr σ) J H QQ)
  (fin:∀ D C H4 ys s4 m,Inv X pins σ (upd H4 D (.lst ys)) s4->H4 D=none->FpOk X pins (upd H4 D (.lst ys)) C->s4.heap.Ns C m->QQ ys H4->RR (.ref D) C (.ok .next) s4)
  (finE:∀ D C H4 σ4 ys s4 m x T c d,Inv X pins σ (upd H4 D (.lst ys)) s4->H4 D=none->FpOk X pins (upd H4 D (.lst ys)) C->s4.heap.Ns C m->XOk X pins (upd H4 D (.lst ys)) x->XOk X pins (upd H4 D (.lst ys)) T->x≠C->T≠C->TrcF s4.heap x c T->Xd s4.heap x d->Wi c d σ4 H4->RR (.ref D) C (.error (.ref x)) s4) :
  wpAny (model X.prog X.w) X.A (newList []) (fun acc s₃=>wpAny (model X.prog X.w) X.A (newFunctionEnv scope X.env.globals (clOf X.env fr) [] X.env.qual none .none (some X.env)) (fun cenv s₄ =>
   codeAny (model X.prog X.w) X.A (.compStart (.ListComp elt [⟨tg,iter,ifs,0⟩] scope pos) 0 (.ref it) acc { cenv with scope:=relabel scope X.env }) (RR acc cenv.locals) s₄) E s₃) E s:=by
 obtain⟨W,⟨m0,w0⟩,turn⟩:=hq
 have hfs:∀ b∈fp,b<s.heap.objs.size:=fun b hb=>by
  obtain⟨o,e,_⟩:=T.obj 0 s.heap st b hb
  exact Heap.lt_size e
 refine wpAny_newObj_type (wpAny_newFunctionEnv O.cell (by intro y hy;simp at hy) (fun h₁ hns₁ hsb₁=>?_) O.kind)
 dsimp only at hns₁ hsb₁ ⊢
 generalize hH2:s.heap.push { cls:=.type "list",dict:=none,data:=.seq ([]:List Value).toArray }=g at hns₁ hsb₁ ⊢
 have hg:g=s.heap.push (LCg.lst []):=hH2.symm
 have hsz:g.objs.size=s.heap.objs.size+1:=by rw[hg,Heap.size_push]
 have hk:∀ b o,g.get? b=some o->h₁.get? b=some o:=fun b o e=>hsb₁.extBut b o (Nm (Heap.lt_size e)) (Heap.get?_push_of_some _ e)
 have kp:∀ b o,s.heap.get? b=some o->h₁.get? b=some o:=fun b o e=>hk b o (by rw[hg];exact Heap.get?_push_of_some _ e)
 have kpg:∀ b o,s.heap.get? b=some o->g.get? b=some o:=fun b o e=>by rw[hg];exact Heap.get?_push_of_some _ e
 have J0:=xW (h':=h₁) (tk:=s.toks+([]:List (Str×Value)).length) O I hf hfs hg hk hns₁
 have stat:∀{H':Hp}{us:List Value},(∀ b∈fp,H' b=none)->∀ b∈fp,FpOk (cxG X scope fr xs g.objs.size (s.heap.objs.size::fp) { s with heap:=g } H) (X.pn++pins++[(s.heap.objs.size,LCg.lst us)]) H' b:=fun{H' us} hn b hb=>by
  obtain⟨_,f1,f2,f3,f4,f5⟩:=hf b hb
  refine⟨hn b hb,?_,fun z=>(MV.mp (I.stkSub b z)).elim f1 f2,.inl (MY _ hb),fun y c e=>f4 y c (O.cells I e),fun p hp=>?_⟩
  ·show b≠g.objs.size
   rw[hsz];exact Nm (OG (hfs b hb))
  ·rcases M5.mp hp with hp | hp
   ·cases hp
   ·rcases M5.mp hp with hp | hp
    ·exact f5 p hp
    ·have ep:p=(s.heap.objs.size,LCg.lst us):=by simpa using hp
     rw[ep]
     exact OI (hfs b hb)
 have loop:codeAny (model X.prog X.w) X.A (.compLoop (.ListComp elt [⟨tg,iter,ifs,0⟩] scope pos) 0 (.ref it) (.ref s.heap.objs.size) (compEnvC scope (clOf X.env fr) g.objs.size X.env))
   (RR (.ref s.heap.objs.size) g.objs.size) { s with heap:=h₁,toks:=s.toks+([]:List (Str×Value)).length }:=by
  refine yp (fun n s'=>∃ i ys us H',Inv (cxG X scope fr xs g.objs.size (s.heap.objs.size::fp) { s with heap:=g } H) (X.pn++pins++[(s.heap.objs.size,LCg.lst us)]) (nons xs++frOf fr σ) H' s'/\Vals ys us/\tn i s'.heap/\(∀ b∈fp,H' b=none)/\W i n ys H') ?_ m0
   ⟨0,[],[],H,J0,.nil,T.keep 0 s.heap h₁ st fun b _ o e=>kp b o e,fun b hb=>(hf b hb).1,w0⟩
  rintro n s3 ⟨i,ys,us,H3,J3,hv,st3,fr3,w3⟩
  obtain⟨hlen,hh⟩:=turn i n ys H3 w3
  have none_err:∀{α:Type}{t:Sem α}{Q:α->Shared->Prop}{E':Value->Shared->Prop}{s:Shared},wpAny (model X.prog X.w) X.A t Q (fun _ _=>False) s->wpAny (model X.prog X.w) X.A t Q E' s:=fun h=>wpAny_mono h (fun _ _ q=>q) fun _ _ z=>z.elim
  have weakN:∀{σ6:St},σ6.length=(nons xs++frOf fr σ).length->σ6.drop xs.length=frOf fr σ->∀(i:Nat) v,(nons xs++frOf fr σ)[i]?=some (some v)->σ6[i]?=some (some v):=fun{σ6} hl6 e6 i v e=>by
   by_cases hi:i<xs.length
   ·rw[MU (by simpa using hi),N8,if_pos hi]at e
    cases e
   ·rw[MR (by simp;omega),← e6,List.getElem?_drop]at e
    have:xs.length+(i-(nons xs).length)=i:=by simp;omega
    rw[this]at e
    exact e
  rcases hh with⟨stop,qn⟩ | ⟨go,N,hN,step⟩
  ·refine none_err (thn (T.done (cxG X scope fr xs g.objs.size (s.heap.objs.size::fp) { s with heap:=g } H) rfl rfl rfl hc i _ s3 _ H3 _ J3 (stat fr3) st3 stop) fun r s4 ⟨hr,J4⟩=>?_)
   subst hr
   obtain⟨I4,nD,fC,m,hn⟩:=gB I hf hg J4 hv hlen
   exact fin _ _ H3 ys s4 m I4 nD fC hn qn
  ·refine none_err (thn (T.item (cxG X scope fr xs g.objs.size (s.heap.objs.size::fp) { s with heap:=g } H) rfl rfl rfl hc i _ s3 _ H3 _ J3 (stat fr3) st3 go) fun r s4 ⟨u,hr,h4⟩=>?_)
   subst hr
   refine none_err (thn h4 fun _ s5 ⟨v,H5,J5,r5,y5,st5,fr5⟩=>?_)
   have J5':=J5.pinned (stat fr5) (T.obj _ _ st5)
   refine none_err (thn (hg0 _ _ _ _ _ s5 _ H5 v u _ J5' r5 (step v H5 y5)) fun _ s6 ⟨σ6,H6,J6,e6,q6⟩=>?_)
   refine none_err (thn (ht _ _ _ _ _ s6 σ6 H6 _ J6 q6) fun b s6' ⟨H6',J6',q6'⟩=>?_)
   have hl6:σ6.length=(nons xs++frOf fr σ).length:=J6.len.trans J3.len.symm
   cases b with
   |false =>
    rw[if_neg Nn]at q6' ⊢
    obtain⟨m',hm,w7⟩:=hN ys H6' q6'
    have pinF:∀ b∈fp,∀ o,s5.heap.get? b=some o->s6'.heap.get? b=some o/\H6' b=none:=fun b hb o e=>by
     obtain⟨q1,q2,_⟩:=J6'.pin (b,o) (MZ _ (MZ _ (cm hb e)))
     exact⟨q1,q2⟩
    refine⟨m',hm,i+1,ys,us,H6',J6'.unpinned.weak (σ':=nons xs++frOf fr σ) hl6.symm (weakN hl6 e6),hv,T.keep _ _ _ st5 fun b hb o e=>(pinF b hb o e).1,fun b hb=>?_,w7⟩
    obtain⟨o,e,_⟩:=T.obj _ _ st5 b hb
    exact(pinF b hb o e).2
   |true =>
    rw[if_pos rfl]at q6' ⊢
    have hP:∀ XE,PnX ((cxG X scope fr xs g.objs.size (s.heap.objs.size::fp) { s with heap:=g } H).tried (X.pn++pins++[(s.heap.objs.size,LCg.lst us)]++mH fp s5.heap) XE):=fun XE b hb=>by
     rcases MV.mp hb with rfl | hb
     ·exact⟨LCg.lst us,MZ _ (Nt _ (MZ _ (by simp)))⟩
     ·obtain⟨o,e,_⟩:=T.obj _ _ st5 b hb
      exact⟨o,MZ _ (MZ _ (cm hb e))⟩
    refine wpAny_mono (he _ _ _ _ (X.pn++pins++[(s.heap.objs.size,LCg.lst us)]++mH fp s5.heap) (notedBy (model X.prog X.w) X.A (compEnvC scope (clOf X.env fr) g.objs.size X.env) fun e s'=>RR (.ref s.heap.objs.size) g.objs.size (.error e) s') Wi (hP _) ?wsh [] s6' _ H6' _ J6'.tried q6') (fun u7 s7 ⟨v7,H7,J7t,r7,q7⟩=>?body) (fun _ _ z=>z)
    case wsh =>
     intro pins' σ1 H1 s1 x T' c d I1 xx xT tr zd hw
     show notedBy (model X.prog X.w) X.A (compEnvC scope (clOf X.env fr) g.objs.size X.env) (fun e s'=>RR (.ref s.heap.objs.size) g.objs.size (.error e) s') (.ref x) s1
     refine Jb (X:=(cxG X scope fr xs g.objs.size (s.heap.objs.size::fp) { s with heap:=g } H).tried (X.pn++pins++[(s.heap.objs.size,LCg.lst us)]++mH fp s5.heap) (notedBy (model X.prog X.w) X.A (compEnvC scope (clOf X.env fr) g.objs.size X.env) fun e s'=>RR (.ref s.heap.objs.size) g.objs.size (.error e) s')) (L:=X.env.locals) (cenv:=compEnvC scope (clOf X.env fr) g.objs.size X.env) (R:=fun e s'=>RR (.ref s.heap.objs.size) g.objs.size (.error e) s') (hP (notedBy (model X.prog X.w) X.A (compEnvC scope (clOf X.env fr) g.objs.size X.env) fun e s'=>RR (.ref s.heap.objs.size) g.objs.size (.error e) s')) hstX hfrX rfl rfl I1 xx xT tr zd fun s4 T4 I4 xT4 tr4 zd4=>?_
     have I5:Inv (cxG X scope fr xs g.objs.size (s.heap.objs.size::fp) { s with heap:=g } H) (X.pn++pins++[(s.heap.objs.size,LCg.lst us)]) σ1 H1 s4:=I4.untried.pins_of fun p hp=>I4.untried.pin p (MZ _ (Nt _ hp))
     obtain⟨I6,nD,fC,m,hn⟩:=gB I hf hg I5 hv hlen
     have old:∀{b:Addr},g.get? b=none->s.heap.get? b=none:=fun{b} hb=>by
      cases q:s.heap.get? b with
      |none=>rfl
      |some o =>
       have:=kpg b o q
       rw[hb]at this
       cases this
     have neD:∀{b:Addr},g.get? b=none->b≠s.heap.objs.size:=fun{b} hb z=>by
      rw[z,hg,Heap.get?_push_size _ rfl]at hb
      cases hb
     refine finE _ _ H1 σ1 ys s4 m x T4 c d I6 nD fC hn (I.xok hX0 (old xx.old) ?_) (I.xok hX0 (old xT4.old) ?_) xx.nl xT4.nl tr4 zd4 hw
     ·rw[ao (neD xx.old)]
      exact xx.trk
     ·rw[ao (neD xT4.old)]
      exact xT4.trk
    case body =>
    have J7:=J7t.untried
    obtain⟨m',hm,w7⟩:=hN _ H7 q7
    obtain⟨eD,nD,dC,dF,dd⟩:=J7.pin (s.heap.objs.size,LCg.lst us) (MZ _ (Nt _ (MZ _ (by simp))))
    have hvl:=hv.length
    refine append_at (hsz:=by show us.toArray.size<=sizeLine;rw[Np,← hvl];exact hlen) eD fun h8 hs8 hD8=>?_
    have pinD:∀ p∈X.pn++pins,p.1≠s.heap.objs.size:=fun p hp z=>by
     have:=Heap.lt_size (I.pin p hp).1
     rw[z]at this
     exact Nz _ this
    have J7a:Inv (cxG X scope fr xs g.objs.size (s.heap.objs.size::fp) { s with heap:=g } H) (X.pn++pins) _ H7 s7:=J7.pins_of fun p hp=>J7.pin p (MZ _ (Nt _ (Nt _ hp)))
    have J8:Inv (cxG X scope fr xs g.objs.size (s.heap.objs.size::fp) { s with heap:=g } H) (X.pn++pins) _ H7 { s7 with heap:=h8 }:=J7a.turned (t':=s7.toks) (fun b o hb e=>(hs8.2 b hb).trans e) nD dC (.inl M3) (fun y c e z=>by
     obtain⟨w',q⟩:=I.cell y c (O.cells I e)
     have:=q.lt
     rw[z]at this
     exact Nz _ this) (fun p hp=>(M5.mp hp).elim (fun z=>by cases z) (pinD p))
    have J9:Inv (cxG X scope fr xs g.objs.size (s.heap.objs.size::fp) { s with heap:=g } H) (X.pn++pins++[(s.heap.objs.size,LCg.lst (us++[u7]))]) _ H7 { s7 with heap:=h8 }:=J8.pins_of fun p hp=>by
     rcases M5.mp hp with hp | hp
     ·exact J8.pin p (MZ _ hp)
     ·have ep:p=(s.heap.objs.size,LCg.lst (us++[u7])):=by simpa using hp
      subst ep
      exact⟨hD8.trans (congrArg some (LCg.lst_snoc us u7)),nD,dC,dF,fun v z=>by cases z⟩
    have J10:=J9.weak (σ':=nons xs++frOf fr σ) hl6.symm (weakN hl6 e6)
    have pinF:∀ b∈fp,∀ o,s5.heap.get? b=some o->s7.heap.get? b=some o/\H7 b=none:=fun b hb o e=>by
     obtain⟨q1,q2,_⟩:=J7.pin (b,o) (MZ _ (MZ _ (cm hb e)))
     exact⟨q1,q2⟩
    refine⟨m',hm,i+1,ys++[v7],us++[u7],H7,J10,hv.append (.cons r7 .nil),T.keep _ _ _ st5 fun b hb o e=>(hs8.2 b (Nm (hfs b hb))).trans (pinF b hb o e).1,fun b hb=>?_,w7⟩
    obtain⟨o,e,_⟩:=T.obj _ _ st5 b hb
    exact(pinF b hb o e).2
 exact codeAny_compStart_list loop (T.self X.A 0 _ _ _ (T.keep 0 s.heap h₁ st fun b _ o e=>kp b o e) loop)
noncomputable abbrev wOut(W:WKD)(σ:St):WKD:=fun c d _ H1=>∀ D ys,H1 D=none->W c d σ (upd H1 D (.lst ys))
theorem JL{W:WKD}{σ σ4:St}{pins:List (Addr×Obj)}{use:Option (Value->Sem Unit)}{QV:Value->Shared->Prop}{acc:Value}{D C:Addr}{H4:Hp}{ys:List V}{s4:Shared}{m:Str->Option Value}{x T:Addr}{c:Value}{d:Option Addr}(ws:WshF X W)(I:Inv X pins σ (upd H4 D (.lst ys)) s4)(nD:H4 D=none)(fC:FpOk X pins (upd H4 D (.lst ys)) C)(hn:s4.heap.Ns C m)
  (x1:XOk X pins (upd H4 D (.lst ys)) x) (xT:XOk X pins (upd H4 D (.lst ys)) T) (xC:x≠C) (TC:T≠C) (tr:TrcF s4.heap x c T) (zd:Xd s4.heap x d) (hw:wOut W σ c d σ4 H4):compPost (model X.prog X.w) X.A X.xe use QV acc C (.error (.ref x)) s4:=by
 have go:∃ m,s4.heap.Ns C m/\∀ h',Heap.SameBut C s4.heap h'->∀ cenv:Env,cenv.locals=C->wpAny (model X.prog X.w) X.A (PySem.passOn "comprehension.variables-let-go" (.ref x) cenv:Sem Value) (fun _ _=>False) X.xe { s4 with heap:=h' }:=by
  refine⟨m,hn,fun h' hs' cenv _=>?_⟩
  obtain⟨g0,g1,g2,g3,g4,g5⟩:=fC
  have I5:=I.turned (t':=s4.toks) (fun b o hb e=>(hs'.2 b hb).trans e) g0 g1 g3 g4 g5
  obtain⟨oe,vs,a0,oT,ts,fl,he,hc,h0,hd,h1,hTe,hT,hdT,h3⟩:=tr
  obtain⟨o2,e2,d2⟩:=zd
  exact FE ws I5 x1 xT ⟨oe,vs,a0,oT,ts,fl,(hs'.2 x xC).trans he,hc,h0,hd,h1,hTe,(hs'.2 T TC).trans hT,hdT,h3⟩ ⟨o2,(hs'.2 x xC).trans e2,d2⟩ (hw D ys nD)
 cases use<;>exact go
noncomputable def KU(W:WKD)(wi:TI)(g:TG)(tt:TT)(te:WKD->TE)(n:Nat)(fr:List (Str×Nat)):TE:=fun σ H Q=>wi σ H fun J H1=>kr g tt (te (wOut W σ)) n (frOf fr σ) J H1 fun ys H2=>∀ D,H2 D=none->Q (.ref D) (upd H2 D (.lst ys))
theorem FA{te:WKD->TE}{W:WKD}(ws:WshF X W)(hX0:X.ex = [])(hstX:X.stack=X.env::X.outer)(hfrX:X.env.frame=some X.env.locals)(hc:X.calm=true)(O:ju X scope fr xs)(hi:PI X tg iter wi)(hg0:∀ C ex s H,PG (cxG X scope fr xs C ex s H) tg tgt)(ht:∀ C ex s H,PTs (cxG X scope fr xs C ex s H) ifs tt)
  (he:∀ C ex s H ps XE Wi,PnX ((cxG X scope fr xs C ex s H).tried ps XE)->HU ((cxG X scope fr xs C ex s H).tried ps XE) Wi->PE ((cxG X scope fr xs C ex s H).tried ps XE) elt (te Wi)) (hs:∀ x,foldedSetIterable iter X.env x=pure x:=by intro _;rfl) :
  PE X (.ListComp elt [⟨tg,iter,ifs,0⟩] scope pos) (KU W wi tgt tt te xs.length fr):=by
 intro pins s σ H Q I h
 rw[eval_ListComp]
 refine wpAny_comprehension_free (use:=none) rfl hs O.clos O.kind O.names (thn (hi pins s σ H _ I h) fun xv s1 h1=>thn h1 fun itv s2 h2=>?_)
 obtain⟨it,fp,tn,J,H2,e,I2,T,st2,f2,q2⟩:=h2
 subst e
 refine By (RR:=fun acc C=>compPost (model X.prog X.w) X.A X.xe none (EP X pins σ Q) acc C) hc O hg0 ht he hX0 hstX hfrX I2 T st2 f2 q2 ?_ ?_
 ·intro D C H4 ys s4 m I4 nD fC hn q4
  refine⟨m,hn,fun h' hs'=>?_⟩
  obtain⟨g0,g1,g2,g3,g4,g5⟩:=fC
  exact⟨.ref D,_,I4.turned (t':=s4.toks) (fun b o hb e=>(hs'.2 b hb).trans e) g0 g1 g3 g4 g5,rfl,q4 D nD⟩
 ·intro D C H4 σ4 ys s4 m x T c d I4 nD fC hn x1 xT xC TC tr zd hw
  exact JL ws I4 nD fC hn x1 xT xC TC tr zd hw
end
end L2
namespace L2
open PySem PySem.Spec PyProof.Rows
noncomputable def tTryN(Cs:Addr->Prop)(tb:WKD->TS)(ts:TS):TS:=fun Ds σ H=>tb (fun C _ σ1 H1=>∃ c,C=.ref c/\Cs c/\ts { nx:=fun σ2 H2=>Ds.nx σ2 H2,rt:=fun _ _=>False } σ1 H1) Ds σ H
theorem Le{X:Cx}{body:List Stmt}{b0:Stmt}{suite:List Stmt}{dn:Str}{np hpos pos:Pos}{D:Addr}{Cs:Addr->Prop}{tb:WKD->TS}{ts:TS}(hx:X.ex = [])(hst:X.stack=X.env::X.outer)(hfr:X.env.frame=some X.env.locals)
  (hgD:Gl X dn) (hmD:X.mg dn=some (.ref D)) (eD:ExC X.K D) (hCs:∀ c,Cs c->Pf X.K c (.ref D)=some true)
  (hb:∀ pins XE W,HU (X.tried pins XE) W->PSs (X.tried pins XE) body (tb W)) (hs:∀ v,PSs (X.marked v) (b0::suite) ts) (hdb:(dn == ("__debug__" : Str))=false:=by decide) :
  PS X (.Try body [.ExceptHandler (some (.Name dn np)) none (b0::suite) hpos] [] [] pos) (tTryN Cs tb ts):=by
 intro pins s σ H Ds I h
 refine wpAny_Try_except ?_
 refine wpAny_mono (hb pins (fun e s₁=>wpAny (model X.prog X.w) X.A (noteFrame e X.env) (fun _ s₂=>wpAny (model X.prog X.w) X.A (setFlight e none) (fun _ s₃=>wpAny (model X.prog X.w) X.A (handleBy e X.env [.ExceptHandler (some (.Name dn np)) none (b0::suite) hpos]) (SP X pins Ds) X.xe s₃) X.xe s₂) X.xe s₁) _ ?_ [] s σ H Ds I.tried h) (fun f s1 q=>?_) fun _ _ z=>z
 ·intro pins' σ1 H1 s1 x T C d I1 xx xT tr zd hw
  obtain⟨c,rfl,hc,hts⟩:=hw
  have I2:Inv X pins σ1 H1 s1:=I1.untried
  have x2:XOk X pins H1 x:=xx.untried
  have T2:XOk X pins H1 T:=xT.untried
  have frm:X.A.frames=some (X.env::X.outer):=by rw[← hst];exact I2.ok.frames
  have fly:∀{h:Heap}{T:Addr},Inv X pins σ1 H1 { s1 with heap:=h }->Trc h x (.ref c) T->∃ a0,Heap.FlyingW (hidX X h [x,T]) (X.env::X.outer) x (.ref c) a0 h:=fun{h T} J tr=>by
   obtain⟨oe,vs,a0,oT,ts,he,hcl,h0,hd,h1,hTe,hT,hdT,h3⟩:=tr
   exact⟨a0,xY _ _,dy (by simp),hst▸J.hidF [x,T],⟨oe,vs,T,oT,ts,he,⟨hcl,h0⟩,hd,h1,dy (by simp),hTe,hT,hdT,h3⟩⟩
  obtain⟨a0,fl⟩:=fly (h:=s1.heap) I2 tr
  refine wpAny_mono (wpAny_looks_onW (Q:=fun _ s'=>∃ h4,s'={ s1 with heap:=h4 }/\Heap.HeldW (hidX X s1.heap [x,T]) (X.env::X.outer) x (.ref c) a0 X.env.locals h4/\s1.heap.UpToSlots h4) (E:=fun _ _=>False) frm hfr fl fun h4 a b=>⟨h4,rfl,a,b⟩) ?_ (fun _ _ q=>q.elim)
  rintro _ s4 ⟨h4,rfl,held4,up4⟩
  refine wpAny_mono (wpAny_landsW (Q:=fun _ s'=>∃ h5,s'={ s1 with heap:=h5 }/\Heap.FlyingW (hidX X s1.heap [x,T]) (X.env::X.outer) x (.ref c) a0 h5/\h4.UpToSlots h5) (E:=fun _ _=>False) held4 fun h5 a b=>⟨h5,rfl,a,b⟩) ?_ (fun _ _ q=>q.elim)
  rintro _ s5 ⟨h5,rfl,fl5,up5⟩
  obtain⟨I5,T5,xT5,tr5⟩:=I2.left hx (Ca x2 T2) fl5.1 fl5.2.2.2 (up4.trans up5)
  refine wpAny_handleBy_cons (codeAny_handlers_test (Calls.Name_function_global I5.ok.kind hgD (Calls.loadGlobal_global (by rw[I5.ok.glob];exact I5.mod.glob.keeps I5.bk) hmD ?_) hdb)) (by intro q;cases q)
  obtain⟨_,_,_,_,_,_,_,_,_,_,_,_,_,_,_,_,_,hD,_,_,TD,_⟩:=GV eD I5.kIn
  have hDB:=TD.hasType (X:="BaseException") (b:=true) rfl
  obtain⟨ob,_,_,_,_,hob,hcl,_⟩:=id tr5
  refine Mj hD hob hcl (by rw[List.contains_cons,hDB,Bool.or_true]) (PySem.W.looks_mroIn I5.kIn (hCs c hc)) ?_
  refine codeAny_handlers_suite ?_
  obtain⟨a5,fl5'⟩:=fly I5 tr5
  refine wpAny_mono (lands_againW (Q:=fun _ s'=>∃ h6,s'={ s1 with heap:=h6 }/\Heap.FlyingW (hidX X h5 [x,T5]) (X.env::X.outer) x (.ref c) a5 h6/\h5.UpToSlots h6) (E:=fun _ _=>False) (s:={ s1 with heap:=h5 }) fl5' fun h6 a b=>⟨h6,rfl,a,b⟩) ?_ (fun _ _ q=>q.elim)
  rintro _ s6 ⟨h6,rfl,fl6,up6⟩
  obtain⟨I6,T6,xT6,tr6⟩:=I5.left hx (Ca x2 xT5) fl6.1 fl6.2.2.2 up6
  refine wpAny_mono (hs (.ref x) pins _ _ _ _ (I6.marked _) hts) (fun f s9 q9=>?_) fun _ _ z=>z.elim
  cases f with
  |next =>
   obtain⟨σ9,H9,I9,q9⟩:=q9
   exact⟨σ9,H9,Inv.unmarked (hd:=I2.ok.hd) (fr:=I2.ok.frames) I9,q9⟩
  |brk=>obtain⟨_,_,_,z⟩:=q9;exact z.elim
  |cont=>obtain⟨_,_,_,z⟩:=q9;exact z.elim
  |ret u=>obtain⟨_,_,_,_,_,z⟩:=q9;exact z.elim
 ·have q':=SP.untried q
  cases f with
  |next=>exact wpAny_execs_nil q'
  |brk=>exact q'
  |cont=>exact q'
  |ret u=>exact q'
end L2
namespace K1
end K1
namespace K2
noncomputable def S:List Nat->Nat
 |[]=>0
 |p::r=>2^p+S r
theorem MH{n p:Nat}(h:n.testBit p=false)(i:Nat):(n+2^p).testBit i=(n.testBit i||decide (i=p)):=by
 have e:n+2^p=n|||2^p:=by
  have hz:n&&&2^p=0:=by
   apply NF
   intro j
   rw[Oo,Nu,NK]
   by_cases hj:p=j
   ·subst hj;simp[h]
   ·simp[hj]
  have q:∀ m k:Nat,(m|||k)+(m&&&k)=m+k:=by
   intro m
   induction m using Nat.strongRecOn with
   |ind m ih =>
    intro n
    by_cases h0:m=0
    ·subst h0;simp
    ·have ih':=ih (m/2) (by omega) (n/2)
     rw[← Nat.or_div_two,← Nat.and_div_two]at ih'
     have o1:=@Nat.or_mod_two_eq_one m n
     have a1:=@Nat.and_mod_two_eq_one m n
     omega
  have:=q n (2^p)
  rw[hz]at this
  omega
 rw[e,Ol,Nu]
 congr 1
 exact decide_eq_decide.mpr ⟨fun h=>h.symm,fun h=>h.symm⟩
theorem S_bit:∀{D:List Nat},D.Nodup->∀ i,(S D).testBit i=decide (i∈D)
 |[],_,i=>by simp[S]
 |p::r,nd,i=>by
  have ⟨h1,h2⟩:=Nb.mp nd
  have hp:(S r).testBit p=false:=by rw[S_bit h2];exact decide_eq_false h1
  have e:S (p::r)=S r+2^p:=Nat.add_comm _ _
  rw[e,MH hp,S_bit h2]
  by_cases a:i=p<;>by_cases b:i∈r<;>simp[a,b]
noncomputable def bitsF(k n:Nat):List Nat:=if h:n=0 then[] else(if n%2=1 then[k] else[])++bitsF (k+1) (n/2)
termination_by n
decreasing_by omega
theorem bitsF_zero(k:Nat):bitsF k 0 = []:=by rw[bitsF];simp
theorem bitsF_odd{k n:Nat}(h:n%2=1):bitsF k n=k::bitsF (k+1) (n/2):=by
 rw[bitsF,dif_neg (by omega),if_pos h];rfl
theorem bitsF_even{k n:Nat}(h0:n≠0)(h:¬ n%2=1):bitsF k n=bitsF (k+1) (n/2):=by
 rw[bitsF,dif_neg h0,if_neg h];rfl
theorem vN:∀(f n k:Nat),n<=f->∀ p∈bitsF k n,k<=p
 |0,n,k,h=>by
  have z:n=0:=by omega
  subst z;rw[bitsF_zero];intro p hp;cases hp
 |f+1,n,k,h=>by
  intro p hp
  by_cases z:n=0
  ·subst z;rw[bitsF_zero]at hp;cases hp
  ·by_cases o:n%2=1
   ·rw[bitsF_odd o]at hp
    rcases MV.mp hp with e | hp
    ·omega
    ·have:=vN f (n/2) (k+1) (by omega) p hp;omega
   ·rw[bitsF_even z o]at hp
    have:=vN f (n/2) (k+1) (by omega) p hp;omega
theorem bitsF_sorted:∀(f n k:Nat),n<=f->(bitsF k n).Pairwise (· < ·)
 |0,n,k,h=>by
  have z:n=0:=by omega
  subst z;rw[bitsF_zero];exact Pz
 |f+1,n,k,h=>by
  by_cases z:n=0
  ·subst z;rw[bitsF_zero];exact Pz
  ·by_cases o:n%2=1
   ·rw[bitsF_odd o]
    exact List.Pairwise.cons (fun p hp=>vN f (n/2) (k+1) (by omega) p hp) (bitsF_sorted f (n/2) (k+1) (by omega))
   ·rw[bitsF_even z o];exact bitsF_sorted f (n/2) (k+1) (by omega)
theorem bitsF_sum:∀(f n k:Nat),n<=f->S (bitsF k n)=n*2^k
 |0,n,k,h=>by
  have z:n=0:=by omega
  subst z;rw[bitsF_zero];simp[S]
 |f+1,n,k,h=>by
  by_cases z:n=0
  ·subst z;rw[bitsF_zero];simp[S]
  ·have ih:=bitsF_sum f (n/2) (k+1) (by omega)
   have e:n/2*2^(k+1)=(2*(n/2))*2^k:=by rw[Nat.pow_succ,Nat.mul_comm (2^k) 2,← Nat.mul_assoc,Nat.mul_comm (n/2) 2]
   by_cases o:n%2=1
   ·rw[bitsF_odd o]
    show 2^k+S (bitsF (k+1) (n/2))=_
    rw[ih,e]
    have:n=2*(n/2)+1:=by omega
    have e2:n*2^k=(2*(n/2)+1)*2^k:=by rw[← this]
    rw[e2,Nat.add_mul,Nat.one_mul];omega
   ·rw[bitsF_even z o,ih,e]
    have:n=2*(n/2):=by omega
    have e2:n*2^k=(2*(n/2))*2^k:=by rw[← this]
    rw[e2]
theorem bitsF_lt:∀(m n k:Nat),n<2^m->∀ p∈bitsF k n,p<k+m
 |0,n,k,h=>by
  have z:n=0:=by omega
  subst z;rw[bitsF_zero];intro p hp;cases hp
 |m+1,n,k,h=>by
  intro p hp
  have h2:n/2<2^m:=by rw[Nat.pow_succ]at h;omega
  by_cases z:n=0
  ·subst z;rw[bitsF_zero]at hp;cases hp
  ·by_cases o:n%2=1
   ·rw[bitsF_odd o]at hp
    rcases MV.mp hp with e | hp
    ·omega
    ·have:=bitsF_lt m (n/2) (k+1) h2 p hp;omega
   ·rw[bitsF_even z o]at hp
    have:=bitsF_lt m (n/2) (k+1) h2 p hp;omega
theorem bitsF_len:∀(m n k:Nat),n<2^m->(bitsF k n).length<=m
 |0,n,k,h=>by
  have z:n=0:=by omega
  subst z;rw[bitsF_zero];exact MT _
 |m+1,n,k,h=>by
  have h2:n/2<2^m:=by rw[Nat.pow_succ]at h;omega
  by_cases z:n=0
  ·subst z;rw[bitsF_zero];exact NS _
  ·by_cases o:n%2=1
   ·rw[bitsF_odd o]
    have:=bitsF_len m (n/2) (k+1) h2
    show _+1<=_
    omega
   ·rw[bitsF_even z o]
    have:=bitsF_len m (n/2) (k+1) h2
    omega
theorem nodup_of_lt{l:List Nat}(h:l.Pairwise (· < ·)):l.Nodup:=h.imp fun h=>Nm h
end K2
namespace KF
open PySem L2
local macro_rules | `(tactic| walk_at "cc") => `(tactic| first | exact ⟨by decide, by decide⟩ | (show (0 : Int) < _; decide) | (show (0 : Int) < _; omega) | (show (0 : Int) ≤ _; omega) | exact ⟨by decide, by decide, by decide⟩ | exact ⟨by omega, by omega, by decide⟩ | exact Or.inl ⟨by decide, by decide⟩ | exact Or.inl ⟨by omega, by omega⟩)
local macro_rules | `(tactic| walk_at "rd") => `(tactic| repeat (first | refine ⟨_, rfl, ?_⟩ | refine ⟨_, _, rfl, rfl, ?_⟩ | refine ⟨rfl, ?_⟩ | (refine ⟨?cc, ?_⟩; (case cc => walk_at "cc"))))
noncomputable def top(i:Nat):Stmt:=PySem.Challenge.pw_spinfloor_k78_both_ways_of_fans.main.body.getD i (.Pass ⟨0,0,0,0⟩)
noncomputable abbrev cA:Stmt:=top 15
noncomputable abbrev gd:Stmt:=top 17
noncomputable abbrev cP:Stmt:=top 18
noncomputable abbrev g8:Stmt:=top 19
noncomputable abbrev f9:Stmt:=top 20
noncomputable abbrev jH:Stmt:=top 21
noncomputable abbrev oB:Stmt:=top 10
noncomputable abbrev oA:Stmt:=top 11
noncomputable abbrev zB:Stmt:=top 12
noncomputable abbrev cC:Stmt:=top 13
noncomputable abbrev bf:Stmt:=top 24
noncomputable abbrev bX:Stmt:=top 25
noncomputable abbrev aU:Stmt:=top 26
noncomputable abbrev bW:Stmt:=top 27
noncomputable abbrev gc:Stmt:=top 28
noncomputable abbrev Lk:=Nat×Nat×Int
noncomputable def bey(l:Lk)(r:Nat):Nat:=if r=l.1 then l.2.1 else l.1
noncomputable def nB(l:Lk)(r:Nat):Prop:=r=l.1∨r=l.2.1
theorem vO{l:Lk}{r:Nat}(h:nB l r):nB l (bey l r):=by
 unfold bey
 split
 ·exact .inr rfl
 ·exact .inl rfl
theorem qp{l:Lk}{r:Nat}(h:nB l r):bey l (bey l r)=r:=by
 unfold bey
 by_cases c:r=l.1
 ·rw[if_pos c]
  by_cases d:l.2.1=l.1
  ·rw[if_pos d];omega
  ·rw[if_neg d];exact c.symm
 ·rw[if_neg c,if_pos rfl]
  rcases h with h | h
  ·exact absurd h c
  ·exact h.symm
theorem bey_lt{l:Lk}{r n:Nat}(h1:l.1<n)(h2:l.2.1<n):bey l r<n:=by
 unfold bey
 split<;>assumption
inductive Up(ls:List Lk)(vv:List (Option Nat))(s:Nat):Nat->Nat->Prop where
 |root:Up ls vv s 0 s
 |step {j r k:Nat} {l:Lk} (hv:vv[r]?=some (some k)) (hl:ls[k]?=some l) (h:Up ls vv s j (bey l r)):Up ls vv s (j+1) r
theorem Up.uniq{ls:List Lk}{vv:List (Option Nat)}{s:Nat}(h0:vv[s]?=some none):∀{j i r:Nat},Up ls vv s j r->Up ls vv s i r->j=i
 |_,_,_,.root,.root=>rfl
 |_,_,_,.root,.step hv _ _=>by rw[h0]at hv;cases hv
 |_,_,_,.step hv _ _,.root=>by rw[h0]at hv;cases hv
 |_,_,_,.step hv hl h,.step hv' hl' h'=>by
  rw[hv]at hv';cases hv'
  rw[hl]at hl';cases hl'
  rw[Up.uniq h0 h h']
theorem Up.lt{ls:List Lk}{vv:List (Option Nat)}{s j r:Nat}(h0:vv[s]?=some none)(h:Up ls vv s j r):r<vv.length:=by
 cases h with
 |root=>exact(MO.mp h0).1
 |step hv _ _=>exact(MO.mp hv).1
theorem Up.chain{ls:List Lk}{vv:List (Option Nat)}{s:Nat}(h0:vv[s]?=some none):∀{j r:Nat},Up ls vv s j r->∃ c:List Nat,c.length=j+1/\c.Nodup/\∀ x∈c,x<vv.length/\∃ i,i<=j/\Up ls vv s i x
 |_,_,.root=>⟨[s],rfl,Nb.mpr ⟨(by simp),OW⟩,fun x hx=>by rw[Nx.mp hx];exact⟨Up.lt (ls:=ls) h0 .root,0,MT _,.root⟩⟩
 |j+1,r,.step hv hl h=>by
  obtain⟨c,cl,nd,hc⟩:=Up.chain h0 h
  have me:Up ls vv s (j+1) r:=.step hv hl h
  refine⟨r::c,by rw[Nv,cl],Nb.mpr ⟨fun hr=>?_,nd⟩,fun x hx=>?_⟩
  ·obtain⟨_,i,hi,hu⟩:=hc r hr
   have:=Up.uniq h0 me hu
   omega
  ·rcases MV.mp hx with rfl | hx
   ·exact⟨Up.lt h0 me,j+1,MT _,me⟩
   ·obtain⟨a,i,hi,hu⟩:=hc x hx
    exact⟨a,i,by omega,hu⟩
theorem kL:∀(n:Nat)(c:List Nat),c.Nodup->(∀ x∈c,x<n)->c.length<=n
 |0,c,_,h=>by
  cases c with
  |nil=>exact MT _
  |cons x r=>exact absurd (h x (M3 ..)) (NV _)
 |n+1,c,nd,h=>by
  have h1:=kL n (c.erase n) (nd.erase _) fun x hx=>by
   have hm:=List.mem_of_mem_erase hx
   have:=h x hm
   have:x≠n:=fun e=>by rw[e]at hx;exact absurd hx (List.Nodup.not_mem_erase nd)
   omega
  have h2:c.length<=(c.erase n).length+1:=by rw[List.length_erase];split<;>omega
  omega
theorem Up.short{ls:List Lk}{vv:List (Option Nat)}{s j r:Nat}(h0:vv[s]?=some none)(h:Up ls vv s j r):j+1<=vv.length:=by
 obtain⟨c,cl,nd,hc⟩:=Up.chain h0 h
 rw[← cl]
 exact kL _ c nd fun x hx=>(hc x hx).1
noncomputable def cOf(o:Option Int):Nat:=if o.isSome then 1 else 0
noncomputable def cnt(T:List (Option Int)):Nat:=(T.map cOf).sum
noncomputable def vOf(B:Nat)(o:Option Int):Nat:=match o with | none=>B | some x=>x.toNat
noncomputable def wgt(B:Nat)(T:List (Option Int)):Nat:=(T.map (vOf B)).sum
theorem tE{α:Type}(f:α->Nat):∀(l:List α)(i:Nat)(x y:α),l[i]?=some x->((l.set i y).map f).sum+f x=(l.map f).sum+f y
 |a::l,0,x,y,e=>by
  cases e
  rw[List.set_cons_zero,Nj,Nj,OB,OB]
  omega
 |a::l,i+1,x,y,e=>by
  have:=tE f l i x y e
  rw[List.set_cons_succ,Nj,Nj,OB,OB]
  omega
 |[],i,x,y,e=>by cases i<;>cases e
theorem Km:∀(T:List (Option Int)){i:Nat},T[i]?=some none->cnt T+1<=T.length
 |[],i,e=>by cases i<;>cases e
 |a::T,0,e=>by
  cases e
  have:∀ T:List (Option Int),cnt T<=T.length:=fun T=>by
   induction T with
   |nil=>exact MT _
   |cons b T ih =>
    have e1:cnt (b::T)=cOf b+cnt T:=by unfold cnt;rw[Nj,OB]
    have e2:cOf b<=1:=by unfold cOf;split<;>omega
    rw[e1,Nv];omega
  have e1:cnt (none::T)=cOf none+cnt T:=by unfold cnt;rw[Nj,OB]
  have e2:cOf none=0:=rfl
  have:=this T
  rw[e1,Nv];omega
 |a::T,i+1,e=>by
  have ih:=Km T (i:=i) e
  have e1:cnt (a::T)=cOf a+cnt T:=by unfold cnt;rw[Nj,OB]
  have e2:cOf a<=1:=by unfold cOf;split<;>omega
  rw[e1,Nv];omega
structure FI(n:Nat)(ls:List Lk)(s:Nat)(M:Nat)(T:List (Option Int))(vv:List (Option Nat))(W:List Nat)(ex:Nat->Nat->Prop):Prop where
 w0:∀ l∈ls,0<=l.2.2/\l.2.2<=(M:Int)
 tl:T.length=n
 vl:vv.length=n
 st:T[s]?=some (some 0)
 vs:vv[s]?=some none
 nn:∀(r:Nat)(x:Int),T[r]?=some (some x)->0<=x
 bd:∀(r:Nat)(x:Int),T[r]?=some (some x)->x+(M:Int)<=(cnt T:Int)*(M:Int)
 pr:∀(r k:Nat),vv[r]?=some (some k)->∃(l:Lk)(x y:Int),ls[k]?=some l/\nB l r/\T[r]?=some (some x)/\T[bey l r]?=some (some y)/\y+l.2.2<=x
 up:∀(r:Nat)(x:Int),T[r]?=some (some x)->∃ j,Up ls vv s j r
 rl:∀(r:Nat)(x:Int)(i:Nat)(l:Lk),T[r]?=some (some x)->r∉W->ls[i]?=some l->nB l r->ex r i∨∃ y:Int,T[bey l r]?=some (some y)/\y<=x+l.2.2
 wk:∀ r∈W,∃ x:Int,T[r]?=some (some x)
theorem wH{α:Type}{l:List α}{i j:Nat}{x:α}(hi:i<l.length):(l.set i x)[j]?=if i=j then some x else l[j]?:=by
 rw[Of]
 by_cases c:i=j
 ·rw[if_pos c,if_pos c,if_pos hi]
 ·rw[if_neg c,if_neg c]
theorem FI.mend{n:Nat}{ls:List Lk}{s M:Nat}{T:List (Option Int)}{vv:List (Option Nat)}{W W':List Nat}{ex ex':Nat->Nat->Prop}(I:FI n ls s M T vv W ex){m k:Nat}{l:Lk}{x:Int}{o:Option Int}
  (hl:ls[k]?=some l) (hm:nB l m) (hx:T[m]?=some (some x)) (ho:T[bey l m]?=some o) (hlt:∀ y,o=some y->x+l.2.2<y)
  (hW:∀ r,r∈W'↔r∈W∨r=bey l m) (hex:∀ r i,ex r i->ex' r i∨(r=m/\i=k)) :
  FI n ls s M (T.set (bey l m) (some (x+l.2.2))) (vv.set (bey l m) (some k)) W' ex':=by
 obtain⟨h0,hM⟩:=I.w0 l (MP hl)
 have tt:bey l m<T.length:=(MO.mp ho).1
 have tl:=I.tl
 have vl:=I.vl
 have x0:=I.nn m x hx
 have ns:bey l m≠s:=fun e=>by
  rw[e,I.st]at ho
  cases ho
  have:=hlt 0 rfl
  omega
 have nm:bey l m≠m:=fun e=>by
  rw[e,hx]at ho
  cases ho
  have:=hlt x rfl
  omega
 have gT:∀ r:Nat,(T.set (bey l m) (some (x+l.2.2)))[r]?=if bey l m=r then some (some (x+l.2.2)) else T[r]?:=fun r=>wH tt
 have gV:∀ r:Nat,(vv.set (bey l m) (some k))[r]?=if bey l m=r then some (some k) else vv[r]?:=fun r=>wH (by omega)
 have low:∀(r:Nat)(y:Int),T[r]?=some (some y)->∃ z:Int,(T.set (bey l m) (some (x+l.2.2)))[r]?=some (some z)/\z<=y:=fun r y e=>by
  rw[gT]
  by_cases c:bey l m=r
  ·rw[if_pos c]
   rw[← c,ho]at e
   cases e
   exact⟨_,rfl,Int.le_of_lt (hlt y rfl)⟩
  ·rw[if_neg c]
   exact⟨y,e,Oj _⟩
 have keep:∀{j r:Nat},Up ls vv s j r->∀ y,T[r]?=some (some y)->(∀ z,o=some z->y<z)->Up ls (vv.set (bey l m) (some k)) s j r:=by
  intro j r h
  induction h with
  |root=>intro _ _ _;exact .root
  | @step j r k' l' hv hl' h ih =>
   intro y hy hz
   have ne:bey l m≠r:=fun e=>by
    rw[e,hy]at ho
    cases ho
    exact absurd (hz y rfl) (Int.lt_irrefl _)
   obtain⟨l2,x2,y2,e1,e2,e3,e4,e5⟩:=I.pr r k' hv
   rw[hl']at e1;cases e1
   rw[hy]at e3;cases e3
   have w0:=(I.w0 l' (MP hl')).1
   refine .step (by rw[gV,if_neg ne];exact hv) hl' (ih y2 e4 fun z hz'=>?_)
   have:=hz z hz'
   omega
 obtain⟨jm,um⟩:=I.up m x hx
 have um':=keep um x hx fun z hz=>by have:=hlt z hz;omega
 have ut:Up ls (vv.set (bey l m) (some k)) s (jm+1) (bey l m):=.step (by rw[gV,if_pos rfl]) hl (by rw[qp hm];exact um')
 have all:∀{j r:Nat},Up ls vv s j r->∃ i,Up ls (vv.set (bey l m) (some k)) s i r:=by
  intro j r h
  induction h with
  |root=>exact⟨0,.root⟩
  | @step j r k' l' hv hl' h ih =>
   by_cases c:bey l m=r
   ·rw[← c];exact⟨_,ut⟩
   ·obtain⟨i,hi⟩:=ih
    exact⟨i+1,.step (by rw[gV,if_neg c];exact hv) hl' hi⟩
 have cs:=tE cOf T (bey l m) o (some (x+l.2.2)) ho
 have c1:cOf (some (x+l.2.2))=1:=rfl
 have cc:cnt (T.set (bey l m) (some (x+l.2.2)))+cOf o=cnt T+1:=by unfold cnt;rw[c1]at cs;exact cs
 have cle:cnt T<=cnt (T.set (bey l m) (some (x+l.2.2))):=by
  have:cOf o<=1:=by unfold cOf;split<;>omega
  omega
 have mul_le:(cnt T:Int)*(M:Int)<=(cnt (T.set (bey l m) (some (x+l.2.2))):Int)*(M:Int):=Int.mul_le_mul_of_nonneg_right (by omega) (by omega)
 have bm:=I.bd m x hx
 refine⟨I.w0,by rw[Ob];exact tl,by rw[Ob];exact vl,by rw[gT,if_neg ns];exact I.st,by rw[gV,if_neg ns];exact I.vs,fun r y e=>?_,fun r y e=>?_,fun r k' e=>?_,fun r y e=>?_,fun r y i l' e hr hl' hend=>?_,fun r hr=>?_⟩
 ·rw[gT]at e
  by_cases c:bey l m=r
  ·rw[if_pos c]at e;cases e;omega
  ·rw[if_neg c]at e;exact I.nn r y e
 ·rw[gT]at e
  by_cases c:bey l m=r
  ·rw[if_pos c]at e;cases e
   cases o with
   |none =>
    have e1:cnt (T.set (bey l m) (some (x+l.2.2)))=cnt T+1:=by have:cOf none=0:=rfl;omega
    rw[e1]
    have:((cnt T+1:Nat):Int)*(M:Int)=(cnt T:Int)*(M:Int)+(M:Int):=by push_cast;rw[Int.add_mul,Qj]
    omega
   |some z =>
    have:=hlt z rfl
    have:=I.bd (bey l m) z ho
    omega
  ·rw[if_neg c]at e
   have:=I.bd r y e
   omega
 ·rw[gV]at e
  by_cases c:bey l m=r
  ·rw[if_pos c]at e;cases e
   refine⟨l,x+l.2.2,x,hl,c▸vO hm,by rw[gT,if_pos c],?_,Oj _⟩
   rw[← c,qp hm,gT,if_neg nm]
   exact hx
  ·rw[if_neg c]at e
   obtain⟨l2,x2,y2,e1,e2,e3,e4,e5⟩:=I.pr r k' e
   obtain⟨z,e6,e7⟩:=low _ _ e4
   exact⟨l2,x2,z,e1,e2,by rw[gT,if_neg c];exact e3,e6,by omega⟩
 ·rw[gT]at e
  by_cases c:bey l m=r
  ·rw[← c];exact⟨_,ut⟩
  ·rw[if_neg c]at e
   obtain⟨j,u⟩:=I.up r y e
   exact all u
 ·have nr:r∉W/\r≠bey l m:=⟨fun z=>hr ((hW r).mpr (.inl z)),fun z=>hr ((hW r).mpr (.inr z))⟩
  rw[gT,if_neg (Ne.symm nr.2)]at e
  rcases I.rl r y i l' e nr.1 hl' hend with h | ⟨z,h1,h2⟩
  ·rcases hex r i h with h | ⟨h1,h2⟩
   ·exact .inl h
   ·subst h1;subst h2
    rw[hl]at hl';cases hl'
    rw[hx]at e;cases e
    exact .inr ⟨x+l.2.2,by rw[gT,if_pos rfl],Oj _⟩
  ·obtain⟨z',h3,h4⟩:=low _ _ h1
   exact .inr ⟨z',h3,by omega⟩
 ·rcases(hW r).mp hr with h | h
  ·obtain⟨y,e⟩:=I.wk r h
   obtain⟨z,h3,_⟩:=low _ _ e
   exact⟨z,h3⟩
  ·rw[h];exact⟨_,by rw[gT,if_pos rfl]⟩
theorem FI.leave{n:Nat}{ls:List Lk}{s M:Nat}{T:List (Option Int)}{vv:List (Option Nat)}{W:List Nat}{ex ex':Nat->Nat->Prop}(I:FI n ls s M T vv W ex){m k:Nat}{l:Lk}{x y:Int}
  (hl:ls[k]?=some l) (hx:T[m]?=some (some x)) (hy:T[bey l m]?=some (some y)) (hge:y<=x+l.2.2) (hex:∀ r i,ex r i->ex' r i∨(r=m/\i=k)):FI n ls s M T vv W ex' :=
 ⟨I.w0,I.tl,I.vl,I.st,I.vs,I.nn,I.bd,I.pr,I.up,fun r z i l' e hr hl' hend=>by
  rcases I.rl r z i l' e hr hl' hend with h | h
  ·rcases hex r i h with h | ⟨h1,h2⟩
   ·exact .inl h
   ·subst h1;subst h2
    rw[hl]at hl';cases hl'
    rw[hx]at e;cases e
    exact .inr ⟨y,hy,hge⟩
  ·exact .inr h,I.wk⟩
theorem Ig{n M:Nat}{ls:List Lk}{s:Nat}{T:List (Option Int)}{vv:List (Option Nat)}{W:List Nat}{ex:Nat->Nat->Prop}(I:FI n ls s M T vv W ex){m t:Nat}{x w:Int}{o:Option Int}(w0:0<=w)(wM:w<=(M:Int))(hx:T[m]?=some (some x))(ho:T[t]?=some o)(hlt:∀ y,o=some y->x+w<y) :
  wgt (n*M+1) (T.set t (some (x+w)))+1<=wgt (n*M+1) T:=by
 have e:=tE (vOf (n*M+1)) T t o (some (x+w)) ho
 have x0:=I.nn m x hx
 have b:=I.bd m x hx
 have e1:vOf (n*M+1) (some (x+w))=(x+w).toNat:=rfl
 unfold wgt
 rw[e1]at e
 cases o with
 |none =>
  have cl:=Km T ho
  have e2:vOf (n*M+1) none=n*M+1:=rfl
  rw[e2]at e
  have h1:cnt T*M<=n*M:=PY M (by rw[I.tl]at cl;omega)
  have h2:x+(M:Int)<=((n*M:Nat):Int):=by
   have:((cnt T*M:Nat):Int)<=((n*M:Nat):Int):=by exact_mod_cast h1
   have h3:((cnt T*M:Nat):Int)=(cnt T:Int)*(M:Int):=by push_cast;rfl
   omega
  omega
 |some z =>
  have:=hlt z rfl
  have e2:vOf (n*M+1) (some z)=z.toNat:=rfl
  rw[e2]at e
  omega
theorem FI.first{n:Nat}{ls:List Lk}{s M:Nat}(w0:∀ l∈ls,0<=l.2.2/\l.2.2<=(M:Int))(hs:s<n):FI n ls s M ((M9 n none).set s (some 0)) (M9 n none) [s] (fun _ _=>False):=by
 have gT:∀ r:Nat,((M9 n (none:Option Int)).set s (some 0))[r]?=if s=r then some (some 0) else(M9 n none)[r]?:=fun r=>wH (by rw[OC];exact hs)
 have rep:∀{α:Type}(r:Nat)(x:α),(M9 n (none:Option α))[r]?≠some (some x):=fun r x e=>by
  have:=MP e
  have:=(Pq.mp this).2
  cases this
 have one:∀(r:Nat)(x:Int),((M9 n (none:Option Int)).set s (some 0))[r]?=some (some x)->r=s/\x=0:=fun r x e=>by
  rw[gT]at e
  by_cases c:s=r
  ·rw[if_pos c]at e;cases e;exact⟨c.symm,rfl⟩
  ·rw[if_neg c]at e;exact absurd e (rep r x)
 refine⟨w0,by rw[Ob,OC],OC,by rw[gT,if_pos rfl],by rw[N8,if_pos hs],fun r x e=>?_,fun r x e=>?_,fun r k e=>absurd e (rep r k),fun r x e=>?_,fun r x i l e hr=>?_,fun r hr=>?_⟩
 ·rw[(one r x e).2];exact Oj _
 ·rw[(one r x e).2]
  have cs:=tE cOf (M9 n (none:Option Int)) s none (some 0) (by rw[N8,if_pos hs])
  have c1:cOf (some 0)=1:=rfl
  have c0:cOf none=0:=rfl
  have:1<=cnt ((M9 n (none:Option Int)).set s (some 0)):=by unfold cnt;omega
  have h2:1*M<=cnt ((M9 n (none:Option Int)).set s (some 0))*M:=PY M this
  have h3:((1*M:Nat):Int)<=((cnt ((M9 n (none:Option Int)).set s (some 0))*M:Nat):Int):=by exact_mod_cast h2
  push_cast at h3
  omega
 ·rw[(one r x e).1];exact⟨0,.root⟩
 ·rw[(one r x e).1]at hr
  exact absurd (Nx.mpr rfl) hr
 ·rw[Nx.mp hr];exact⟨0,by rw[gT,if_pos rfl]⟩
theorem FI.take{n:Nat}{ls:List Lk}{s M:Nat}{T:List (Option Int)}{vv:List (Option Nat)}{W W':List Nat}(I:FI n ls s M T vv W (fun _ _=>False)){m:Nat}(hW:∀ r,r∈W'↔r∈W/\r≠m):FI n ls s M T vv W' (fun r _=>r=m) :=
 ⟨I.w0,I.tl,I.vl,I.st,I.vs,I.nn,I.bd,I.pr,I.up,fun r x i l e hr hl hend=>by
  by_cases c:r=m
  ·exact .inl c
  ·rcases I.rl r x i l e (fun z=>hr ((hW r).mpr ⟨z,c⟩)) hl hend with h | h
   ·exact h.elim
   ·exact .inr h,fun r hr=>I.wk r ((hW r).mp hr).1⟩
theorem FI.exw{n:Nat}{ls:List Lk}{s M:Nat}{T:List (Option Int)}{vv:List (Option Nat)}{W:List Nat}{ex ex':Nat->Nat->Prop}(I:FI n ls s M T vv W ex)(h:∀ r i l,ls[i]?=some l->nB l r->ex r i->ex' r i):FI n ls s M T vv W ex' :=
 ⟨I.w0,I.tl,I.vl,I.st,I.vs,I.nn,I.bd,I.pr,I.up,fun r x i l e hr hl hend=>by
  rcases I.rl r x i l e hr hl hend with z | z
  ·exact .inl (h r i l hl hend z)
  ·exact .inr z,I.wk⟩
theorem aq{H:Hp}{p:Addr}(h:H p=none)(o:HO):Same H (upd H p o):=fun b u q=>by rw[ao (aG q h)];exact q
theorem aW{H H2:Hp}{l:Addr}(h:Same H H2)(hl:H l=none)(o:HO):Same H (upd H2 l o):=fun b u q=>by rw[ao (aG q hl)];exact h b u q
theorem gZ{H H':Hp}(s:Same H H'){p:Addr}(h:H' p=none):H p=none:=by
 cases y:H p with
 |none=>rfl
 |some o=>rw[s _ _ y]at h;cases h
noncomputable def iV(p:Nat):V:=.int (p:Int)
theorem at1{x y:V}:atI [x,y] 1=some y:=rfl
theorem a30{x y z:V}:atI [x,y,z] 0=some x:=rfl
theorem a31{x y z:V}:atI [x,y,z] 1=some y:=rfl
theorem a32{x y z:V}:atI [x,y,z] 2=some z:=rfl
noncomputable def LkAt(H:Hp)(v:V)(l:Lk):Prop:=∃ t,v=.ref t/\H t=some (.tup [.int (l.1:Int),.int (l.2.1:Int),.int l.2.2])
noncomputable def LnAt(H:Hp)(v:V)(ls:List Lk):Prop:=∃ a ys,v=.ref a/\H a=some (.lst ys)/\LsAt LkAt H ys ls
theorem LkAt.mono{H H':Hp}{v:V}{p:Lk}(h:LkAt H v p)(s:Same H H'):LkAt H' v p:=by
 obtain⟨t,e,z⟩:=h
 exact⟨t,e,s _ _ z⟩
theorem LnAt.mono{H H':Hp}{v:V}{r:List Lk}(h:LnAt H v r)(s:Same H H'):LnAt H' v r:=by
 obtain⟨a,ys,e,z,l⟩:=h
 exact⟨a,ys,e,s _ _ z,l.imp fun _ _ q=>q.mono s⟩
noncomputable def MM:Nat:=10^31
structure Lok(n:Nat)(ls:List Lk):Prop where
 n1:n<=40
 l9:ls.length<=60
 sm:∀ l∈ls,l.1<n/\l.2.1<n
 w0:∀ l∈ls,0<=l.2.2/\l.2.2<=(MM:Int)
noncomputable def bq(S:Addr->Prop)(H:Hp)(xs:List V)(ts:List (List Nat)):Prop:=xs.length=ts.length/\∀(i:Nat)(l:List Nat),ts[i]?=some l->∃ p,xs[i]?=some (.ref p)/\¬ S p/\H p=some (.lst (l.map iV))
theorem bq.mono{S:Addr->Prop}{H H':Hp}{xs:List V}{ts:List (List Nat)}(h:bq S H xs ts)(s:∀ b u,¬ S b->H b=some u->H' b=some u):bq S H' xs ts:=⟨h.1,fun i e q=>by
 obtain⟨p,a,n,b⟩:=h.2 i e q
 exact⟨p,a,n,s _ _ n b⟩⟩
theorem bq.snoc{S:Addr->Prop}{H:Hp}{xs:List V}{ts:List (List Nat)}{q:Addr}{l:List Nat}(h:bq S H xs ts)(n:¬ S q)(e:H q=some (.lst (l.map iV))):bq S H (xs++[.ref q]) (ts++[l]):=by
 refine⟨by rw[MX,MX,h.1];rfl,fun j k ej=>?_⟩
 by_cases hj:j<ts.length
 ·rw[MU hj]at ej
  obtain⟨p,a1,a2⟩:=h.2 j k ej
  exact⟨p,by rw[MU (by rw[h.1];exact hj)];exact a1,a2⟩
 ·rw[MR (PD hj)]at ej
  have hj2:j=ts.length:=by
   have:=(MO.mp ej).1
   rw[Nc]at this
   omega
  subst hj2
  rw[Nl]at ej
  cases ej
  exact⟨q,by rw[← h.1,MR (MT _),Nl];rfl,n,e⟩
noncomputable def Dist(xs:List V):Prop:=∀(i j:Nat)(p:Addr),xs[i]?=some (.ref p)->xs[j]?=some (.ref p)->i=j
theorem bq.set{S:Addr->Prop}{H:Hp}{xs:List V}{ts:List (List Nat)}{i:Nat}{p:Addr}{l':List Nat}(h:bq S H xs ts)(D:Dist xs)(e:xs[i]?=some (.ref p)):bq S (upd H p (.lst (l'.map iV))) xs (ts.set i l'):=by
 refine⟨by rw[Ob];exact h.1,fun j l z=>?_⟩
 have hi:i<ts.length:=by rw[← h.1];exact(MO.mp e).1
 rw[Of]at z
 by_cases hj:i=j
 ·subst hj
  rw[if_pos rfl,if_pos hi]at z
  cases z
  obtain⟨p',a1,a2,a3⟩:=h.2 i _ (MN hi)
  rw[e]at a1
  cases a1
  exact⟨p,e,a2,ag⟩
 ·rw[if_neg hj]at z
  obtain⟨p',a1,a2,a3⟩:=h.2 j l z
  exact⟨p',a1,a2,by rw[ao (fun y=>by rw[y]at a1;exact hj (D i j p e a1))];exact a3⟩
theorem pK{S:Addr->Prop}{H:Hp}{xs:List V}{ts:List (List Nat)}{q:Addr}(h:bq S H xs ts)(D:Dist xs)(hq:H q=none):Dist (xs++[.ref q]):=by
 have old:∀ i p,xs[i]?=some (V.ref p)->p≠q:=fun i p e z=>by
  have hi:i<ts.length:=by rw[← h.1];exact(MO.mp e).1
  obtain⟨p',a1,_,a3⟩:=h.2 i _ (MN hi)
  rw[e]at a1;cases a1
  rw[z,hq]at a3;cases a3
 have cas:∀ i p,(xs++[V.ref q])[i]?=some (V.ref p)->(xs[i]?=some (V.ref p))∨(i=xs.length/\p=q):=fun i p e=>by
  by_cases c:i<xs.length
  ·rw[MU c]at e;exact .inl e
  ·rw[MR (PD c)]at e
   have h2:=(MO.mp e).1
   rw[Nc]at h2
   have h3:i-xs.length=0:=by omega
   rw[h3]at e
   cases e
   exact .inr ⟨by omega,rfl⟩
 intro i j p e1 e2
 rcases cas i p e1 with h1 | ⟨h1,h1'⟩
 ·rcases cas j p e2 with h2 | ⟨h2,h2'⟩
  ·exact D i j p h1 h2
  ·exact absurd h2' (old i p h1)
 ·rcases cas j p e2 with h2 | ⟨h2,h2'⟩
  ·exact absurd h1' (old j p h2)
  ·omega
structure AtM(n c:Nat)(rows:List (List Nat))(mem:Nat->Nat->Prop):Prop where
 len:rows.length=n
 mm:∀(r:Nat)(row:List Nat),rows[r]?=some row->∀ j,j∈row↔mem r j
 few:∀ row∈rows,row.length<=c
theorem AtM.put{n c:Nat}{rows:List (List Nat)}{mem:Nat->Nat->Prop}(h:AtM n c rows mem){a i:Nat}{l:List Nat}(hl:rows[a]?=some l):AtM n (c+1) (rows.set a (l++[i])) (fun r j=>mem r j∨(r=a/\j=i)):=by
 have ha:=(MO.mp hl).1
 refine⟨by rw[Ob];exact h.len,fun r row e j=>?_,fun row hr=>?_⟩
 ·rw[wH ha]at e
  by_cases z:a=r
  ·rw[if_pos z]at e
   cases e
   subst z
   rw[M5,Nx,h.mm a l hl j]
   exact⟨fun y=>y.imp id fun y=>⟨rfl,y⟩,fun y=>y.imp id fun y=>y.2⟩
  ·rw[if_neg z]at e
   rw[h.mm r row e j]
   exact⟨.inl,fun y=>y.elim id fun y=>absurd y.1.symm z⟩
 ·rcases Pt hr with y | y
  ·have:=h.few row y;omega
  ·have:=h.few l (MP hl)
   rw[y,MX,Nc];omega
noncomputable def memL(ls:List Lk)(r j:Nat):Prop:=∃ l,ls[j]?=some l/\nB l r
structure Txt(mg:Str->Option Value):Prop where
 n_len:mg "len" = none
 n_int:mg "int" = none
 n_bool:mg "bool" = none
 n_list:mg "list" = none
 n_tuple:mg "tuple" = none
 n_range:mg "range" = none
 n_min:mg "min" = none
 n_abs:mg "abs" = none
 n_enumerate:mg "enumerate" = none
 n_isinstance:mg "isinstance" = none
noncomputable def spBey:Sp:=fun vs H Q _=>∃(v:V)(l:Lk)(r:Nat),vs = [v,.int (r:Int)]/\LkAt H v l/\Q (.int ((bey l r:Nat):Int)) H
noncomputable def spAt:Sp:=fun vs H Q _=>∃(v:V)(n:Nat)(ls:List Lk),vs = [.int (n:Int),v]/\LnAt H v ls/\Lok n ls/\∀(p:Addr)(ys:List V)(rows:List (List Nat)) H',Same H H'->H p=none->H' p=some (.lst ys)->bq (fun q=>q=p∨H q≠none) H' ys rows->AtM n 120 rows (memL ls)->Q (.ref p) H'
section
variable{P:Program}{w:World}{K:MQ}{mg:Str->Option Value}{base:Heap}
theorem E9:av ["link","room"] ["link","room"] (ah gd):=⟨rfl,rfl,rfl,by decide +kernel,rfl,by decide +kernel,by decide +kernel⟩
theorem ok_bey{f:Addr}{fd:FuncData} (F:Fun K "beyond" "beyond" gd f fd):FnOk P w K mg base CX0 1 f fd ["link","room"] spBey:=by
 refine F.ok E9 (fun vs H Q E h=>?_) (fun cdv A outer s H vs Q E hr h=>?_)
 ·obtain⟨v,l,r,rfl,_⟩:=h
  rfl
 obtain⟨v,l,r,rfl,⟨t,rfl,ht⟩,q⟩:=h
 refine⟨_,(ak (aE (kG (aC js (pv 1) (aD aS (pv 0) ai (fun _ _=>rfl)) (aI _)) (aD aS (pv 0) ai (fun _ _=>rfl)) (aD aS (pv 0) ai (fun _ _=>rfl))))),?_⟩
 refine⟨_,rfl,_,rfl,t,_,0,_,rfl,rfl,SqT.of ht,a30,rfl,_,rfl,?_⟩
 refine ite2 (fun c=>?_) (fun c=>?_)
 ·have c':r=l.1:=by have:=V.int.inj (of_decide_eq_true c);omega
  have e:bey l r=l.2.1:=by unfold bey;rw[if_pos c']
  rw[e]at q
  exact⟨_,rfl,t,_,1,_,rfl,rfl,SqT.of ht,a31,q⟩
 ·have c':¬ r=l.1:=fun z=>c (decide_eq_true (congrArg V.int (by omega)))
  have e:bey l r=l.1:=by unfold bey;rw[if_neg c']
  rw[e]at q
  exact⟨_,rfl,t,_,0,_,rfl,rfl,SqT.of ht,a30,q⟩
theorem fX:av ["many","links","at","number","link"] ["many","links"] (ah cP):=⟨rfl,rfl,rfl,by decide +kernel,rfl,by decide +kernel,by decide +kernel⟩
theorem ok_at{f:Addr}{fd:FuncData} (F:Fun K "links_at" "links_at" cP f fd) (T:Txt mg):FnOk P w K mg base CX0 1 f fd ["many","links"] spAt:=by
 refine F.ok fX (fun vs H Q E h=>?_) (fun cdv A outer s H vs Q E hr h=>?_)
 ·obtain⟨v,n,ls,rfl,_⟩:=h
  rfl
 obtain⟨v,n,ls,rfl,⟨a,xs,rfl,hA,hL⟩,ok,kk⟩:=h
 have n1:=ok.n1
 have l9:=ok.l9
 have xl:=hL.1
 refine⟨_,(af (lG (i:=2) rfl fX.nd rfl rfl (fr:=[]) (by exact bM.plain (by rfl) (by decide +kernel) (by rfl) (by decide +kernel) (by rfl) (by decide +kernel)) (bD rfl T.n_range (ae (pv 0) aj)) (fun C ex s H=>(dm aj)))
   (af (cD PassesOwn.never rfl (ui rfl T.n_enumerate (ae (pv 1) aj)) (rW rfl (bh (aL (i:=3) fX.nd rfl (Or.inl rfl)) (bh (aL (i:=4) fX.nd rfl (Or.inl rfl)) g9))) (af (bC (kK NB NH NG bu (aD aA (pv 2) (aD aS (pv 4) ai (fun _ _=>rfl)) (fun _ _=>rfl)) (ae (pv 3) aj)))
   (ak (bC (kK NB NH NG bu (aD aA (pv 2) (aD aS (pv 4) ai (fun _ _=>rfl)) (fun _ _=>rfl)) (ae (pv 3) aj))))))
   (ak (aE (pv 2))))),?_⟩
 refine⟨_,rfl,_,rfl,by omega,by omega,fM (n:=(n:Int).toNat) (fun i ys H2=>Same H H2/\bq (fun p=>H p≠none) H2 ys (M9 i [])/\Dist ys) (by rw[Ng];exact NM (ax (by omega))) ⟨fun _ _ e=>e,⟨rfl,fun i l e=>by simp at e⟩,fun i j p e=>by simp at e⟩ ?_ ?_⟩
 ·rintro i ys H2 hi ⟨s2,rx,D⟩
  refine⟨(by show 0<=sizeLine;decide),fun l hl=>?_⟩
  have s3:=aq hl (.lst [])
  refine⟨s2.trans s3,?_,pK rx D hl⟩
  rw[Pe]
  exact(rx.mono fun b u _ z=>s3 _ _ z).snoc (fun z=>z (gZ s2 hl)) ag
 rintro ys H2 hyl ⟨s2,rx,D⟩ pn hpn
 rw[Ng]at rx
 have s3:=aq hpn (.lst ys)
 have hpn0:H pn=none:=gZ s2 hpn
 have rx3:bq (fun p=>p=pn∨H p≠none) (upd H2 pn (.lst ys)) ys (M9 n []):=⟨rx.1,fun i l z=>by
  obtain⟨p,a1,a2,a3⟩:=rx.2 i l z
  have n2:p≠pn:=aG a3 hpn
  exact⟨p,a1,by rintro(y | y);exact n2 y;exact a2 y,s3 _ _ a3⟩⟩
 have m0:AtM n 0 (M9 n []) (memL (ls.take 0)):=⟨OC,fun r row e j=>by
  have:=(Pq.mp (MP e)).2
  subst this
  exact⟨(fun z=>nomatch z),fun⟨l,z,_⟩=>by rw[Qr]at z;cases z⟩,fun row hr=>by rw[(Pq.mp hr).2];exact MT _⟩
 refine⟨_,rfl,a,rfl,⟨_,SqL.of ((s2.trans s3) _ _ hA)⟩,vh (K:=K) (xs:=xs) (fun i σ H5=>∃ v4 v5 rows,σ = [some (.int (n:Int)),some (.ref a),some (.ref pn),v4,v5]/\Same H H5/\H5 pn=some (.lst ys)/\bq (fun p=>p=pn∨H p≠none) H5 ys rows/\AtM n (2*i) rows (memL (ls.take i)))
  ⟨_,_,_,rfl,s2.trans s3,ag,rx3,m0⟩ (fun i σ H5 _ ⟨_,_,_,_,z,_⟩=>SqL.of (z _ _ hA)) ?_ ?_⟩
 ·rintro i x σ H5 T2 hx ⟨v4,v5,rows,rfl,s5,hpn5,rx5,am⟩ hT2
  obtain⟨l,hl,p,rfl,hp⟩:=hL.get hx
  obtain⟨b1,b2⟩:=ok.sm l (MP hl)
  have sT:=aq hT2 (.tup [.int (i:Int),.ref p])
  have s6:=s5.trans sT
  have hp6:=s6 _ _ hp
  have rlen:=am.len
  have ilt:i<ls.length:=(MO.mp hl).1
  obtain⟨r1,hr1⟩:∃ r,rows[l.1]?=some r:=⟨_,MN (by omega)⟩
  have rx6:bq (fun p=>p=pn∨H p≠none) (upd H5 T2 (.tup [.int (i:Int),.ref p])) ys rows:=rx5.mono fun b u _ z=>sT _ _ z
  obtain⟨p1,y1,y2,y3⟩:=rx6.2 _ _ hr1
  have no_S:∀{p:Addr},¬ (p=pn∨H p≠none)->H p=none/\p≠pn:=fun{p} n=>by
   refine⟨?_,fun z=>n (.inl z)⟩
   cases y:H p with
   |none=>rfl
   |some o=>exact absurd (.inr (by rw[y];exact fun z=>nomatch z)) n
  obtain⟨hp1,np1⟩:=no_S y2
  have f1:=am.few r1 (MP hr1)
  have hpn6:=sT _ _ hpn5
  refine⟨T2,_,rfl,SqT.of ag,rfl,_,_,rfl,_,_,rfl,rfl,?_⟩
  refine⟨_,rfl,_,rfl,p,_,0,_,rfl,rfl,SqT.of hp6,a30,pn,ys,_,_,rfl,rfl,SqL.of hpn6,aJ y1,.inl ⟨rfl,_,SqL.of y3⟩,_,rfl,p1,_,_,rfl,rfl,y3,ax (by rw[M7];omega),?_⟩
  have e1':(r1.map iV)++[V.int (i:Int)]=(r1++[i]).map iV:=by rw[NU];rfl
  rw[e1']
  have rx7:=rx6.set D y1 (l':=r1++[i])
  have am1:=am.put (i:=i) hr1
  have s7:Same H (upd (upd H5 T2 (.tup [.int (i:Int),.ref p])) p1 (.lst ((r1++[i]).map iV))):=aW s6 hp1 _
  have hp7:=s7 _ _ hp
  have hpn7:(upd (upd H5 T2 (.tup [.int (i:Int),.ref p])) p1 (.lst ((r1++[i]).map iV))) pn=some (.lst ys):=by rw[ao np1.symm];exact hpn6
  obtain⟨r2,hr2⟩:∃ r,(rows.set l.1 (r1++[i]))[l.2.1]?=some r:=⟨_,MN (by rw[Ob];omega)⟩
  obtain⟨p2,z1,z2,z3⟩:=rx7.2 _ _ hr2
  obtain⟨hp2,np2⟩:=no_S z2
  have f2:=am1.few r2 (MP hr2)
  refine⟨_,rfl,_,rfl,p,_,1,_,rfl,rfl,SqT.of hp7,a31,pn,ys,_,_,rfl,rfl,SqL.of hpn7,aJ z1,.inl ⟨rfl,_,SqL.of z3⟩,_,rfl,p2,_,_,rfl,rfl,z3,ax (by rw[M7];omega),?_⟩
  have e2':(r2.map iV)++[V.int (i:Int)]=(r2++[i]).map iV:=by rw[NU];rfl
  rw[e2']
  have am2:=am1.put (i:=i) hr2
  refine⟨_,_,(rows.set l.1 (r1++[i])).set l.2.1 (r2++[i]),rfl,aW s7 hp2 _,by rw[ao np2.symm];exact hpn7,rx7.set D z1,am2.len,fun r row e j=>?_,fun row hr=>?_⟩
  ·rw[am2.mm r row e j]
   unfold memL
   rw[NA,hl]
   have til:(ls.take i).length=i:=by rw[Oq];omega
   constructor
   ·rintro((⟨l',h1,h2⟩ | ⟨h1,h2⟩) | ⟨h1,h2⟩)
    ·exact⟨l',by rw[MU (MO.mp h1).1];exact h1,h2⟩
    ·subst h2;exact⟨l,by rw[MR (by omega),til,Nl];rfl,.inl h1⟩
    ·subst h2;exact⟨l,by rw[MR (by omega),til,Nl];rfl,.inr h1⟩
   ·rintro⟨l',h1,h2⟩
    by_cases c:j<i
    ·rw[MU (by omega)]at h1
     exact .inl (.inl ⟨l',h1,h2⟩)
    ·rw[MR (by omega)]at h1
     have h3:=(MO.mp h1).1
     have h4:j=i:=by
      have:(Option.toList (some l)).length=1:=rfl
      omega
     subst h4
     rw[til,Nl]at h1
     cases h1
     rcases h2 with h2 | h2
     ·exact .inl (.inr ⟨h2,rfl⟩)
     ·exact .inr ⟨h2,rfl⟩
  ·have:=am2.few row hr;omega
 ·rintro σ H5 ⟨v4,v5,rows,rfl,s5,hpn5,rx5,am⟩
  rw[xl,ND]at am
  exact⟨_,rfl,kk pn ys rows H5 s5 hpn0 hpn5 rx5 ⟨am.len,am.mm,fun row hr=>by have:=am.few row hr;omega⟩⟩
end
noncomputable def spBits:Sp:=fun vs H Q _=>∃ n:Int,vs = [.int n]/\0<=n/\n<1208925819614629174706176/\∀ r H',Same H H'->H r=none->H' r=some (.lst ((K2.bitsF 0 n.toNat).map iV))->Q (.ref r) H'
section
variable{P:Program}{w:World}{K:MQ}{mg:Str->Option Value}{base:Heap}
theorem lF:av ["mask","numbers","number","rest"] ["mask"] (ah oB):=⟨rfl,rfl,rfl,by decide +kernel,rfl,by decide +kernel,by decide +kernel⟩
theorem ok_bits{f:Addr}{fd:FuncData} (F:Fun K "bits" "bits" oB f fd):FnOk P w K mg base CX0 1 f fd ["mask"] spBits:=by
 refine F.ok lF (fun vs H Q E h=>?_) (fun cdv A outer s H vs Q E hr h=>?_)
 ·obtain⟨n,rfl,_⟩:=h
  rfl
 obtain⟨n,rfl,h0,h1,k⟩:=h
 refine⟨_,(af (ar (i:=1) lF.nd rfl (Or.inl rfl) (dm aj))
   (af (ar (i:=2) lF.nd rfl (Or.inl rfl) ai)
   (af (ar (i:=3) lF.nd rfl (Or.inl rfl) (pv 0))
   (af (gf PassesOwn.never (aC C9 (pv 3) ai (aI _)) (af (bL (aC js (aB cj (pv 3) ai) ai (aI _)) (ak (bC (kK NB NH NG bu (pv 1) (ae (pv 2) aj)))) aP)
   (af (ar (i:=3) lF.nd rfl (Or.inl rfl) (aB dY (pv 3) ai))
   (ak (ar (i:=2) lF.nd rfl (Or.inl rfl) (aB dZ (pv 2) ai))))))
   (ak (aE (pv 1))))))),?_⟩
 refine⟨(by show 0<=sizeLine;decide),fun l hl=>?_⟩
 have z80:(2:Nat)^80=1208925819614629174706176:=by decide
 have hlen:(K2.bitsF 0 n.toNat).length<=80:=K2.bitsF_len 80 n.toNat 0 (by omega)
 refine⟨_,rfl,fQ (fun σ H2=>∃(kn rn:Nat)(pre:List Nat),σ = [some (.int n),some (.ref l),some (.int (kn:Int)),some (.int (rn:Int))]/\H2 l=some (.lst (pre.map iV))/\pre++K2.bitsF kn rn=K2.bitsF 0 n.toNat/\Same H H2)
  (fun σ _=>match σ with | [_,_,_,some (.int r)]=>r.toNat | _=>0) ⟨0,n.toNat,[],?_,ag,rfl,aq hl _⟩ ?_ ?_⟩
 ·have e:((n.toNat:Nat):Int)=n:=by omega
  rw[e]
  rfl
 ·rintro σ H2 ⟨kn,rn,pre,rfl,hp,hb,hs⟩
  refine⟨_,rfl,_,_,rfl,rfl,_,rfl,?_⟩
  refine ite2 (fun c=>?_) (fun c=>?_)
  ·have c':(0:Int)<(rn:Int):=of_decide_eq_true c
   have d2:((rn:Int)/2)=((rn/2:Nat):Int):=by omega
   have hlp:pre.length<=80:=by
    have:=congrArg List.length hb
    rw[MX]at this
    omega
   walk_at "rd"
   refine ite2 (fun o=>?_) (fun o=>?_)
   ·have o':(rn:Int)%2=1:=V.int.inj (of_decide_eq_true o)
    refine⟨_,rfl,.inl ⟨rfl,_,SqL.of hp⟩,_,rfl,l,_,_,rfl,rfl,hp,ax (by rw[M7];omega),?_⟩
    walk_at "rd"
    refine⟨⟨kn+1,rn/2,pre++[kn],?_,?_,?_,?_⟩,?_⟩
    ·show[some (V.int n),some (V.ref l),some (V.int ((kn:Int)+1)),some (V.int ((rn:Int)/2))]=_
     rw[d2];rfl
    ·rw[ag,NU];rfl
    ·rw[OV,← hb]
     have z:=K2.bitsF_odd (k:=kn) (n:=rn) (by omega)
     rw[z];rfl
    ·exact aW hs hl _
    ·show((rn:Int)/2).toNat<((rn:Nat):Int).toNat
     omega
   ·have o':¬ (rn:Int)%2=1:=fun z=>o (decide_eq_true (congrArg V.int z))
    walk_at "rd"
    refine⟨⟨kn+1,rn/2,pre,?_,hp,?_,hs⟩,?_⟩
    ·show[some (V.int n),some (V.ref l),some (V.int ((kn:Int)+1)),some (V.int ((rn:Int)/2))]=_
     rw[d2];rfl
    ·rw[← hb,K2.bitsF_even (k:=kn) (n:=rn) (by omega) (by omega)]
    ·show((rn:Int)/2).toNat<((rn:Nat):Int).toNat
     omega
  ·have c':¬ (0:Int)<(rn:Int):=fun z=>c (decide_eq_true z)
   have z:rn=0:=by omega
   subst z
   rw[K2.bitsF_zero,Ow]at hb
   refine⟨_,rfl,?_⟩
   exact k l H2 hs hl (by rw[hp,hb])
 ·rintro σ H2 Q1 Q2 hi ⟨v,e,i,j,a,b,kk,e2,q⟩
  exact⟨v,e,i,j,a,b,kk,e2,hi _ _ q⟩
end
noncomputable def flat(PL:List (Nat×Nat)):List Nat:=PL.flatMap fun p=>[p.1,p.2]
noncomputable def cst(d:Nat->Nat->Int)(PL:List (Nat×Nat)):Int:=(PL.map fun p=>d p.1 p.2).sum
noncomputable def Cs(d:Nat->Nat->Int)(S:List Nat)(c:Int):Prop:=∃ PL,(flat PL).Perm S/\cst d PL=c
structure Met(n:Nat)(d:Nat->Nat->Int):Prop where
 sy:∀ a b,d a b=d b a
 nn:∀ a b,0<=d a b
 tr:∀ a b c,a<n->b<n->c<n->d a c<=d a b+d b c
theorem flat_cons(p:Nat×Nat)(PL:List (Nat×Nat)):flat (p::PL)=p.1::p.2::flat PL:=rfl
theorem lg(d:Nat->Nat->Int)(p:Nat×Nat)(PL:List (Nat×Nat)):cst d (p::PL)=d p.1 p.2+cst d PL:=by unfold cst;rw[Nj,OB]
theorem Cs.perm{d:Nat->Nat->Int}{S S':List Nat}{c:Int}(h:Cs d S c)(p:S.Perm S'):Cs d S' c:=by
 obtain⟨PL,h1,h2⟩:=h
 exact⟨PL,h1.trans p,h2⟩
theorem part0{d:Nat->Nat->Int}(sy:∀ a b,d a b=d b a){a:Nat}:∀{PL:List (Nat×Nat)},a∈flat PL->∃ e PL',(flat PL).Perm (a::e::flat PL')/\cst d PL=d a e+cst d PL'
 |[],h=>nomatch h
 | (x,y)::PL,h=>by
  rw[flat_cons]at h
  by_cases c1:a=x
  ·subst c1
   exact⟨y,PL,.refl _,lg ..⟩
  by_cases c2:a=y
  ·subst c2
   exact⟨x,PL,.swap _ _ _,by rw[lg];show d x a+_=_;rw[sy x a]⟩
  have h':a∈flat PL:=by
   rcases MV.mp h with h | h
   ·exact absurd h c1
   ·rcases MV.mp h with h | h
    ·exact absurd h c2
    ·exact h
  obtain⟨e,PL',p,ec⟩:=part0 sy h'
  refine⟨e,(x,y)::PL',?_,by rw[lg,lg,ec];omega⟩
  rw[flat_cons,flat_cons]
  have p1:(x::y::flat PL).Perm (x::y::a::e::flat PL'):=(p.cons y).cons x
  refine p1.trans ?_
  have q1:([x,y]++([a,e]++flat PL')).Perm ([a,e]++([x,y]++flat PL')):=by
   rw[← OV,← OV]
   exact(List.perm_append_comm).append_right _
  exact q1
theorem Cs.part{d:Nat->Nat->Int}(sy:∀ a b,d a b=d b a){S:List Nat}{c:Int}{a:Nat}(h:Cs d S c)(ha:a∈S):∃ e R c0,S.Perm (a::e::R)/\Cs d R c0/\c=d a e+c0:=by
 obtain⟨PL,p,ec⟩:=h
 obtain⟨e,PL',p',ec'⟩:=part0 sy (p.mem_iff.mpr ha)
 exact⟨e,flat PL',cst d PL',p.symm.trans p',⟨PL',.refl _,rfl⟩,by rw[← ec,ec']⟩
theorem Cs.add{d:Nat->Nat->Int}{R:List Nat}{c0:Int}(a e:Nat)(h:Cs d R c0):Cs d (a::e::R) (d a e+c0):=by
 obtain⟨PL,p,ec⟩:=h
 exact⟨(a,e)::PL,by rw[flat_cons];exact(p.cons e).cons a,by rw[lg,ec]⟩
noncomputable def tog(S:List Nat)(a:Nat):List Nat:=if a∈S then S.erase a else a::S
theorem tog_nd{S:List Nat}(h:S.Nodup)(a:Nat):(tog S a).Nodup:=by
 unfold tog
 split
 ·exact h.erase _
 ·exact Nb.mpr ⟨by assumption,h⟩
theorem Ik{S S':List Nat}(p:S.Perm S')(a:Nat):(tog S a).Perm (tog S' a):=by
 unfold tog
 by_cases c:a∈S
 ·rw[if_pos c,if_pos (p.mem_iff.mp c)]
  exact p.erase a
 ·rw[if_neg c,if_neg (fun z=>c (p.mem_iff.mpr z))]
  exact p.cons a
theorem KP{S:List Nat}(h:S.Nodup)(a:Nat):(tog (tog S a) a).Perm S:=by
 by_cases c:a∈S
 ·have e:tog S a=S.erase a:=by unfold tog;rw[if_pos c]
  have n:a∉S.erase a:=h.not_mem_erase
  have e2:tog (S.erase a) a=a::S.erase a:=by unfold tog;rw[if_neg n]
  rw[e,e2]
  exact(List.perm_cons_erase c).symm
 ·have e:tog S a=a::S:=by unfold tog;rw[if_neg c]
  have e2:tog (a::S) a=S:=by unfold tog;rw[if_pos (M3 ..),OE]
  rw[e,e2]
theorem LU{S:List Nat}(h:S.Nodup){a x:Nat}:x∈tog S a↔(x∈S/\x≠a)∨(x=a/\a∉S):=by
 unfold tog
 by_cases c:a∈S
 ·rw[if_pos c,h.mem_erase_iff]
  exact⟨fun z=>.inl ⟨z.2,z.1⟩,fun z=>z.elim (fun y=>⟨y.2,y.1⟩) fun y=>absurd c y.2⟩
 ·rw[if_neg c,MV]
  constructor
  ·rintro(z | z)
   ·exact .inr ⟨z,c⟩
   ·exact .inl ⟨z,fun y=>c (y▸z)⟩
  ·rintro(z | z)
   ·exact .inr z.1
   ·exact .inl z.1
theorem Cs.two{n:Nat}{d:Nat->Nat->Int}(M:Met n d){S:List Nat}{c:Int}(nd:S.Nodup)(lt:∀ x∈S,x<n)(h:Cs d S c){a b:Nat}(ha:a<n)(hb:b<n):∃ c',Cs d (tog (tog S a) b) c'/\c'<=c+d a b:=by
 have dn:=M.nn a b
 by_cases ab:a=b
 ·subst ab
  exact⟨c,h.perm (KP nd a).symm,by omega⟩
 by_cases ca:a∈S
 ·obtain⟨e,R,c0,p,h0,ec⟩:=h.part M.sy ca
  have ea:tog S a=S.erase a:=by unfold tog;rw[if_pos ca]
  have p1:(S.erase a).Perm (e::R):=by
   have:=p.erase a
   rw[OE]at this
   exact this
  have elt:e<n:=lt e (p.mem_iff.mpr (MY _ (M3 ..)))
  rw[ea]
  by_cases cb:b∈S.erase a
  ·have eb:tog (S.erase a) b=(S.erase a).erase b:=by unfold tog;rw[if_pos cb]
   rw[eb]
   by_cases ebb:e=b
   ·subst ebb
    have p2:=p1.erase e
    rw[OE]at p2
    refine⟨c0,h0.perm p2.symm,?_⟩
    have:=M.nn a e
    omega
   ·have bR:b∈R:=by
     rcases MV.mp (p1.mem_iff.mp cb)with z | z
     ·exact absurd z.symm ebb
     ·exact z
    obtain⟨f,R2,c1,q,h1,ec1⟩:=h0.part M.sy bR
    have flt:f<n:=lt f (p.mem_iff.mpr (MY _ (MY _ (q.mem_iff.mpr (MY _ (M3 ..))))))
    have p2:((S.erase a).erase b).Perm (e::f::R2):=by
     have z1:(S.erase a).Perm (b::e::f::R2):=p1.trans ((q.cons e).trans (.swap _ _ _))
     have z2:=z1.erase b
     rw[OE]at z2
     exact z2
    refine⟨d e f+c1,(h1.add e f).perm p2.symm,?_⟩
    have t1:=M.tr e a f elt ha flt
    have t2:=M.tr a b f ha hb flt
    have s1:=M.sy e a
    omega
  ·have eb:tog (S.erase a) b=b::S.erase a:=by unfold tog;rw[if_neg cb]
   rw[eb]
   refine⟨d b e+c0,(h0.add b e).perm (p1.symm.cons b),?_⟩
   have t1:=M.tr b a e hb ha elt
   have s1:=M.sy b a
   omega
 ·have ea:tog S a=a::S:=by unfold tog;rw[if_neg ca]
  rw[ea]
  by_cases cb:b∈S
  ·have eb:tog (a::S) b=a::S.erase b:=by
    unfold tog
    rw[if_pos (MY _ cb),List.erase_cons_tail (by simpa using ab)]
   rw[eb]
   obtain⟨e,R,c0,p,h0,ec⟩:=h.part M.sy cb
   have p1:(S.erase b).Perm (e::R):=by
    have:=p.erase b
    rw[OE]at this
    exact this
   have elt:e<n:=lt e (p.mem_iff.mpr (MY _ (M3 ..)))
   refine⟨d a e+c0,(h0.add a e).perm (p1.symm.cons a),?_⟩
   have t1:=M.tr a b e ha hb elt
   omega
  ·have eb:tog (a::S) b=b::a::S:=by
    unfold tog
    rw[if_neg (fun z=>by rcases MV.mp z with z | z;exact ab z.symm;exact cb z)]
   rw[eb]
   refine⟨d b a+c,h.add b a,?_⟩
   have:=M.sy b a
   omega
end KF
namespace KF
open PySem L2
local macro_rules | `(tactic| walk_at "cc") => `(tactic| first | exact ⟨by decide, by decide⟩ | (show (0 : Int) < _; decide) | (show (0 : Int) < _; omega) | (show (0 : Int) ≤ _; omega) | exact ⟨by decide, by decide, by decide⟩ | exact ⟨by omega, by omega, by decide⟩ | exact Or.inl ⟨by decide, by decide⟩ | exact Or.inl ⟨by omega, by omega⟩)
local macro_rules | `(tactic| walk_at "rd") => `(tactic| repeat (first | refine ⟨_, rfl, ?_⟩ | refine ⟨_, _, rfl, rfl, ?_⟩ | refine ⟨rfl, ?_⟩ | (refine ⟨?cc, ?_⟩; (case cc => walk_at "cc"))))
noncomputable def lpF:Pos:=⟨66,32,66,55⟩
theorem Fun.okT{P:Program}{w:World}{K:MQ}{mg:Str->Option Value}{base:Heap}{x qual:Str}{st:Stmt}{f c TT:Addr}{fd:FuncData}{N ps:List Str}{k:Nat}{sp:Sp}(F:Fun K x qual st f fd)(S:av N ps (ah st))(ht:OT K x=some (c,TT))(hn:M6 K mainGlobals x=some (some (.ref f)))
  (len:∀ vs H Q E,sp vs H Q E->vs.length=ps.length)
  (hbody:∀(A:Around)(outer:List Env)(s:Shared)(H:Hp)(vs:List V)(Q:VK)(E:XK),Room k (A.deeper (PyProof.Rows.envOfC qual (ah st) s.heap.objs.size f (.ref c)))->sp vs H Q E ->
   ∃ t,PSs (cxOf CX0 P w K mg base N qual (ah st) f (.ref c) A outer s H E).nox (au st) t/\t { nx:=fun _ H'=>Q .non H',rt:=Q } (qS N vs) H):FnOk P w K mg base CX0 (k+1) f fd ps sp:=by
 obtain⟨oc,od,kV,doc,pm,an,cdv,ct,osl,rfl,lk,hcd⟩:=F.ex
 have e:cdv=.ref c:=by
  unfold OT at ht
  rw[hn]at ht
  simp only[lk]at ht
  cases cdv<;>first | (cases ht;done) | skip
  simp only at ht
  split at ht
  ·split at ht
   ·cases ht;rfl
   ·cases ht
  ·cases ht
 subst e
 refine Mg lk hcd S len fun A outer s H vs Q E hr hsp=>?_
 obtain⟨t,h,q⟩:=hbody A outer s H vs Q E hr hsp
 exact⟨t,h.nox,q⟩
noncomputable def oV:Option Int->V | none=>.non | some x=>.int x
noncomputable def oN:Option Nat->V | none=>.non | some k=>.int (k:Int)
noncomputable def kw(r:Nat):Key×V:=(Sum.inl (r:Int),.bl true)
noncomputable def lqF:Str:=("fares" : Str)++".<locals>."++"<lambda>"
noncomputable def sF(ta va wd TT p:Addr):Prop:=p=TT∨p=ta∨p=va∨p=wd
noncomputable def KpS(S:Addr->Prop)(H H':Hp):Prop:=∀ b o,¬ S b->H b=some o->H' b=some o
theorem KpS.upd{S:Addr->Prop}{H H1:Hp}(a:KpS S H H1){p:Addr}(hp:S p)(o:HO):KpS S H (L2.upd H1 p o):=fun c u n h=>by
 rw[ao (fun z=>n (by rw[z];exact hp))]
 exact a c u n h
noncomputable def spFares(TT:Addr):Sp:=fun vs H Q _=>∃(v:V)(n s:Nat)(ls:List Lk),vs = [.int (n:Int),v,.int (s:Int)]/\LnAt H v ls/\Lok n ls/\s<n/\Tb lqF lpF TT H /\
 ∀(t ta va:Addr)(TL:List (Option Int))(VL:List (Option Nat)) H',TbS TT H H'->Tb lqF lpF TT H'->H ta=none->H va=none->H' t=some (.tup [.ref ta,.ref va])->H' ta=some (.lst (TL.map oV))->H' va=some (.lst (VL.map oN))->FI n ls s MM TL VL [] (fun _ _=>False)->Q (.ref t) H'
structure FH(ta va wd TT:Addr)(n s:Nat)(ls:List Lk)(H1:Hp)(TL:List (Option Int))(VL:List (Option Nat))(W:List Nat)(ex:Nat->Nat->Prop)(H:Hp):Prop where
 kp:KpS (sF ta va wd TT) H1 H
 ht:H ta=some (.lst (TL.map oV))
 hv:H va=some (.lst (VL.map oN))
 hw:H wd=some (.dK (W.map kw))
 tb:Tb lqF lpF TT H
 fi:FI n ls s MM TL VL W ex
 nd:W.Nodup
noncomputable def vW(n:Nat)(v:V):Nat:=match v with | .int x=>x.toNat | _=>n*MM+1
noncomputable def mesH(n:Nat)(ta wd:Addr)(H:Hp):Nat:=match H ta,H wd with
 |some (.lst xs),some (.dK kvs)=>(xs.map (vW n)).sum*(n+1)+kvs.length
 |_,_=>0
theorem FH.mes{ta va wd TT:Addr}{n s:Nat}{ls:List Lk}{H1 H:Hp}{TL:List (Option Int)}{VL:List (Option Nat)}{W:List Nat}{ex:Nat->Nat->Prop}(h:FH ta va wd TT n s ls H1 TL VL W ex H):mesH n ta wd H=wgt (n*MM+1) TL*(n+1)+W.length:=by
 unfold mesH wgt
 rw[h.ht,h.hw]
 have e:(TL.map oV).map (vW n)=TL.map (vOf (n*MM+1)):=by
  rw[Pc]
  refine Pk fun o _=>?_
  cases o<;>rfl
 show((TL.map oV).map (vW n)).sum*(n+1)+(W.map kw).length=_
 rw[e,M7]
theorem FH.wlen{ta va wd TT:Addr}{n s:Nat}{ls:List Lk}{H1 H:Hp}{TL:List (Option Int)}{VL:List (Option Nat)}{W:List Nat}{ex:Nat->Nat->Prop}(h:FH ta va wd TT n s ls H1 TL VL W ex H):W.length<=n :=
 kL n W h.nd fun x hx=>by
  obtain⟨y,hy⟩:=h.fi.wk x hx
  have:=(MO.mp hy).1
  rw[h.fi.tl]at this
  exact this
theorem Kc{r s:Nat}(h:(kw r).1=(kw s).1):r=s:=by
 have:(r:Int)=(s:Int):=by injection h
 omega
theorem EB{r:Nat}:∀{W:List Nat},r∈W->valV (W.map kw) (.inl (r:Int))=some (.bl true)
 |w::W,h=>by
  rw[Nj]
  by_cases c:(kw w).1=Sum.inl (r:Int)
  ·rw[bz c];rfl
  ·rw[bA c]
   refine EB ?_
   rcases MV.mp h with h | h
   ·exact absurd (by rw[h];rfl) c
   ·exact h
theorem no_kw{r:Nat}:∀{W:List Nat},r∉W->valV (W.map kw) (.inl (r:Int))=none
 |[],_=>rfl
 |w::W,h=>by
  rw[Nj,bA (fun c=>h (by rw[Kc (r:=w) (s:=r) c];exact M3 ..))]
  exact no_kw fun z=>h (MY _ z)
theorem Ba(r:Nat):∀ W:List Nat,nC (W.map kw) (.inl (r:Int))=(W.filter (fun x=>decide (x≠r))).map kw
 |[]=>rfl
 |w::W=>by
  rw[Nj]
  by_cases c:w=r
  ·rw[GY (by rw[c];rfl),Ba r W,Qx (by simpa using c)]
  ·rw[GZ (k:=Sum.inl (r:Int)) (fun z=>c (Kc (r:=w) (s:=r) z)),Ba r W,Qw (by simpa using c),Nj]
theorem put_kw{t:Nat}{W:List Nat}(nd:W.Nodup):∃ W':List Nat,putK (W.map kw) (.inl (t:Int)) (.bl true)=W'.map kw/\W'.Nodup/\∀ r,r∈W'↔r∈W∨r=t:=by
 by_cases c:t∈W
 ·refine⟨W,?_,nd,fun r=>⟨.inl,fun z=>z.elim id fun z=>z▸c⟩⟩
  unfold putK
  rw[fU,EB c,Option.isSome_some,if_pos rfl]
  rw[Pc]
  refine Pk fun x _=>?_
  show(if(kw x).1=Sum.inl (t:Int) then((kw x).1,V.bl true) else kw x)=kw x
  split<;>rfl
 ·refine⟨W++[t],by rw[Ce _ (no_kw c),NU];rfl,Ay nd c,fun r=>by rw[M5,Nx]⟩
structure Sg(la aa ta va wd TT:Addr)(n s:Nat)(ls:List Lk)(xs ys:List V)(rows:List (List Nat))(H1:Hp):Prop where
 hA:H1 la=some (.lst xs)
 hL:LsAt LkAt H1 xs ls
 ok:Lok n ls
 hR:H1 aa=some (.lst ys)
 rx:bq (sF ta va wd TT) H1 ys rows
 am:AtM n 120 rows (memL ls)
 nla:¬ sF ta va wd TT la
 naa:¬ sF ta va wd TT aa
 tt:∀ t o,H1 t=some (.tup o)->¬ sF ta va wd TT t
 ntv:ta≠va
 ntw:ta≠wd
 nvw:va≠wd
 nTt:ta≠TT
 nTv:va≠TT
 nTw:wd≠TT
theorem tD{q:Str}{lp:Pos}{TT:Addr}{H H':Hp}(h:Tb q lp TT H)(k:∀ b,(b=TT∨∃ c,H b=some (codO c q))->H' b=H b):Tb q lp TT H':=by
 rcases h with h | ⟨c,h1,h2⟩
 ·exact .inl ((k TT (.inl rfl)).trans h)
 ·exact .inr ⟨c,(k TT (.inl rfl)).trans h1,(k c (.inr ⟨c,h2⟩)).trans h2⟩
theorem FH.new{ta va wd TT:Addr}{n s:Nat}{ls:List Lk}{H1 H:Hp}{TL:List (Option Int)}{VL:List (Option Nat)}{W:List Nat}{ex:Nat->Nat->Prop}(h:FH ta va wd TT n s ls H1 TL VL W ex H){p:Addr}(hp:H p=none)(o:HO):FH ta va wd TT n s ls H1 TL VL W ex (upd H p o):=by
 have sm:=aq hp o
 refine⟨fun b u nb e=>sm _ _ (h.kp b u nb e),sm _ _ h.ht,sm _ _ h.hv,sm _ _ h.hw,tD h.tb fun b hb=>ao fun z=>?_,h.fi,h.nd⟩
 subst z
 rcases hb with hb | ⟨c,hb⟩
 ·subst hb
  rcases h.tb with y | ⟨_,y,_⟩<;>rw[hp]at y<;>cases y
 ·rw[hp]at hb;cases hb
theorem FH.tab{ta va wd TT:Addr}{n s:Nat}{ls:List Lk}{H1 H H':Hp}{TL:List (Option Int)}{VL:List (Option Nat)}{W:List Nat}{ex:Nat->Nat->Prop}(h:FH ta va wd TT n s ls H1 TL VL W ex H)(nTt:ta≠TT)(nTv:va≠TT)(nTw:wd≠TT)(sm:TbS TT H H')(tb:Tb lqF lpF TT H'):FH ta va wd TT n s ls H1 TL VL W ex H' :=
 ⟨fun b u nb e=>sm _ _ (fun z=>nb (.inl z)) (h.kp b u nb e),sm _ _ nTt h.ht,sm _ _ nTv h.hv,sm _ _ nTw h.hw,tb,h.fi,h.nd⟩
noncomputable def FrI(la aa ta va wd TT:Addr)(n s:Nat)(ls:List Lk)(H1:Hp)(σ:St)(H:Hp):Prop:=∃(v7 v8 v9 v10:Option V)(TL:List (Option Int))(VL:List (Option Nat))(W:List Nat),
 σ = [some (.int (n:Int)),some (.ref la),some (.int (s:Int)),some (.ref aa),some (.ref ta),some (.ref va),some (.ref wd),v7,v8,v9,v10]/\FH ta va wd TT n s ls H1 TL VL W (fun _ _=>False) H
noncomputable def InI(la aa ta va wd TT:Addr)(n s:Nat)(ls:List Lk)(row:List Nat)(m w0 l0:Nat)(H1:Hp)(i:Nat)(σ:St)(H:Hp):Prop:=∃(v8 v9 v10:Option V)(TL:List (Option Int))(VL:List (Option Nat))(W:List Nat),
 σ = [some (.int (n:Int)),some (.ref la),some (.int (s:Int)),some (.ref aa),some (.ref ta),some (.ref va),some (.ref wd),some (.int (m:Int)),v8,v9,v10]/\FH ta va wd TT n s ls H1 TL VL W (fun r j=>r=m/\j∉row.take i) H/\(∃ x,TL[m]?=some (some x)) /\
 ((wgt (n*MM+1) TL=w0/\W.length<l0)∨wgt (n*MM+1) TL<w0)
noncomputable def restF(la TT:Addr)(n s:Nat)(ls:List Lk):TS:=fun D σ H=>∃(aa ta va wd:Addr)(xs ys:List V)(rows:List (List Nat))(H1:Hp)(v8 v9 v10:Option V)(TL:List (Option Int))(VL:List (Option Nat))(W:List Nat)(m l0:Nat),Sg la aa ta va wd TT n s ls xs ys rows H1 /\
 σ = [some (.int (n:Int)),some (.ref la),some (.int (s:Int)),some (.ref aa),some (.ref ta),some (.ref va),some (.ref wd),some (.int (m:Int)),v8,v9,v10]/\FH ta va wd TT n s ls H1 TL VL W (fun r _=>r=m) H/\(∃ x,TL[m]?=some (some x))/\W.length<l0 /\
 ∀ σ' H',FrI la aa ta va wd TT n s ls H1 σ' H'->mesH n ta wd H'<wgt (n*MM+1) TL*(n+1)+l0->D.nx σ' H'
noncomputable def restM(la TT:Addr)(n s:Nat)(ls:List Lk):TS:=fun D σ H=>∃(aa ta va wd:Addr)(xs ys:List V)(rows:List (List Nat))(H1:Hp)(TL:List (Option Int))(VL:List (Option Nat))(W:List Nat)(m w0 l0 i k:Nat)(row:List Nat)(l:Lk)(x:Int)(o:Option Int),Sg la aa ta va wd TT n s ls xs ys rows H1 /\
 σ = [some (.int (n:Int)),some (.ref la),some (.int (s:Int)),some (.ref aa),some (.ref ta),some (.ref va),some (.ref wd),some (.int (m:Int)),some (.int (k:Int)),some (.int ((bey l m:Nat):Int)),some (.int (x+l.2.2))]/\FH ta va wd TT n s ls H1 TL VL W (fun r j=>r=m/\j∉row.take i) H /\
 ls[k]?=some l/\nB l m/\TL[m]?=some (some x)/\TL[bey l m]?=some o/\(∀ y,o=some y->x+l.2.2<y)/\row[i]?=some k/\((wgt (n*MM+1) TL=w0/\W.length<l0)∨wgt (n*MM+1) TL<w0) /\
 ∀ σ' H',InI la aa ta va wd TT n s ls row m w0 l0 H1 (i+1) σ' H'->D.nx σ' H'
theorem GW{row:List Nat}{m i k:Nat}(hk:row[i]?=some k):∀ r j,(r=m/\j∉row.take i)->(r=m/\j∉row.take (i+1))∨(r=m/\j=k):=fun r j ⟨h1,h2⟩=>by
 by_cases c:j=k
 ·exact .inr ⟨h1,c⟩
 ·refine .inl ⟨h1,fun z=>?_⟩
  rw[NA,hk]at z
  rcases M5.mp z with z | z
  ·exact h2 z
  ·exact c (Nx.mp z)
theorem F2{TL:List (Option Int)}{r:Nat}{o:Option Int}(h:TL[r]?=some o):(TL.map oV)[r]?=some (oV o):=by rw[Nq,h];rfl
section
variable{P:Program}{w:World}{K:MQ}{mg:Str->Option Value}{base:Heap}
theorem du:av ["many","links","start","at","told","via","waiting","room","number","there","fare"] ["many","links","start"] (ah g8):=⟨rfl,rfl,rfl,by decide +kernel,rfl,by decide +kernel,by decide +kernel⟩
theorem ok_fares{f f1 f2 c TT:Addr}{fd fd1 fd2:FuncData} (F:Fun K "fares" "fares" g8 f fd) (T:Txt mg) (ht:OT K "fares" = some (c,TT)) (hn:M6 K mainGlobals "fares" = some (some (.ref f))) (hcd:OL base c TT) (hbm:Bm mg base)
  (G_links_at:Cal P w K mg base 1 "links_at" ["many","links"] spAt f1 fd1) (G_beyond:Cal P w K mg base 1 "beyond" ["link","room"] spBey f2 fd2):FnOk P w K mg base CX0 2 f fd ["many","links","start"] (spFares TT):=by
 refine Fun.okT F du ht hn (fun vs H Q E h=>?_) (fun A outer s H vs Q E hr h=>?_)
 ·obtain⟨v,n,st0,ls,rfl,_⟩:=h
  rfl
 obtain⟨v,n,st0,ls,rfl,⟨la,xs,rfl,hA,hL⟩,ok,hs,tb0,kk⟩:=h
 have hu:=GK hr
 have hu64:=hr.units
 have n1:=ok.n1
 have l9:=ok.l9
 have LM:∀ N,Lam (cxOf CX0 P w K mg base N "fares" (ah g8) f (.ref c) A outer s H E).nox c TT (s.heap.objs.size+1) lqF:=fun N=>⟨rfl,hcd,hbm,rfl,rfl,rfl,rfl⟩
 refine⟨_,(af (ar (i:=3) du.nd rfl (Or.inl rfl) (az G_links_at.ok (hr.mono (by decide)) rfl G_links_at.mg G_links_at.kp G_links_at.bn .nil aR (ae (pv 0) (ae (pv 1) aj))))
   (af (ar (i:=4) du.nd rfl (Or.inr rfl) (gh rfl (fr:=[]) (by exact bM.plain (by rfl) (by decide +kernel) (by rfl) (by decide +kernel) (by rfl) (by decide +kernel)) (bD rfl T.n_range (ae (pv 0) aj)) (fun C ex s H=>jw)))
   (af (lG (i:=5) rfl du.nd rfl rfl (fr:=[]) (by exact bM.plain (by rfl) (by decide +kernel) (by rfl) (by decide +kernel) (by rfl) (by decide +kernel)) (bD rfl T.n_range (ae (pv 0) aj)) (fun C ex s H=>jw))
   (af (Fj ai (Fv (pv 4) (pv 2) nN))
   (af (ar (i:=6) du.nd rfl (Or.inl rfl) (Fz (Cf (pv 2) qY Fl) rfl rfl (fun z=>by cases z) (by decide)))
   (af (gf PassesOwn.never (aC (op_neE hu64) (pv 6) ur (aI _)) (af (ar (i:=7) du.nd rfl (Or.inl rfl) (Lm (it:=4) (LM _) rfl rfl (hr.mono (by decide)) rfl (Or.inr (Or.inl rfl)) rfl T.n_min (ae (pv 6) aj)))
   (af (bC (IE (pv 6) (pv 7) ⟨rfl,rfl,rfl,rfl⟩))
   (zG (t2:=restF la TT n st0 ls) (ak (cD PassesOwn.never rfl (bo (aD aA (pv 3) (pv 7) (fun _ _=>rfl))) (aL (i:=8) du.nd rfl (Or.inl rfl)) (af (ar (i:=9) du.nd rfl (Or.inl rfl) (az G_beyond.ok (hr.mono (by decide)) rfl G_beyond.mg G_beyond.kp G_beyond.bn .nil aR (ae (aD aA (pv 1) (pv 8) (fun _ _=>rfl)) (ae (pv 7) aj))))
   (af (ar (i:=10) du.nd rfl (Or.inl rfl) (aB dZ (aD aA (pv 4) (pv 7) (fun _ _=>rfl)) (aD aS (aD aA (pv 1) (pv 8) (fun _ _=>rfl)) ai (fun _ _=>rfl))))
   (ak (bL (PW.pt (zF (aC op_isN (aD aA (pv 4) (pv 9) (fun _ _=>rfl)) jw (aI _)) (rT (aC oM (pv 10) (aD aA (pv 4) (pv 9) (fun _ _=>rfl)) (aI _))))) (zG (t2:=restM la TT n st0 ls) (af (Fj (pv 10) (Fv (pv 4) (pv 9) nN))
   (af (Fj (pv 8) (Fv (pv 5) (pv 9) nN))
   (ak (t8 hu (pv 6) (pv 9) qY rfl)))) (fun D0 S0 H0 h0=>?restm)) aP)))))) (fun D0 S0 H0 h0=>?restf)))))
   (ak (aE (bP (ae (pv 4) (ae (pv 5) aj))))))))))),?_⟩
 case restm =>
  obtain⟨aa,ta,va,wd,xs,ys,rows,H1,TL,VL,W,m,w0,l0,i,k,row,l,x,o,sg,rfl,fh,hl,hm,hx,ho,hlt,hk,dec,kn⟩:=h0
  have tl:=fh.fi.tl
  have vl:=fh.fi.vl
  have tt:bey l m<n:=by rw[← tl];exact(MO.mp ho).1
  have l0':=(fh.fi.w0 l (MP hl))
  have ntv:=sg.ntv
  have ntw:=sg.ntw
  have nvw:=sg.nvw
  have nTt:=sg.nTt
  have nTv:=sg.nTv
  have nTw:=sg.nTw
  refine⟨_,rfl,_,rfl,_,rfl,ta,_,_,bey l m,rfl,rfl,fh.ht,pD (by rw[M7];omega),?_⟩
  refine⟨_,rfl,_,rfl,_,rfl,va,_,_,bey l m,rfl,rfl,by rw[ao (Ne.symm ntv)];exact fh.hv,pD (by rw[M7];omega),?_⟩
  have hw2:(upd (upd H0 ta (.lst ((TL.map oV).set (bey l m) (.int (x+l.2.2))))) va (.lst ((VL.map oN).set (bey l m) (.int (k:Int))))) wd=some (.dK (W.map kw)):=by rw[ao (Ne.symm nvw),ao (Ne.symm ntw)];exact fh.hw
  have wl:=fh.wlen
  refine⟨_,rfl,_,rfl,wd,_,rfl,DPut.k (k:=.inl ((bey l m:Nat):Int)) (v:=.bl true) hw2 (by rw[M7];exact ax (by omega)),?_⟩
  obtain⟨W',eW,nd',mW⟩:=put_kw (t:=bey l m) fh.nd
  rw[eW]
  have e1:(TL.map oV).set (bey l m) (.int (x+l.2.2))=(TL.set (bey l m) (some (x+l.2.2))).map oV:=by rw[List.map_set];rfl
  have e2:(VL.map oN).set (bey l m) (.int (k:Int))=(VL.set (bey l m) (some k)).map oN:=by rw[List.map_set];rfl
  rw[e1,e2]
  have fi2:=fh.fi.mend (W':=W') hl hm hx ho hlt mW (GW hk)
  have wd2:=Ig fh.fi l0'.1 l0'.2 hx ho hlt
  have nm:bey l m≠m:=fun e=>by
   rw[e,hx]at ho
   cases ho
   have:=hlt x rfl
   omega
  refine kn _ _ ⟨_,_,_,_,_,W',rfl,⟨((fh.kp.upd (.inr (.inl rfl)) _).upd (.inr (.inr (.inl rfl))) _).upd (.inr (.inr (.inr rfl))) _,?_,?_,ag,?_,fi2,nd'⟩,⟨x,by rw[wH (by omega),if_neg nm];exact hx⟩,.inr (by rcases dec with d | d<;>omega)⟩
  ·rw[ao ntw,ao ntv];exact ag
  ·rw[ao nvw];exact ag
  ·refine tD fh.tb fun b hb=>?_
   rw[ao (fun z=>?_),ao (fun z=>?_),ao (fun z=>?_)]
   ·rcases hb with hb | ⟨c',hb⟩
    ·exact nTt (z▸hb)
    ·rw[z,fh.ht]at hb;cases hb
   ·rcases hb with hb | ⟨c',hb⟩
    ·exact nTv (z▸hb)
    ·rw[z,fh.hv]at hb;cases hb
   ·rcases hb with hb | ⟨c',hb⟩
    ·exact nTw (z▸hb)
    ·rw[z,fh.hw]at hb;cases hb
 case restf =>
  obtain⟨aa,ta,va,wd,xs,ys,rows,H1,v8,v9,v10,TL,VL,W,m,l0,sg,rfl,fh,⟨x,hx⟩,hl0,kn⟩:=h0
  have mn:m<n:=by rw[← fh.fi.tl];exact(MO.mp hx).1
  have rl:=sg.am.len
  obtain⟨row,hrow⟩:∃ row,rows[m]?=some row:=⟨_,MN (by omega)⟩
  obtain⟨pr,r1,r2,r3⟩:=sg.rx.2 _ _ hrow
  have hR:=fh.kp _ _ sg.naa sg.hR
  have hrw:=fh.kp _ _ r2 r3
  have few:=sg.am.few row (MP hrow)
  refine⟨_,rfl,_,rfl,aa,_,_,_,rfl,rfl,SqL.of hR,aJ r1,pr,rfl,⟨_,SqL.of hrw⟩,cG (K:=K) (xs:=row.map iV) (InI la aa ta va wd TT n st0 ls row m (wgt (n*MM+1) TL) l0 H1) ⟨_,_,_,TL,VL,W,rfl,⟨fh.kp,fh.ht,fh.hv,fh.hw,fh.tb,fh.fi.exw fun r i l _ _ z=>⟨z,by rw[Qr];exact fun y=>nomatch y⟩,fh.nd⟩,⟨x,hx⟩,.inl ⟨rfl,hl0⟩⟩ (fun i σ H2 _ z=>?_) ?_ ?_⟩
  ·obtain⟨_,_,_,_,_,_,_,f2,_⟩:=z
   exact SqL.of (f2.kp _ _ r2 r3)
  ·rintro i y σ H2 hy ⟨v8,v9,v10,TL2,VL2,W2,rfl,f2,⟨x2,hx2⟩,dec⟩
   rw[Nq]at hy
   obtain⟨k,hk,rfl⟩:=NI.mp hy
   obtain⟨l,hl,hend⟩:=(sg.am.mm m row hrow k).mp (MP hk)
   obtain⟨lv,hlv,hlk⟩:=sg.hL.2 k l hl
   obtain⟨lt,rfl,hlt0⟩:=hlk
   have hlt2:=f2.kp _ _ (sg.tt _ _ hlt0) hlt0
   have hA2:=f2.kp _ _ sg.nla sg.hA
   obtain⟨b1,b2⟩:=sg.ok.sm l (MP hl)
   have tt:bey l m<n:=bey_lt b1 b2
   have tl2:=f2.fi.tl
   obtain⟨o,ho⟩:∃ o,TL2[bey l m]?=some o:=⟨_,MN (by omega)⟩
   refine⟨_,rfl,_,rfl,la,_,_,_,rfl,rfl,SqL.of hA2,aJ hlv,_,rfl,.ref lt,l,m,rfl,⟨lt,rfl,hlt2⟩,?_⟩
   refine⟨_,rfl,_,rfl,ta,_,_,_,rfl,rfl,SqL.of f2.ht,aJ (F2 hx2),_,rfl,_,rfl,la,_,_,_,rfl,rfl,SqL.of hA2,aJ hlv,lt,_,2,_,rfl,rfl,SqT.of hlt2,a32,_,_,rfl,rfl,?_⟩
   refine⟨_,rfl,_,rfl,ta,_,_,_,rfl,rfl,SqL.of f2.ht,aJ (F2 ho),rfl,_,rfl,?_⟩
   cases o with
   |none =>
    refine iteT (iteT ?_)
    exact⟨aa,ta,va,wd,xs,ys,rows,H1,TL2,VL2,W2,m,wgt (n*MM+1) TL,l0,i,k,row,l,x2,none,sg,rfl,f2,hl,hend,hx2,ho,(fun y e=>nomatch e),hk,dec,fun σ' H' z=>z⟩
   |some y0 =>
    refine iteF ?_
    refine⟨_,rfl,_,rfl,_,rfl,ta,_,_,_,rfl,rfl,SqL.of f2.ht,aJ (F2 ho),_,_,rfl,rfl,_,rfl,?_⟩
    refine ite2 (fun c=>?_) (fun c=>?_)
    ·have c':x2+l.2.2<y0:=of_decide_eq_true c
     exact⟨aa,ta,va,wd,xs,ys,rows,H1,TL2,VL2,W2,m,wgt (n*MM+1) TL,l0,i,k,row,l,x2,some y0,sg,rfl,f2,hl,hend,hx2,ho,(fun y e=>by cases e;exact c'),hk,dec,fun σ' H' z=>z⟩
    ·have c':¬ x2+l.2.2<y0:=fun z=>c (decide_eq_true z)
     exact⟨_,_,_,TL2,VL2,W2,rfl,⟨f2.kp,f2.ht,f2.hv,f2.hw,f2.tb,f2.fi.leave hl hx2 ho (by omega) (GW hk),f2.nd⟩,⟨x2,hx2⟩,dec⟩
  ·rintro σ H2 ⟨v8,v9,v10,TL2,VL2,W2,rfl,f2,_,dec⟩
   have fin:FH ta va wd TT n st0 ls H1 TL2 VL2 W2 (fun _ _=>False) H2:=⟨f2.kp,f2.ht,f2.hv,f2.hw,f2.tb,f2.fi.exw fun r i l hl hend ⟨z1,z2⟩=>by
    subst z1
    rw[M7,ND]at z2
    exact z2 ((sg.am.mm r row hrow i).mpr ⟨l,hl,hend⟩),f2.nd⟩
   refine kn _ _ ⟨_,_,_,_,TL2,VL2,W2,rfl,fin⟩ ?_
   rw[fin.mes]
   have wl:=fin.wlen
   rcases dec with⟨d1,d2⟩ | d
   ·rw[d1];omega
   ·have h1:(wgt (n*MM+1) TL2+1)*(n+1)<=wgt (n*MM+1) TL*(n+1):=PY _ d
    rw[Nat.add_mul,Nat.one_mul]at h1
    omega
 refine⟨_,rfl,_,rfl,.ref la,n,ls,rfl,⟨la,xs,rfl,hA,hL⟩,ok,fun aa ys rows Ha sa haa0 haa rx am=>?_⟩
 refine⟨_,rfl,_,rfl,by omega,by omega,fM (n:=(n:Int).toNat) (fun i zs H2=>H2=Ha/\zs=M9 i V.non) (by rw[Ng];exact NM (ax (by omega))) ⟨rfl,rfl⟩ ?_ ?_⟩
 ·rintro i zs H2 hi ⟨rfl,rfl⟩
  exact⟨rfl,by rw[Pe]⟩
 rintro zs H2 _ ⟨rfl,rfl⟩ ta hta
 rw[Ng]
 have z1:=aq hta (.lst (M9 n V.non))
 refine⟨_,rfl,_,rfl,by omega,by omega,fM (n:=(n:Int).toNat) (fun i zs H3=>H3=upd H2 ta (.lst (M9 n V.non))/\zs=M9 i V.non) (by rw[Ng];exact NM (ax (by omega))) ⟨rfl,rfl⟩ ?_ ?_⟩
 ·rintro i zs H3 hi ⟨rfl,rfl⟩
  exact⟨rfl,by rw[Pe]⟩
 rintro zs H3 _ ⟨rfl,rfl⟩ va hva
 rw[Ng]
 have ntv:ta≠va:=fun z=>by rw[← z,ag]at hva;cases hva
 have z2:=aq hva (.lst (M9 n V.non))
 refine⟨_,rfl,_,rfl,ta,_,_,st0,rfl,rfl,by rw[ao ntv];exact ag,pD (by rw[OC];exact hs),?_⟩
 intro wd hwd
 refine⟨_,rfl,ag,[kw st0],rfl,(by show 1<=15;decide),?_⟩
 have ntw:ta≠wd:=fun z=>by rw[← z,ag]at hwd;cases hwd
 have hva0:H2 va=none:=gZ z1 hva
 have hwd0:(upd (upd H2 ta (.lst (M9 n V.non))) va (.lst (M9 n V.non))) wd=none:=by rw[ao (Ne.symm ntw)]at hwd;exact hwd
 have nvw:va≠wd:=fun z=>by rw[← z,ag]at hwd0;cases hwd0
 have hwd1:H2 wd=none:=gZ (z1.trans z2) hwd0
 have hT0:H TT≠none:=by rcases tb0 with y | ⟨_,y,_⟩<;>rw[y]<;>simp
 have hT2:H2 TT≠none:=by
  cases y:H TT with
  |none=>exact absurd y hT0
  |some o=>rw[sa _ _ y];simp
 have nTt:ta≠TT:=fun z=>hT2 (z▸hta)
 have nTv:va≠TT:=fun z=>hT2 (z▸hva0)
 have nTw:wd≠TT:=fun z=>hT2 (z▸hwd1)
 have sm1:Same H2 (upd (upd (upd (upd (upd H2 ta (.lst (M9 n V.non))) va (.lst (M9 n V.non))) ta (.lst ((M9 n V.non).set st0 (.int 0)))) wd (.dK [])) wd (.dK (jy [] [kw st0]))):=aW (aW (aW (z1.trans z2) hta _) hwd1 _) hwd1 _
 have eT:((M9 n V.non).set st0 (.int 0))=((M9 n (none:Option Int)).set st0 (some 0)).map oV:=by rw[List.map_set,List.map_replicate];rfl
 have eV:(M9 n V.non)=(M9 n (none:Option Nat)).map oN:=by rw[List.map_replicate];rfl
 have g1:(upd (upd (upd (upd (upd H2 ta (.lst (M9 n V.non))) va (.lst (M9 n V.non))) ta (.lst ((M9 n V.non).set st0 (.int 0)))) wd (.dK [])) wd (.dK (jy [] [kw st0]))) ta=some (.lst (((M9 n (none:Option Int)).set st0 (some 0)).map oV)):=by
  rw[ao ntw,ao ntw,← eT];exact ag
 have g2:(upd (upd (upd (upd (upd H2 ta (.lst (M9 n V.non))) va (.lst (M9 n V.non))) ta (.lst ((M9 n V.non).set st0 (.int 0)))) wd (.dK [])) wd (.dK (jy [] [kw st0]))) va=some (.lst ((M9 n (none:Option Nat)).map oN)):=by
  rw[ao nvw,ao nvw,ao (Ne.symm ntv),← eV];exact ag
 have g3:(upd (upd (upd (upd (upd H2 ta (.lst (M9 n V.non))) va (.lst (M9 n V.non))) ta (.lst ((M9 n V.non).set st0 (.int 0)))) wd (.dK [])) wd (.dK (jy [] [kw st0]))) wd=some (.dK ([st0].map kw)):=ag
 generalize (upd (upd (upd (upd (upd H2 ta (.lst (M9 n V.non))) va (.lst (M9 n V.non))) ta (.lst ((M9 n V.non).set st0 (.int 0)))) wd (.dK [])) wd (.dK (jy [] [kw st0])))=H1 at sm1 g1 g2 g3
 have sH:Same H H1:=sa.trans sm1
 have nS:∀ b,H2 b≠none->b≠TT->¬ sF ta va wd TT b:=fun b hb nT z=>by
  rcases z with z | z | z | z
  ·exact nT z
  ·exact hb (z▸hta)
  ·exact hb (z▸hva0)
  ·exact hb (z▸hwd1)
 have sg:Sg la aa ta va wd TT n st0 ls xs ys rows H1:=⟨sH _ _ hA,hL.imp fun _ _ q=>q.mono sH,ok,sm1 _ _ haa,⟨rx.1,fun i l e=>by
   obtain⟨p,p1,p2,p3⟩:=rx.2 i l e
   exact⟨p,p1,nS p (by rw[p3];simp) (fun z=>p2 (.inr (z▸hT0))),sm1 _ _ p3⟩⟩,am,nS la (by rw[sa _ _ hA];simp) (fun z=>by rcases tb0 with y | ⟨_,y,_⟩<;>rw[← z,hA]at y<;>cases y),nS aa (by rw[haa];simp) (fun z=>hT0 (z▸haa0)),(fun t o e z=>by
   rcases z with z | z | z | z
   ·rw[z]at e
    rcases tb0 with y | ⟨_,y,_⟩<;>rw[sH _ _ y]at e<;>cases e
   ·rw[z,g1]at e;cases e
   ·rw[z,g2]at e;cases e
   ·rw[z,g3]at e;cases e),ntv,ntw,nvw,nTt,nTv,nTw⟩
 have tb1:Tb lqF lpF TT H1:=by
  rcases tb0 with y | ⟨c',y1,y2⟩
  ·exact .inl (sH _ _ y)
  ·exact .inr ⟨c',sH _ _ y1,sH _ _ y2⟩
 refine fQ (FrI la aa ta va wd TT n st0 ls H1) (fun _ H'=>mesH n ta wd H') ⟨_,_,_,_,_,_,[st0],rfl,⟨fun _ _ _ e=>e,g1,g2,g3,tb1,FI.first ok.w0 hs,Nb.mpr ⟨(by simp),OW⟩⟩⟩ ?_ ?_
 ·rintro σ H3 ⟨v7,v8,v9,v10,TL,VL,W,rfl,fh⟩
  refine⟨_,rfl,fun p hp=>?_⟩
  have fh3:=fh.new hp (.dK [])
  refine⟨wd,p,W.map kw,rfl,rfl,fh3.hw,ag,_,rfl,?_⟩
  refine ite2 (fun c=>?_) (fun c=>?_)
  ·have ne:W.map kw≠[]:=fun z=>by rw[z]at c;cases c
   refine⟨_,rfl,wd,W.map kw,ta,_,rfl,fh3.hw,ne,rfl,fh3.ht,fh3.tb,fun kv hkv=>?_,fun kv hkv H4 sm4 tb4=>?_⟩
   ·obtain⟨r,hr,rfl⟩:=NL.mp hkv
    obtain⟨x,hx⟩:=fh3.fi.wk r hr
    exact⟨r,x,rfl,F2 hx⟩
   obtain⟨r,hr,rfl⟩:=NL.mp hkv
   have fh4:=fh3.tab nTt nTv nTw sm4 tb4
   obtain⟨x,hx⟩:=fh4.fi.wk r hr
   refine⟨_,rfl,wd,rfl,.inl ⟨_,.inl fh4.hw⟩,_,rfl,W.map kw,.inl (r:Int),.bl true,fh4.hw,rfl,EB hr,?_⟩
   rw[Ba]
   have mW:∀ y,y∈W.filter (fun x=>decide (x≠r))↔y∈W/\y≠r:=fun y=>by rw[OS];simp
   have lW:(W.filter (fun x=>decide (x≠r))).length<W.length:=by
    refine Nat.lt_of_le_of_ne (Pd _ _) fun z=>?_
    have:=List.filter_eq_self.mp (List.Sublist.eq_of_length (List.filter_sublist ..) z) r hr
    simp at this
   refine⟨aa,ta,va,wd,xs,ys,rows,H1,_,_,_,TL,VL,_,r,W.length,sg,rfl,⟨fh4.kp.upd (.inr (.inr (.inr rfl))) _,by rw[ao ntw];exact fh4.ht,by rw[ao nvw];exact fh4.hv,ag,tD fh4.tb fun b hb=>ao fun z=>?_,fh4.fi.take mW,fh4.nd.filter _⟩,⟨x,hx⟩,lW,fun σ' H' y1 y2=>⟨y1,by rw[fh.mes];exact y2⟩⟩
   rcases hb with hb | ⟨c',hb⟩
   ·exact nTw (z▸hb)
   ·rw[z,fh4.hw]at hb;cases hb
  ·have e0:W = []:=by
    cases W with
    |nil=>rfl
    |cons a b=>exact absurd rfl c
   subst e0
   refine⟨_,rfl,_,rfl,(by show 2<=sizeLine;decide),fun t ht=>?_⟩
   have fh4:=fh3.new ht (.tup [.ref ta,.ref va])
   refine kk t ta va TL VL _ (fun b o nb e=>?_) fh4.tb (gZ sa hta) (gZ sa hva0) ag fh4.ht fh4.hv fh4.fi
   exact fh4.kp _ _ (nS b (by rw[sa _ _ e];simp) nb) (sH _ _ e)
 ·rintro σ H4 Q1 Q2 hi ⟨v1,e1,h⟩
  refine⟨v1,e1,fun p hp=>?_⟩
  obtain⟨a,b,kvs,q1,q2,q3,q4,c',q5,q6⟩:=h p hp
  exact⟨a,b,kvs,q1,q2,q3,q4,c',q5,hi _ _ q6⟩
end
end KF
namespace KF
open PySem L2
local macro_rules | `(tactic| walk_at "cc") => `(tactic| first | exact ⟨by decide, by decide⟩ | (show (0 : Int) < _; decide) | (show (0 : Int) < _; omega) | (show (0 : Int) ≤ _; omega) | exact ⟨by decide, by decide, by decide⟩ | exact ⟨by omega, by omega, by decide⟩ | exact Or.inl ⟨by decide, by decide⟩ | exact Or.inl ⟨by omega, by omega⟩)
local macro_rules | `(tactic| walk_at "rd") => `(tactic| repeat (first | refine ⟨_, rfl, ?_⟩ | refine ⟨_, _, rfl, rfl, ?_⟩ | refine ⟨rfl, ?_⟩ | (refine ⟨?cc, ?_⟩; (case cc => walk_at "cc"))))
theorem andN(a b:Nat):Builtin.bitAnd (a:Int) (b:Int)=((a&&&b:Nat):Int):=by
 rw[PyProof.Rows.bitAnd_pp (O5 _) (O5 _),Ng,Ng]
theorem shlN(p:Nat):(1:Int)*2^((p:Nat):Int).toNat=((2^p:Nat):Int):=by
 rw[Qj,Ng,Qk]
 rfl
theorem xa(m n:Nat):(m^^^n)+2*(m&&&n)=m+n:=by
 have h:=PyProof.Rows.nat_or_add_and m n
 have h2:(m|||n)=(m^^^n)+(m&&&n):=by
  have e:(m^^^n)+(m&&&n)=(m^^^n)|||(m&&&n):=by
   have q:=PyProof.Rows.nat_or_add_and (m^^^n) (m&&&n)
   have z:(m^^^n)&&&(m&&&n)=0:=by
    apply NF
    intro i
    simp only[Oo,NT,NK]
    cases m.testBit i<;>cases n.testBit i<;>rfl
   omega
  rw[e]
  apply NF
  intro i
  simp only[Oo,NT,Ol]
  cases m.testBit i<;>cases n.testBit i<;>rfl
 omega
theorem xorN(a b:Nat):Builtin.bitXor (a:Int) (b:Int)=((a^^^b:Nat):Int):=by
 rw[PyProof.Rows.bitXor_and,andN]
 have q:=xa a b
 omega
noncomputable def bl(c:Nat):List Nat:=K2.bitsF 0 c
theorem HB(c:Nat):(bl c).Pairwise (· < ·):=K2.bitsF_sorted c c 0 (MT _)
theorem bl_nd(c:Nat):(bl c).Nodup:=K2.nodup_of_lt (HB c)
theorem mem_bl{c x:Nat}:x∈bl c↔c.testBit x=true:=by
 have e:K2.S (K2.bitsF 0 c)=c:=by
  have:=K2.bitsF_sum c c 0 (MT _)
  rw[this,Nat.pow_zero,Nat.mul_one]
 have b:=K2.S_bit (bl_nd c) x
 unfold bl at b ⊢
 rw[e]at b
 rw[b,decide_eq_true_iff]
theorem bl_lt{c m x:Nat}(h:c<2^m)(hx:x∈bl c):x<m:=by
 have:=K2.bitsF_lt m c 0 h x hx
 omega
theorem BE:bl 0 = []:=K2.bitsF_zero 0
noncomputable def cut2(c f t:Nat):Nat:=c^^^2^f^^^2^t
theorem og{c f t:Nat}(hf:f∈bl c)(ht:t∈bl c)(n:f≠t)(x:Nat):x∈bl (cut2 c f t)↔x∈bl c/\x≠f/\x≠t:=by
 rw[mem_bl]at hf ht
 rw[mem_bl,mem_bl]
 unfold cut2
 rw[NT,NT,Nu,Nu]
 by_cases c1:x=f
 ·subst c1
  rw[hf]
  simp[Ne.symm n]
 ·by_cases c2:x=t
  ·subst c2
   rw[ht]
   simp[n]
  ·have c1':¬ f=x:=fun z=>c1 z.symm
   have c2':¬ t=x:=fun z=>c2 z.symm
   simp[c1,c2,c1',c2']
theorem Hf{c f t:Nat}{rest:List Nat}(e:bl c=f::rest)(ht:t∈rest):(bl (cut2 c f t)).Perm (rest.erase t):=by
 have nd:=bl_nd c
 rw[e]at nd
 obtain⟨n1,n2⟩:=Nb.mp nd
 have nf:f≠t:=fun z=>n1 (z▸ht)
 refine(N9 (bl_nd _) (n2.erase _)).mpr fun x=>?_
 rw[og (by rw[e];exact M3 ..) (by rw[e];exact MY _ ht) nf,e,n2.mem_erase_iff,MV]
 constructor
 ·rintro⟨h1 | h1,h2,h3⟩
  ·exact absurd h1 h2
  ·exact⟨h3,h1⟩
 ·rintro⟨h1,h2⟩
  exact⟨.inr h2,fun z=>n1 (z▸h2),h1⟩
theorem Mr{c f t m:Nat}(h:c<2^m)(hf:f<m)(ht:t<m):cut2 c f t<2^m :=
 Oz (Oz h (Oa (by decide) hf)) (Oa (by decide) ht)
noncomputable def Opt(D:Nat->Nat->Int)(l:List Nat)(t:Int):Prop:=Cs D l t/\∀ c,Cs D l c->t<=c
theorem Opt.perm{D:Nat->Nat->Int}{l l':List Nat}{t:Int}(h:Opt D l t)(p:l.Perm l'):Opt D l' t:=⟨h.1.perm p,fun c z=>h.2 c (z.perm p.symm)⟩
theorem Opt.nil{D:Nat->Nat->Int}:Opt D [] 0:=by
 refine⟨⟨[],.refl _,rfl⟩,fun c h=>?_⟩
 obtain⟨PL,p,e⟩:=h
 cases PL with
 |nil=>rw[← e];exact Oj _
 |cons q r=>have:=p.length_eq;cases this
theorem Opt.step{D:Nat->Nat->Int}(sy:∀ a b,D a b=D b a){f t0:Nat}{rest:List Nat}{tr0:Int}(h0:t0∈rest)(o0:Opt D (rest.erase t0) tr0)(hm:∀ t∈rest,∃ tr,Opt D (rest.erase t) tr/\D f t0+tr0<=D f t+tr):Opt D (f::rest) (D f t0+tr0):=by
 refine⟨(o0.1.add f t0).perm ((List.perm_cons_erase h0).symm.cons f),fun c hc=>?_⟩
 obtain⟨e,R,c0,p,hR,ec⟩:=hc.part sy (M3 ..)
 have p1:rest.Perm (e::R):=p.cons_inv
 have er:e∈rest:=p1.mem_iff.mpr (M3 ..)
 have p2:R.Perm (rest.erase e):=by
  have:=(p1.erase e).symm
  rw[OE]at this
  exact this
 obtain⟨tr,o1,h2⟩:=hm e er
 have h1:=o1.2 c0 (hR.perm p2)
 omega
noncomputable def BtAt(H:Hp)(v:V)(D:Nat->Nat->Int)(m:Nat):Prop:=∃ a ys,v=.ref a/\H a=some (.lst ys)/\∀ i,i<m->∃ p xs,ys[i]?=some (.ref p)/\H p=some (.lst xs)/\∀ k,k<m->xs[k]?=some (.int (D i k))
noncomputable def mF(H:Hp)(v:V)(t:Int):Prop:=∃ a y z,v=.ref a/\H a=some (.tup [.int t,y,z])
noncomputable def Ent(H:Hp)(D:Nat->Nat->Int)(m:Nat)(kvs:List (Key×V))(c:Nat)(v:V):Prop:=c<2^m/\((c=0/\mF H v 0)∨∃(t:Int)(f g:Nat)(a:Addr)(vr:V)(tr:Int),v=.ref a/\H a=some (.tup [.int t,.int (f:Int),.int (g:Int)])/\f∈bl c/\g∈bl c/\f≠g/\valV kvs (.inl ((cut2 c f g:Nat):Int))=some vr/\mF H vr tr/\t=D f g+tr/\Opt D (bl c) t)
structure TI(H:Hp)(D:Nat->Nat->Int)(m:Nat)(kvs:List (Key×V)):Prop where
 en:∀ k v,valV kvs k=some v->∃ c:Nat,k=.inl (c:Int)/\Ent H D m kvs c v
 z:∃ v,valV kvs (.inl ((0:Nat):Int))=some v
 nd:(kvs.map (·.1)).Nodup
noncomputable def Grw(kvs kvs':List (Key×V))(n:Nat):Prop:=(∀ k v,valV kvs k=some v->valV kvs' k=some v)/\∀ c:Nat,valV kvs (.inl (c:Int))=none->valV kvs' (.inl (c:Int))≠none->(bl c).length<=n
noncomputable def Tps(H H':Hp):Prop:=∀ a xs,H a=some (.tup xs)->H' a=some (.tup xs)
theorem mF.mono{H H':Hp}{v:V}{t:Int}(h:mF H v t)(s:Tps H H'):mF H' v t:=by
 obtain⟨a,y,z,e,q⟩:=h
 exact⟨a,y,z,e,s _ _ q⟩
theorem Ent.cost{H:Hp}{D:Nat->Nat->Int}{m c:Nat}{kvs:List (Key×V)}{v:V}(h:Ent H D m kvs c v):∃ t,mF H v t/\Opt D (bl c) t:=by
 obtain⟨_,⟨rfl,h⟩ | ⟨t,f,g,a,vr,tr,e1,e2,_,_,_,_,_,_,e9⟩⟩:=h
 ·exact⟨0,h,by rw[BE];exact Opt.nil⟩
 ·exact⟨t,⟨a,_,_,e1,e2⟩,e9⟩
theorem Ent.mono{H H':Hp}{D:Nat->Nat->Int}{m c:Nat}{kvs kvs':List (Key×V)}{v:V}(h:Ent H D m kvs c v)(s:Tps H H')(g:∀ k v,valV kvs k=some v->valV kvs' k=some v):Ent H' D m kvs' c v:=by
 obtain⟨h0,⟨e,h⟩ | ⟨t,f,g',a,vr,tr,e1,e2,e3,e4,e5,e6,e7,e8,e9⟩⟩:=h
 ·exact⟨h0,.inl ⟨e,h.mono s⟩⟩
 ·exact⟨h0,.inr ⟨t,f,g',a,vr,tr,e1,s _ _ e2,e3,e4,e5,g _ _ e6,e7.mono s,e8,e9⟩⟩
theorem TI.mono{H H':Hp}{D:Nat->Nat->Int}{m:Nat}{kvs:List (Key×V)}(h:TI H D m kvs)(s:Tps H H'):TI H' D m kvs:=⟨fun k v e=>by
 obtain⟨c',e1,e2⟩:=h.en k v e
 exact⟨c',e1,e2.mono s fun _ _ z=>z⟩,h.z,h.nd⟩
theorem TrA.mono{H H':Hp}{v:V}{t:T3}(h:TrA H v t)(s:Tps H H'):TrA H' v t:=by
 obtain⟨a,e,q⟩:=h
 exact⟨a,e,s _ _ q⟩
theorem TbS.tps{H H':Hp}{tb:Addr}{kvs:List (Key×V)}(s:TbS tb H H')(ht:H tb=some (.dK kvs)):Tps H H':=fun a xs q=>s _ _ (fun w=>by rw[w,ht]at q;cases q) q
theorem BtAt.mono{H H':Hp}{D:Nat->Nat->Int}{m:Nat}{v:V}{tb:Addr}{kvs:List (Key×V)}(h:BtAt H v D m)(ht:H tb=some (.dK kvs))(s:TbS tb H H'):BtAt H' v D m:=by
 obtain⟨a,ys,e,q,r⟩:=h
 refine⟨a,ys,e,s _ _ (fun w=>by rw[w,ht]at q;cases q) q,fun i hi=>?_⟩
 obtain⟨p,xs,r1,r2,r3⟩:=r i hi
 exact⟨p,xs,r1,s _ _ (fun w=>by rw[w,ht]at r2;cases r2) r2,r3⟩
theorem xy{α β:Type}{f:α->β}:∀{l:List α},l.Nodup->(∀ a∈l,∀ b∈l,f a=f b->a=b)->(l.map f).Nodup
 |[],_,_=>OW
 |x::l,nd,h=>by
  obtain⟨n1,n2⟩:=Nb.mp nd
  rw[Nj]
  refine Nb.mpr ⟨fun z=>?_,xy n2 fun a ha b hb=>h a (MY _ ha) b (MY _ hb)⟩
  obtain⟨y,hy,e⟩:=NL.mp z
  exact n1 (h x (M3 ..) y (MY _ hy) e.symm▸hy)
theorem TI.len{H:Hp}{D:Nat->Nat->Int}{m:Nat}{kvs:List (Key×V)}(h:TI H D m kvs)(hm:m<=14):kvs.length<sizeLine:=by
 have key:∀ k∈kvs.map (·.1),∃ c:Nat,k=Sum.inl (c:Int)/\c<2^m:=fun k hk=>by
  cases hv:valV kvs k with
  |none=>exact absurd hk (B8 hv)
  |some v =>
   obtain⟨c,e,q⟩:=h.en k v hv
   exact⟨c,e,q.1⟩
 have l1:((kvs.map (·.1)).map fun k:Key=>match k with | .inl i=>i.toNat | .inr _=>0).Nodup:=by
  refine xy h.nd fun a ha b hb e=>?_
  obtain⟨c1,rfl,_⟩:=key a ha
  obtain⟨c2,rfl,_⟩:=key b hb
  have e':c1=c2:=by simpa using e
  rw[e']
 have l2:=kL (2^m) _ l1 fun x hx=>by
  obtain⟨k,hk,rfl⟩:=NL.mp hx
  obtain⟨c,rfl,hc⟩:=key k hk
  simpa using hc
 rw[M7,M7]at l2
 have:2^m<=2^14:=NZ (by decide) hm
 have e14:(2:Nat)^14=16384:=by decide
 have:=PySem.sizeLine_eq
 omega
noncomputable def restR(tb:Addr)(bv:V)(c m:Nat)(D:Nat->Nat->Int)(kvs:List (Key×V))(H0:Hp)(Q:VK):TS:=fun D0 σ H=>∃(v4 v5 v6 v7 v8:Option V)(kvs':List (Key×V))(v:V),σ = [some bv,some (.int (c:Int)),some (.ref tb),v4,v5,v6,v7,v8]/\TbS tb H0 H/\H tb=some (.dK kvs')/\TI H D m kvs'/\Grw kvs kvs' (bl c).length/\valV kvs' (.inl (c:Int))=some v/\∀ x H',Q x H'->D0.rt x H'
noncomputable def LpI(bv:V)(tb r wa:Addr)(c f m:Nat)(D:Nat->Nat->Int)(kvs:List (Key×V))(rest:List Nat)(Hb:Hp)(i:Nat)(σ:St)(H:Hp):Prop:=∃(v7 v8:Option V)(kvs2:List (Key×V))(ws:List T3)(ys:List V),σ = [some bv,some (.int (c:Int)),some (.ref tb),some (.ref r),some (.int (f:Int)),some (.ref wa),v7,v8]/\(∀ b o,b≠tb->b≠wa->Hb b=some o->H b=some o)/\H tb=some (.dK kvs2)/\TI H D m kvs2/\Grw kvs kvs2 (rest.length-1)/\H wa=some (.lst ys)/\LsAt TrA H ys ws/\ws.length=i /\
 ∀(idx t:Nat),(rest.take i)[idx]?=some t->∃(tr:Int)(vr:V),ws[idx]?=some (D f t+tr,(f:Int),(t:Int))/\Opt D (rest.erase t) tr/\valV kvs2 (.inl ((cut2 c f t:Nat):Int))=some vr/\mF H vr tr
noncomputable def spLaid(D:Nat->Nat->Int)(m j:Nat):Sp:=fun vs H Q _=>∃(bv:V)(tb:Addr)(c:Nat)(kvs:List (Key×V)),vs = [bv,.int (c:Int),.ref tb]/\BtAt H bv D m/\H tb=some (.dK kvs)/\TI H D m kvs/\c<2^m/\m<=14/\(bl c).length<2*j/\(bl c).length%2=0 /\
 ∀ v t kvs' H',TbS tb H H'->H' tb=some (.dK kvs')->TI H' D m kvs'->Grw kvs kvs' (bl c).length->valV kvs' (.inl (c:Int))=some v->mF H' v t->Opt D (bl c) t->Q v H'
section
variable{P:Program}{w:World}{K:MQ}{mg:Str->Option Value}{base:Heap}
theorem bb:av ["between","chosen","table","numbers","first","ways","mate","rest"] ["between","chosen","table"] (ah aU):=⟨rfl,rfl,rfl,by decide +kernel,rfl,by decide +kernel,by decide +kernel⟩
theorem IT{f f1:Addr}{fd fd1:FuncData}{D:Nat->Nat->Int}{m j:Nat}(sy:∀ a b,D a b=D b a) (F:Fun K "laid_in_pairs" "laid_in_pairs" aU f fd) (T:Txt mg) (G_bits:Cal P w K mg base 1 "bits" ["mask"] spBits f1 fd1) (G_laid_in_pairs:Cal P w K mg base (j+2) "laid_in_pairs" ["between","chosen","table"] (spLaid D m j) f fd):FnOk P w K mg base CX0 (j+3) f fd ["between","chosen","table"] (spLaid D m (j+1)):=by
 refine F.ok bb (fun vs H Q E h=>?_) (fun cdv A outer s H vs Q E hr h=>?_)
 ·obtain⟨bv,tb,c,kvs,rfl,_⟩:=h
  rfl
 obtain⟨bv,tb,c,kvs,rfl,hB,hT,ti,hc,m14,len,ev,kk⟩:=h
 have hu:=GK hr
 have hu64:=hr.units
 refine⟨_,(af (bL (J1 (w6 hu (pv 1) (pv 2))) (af (ar (i:=3) bb.nd rfl (Or.inl rfl) (az G_bits.ok (hr.mono (by omega)) rfl G_bits.mg G_bits.kp G_bits.bn .nil aR (ae (pv 1) aj)))
   (af (ar (i:=4) bb.nd rfl (Or.inl rfl) (aD aA (pv 3) ai (fun _ _=>rfl)))
   (af (ar (i:=5) bb.nd rfl (Or.inl rfl) (dm aj))
   (af (cD PassesOwn.never rfl (bo (uo zh (pv 3) (zH ai) zI)) (aL (i:=6) bb.nd rfl (Or.inl rfl)) (af (ar (i:=7) bb.nd rfl (Or.inl rfl) (aB oK (aB oK (pv 1) (aB de ai (pv 4))) (aB de ai (pv 6))))
   (ak (bC (kK NB NH NG bu (pv 5) (ae (bP (ae (aB dZ (aD aA (aD aA (pv 0) (pv 4) (fun _ _=>rfl)) (pv 6) (fun _ _=>rfl)) (aD aS (az G_laid_in_pairs.ok (hr.mono (by omega)) rfl G_laid_in_pairs.mg G_laid_in_pairs.kp G_laid_in_pairs.bn .nil aR (ae (pv 0) (ae (pv 7) (ae (pv 2) aj)))) ai (fun _ _=>rfl))) (ae (pv 4) (ae (pv 6) aj)))) aj))))))
   (ak (t8 hu (pv 2) (pv 1) (aM (Hu rfl hu64) (by rfl) T.n_min Kq (ae (pv 5) aj)) rfl)))))) aP)
   (zG (t2:=restR tb bv c m D kvs H Q) (ak (aE (oI hu (pv 2) (pv 1) (fun _ _=>rfl)))) (fun D0 S0 H0 h0=>?restr))),?_⟩
 case restr =>
  obtain⟨v4,v5,v6,v7,v8,kvs',v,rfl,sT,hT',ti',gr,hv,kq⟩:=h0
  obtain⟨c',e,en⟩:=ti'.en _ v hv
  have ec:c'=c:=by
   have:((c:Nat):Int)=(c':Int):=by injection e
   omega
  subst ec
  obtain⟨t,h1,h2⟩:=en.cost
  refine⟨_,rfl,_,rfl,tb,v,rfl,by have:=DGet.k (k:=.inl ((c':Nat):Int)) hT';rw[hv]at this;exact this,?_⟩
  exact kq _ _ (kk v t kvs' H0 sT hT' ti' gr hv h1 h2)
 refine⟨_,rfl,_,rfl,tb,_,rfl,DGet.k (k:=.inl ((c:Nat):Int)) hT,_,rfl,?_⟩
 cases hv:valV kvs (.inl ((c:Nat):Int)) with
 |some v =>
  exact iteF ⟨_,_,_,_,_,kvs,v,rfl,(fun _ _ _ e=>e),hT,ti,⟨fun _ _ z=>z,fun c' z1 z2=>absurd z1 z2⟩,hv,fun _ _ z=>z⟩
 |none =>
  refine iteT ?_
  have c0:c≠0:=fun z=>by
   subst z
   obtain⟨v0,hv0⟩:=ti.z
   rw[hv]at hv0;cases hv0
  obtain⟨f,rest,ebl⟩:∃ f rest,bl c=f::rest:=by
   cases q:bl c with
   |cons f rest=>exact⟨f,rest,rfl⟩
   |nil =>
    refine absurd (NF fun i=>?_) c0
    rw[NK]
    cases z:c.testBit i with
    |false=>rfl
    |true =>
     have:=mem_bl.mpr z
     rw[q]at this;cases this
  have nd:=bl_nd c
  rw[ebl]at nd
  obtain⟨nf,ndr⟩:=Nb.mp nd
  have rlen:(bl c).length=rest.length+1:=by rw[ebl,Nv]
  have flt:f<m:=bl_lt hc (by rw[ebl];exact M3 ..)
  have tlt:∀ t∈rest,t<m:=fun t ht=>bl_lt hc (by rw[ebl];exact MY _ ht)
  have rm:rest.length+1<=m:=by
   rw[← rlen]
   exact kL m _ (bl_nd c) fun x hx=>bl_lt hc hx
  have c14:c<16384:=by
   have:2^m<=2^14:=NZ (by decide) m14
   have e14:(2:Nat)^14=16384:=by decide
   omega
  refine⟨_,rfl,(c:Int),rfl,by omega,by omega,fun r H1 s1 hr0 hr1=>?_⟩
  have enb:(K2.bitsF 0 ((c:Nat):Int).toNat).map iV=iV f::rest.map iV:=by
   rw[Ng]
   show(bl c).map iV=_
   rw[ebl,Nj]
  rw[enb]at hr1
  refine⟨_,rfl,r,_,0,_,rfl,rfl,SqL.of hr1,(show atI (iV f::rest.map iV) ((0:Nat):Int)=some (iV f) from aJ rfl),?_⟩
  refine⟨(by show 0<=sizeLine;decide),fun wa hwa=>?_⟩
  have s2:=aq hwa (.lst [])
  refine⟨_,rfl,_,rfl,r,_,rfl,SqL.of (s2 _ _ hr1),fun sl hsl=>?_⟩
  have ecut:cutV (iV f::rest.map iV) (some 1) none=rest.map iV:=by
   have e1:HT.sIx (iV f::rest.map iV).length 0 (some ((1:Nat):Int))=1:=by rw[HT.sIx_nat,Nv,M7];omega
   unfold cutV
   rw[show(some (1:Int))=some ((1:Nat):Int) from rfl,e1,HT.sIx_none,List.drop_succ_cons,List.drop_zero,Nv]
   exact O6 (by omega)
  rw[ecut]
  have s3:=aq hsl (.lst (rest.map iV))
  have s13:Same H (upd (upd H1 wa (.lst [])) sl (.lst (rest.map iV))):=s1.trans (s2.trans s3)
  have wsl:wa≠sl:=fun z=>by rw[← z,ag]at hsl;cases hsl
  have g1:(upd (upd H1 wa (.lst [])) sl (.lst (rest.map iV))) wa=some (.lst []):=by rw[ao wsl];exact ag
  have g2:=ag (H:=upd H1 wa (.lst [])) (a:=sl) (o:=.lst (rest.map iV))
  have wa0:H wa=none:=gZ s1 hwa
  generalize (upd (upd H1 wa (.lst [])) sl (.lst (rest.map iV)))=Hb at s13 g1 g2
  have hTb:=s13 _ _ hT
  have wtb:wa≠tb:=fun z=>by rw[z,hT]at wa0;cases wa0
  have sltb:sl≠tb:=fun z=>by rw[z,hTb]at g2;cases g2
  have tsb:TbS tb H Hb:=fun b o _ e=>s13 _ _ e
  have tib:TI Hb D m kvs:=ti.mono fun a xs q=>s13 _ _ q
  have btb:BtAt Hb bv D m:=hB.mono hT tsb
  refine⟨sl,rfl,⟨_,SqL.of g2⟩,cG (K:=K) (xs:=rest.map iV) (LpI bv tb r wa c f m D kvs rest Hb) ⟨_,_,kvs,[],[],rfl,fun _ _ _ _ e=>e,hTb,tib,⟨fun _ _ z=>z,fun c' z1 z2=>absurd z1 z2⟩,g1,LsAt.nil,rfl,fun idx t e=>by simp at e⟩ (fun i σ H2 _ ⟨_,_,_,_,_,_,z,_⟩=>SqL.of (z _ _ sltb (Ne.symm wsl) g2)) ?_ ?_⟩
  ·rintro i x σ H2 hx ⟨v7,v8,kvs2,ws,ys,rfl,k2,hT2,ti2,gr2,hwa2,hL,wl,done⟩
   rw[Nq]at hx
   obtain⟨t,ht,rfl⟩:=NI.mp hx
   have tm:=MP ht
   have tl:=tlt t tm
   have ftn:f≠t:=fun z=>nf (z▸tm)
   have cp:=Hf ebl tm
   have cl:(bl (cut2 c f t)).length+1=rest.length:=by
    rw[cp.length_eq,Px tm]
    have:=Oy tm
    omega
   refine⟨_,rfl,_,rfl,_,_,rfl,rfl,⟨by show(0:Int)<=(f:Int);omega,by show(f:Int)<=1000000;omega,by decide⟩,_,_,rfl,rfl,_,rfl,_,_,rfl,rfl,⟨by show(0:Int)<=(t:Int);omega,by show(t:Int)<=1000000;omega,by decide⟩,_,_,rfl,rfl,?_⟩
   have ec:Builtin.bitXor (Builtin.bitXor (c:Int) (1*2^((f:Nat):Int).toNat)) (1*2^((t:Nat):Int).toNat)=((cut2 c f t:Nat):Int):=by rw[shlN,shlN,xorN,xorN];rfl
   simp only[ec]
   have yl:=hL.1
   have upL:∀ b zs,H b=some (.lst zs)->H2 b=some (.lst zs):=fun b zs q=>k2 b _ (fun z=>by rw[z,hT]at q;cases q) (fun z=>by rw[z,wa0]at q;cases q) (s13 _ _ q)
   obtain⟨ba,zs,rfl,hba,rr⟩:=id hB
   have bt2:BtAt H2 (.ref ba) D m:=⟨ba,zs,rfl,upL _ _ hba,fun i' hi'=>by
    obtain⟨p,xs,r1,r2,r3⟩:=rr i' hi'
    exact⟨p,xs,r1,upL _ _ r2,r3⟩⟩
   obtain⟨p,xs,r1,r2,r3⟩:=rr f flt
   refine⟨_,rfl,.inl ⟨rfl,_,SqL.of hwa2⟩,_,rfl,_,rfl,ba,_,_,_,rfl,rfl,SqL.of (upL _ _ hba),aJ r1,_,rfl,p,_,_,_,rfl,rfl,SqL.of (upL _ _ r2),aJ (r3 t tl),_,rfl,_,rfl,_,rfl,.ref ba,tb,cut2 c f t,kvs2,rfl,bt2,hT2,ti2,Mr hc flt tl,m14,by omega,by omega,fun v tr kvs3 H3 sT3 hT3 ti3 gr3 hv3 cv3 op3=>?_⟩
   obtain⟨va,y,z,rfl,hva⟩:=id cv3
   refine⟨va,_,0,_,rfl,rfl,SqT.of hva,a30,_,_,rfl,rfl,_,rfl,_,rfl,(by show 3<=sizeLine;decide),fun t3 ht3=>?_⟩
   have s4:=aq ht3 (.tup [.int (D f t+tr),.int (f:Int),.int (t:Int)])
   have hwa3:H3 wa=some (.lst ys):=sT3 _ _ wtb hwa2
   have itl:i<rest.length:=(MO.mp ht).1
   refine⟨wa,ys,_,rfl,rfl,s4 _ _ hwa3,ax (by omega),?_⟩
   have tp23:Tps H2 H3:=TbS.tps sT3 hT2
   have tp35:Tps H3 (upd (upd H3 t3 (.tup [.int (D f t+tr),.int (f:Int),.int (t:Int)])) wa (.lst (ys++[.ref t3]))):=fun a xs q=>by
    rw[ao (fun z=>by rw[z,hwa3]at q;cases q)]
    exact s4 _ _ q
   have tp25:Tps H2 (upd (upd H3 t3 (.tup [.int (D f t+tr),.int (f:Int),.int (t:Int)])) wa (.lst (ys++[.ref t3]))):=fun a xs q=>tp35 _ _ (tp23 _ _ q)
   have wt3:t3≠wa:=fun z=>by rw[z,hwa3]at ht3;cases ht3
   refine⟨_,_,kvs3,ws++[(D f t+tr,(f:Int),(t:Int))],ys++[.ref t3],rfl,fun b o n1 n2 e=>?_,?_,ti3.mono tp35,⟨fun k v z=>gr3.1 _ _ (gr2.1 _ _ z),fun c' y1 y2=>?_⟩,ag,?_,by rw[MX,wl];rfl,fun idx t' e=>?_⟩
   ·rw[ao n2]
    exact s4 _ _ (sT3 _ _ n1 (k2 b o n1 n2 e))
   ·rw[ao (Ne.symm wtb)]
    exact s4 _ _ hT3
   ·cases q2:valV kvs2 (.inl (c':Int)) with
    |none=>have:=gr3.2 c' q2 y2;omega
    |some v'=>exact gr2.2 c' y1 (by rw[q2];simp)
   ·exact(hL.imp fun _ _ q=>TrA.mono q tp25).snoc ⟨t3,rfl,by rw[ao wt3];exact ag⟩
   ·have til:(rest.take i).length=i:=by rw[Oq];omega
    rw[NA,ht]at e
    by_cases ci:idx<i
    ·rw[MU (by omega)]at e
     obtain⟨tr',vr,d1,d2,d3,d4⟩:=done idx t' e
     exact⟨tr',vr,by rw[MU (by omega)];exact d1,d2,gr3.1 _ _ d3,d4.mono tp25⟩
    ·rw[MR (by omega)]at e
     have h5:=(MO.mp e).1
     have h6:idx=i:=by
      have:(Option.toList (some t)).length=1:=rfl
      omega
     subst h6
     rw[til,Nl]at e
     cases e
     exact⟨tr,.ref va,by rw[MR (by omega),wl,Nl];rfl,op3.perm cp,hv3,cv3.mono tp35⟩
  ·rintro σ H2 ⟨v7,v8,kvs2,ws,ys,rfl,k2,hT2,ti2,gr2,hwa2,hL,wl,done⟩
   rw[M7]at wl done
   rw[ND]at done
   have rp:1<=rest.length:=by omega
   have wne:ws≠[]:=fun z=>by rw[z]at wl;simp at wl;omega
   refine⟨_,rfl,wa,ys,ws,rfl,SqL.of hwa2,hL,wne,fun idx y t3 hy ht3 hmin=>?_⟩
   have il:idx<rest.length:=by rw[← wl];exact(MO.mp ht3).1
   obtain⟨t,et⟩:∃ t,rest[idx]?=some t:=⟨_,MN il⟩
   have tm:=MP et
   obtain⟨tr,vr,d1,d2,d3,d4⟩:=done idx t et
   rw[ht3]at d1
   cases d1
   obtain⟨w',ew',a,rfl,ha⟩:=hL.get hy
   rw[ht3]at ew'
   cases ew'
   have ftn:f≠t:=fun z=>nf (z▸tm)
   have fb:f∈bl c:=by rw[ebl];exact M3 ..
   have tbm:t∈bl c:=by rw[ebl];exact MY _ tm
   have opt:Opt D (bl c) (D f t+tr):=by
    rw[ebl]
    refine Opt.step sy tm d2 fun t' ht'=>?_
    obtain⟨k,hk,ek⟩:=Oi ht'
    obtain⟨tr',vr',d1',d2',_,_⟩:=done k t' (by rw[MN hk,ek])
    exact⟨tr',d2',hmin _ (MP d1')⟩
   have cabs:valV kvs2 (.inl ((c:Nat):Int))=none:=by
    cases q2:valV kvs2 (.inl ((c:Nat):Int)) with
    |none=>rfl
    |some v'=>have:=gr2.2 c hv (by rw[q2];simp);omega
   have cne:((cut2 c f t:Nat):Int)≠(c:Int):=fun z=>by
    have z':cut2 c f t=c:=by omega
    have:=(og fb tbm ftn f).mp (by rw[z'];exact fb)
    exact this.2.1 rfl
   have vput:∀ k v,valV kvs2 k=some v->valV (putK kvs2 (.inl ((c:Nat):Int)) (.ref a)) k=some v:=fun k v e=>by
    rw[fR,if_neg (fun z=>by rw[z,cabs]at e;cases e)]
    exact e
   refine⟨_,rfl,_,rfl,tb,_,rfl,DPut.k (k:=.inl ((c:Nat):Int)) (v:=.ref a) hT2 (ti2.len m14),?_⟩
   have tp:Tps H2 (upd H2 tb (.dK (putK kvs2 (.inl ((c:Nat):Int)) (.ref a)))):=fun b xs q=>by
    rw[ao (fun z=>by rw[z,hT2]at q;cases q)]
    exact q
   refine⟨_,_,_,_,_,putK kvs2 (.inl ((c:Nat):Int)) (.ref a),.ref a,rfl,fun b o n1 e=>?_,ag,⟨fun k v e=>?_,?_,LQ _ ti2.nd cabs⟩,⟨fun k v e=>vput _ _ (gr2.1 _ _ e),fun c' y1 y2=>?_⟩,by rw[fR,if_pos rfl],fun _ _ z=>z⟩
   ·rw[ao n1]
    exact k2 b o n1 (fun z=>by rw[z,wa0]at e;cases e) (s13 _ _ e)
   ·rw[fR]at e
    by_cases ck:k=.inl ((c:Nat):Int)
    ·rw[if_pos ck]at e
     cases e
     exact⟨c,ck,hc,.inr ⟨D f t+tr,f,t,a,vr,tr,rfl,tp _ _ ha,fb,tbm,ftn,vput _ _ d3,d4.mono tp,rfl,opt⟩⟩
    ·rw[if_neg ck]at e
     obtain⟨c',e1,e2⟩:=ti2.en k v e
     exact⟨c',e1,e2.mono tp vput⟩
   ·obtain⟨v0,hv0⟩:=ti2.z
    exact⟨v0,vput _ _ hv0⟩
   ·by_cases cc:c'=c
    ·rw[cc];exact MT _
    ·rw[fR,if_neg (fun z=>cc (by have:(c':Int)=(c:Int):=by injection z
                                 omega))]at y2
     have:=gr2.2 c' y1 y2
     omega
theorem ok_laid{f f1:Addr}{fd fd1:FuncData}{D:Nat->Nat->Int}{m:Nat}(sy:∀ a b,D a b=D b a) (F:Fun K "laid_in_pairs" "laid_in_pairs" aU f fd) (T:Txt mg) (G_bits:Cal P w K mg base 1 "bits" ["mask"] spBits f1 fd1) (bn:gX K fd ["between","chosen","table"] []) (hm:mg "laid_in_pairs" = some (.ref f)) (kp:M0 K (.ref f)=true):∀ j,FnOk P w K mg base CX0 (j+2) f fd ["between","chosen","table"] (spLaid D m j)
 |0=>⟨fun vs H Q E h=>by
   obtain⟨bv,tb,c,kvs,_,_,_,_,_,_,z,_⟩:=h
   omega,fun A outer s H args us vs Q E _ _ _ _ h=>by
   obtain⟨bv,tb,c,kvs,_,_,_,_,_,_,z,_⟩:=h
   omega⟩
 |j+1=>IT sy F T G_bits ⟨ok_laid sy F T G_bits bn hm kp j,bn,hm,kp⟩
end
end KF
namespace KF
open PySem L2
local macro_rules | `(tactic| walk_at "cc") => `(tactic| first | exact ⟨by decide, by decide⟩ | (show (0 : Int) < _; decide) | (show (0 : Int) < _; omega) | (show (0 : Int) ≤ _; omega) | exact ⟨by decide, by decide, by decide⟩ | exact ⟨by omega, by omega, by decide⟩ | exact Or.inl ⟨by decide, by decide⟩ | exact Or.inl ⟨by omega, by omega⟩)
local macro_rules | `(tactic| walk_at "rd") => `(tactic| repeat (first | refine ⟨_, rfl, ?_⟩ | refine ⟨_, _, rfl, rfl, ?_⟩ | refine ⟨rfl, ?_⟩ | (refine ⟨?cc, ?_⟩; (case cc => walk_at "cc"))))
theorem Ja{VL:List (Option Nat)}{r:Nat}{o:Option Nat}(h:VL[r]?=some o):(VL.map oN)[r]?=some (oN o):=by rw[Nq,h];rfl
theorem FI.even{n:Nat}{ls:List Lk}{s M:Nat}{T:List (Option Int)}{vv:List (Option Nat)}(I:FI n ls s M T vv [] (fun _ _=>False)){r k:Nat}(h:vv[r]?=some (some k)):∃(l:Lk)(x y:Int),ls[k]?=some l/\nB l r/\T[r]?=some (some x)/\T[bey l r]?=some (some y)/\y+l.2.2=x:=by
 obtain⟨l,x,y,e1,e2,e3,e4,e5⟩:=I.pr r k h
 rcases I.rl (bey l r) y k l e4 (by simp) e1 (vO e2)with h' | ⟨x',h',hx⟩
 ·exact h'.elim
 ·rw[qp e2,e3]at h';cases h'
  exact⟨l,x,y,e1,e2,e3,e4,by omega⟩
inductive Pth(ls:List Lk)(vv:List (Option Nat))(s:Nat):Nat->List Nat->Prop where
 |root:Pth ls vv s s []
 |step {r k:Nat} {l:Lk} {ks:List Nat} (hv:vv[r]?=some (some k)) (hl:ls[k]?=some l) (h:Pth ls vv s (bey l r) ks):Pth ls vv s r (k::ks)
theorem Up.path{ls:List Lk}{vv:List (Option Nat)}{s j r:Nat}(h:Up ls vv s j r):∃ ks,Pth ls vv s r ks/\ks.length=j:=by
 induction h with
 |root=>exact⟨[],.root,rfl⟩
 |step hv hl _ ih =>
  obtain⟨ks,p,e⟩:=ih
  exact⟨_::ks,.step hv hl p,by rw[Nv,e]⟩
theorem Pth.up{ls:List Lk}{vv:List (Option Nat)}{s r:Nat}{ks:List Nat}(h:Pth ls vv s r ks):Up ls vv s ks.length r:=by
 induction h with
 |root=>exact .root
 |step hv hl _ ih=>exact .step hv hl ih
noncomputable def lkA(ls:List Lk)(k:Nat):Lk:=ls.getD k (0,0,0)
theorem lkA_is{ls:List Lk}{k:Nat}{l:Lk}(h:ls[k]?=some l):lkA ls k=l:=by unfold lkA;rw[Ny,h];rfl
noncomputable def endX(l:Lk):Nat:=2^l.1^^^2^l.2.1
noncomputable def oddE(ls:List Lk)(u:Nat):Nat->Nat
 |0=>0
 |i+1=>if u.testBit i=true then oddE ls u i^^^endX (lkA ls i) else oddE ls u i
noncomputable def cstU(ls:List Lk)(u:Nat):Nat->Int
 |0=>0
 |i+1=>if u.testBit i=true then cstU ls u i+(lkA ls i).2.2 else cstU ls u i
theorem Ey(x a:Nat):(bl (x^^^2^a)).Perm (tog (bl x) a):=by
 refine(N9 (bl_nd _) (tog_nd (bl_nd x) a)).mpr fun y=>?_
 rw[LU (bl_nd x),mem_bl,NT,Nu,mem_bl,mem_bl]
 by_cases c:y=a
 ·subst c
  cases x.testBit y<;>simp
 ·have c':¬ a=y:=fun z=>c z.symm
  cases x.testBit y<;>simp[c,c']
theorem low_join{n:Nat}{d:Nat->Nat->Int}(M:Met n d){ls:List Lk}(u:Nat)(hl:∀ l∈ls,l.1<n/\l.2.1<n/\d l.1 l.2.1<=l.2.2):∀ i,i<=ls.length->oddE ls u i<2^n/\∃ c,Cs d (bl (oddE ls u i)) c/\c<=cstU ls u i
 |0,_=>⟨Ou n,0,by show Cs d (bl 0) 0;rw[BE];exact Opt.nil.1,Oj _⟩
 |i+1,h=>by
  obtain⟨h1,c,h2,h3⟩:=low_join M u hl i (by omega)
  unfold oddE cstU
  by_cases b:u.testBit i=true
  ·rw[if_pos b,if_pos b]
   obtain⟨l,e⟩:∃ l,ls[i]?=some l:=⟨_,MN (by omega)⟩
   obtain⟨l1,l2,l3⟩:=hl l (MP e)
   rw[lkA_is e]
   have ex:oddE ls u i^^^endX l=oddE ls u i^^^2^l.1^^^2^l.2.1:=by unfold endX;rw[NP]
   rw[ex]
   refine⟨Oz (Oz h1 (Oa (by decide) l1)) (Oa (by decide) l2),?_⟩
   obtain⟨c',g1,g2⟩:=h2.two M (bl_nd _) (fun x hx=>bl_lt h1 hx) l1 l2
   refine⟨c',g1.perm ?_,by omega⟩
   exact((Ey _ _).trans (Ik (Ey _ _) _)).symm
  ·rw[if_neg b,if_neg b]
   exact⟨h1,c,h2,h3⟩
theorem uA(ls:List Lk)(u v:Nat):∀ i,oddE ls (u^^^v) i=oddE ls u i^^^oddE ls v i
 |0=>(OQ 0).symm
 |i+1=>by
  unfold oddE
  rw[uA ls u v i,NT]
  have x4:∀ a b e:Nat,(a^^^e)^^^(b^^^e)=a^^^b:=fun a b e=>by rw[Pa b e,← NP,NP a e e,OQ,OP]
  cases u.testBit i<;>cases v.testBit i<;>simp
  ·rw[NP]
  ·rw[NP,NP,Pa (oddE ls v i)]
  ·exact(x4 _ _ _).symm
theorem vG(ls:List Lk)(hw:∀ l∈ls,0<=l.2.2)(u v:Nat):∀ i,i<=ls.length->cstU ls (u^^^v) i<=cstU ls u i+cstU ls v i
 |0,_=>Oj _
 |i+1,h=>by
  have ih:=vG ls hw u v i (by omega)
  obtain⟨l,e⟩:∃ l,ls[i]?=some l:=⟨_,MN (by omega)⟩
  have w0:=hw l (MP e)
  unfold cstU
  rw[NT,lkA_is e]
  cases u.testBit i<;>cases v.testBit i<;>simp<;>omega
inductive Wk(ls:List Lk):Nat->Nat->Int->Prop where
 |nil (a:Nat):Wk ls a a 0
 |step {a b i:Nat} {x:Int} {l:Lk} (h:Wk ls a b x) (hl:ls[i]?=some l) (he:nB l b):Wk ls a (bey l b) (x+l.2.2)
theorem Wk.trans{ls:List Lk}{a b c:Nat}{x y:Int}(h:Wk ls a b x)(g:Wk ls b c y):Wk ls a c (x+y):=by
 induction g with
 |nil=>rw[Qa];exact h
 |step _ hl he ih =>
  rw[← Int.add_assoc]
  exact .step ih hl he
theorem Wk.link{ls:List Lk}{a i:Nat}{l:Lk}(hl:ls[i]?=some l)(he:nB l a):Wk ls a (bey l a) l.2.2:=by
 have:=Wk.step (.nil a) hl he
 rw[OJ]at this
 exact this
theorem Wk.rev{ls:List Lk}{a b:Nat}{x:Int}(h:Wk ls a b x):Wk ls b a x:=by
 induction h with
 |nil=>exact .nil _
 | @step b i x l h hl he ih =>
  have g:=Wk.link hl (vO he)
  rw[qp he]at g
  rw[Int.add_comm]
  exact g.trans ih
theorem Wk.nn{ls:List Lk}(hw:∀ l∈ls,0<=l.2.2){a b:Nat}{x:Int}(h:Wk ls a b x):0<=x:=by
 induction h with
 |nil=>exact Oj _
 |step _ hl _ ih=>have:=hw _ (MP hl);omega
theorem Wk.rel{n:Nat}{ls:List Lk}{s M:Nat}{T:List (Option Int)}{vv:List (Option Nat)}(I:FI n ls s M T vv [] (fun _ _=>False)){a b:Nat}{x:Int}(h:Wk ls a b x):∀ y,T[a]?=some (some y)->∃ z,T[b]?=some (some z)/\z<=y+x:=by
 induction h with
 |nil=>intro y hy;exact⟨y,hy,by omega⟩
 | @step b i x l h hl he ih =>
  intro y hy
  obtain⟨z,h1,h2⟩:=ih y hy
  rcases I.rl b z i l h1 (by simp) hl he with q | ⟨z',h3,h4⟩
  ·exact q.elim
  ·exact⟨z',h3,by omega⟩
theorem Up.wk{n:Nat}{ls:List Lk}{s M:Nat}{T:List (Option Int)}{vv:List (Option Nat)}(I:FI n ls s M T vv [] (fun _ _=>False)){j r:Nat}(h:Up ls vv s j r):∀ x,T[r]?=some (some x)->Wk ls s r x:=by
 induction h with
 |root=>intro x hx;rw[I.st]at hx;cases hx;exact .nil _
 | @step j r k l hv hl h ih =>
  intro x hx
  obtain⟨l',x',y,e1,e2,e3,e4,e5⟩:=I.even hv
  rw[hl]at e1;cases e1
  rw[hx]at e3;cases e3
  have g:=Wk.step (ih y e4) hl (vO e2)
  rw[qp e2,e5]at g
  exact g
theorem least{P:Nat->Prop}(h:∃ n,P n):∃ n,P n/\∀ m,P m->n<=m:=by
 obtain⟨n,hn⟩:=h
 induction n using Nat.strongRecOn with
 |ind n ih =>
  by_cases c:∃ m,m<n/\P m
  ·obtain⟨m,h1,h2⟩:=c
   exact ih m h1 h2
  ·exact⟨n,hn,fun m hm=>PD fun z=>c ⟨m,z,hm⟩⟩
open Classical in
noncomputable def farD (ls:List Lk) (a b:Nat):Int:=if h:∃ x:Nat,Wk ls a b (x:Int) then((Classical.choose (least h):Nat):Int) else 0
theorem kU{ls:List Lk}(hw:∀ l∈ls,0<=l.2.2){a b:Nat}{x:Int}(h:Wk ls a b x):Wk ls a b (farD ls a b)/\∀ y,Wk ls a b y->farD ls a b<=y:=by
 have x0:=h.nn hw
 have ex:∃ x:Nat,Wk ls a b (x:Int):=⟨x.toNat,by rw[Int.toNat_of_nonneg x0];exact h⟩
 have e:farD ls a b=((Classical.choose (least ex):Nat):Int):=by unfold farD;rw[dif_pos ex]
 obtain⟨c1,c2⟩:=PU (least ex)
 rw[e]
 refine⟨c1,fun y hy=>?_⟩
 have y0:=hy.nn hw
 have:=c2 y.toNat (by rw[Int.toNat_of_nonneg y0];exact hy)
 omega
theorem Kg(ls:List Lk)(a b:Nat):farD ls a b=farD ls b a:=by
 have e:∀ x:Nat,Wk ls a b (x:Int)=Wk ls b a (x:Int):=fun x=>propext ⟨Wk.rev,Wk.rev⟩
 have e2:(fun x:Nat=>Wk ls a b (x:Int))=fun x:Nat=>Wk ls b a (x:Int):=funext e
 unfold farD
 by_cases h:∃ x:Nat,Wk ls a b (x:Int)
 ·have h':∃ x:Nat,Wk ls b a (x:Int):=h.imp fun x z=>z.rev
  rw[dif_pos h,dif_pos h']
  have c1:=PU (least h)
  have c2:=PU (least h')
  have l1:=c1.2 _ c2.1.rev
  have l2:=c2.2 _ c1.1.rev
  omega
 ·have h':¬ ∃ x:Nat,Wk ls b a (x:Int):=fun z=>h (z.imp fun x y=>y.rev)
  rw[dif_neg h,dif_neg h']
noncomputable def Conn(n:Nat)(ls:List Lk):Prop:=∀ b,b<n->∃ x,Wk ls 0 b x
theorem Conn.two{n:Nat}{ls:List Lk}(h:Conn n ls){a b:Nat}(ha:a<n)(hb:b<n):∃ x,Wk ls a b x:=by
 obtain⟨x,hx⟩:=h a ha
 obtain⟨y,hy⟩:=h b hb
 exact⟨_,hx.rev.trans hy⟩
theorem far_met{n:Nat}{ls:List Lk}(hw:∀ l∈ls,0<=l.2.2)(hc:Conn n ls):Met n (farD ls) where
 sy:=Kg ls
 nn:=fun a b=>by
  unfold farD
  split
  ·omega
  ·exact Oj _
 tr:=fun a b c ha hb hc'=>by
  obtain⟨x,hx⟩:=hc.two ha hb
  obtain⟨y,hy⟩:=hc.two hb hc'
  exact(kU hw (hx.trans hy)).2 _ ((kU hw hx).1.trans (kU hw hy).1)
theorem far_link{ls:List Lk}(hw:∀ l∈ls,0<=l.2.2){l:Lk}(hl:l∈ls):farD ls l.1 l.2.1<=l.2.2:=by
 obtain⟨i,hi,e⟩:=Oi hl
 have g:=Wk.link (ls:=ls) (i:=i) (l:=l) (a:=l.1) (by rw[MN hi,e]) (.inl rfl)
 have b1:bey l l.1=l.2.1:=by unfold bey;rw[if_pos rfl]
 rw[b1]at g
 exact(kU hw g).2 _ g
theorem FI.is{n:Nat}{ls:List Lk}{s M:Nat}{T:List (Option Int)}{vv:List (Option Nat)}(I:FI n ls s M T vv [] (fun _ _=>False))(hc:Conn n ls)(hs:s<n){r:Nat}(hr:r<n):T[r]?=some (some (farD ls s r)):=by
 have hw:∀ l∈ls,0<=l.2.2:=fun l hl=>(I.w0 l hl).1
 obtain⟨x,hx⟩:=hc.two hs hr
 obtain⟨z,h1,h2⟩:=hx.rel I 0 I.st
 obtain⟨j,u⟩:=I.up r z h1
 have wz:=u.wk I z h1
 obtain⟨f1,f2⟩:=kU hw hx
 obtain⟨z',h3,h4⟩:=f1.rel I 0 I.st
 rw[h1]at h3;cases h3
 have:=f2 z wz
 have e:z=farD ls s r:=by omega
 rw[← e]
 exact h1
noncomputable def gk(ks:List Nat):Nat:=ks.foldl (fun m k=>m|||2^k) 0
theorem ie(ks:List Nat)(i:Nat):(gk ks).testBit i=decide (i∈ks):=by
 have gen:∀(ks:List Nat)(m:Nat),(ks.foldl (fun m k=>m|||2^k) m).testBit i=(m.testBit i||decide (i∈ks)):=by
  intro ks
  induction ks with
  |nil=>intro m;simp
  |cons k ks ih =>
   intro m
   rw[List.foldl_cons,ih,Ol,Nu]
   by_cases c:k=i
   ·subst c;simp
   ·have c':¬ i=k:=fun z=>c z.symm
    simp[c,c']
 unfold gk
 rw[gen]
 simp
theorem Ci(ls:List Lk)(k:Nat):∀ i,oddE ls (2^k) i=if k<i then endX (lkA ls k) else 0
 |0=>by rw[if_neg (NV _)];rfl
 |i+1=>by
  unfold oddE
  rw[Ci ls k i,Nu]
  by_cases c:k=i
  ·subst c
   rw[if_pos (by simp),if_neg (Nz _),if_pos (NR _),Nat.zero_xor]
  ·rw[if_neg (by simpa using c)]
   by_cases d:k<i
   ·rw[if_pos d,if_pos (by omega)]
   ·rw[if_neg d,if_neg (by omega)]
theorem Cz(ls:List Lk)(k:Nat):∀ i,cstU ls (2^k) i=if k<i then(lkA ls k).2.2 else 0
 |0=>by rw[if_neg (NV _)];rfl
 |i+1=>by
  unfold cstU
  rw[Cz ls k i,Nu]
  by_cases c:k=i
  ·subst c
   rw[if_pos (by simp),if_neg (Nz _),if_pos (NR _),OJ]
  ·rw[if_neg (by simpa using c)]
   by_cases d:k<i
   ·rw[if_pos d,if_pos (by omega)]
   ·rw[if_neg d,if_neg (by omega)]
theorem oO(ls:List Lk):∀ i,oddE ls 0 i=0
 |0=>rfl
 |i+1=>by unfold oddE;rw[NK,if_neg Nn];exact oO ls i
theorem pR(ls:List Lk):∀ i,cstU ls 0 i=0
 |0=>rfl
 |i+1=>by unfold cstU;rw[NK,if_neg Nn];exact pR ls i
theorem Pth.node{ls:List Lk}{vv:List (Option Nat)}{s r:Nat}{ks:List Nat}(h:Pth ls vv s r ks):∀ k∈ks,∃ q j,vv[q]?=some (some k)/\Up ls vv s j q/\j<=ks.length:=by
 induction h with
 |root=>intro k hk;cases hk
 | @step r k l ks hv hl h ih =>
  intro k' hk
  rcases MV.mp hk with rfl | hk
  ·exact⟨r,_,hv,.step hv hl h.up,MT _⟩
  ·obtain⟨q,j,h1,h2,h3⟩:=ih k' hk
   exact⟨q,j,h1,h2,by rw[Nv];omega⟩
theorem Pth.join{n:Nat}{ls:List Lk}{s M:Nat}{T:List (Option Int)}{vv:List (Option Nat)}(I:FI n ls s M T vv [] (fun _ _=>False)){r:Nat}{ks:List Nat}(h:Pth ls vv s r ks) :
  (∀ k∈ks,k<ls.length)/\oddE ls (gk ks) ls.length=2^s^^^2^r/\∀ x,T[r]?=some (some x)->cstU ls (gk ks) ls.length<=x:=by
 induction h with
 |root =>
  refine⟨(fun k hk=>nomatch hk),?_,fun x hx=>?_⟩
  ·show oddE ls 0 ls.length=_
   rw[oO,OQ]
  ·rw[I.st]at hx;cases hx
   show cstU ls 0 ls.length<=0
   rw[pR];exact Oj _
 | @step r k l ks hv hl h ih =>
  obtain⟨h0,h1,h2⟩:=ih
  obtain⟨l',x,y,e1,e2,e3,e4,e5⟩:=I.even hv
  rw[hl]at e1;cases e1
  have kl:k<ls.length:=(MO.mp hl).1
  have me:Up ls vv s (ks.length+1) r:=.step hv hl h.up
  have nk:k∉ks:=fun z=>by
   obtain⟨q,j,g1,g2,g3⟩:=h.node k z
   obtain⟨l2,_,_,f1,f2,_⟩:=I.pr q k g1
   rw[hl]at f1;cases f1
   have qr:q≠r:=fun w=>by
    subst w
    have:=Up.uniq I.vs me g2
    omega
   have eb:bey l q=r:=by
    unfold bey
    rcases f2 with z1 | z1<;>rcases e2 with z2 | z2
    ·exact absurd (z1.trans z2.symm) qr
    ·rw[if_pos z1];exact z2.symm
    ·rw[if_neg (fun w=>qr (w.trans z2.symm))];exact z2.symm
    ·exact absurd (z1.trans z2.symm) qr
   have:Up ls vv s (ks.length+1+1) q:=.step g1 hl (by rw[eb];exact me)
   have:=Up.uniq I.vs this g2
   omega
  have em:gk (k::ks)=gk ks^^^2^k:=NF fun i=>by
   rw[ie,NT,ie,Nu]
   by_cases c:i=k
   ·subst c;simp[nk]
   ·have c':¬ k=i:=fun z=>c z.symm
    simp[c,c']
  rw[em]
  refine⟨fun k' hk=>?_,?_,fun x' hx'=>?_⟩
  ·rcases MV.mp hk with rfl | hk
   ·exact kl
   ·exact h0 k' hk
  ·rw[uA,h1,Ci,if_pos kl,lkA_is hl]
   have ee:endX l=2^bey l r^^^2^r:=by
    unfold endX bey
    rcases e2 with z | z
    ·rw[if_pos z,z,Pa]
    ·by_cases w:r=l.1
     ·rw[if_pos w,w,Pa]
     ·rw[if_neg w,z]
   rw[ee,← NP,NP (2^s),OQ,OP]
  ·rw[hx']at e3;cases e3
   have g1:=vG ls (fun l hl=>(I.w0 l hl).1) (gk ks) (2^k) ls.length (MT _)
   have g2:=h2 y e4
   rw[Cz,if_pos kl,lkA_is hl]at g1
   omega
end KF
namespace KF
open PySem L2
local macro_rules | `(tactic| walk_at "cc") => `(tactic| first | exact ⟨by decide, by decide⟩ | (show (0 : Int) < _; decide) | (show (0 : Int) < _; omega) | (show (0 : Int) ≤ _; omega) | exact ⟨by decide, by decide, by decide⟩ | exact ⟨by omega, by omega, by decide⟩ | exact Or.inl ⟨by decide, by decide⟩ | exact Or.inl ⟨by omega, by omega⟩)
local macro_rules | `(tactic| walk_at "rd") => `(tactic| repeat (first | refine ⟨_, rfl, ?_⟩ | refine ⟨_, _, rfl, rfl, ?_⟩ | refine ⟨rfl, ?_⟩ | (refine ⟨?cc, ?_⟩; (case cc => walk_at "cc"))))
noncomputable def A8(l:Lk):Nat:=2^l.1|||2^l.2.1
noncomputable def one1(m:Nat)(l:Lk):Nat:=if m&&&A8 l=0 then m else m|||A8 l
noncomputable def cy(ls:List Lk)(m:Nat):Nat:=ls.foldl one1 m
inductive Run(ls:List Lk):Nat->Nat->Nat->Prop where
 |stop {m:Nat}:Run ls m m m
 |go {m a r:Nat} (h:m≠a) (n:Run ls (cy ls m) m r):Run ls m a r
theorem FN(m:Nat)(l:Lk):m<=one1 m l:=by
 unfold one1
 split
 ·exact MT _
 ·exact Qq
theorem FL{n m:Nat}{l:Lk}(h:m<2^n)(h1:l.1<n)(h2:l.2.1<n):one1 m l<2^n:=by
 unfold one1 A8
 split
 ·exact h
 ·exact Pw h (Pw (Oa (by decide) h1) (Oa (by decide) h2))
theorem w8{ls:List Lk}{i:Nat}{l:Lk}{m:Nat}(h:ls[i]?=some l):cy (ls.take (i+1)) m=one1 (cy (ls.take i) m) l:=by
 unfold cy
 rw[NA,h,Py]
 rfl
theorem orN(a b:Nat):Builtin.bitOr (a:Int) (b:Int)=((a|||b:Nat):Int):=by
 rw[PyProof.Rows.bitOr_and,andN]
 have q:=PyProof.Rows.nat_or_add_and a b
 omega
theorem endsV(l:Lk):Builtin.bitOr (1*2^((l.1:Nat):Int).toNat) (1*2^((l.2.1:Nat):Int).toNat)=((A8 l:Nat):Int):=by rw[shlN,shlN,orN];rfl
noncomputable def PaAt(H:Hp)(v:V)(l:Lk):Prop:=∃ t,v=.ref t/\H t=some (.tup [.int (l.1:Int),.int (l.2.1:Int)])
theorem G2(a b:Int):decide (V.int a=V.int b)=decide (a=b):=decide_eq_decide.mpr ⟨V.int.inj,congrArg V.int⟩
noncomputable def spReach:Sp:=fun vs H Q _=>∃(a:Addr)(ys:List V)(n:Nat)(ls:List Lk),vs = [.int 0,.ref a]/\H a=some (.lst ys)/\LsAt PaAt H ys ls/\Lok n ls/\1<=n/\∀ r:Nat,Run ls 1 0 r->Q (.int (r:Int)) H
noncomputable def spWhl:Sp:=fun vs H Q _=>∃(v:V)(n:Nat)(ls:List Lk),vs = [.int (n:Int),v]/\LnAt H v ls/\Lok n ls/\1<=n/\∀(r:Nat) H',Run ls 1 0 r->Same H H'->Q (.bl (decide ((r:Int)=1*2^((n:Nat):Int).toNat-1))) H'
structure TxtR(mg:Str->Option Value):Prop where
 n_list:mg "list" = none
 n_reversed:mg "reversed" = none
section
variable{P:Program}{w:World}{K:MQ}{mg:Str->Option Value}{base:Heap}
theorem aQ:av ["start","pairs","mask","ahead","one","two","ends"] ["start","pairs"] (ah cA):=⟨rfl,rfl,rfl,by decide +kernel,rfl,by decide +kernel,by decide +kernel⟩
theorem ok_reached{f:Addr}{fd:FuncData} (F:Fun K "reached" "reached" cA f fd):FnOk P w K mg base CX0 1 f fd ["start","pairs"] spReach:=by
 refine F.ok aQ (fun vs H Q E h=>?_) (fun cdv A outer s H vs Q E hr h=>?_)
 ·obtain⟨a,ys,n,ls,rfl,_⟩:=h
  rfl
 obtain⟨a,ys,n,ls,rfl,hA,hL,ok,n1,kk⟩:=h
 have n40:=ok.n1
 refine⟨_,(af (ar (i:=2) aQ.nd rfl (Or.inl rfl) (aB de ai (pv 0)))
   (af (ar (i:=3) aQ.nd rfl (Or.inl rfl) ai)
   (af (gf PassesOwn.never (aC nh (pv 2) (pv 3) (aI _)) (af (ar (i:=3) aQ.nd rfl (Or.inl rfl) (pv 2))
   (ak (cD PassesOwn.never rfl (bo (pv 1)) (rW rfl (bh (aL (i:=4) aQ.nd rfl (Or.inl rfl)) (bh (aL (i:=5) aQ.nd rfl (Or.inl rfl)) g9))) (af (ar (i:=6) aQ.nd rfl (Or.inl rfl) (aB C8 (aB de ai (pv 4)) (aB de ai (pv 5))))
   (ak (bL (aC nh (aB FK (pv 2) (pv 6)) ai (aI _)) (ak (ar (i:=2) aQ.nd rfl (Or.inl rfl) (aB C8 (pv 2) (pv 6)))) aP)))))))
   (ak (aE (pv 2)))))),?_⟩
 refine⟨_,rfl,_,_,rfl,rfl,⟨by decide,by decide,by decide⟩,?_⟩
 refine fQ (fun σ H2=>∃(M Ah:Nat),∃ v4 v5 v6,H2=H/\σ = [some (.int 0),some (.ref a),some (.int (M:Int)),some (.int (Ah:Int)),v4,v5,v6]/\M<2^n/\∀ r,Run ls M Ah r->Run ls 1 0 r)
  (fun σ _=>match σ with | [_,_,some (.int M),some (.int Ah),_,_,_]=>2*((2^n:Nat)-M).toNat+(if M=Ah then 0 else 1) | _=>0) ⟨1,0,_,_,_,rfl,rfl,P4 (by omega),fun r z=>z⟩ ?_ ?_
 ·rintro σ H2 ⟨M,Ah,v4,v5,v6,rfl,rfl,hM,run⟩
  refine⟨_,rfl,_,rfl,rfl,_,rfl,?_⟩
  by_cases c':M=Ah
  ·subst c'
   refine xU rfl ?_
   exact⟨_,rfl,kk M (run M .stop)⟩
  refine ite2 (fun c=>?_) (fun c=>absurd (by rw[G2,decide_eq_false (fun z=>c' (by omega))];rfl) c)
  refine⟨_,rfl,?_⟩
  refine⟨_,rfl,a,rfl,⟨_,SqL.of hA⟩,cG (K:=K) (xs:=ys) (fun i σ H3=>∃ v4 v5 v6,H3=H2/\σ = [some (.int 0),some (.ref a),some (.int ((cy (ls.take i) M:Nat):Int)),some (.int (M:Int)),v4,v5,v6]/\cy (ls.take i) M<2^n/\M<=cy (ls.take i) M) ⟨_,_,_,rfl,rfl,hM,MT _⟩ (fun i σ H3 _ ⟨_,_,_,z,_⟩=>by rw[z];exact SqL.of hA) ?_ ?_⟩
  ·rintro i x σ H3 hx ⟨v4,v5,v6,rfl,rfl,hM',hle⟩
   obtain⟨l,hl,p,rfl,hp⟩:=hL.get hx
   obtain⟨b1,b2⟩:=ok.sm l (MP hl)
   refine⟨p,_,rfl,SqT.of hp,rfl,_,_,rfl,_,_,rfl,rfl,?_⟩
   refine⟨_,rfl,_,_,rfl,rfl,⟨by omega,by omega,by decide⟩,_,rfl,_,_,rfl,rfl,⟨by omega,by omega,by decide⟩,_,_,rfl,rfl,?_⟩
   simp only[endsV]
   refine⟨_,rfl,_,rfl,_,_,rfl,rfl,rfl,_,rfl,?_⟩
   have ps:=w8 (m:=M) hl
   have lt1:=FL hM' b1 b2
   have le1:=FN (cy (ls.take i) M) l
   simp only[andN]
   by_cases z:cy (ls.take i) M&&&A8 l=0
   ·refine xU (by rw[z];rfl) ?_
    have e:one1 (cy (ls.take i) M) l=cy (ls.take i) M:=by unfold one1;rw[if_pos z]
    exact⟨_,_,_,rfl,by rw[ps,e];rfl,by rw[ps];exact lt1,by rw[ps];omega⟩
   ·refine ite2 (fun _=>?_) (fun c=>absurd (by rw[G2,decide_eq_false (fun y=>z (by omega))];rfl) c)
    have e:one1 (cy (ls.take i) M) l=cy (ls.take i) M|||A8 l:=by unfold one1;rw[if_neg z]
    refine⟨_,rfl,_,rfl,_,_,rfl,rfl,?_⟩
    simp only[orN]
    exact⟨_,_,_,rfl,by rw[ps,e];rfl,by rw[ps];exact lt1,by rw[ps];omega⟩
  ·rintro σ H3 ⟨v4,v5,v6,rfl,rfl,hM',hle⟩
   rw[hL.1,ND]at hM' hle ⊢
   refine⟨⟨_,M,_,_,_,rfl,rfl,hM',fun r z=>run r (.go c' z)⟩,?_⟩
   show 2*(((2^n:Nat):Int)-((cy ls M:Nat):Int)).toNat+(if((cy ls M:Nat):Int)=(M:Int) then 0 else 1)<2*(((2^n:Nat):Int)-(M:Int)).toNat+(if(M:Int)=(Ah:Int) then 0 else 1)
   rw[if_neg (show ¬ (M:Int)=(Ah:Int) from fun z=>c' (by omega))]
   generalize (2^n:Nat)=N at hM hM'
   split<;>omega
 ·rintro σ H4 Q1 Q2 hi ⟨v1,e1,v2,e2,e3,b,e4,q'⟩
  exact⟨v1,e1,v2,e2,e3,b,e4,hi _ _ q'⟩
theorem Iv:av ["many","links"] ["many","links"] (ah jH):=⟨rfl,rfl,rfl,by decide +kernel,rfl,by decide +kernel,by decide +kernel⟩
theorem ok_whl{f f1:Addr}{fd fd1:FuncData} (F:Fun K "whole" "whole" jH f fd) (G_reached:Cal P w K mg base 1 "reached" ["start","pairs"] spReach f1 fd1):FnOk P w K mg base CX0 2 f fd ["many","links"] spWhl:=by
 refine F.ok Iv (fun vs H Q E h=>?_) (fun cdv A outer s H vs Q E hr h=>?_)
 ·obtain⟨v,n,ls,rfl,_⟩:=h
  rfl
 obtain⟨v,n,ls,rfl,⟨a,xs,rfl,hA,hL⟩,ok,n1,kk⟩:=h
 have n40:=ok.n1
 have l9:=ok.l9
 have xl:=hL.1
 refine⟨_,(ak (aE (uv js (az G_reached.ok (hr.mono (by decide)) rfl G_reached.mg G_reached.kp G_reached.bn .nil aR (ae ai (ae (gh rfl (fr:=[]) (by exact bM.plain (by rfl) (by decide +kernel) (by rfl) (by decide +kernel) (by rfl) (by decide +kernel)) (bo (pv 1)) (fun C ex s H=>(bP (ae (aD (ve (K:=K) rfl) (pv 0) ai (fun _ _=>rfl)) (ae (aD (ve (K:=K) rfl) (pv 0) ai (fun _ _=>rfl)) aj))))) aj))) (aB jx (aB de ai (pv 0)) ai) (aI _)))),?_⟩
 refine⟨_,rfl,a,rfl,⟨_,SqL.of hA⟩,eu (K:=K) (xs:=xs) (fun i zs H2=>Same H H2/\LsAt PaAt H2 zs (ls.take i)) (NM (ax (by omega))) ⟨fun _ _ e=>e,LsAt.nil⟩ (fun i zs H2 _ z=>SqL.of (z.1 _ _ hA)) ?_ ?_⟩
 ·rintro i x zs H2 hx ⟨s2,hZ⟩
  obtain⟨l,hl,p,rfl,hp⟩:=hL.get hx
  have hp2:=s2 _ _ hp
  refine⟨_,rfl,p,_,0,_,rfl,rfl,SqT.of hp2,a30,_,rfl,p,_,1,_,rfl,rfl,SqT.of hp2,a31,(by show 2<=sizeLine;decide),fun t ht=>?_⟩
  have s3:=aq ht (.tup [.int (l.1:Int),.int (l.2.1:Int)])
  refine⟨s2.trans s3,?_⟩
  rw[NA,hl]
  exact(hZ.imp fun _ _ ⟨t,e,z⟩=>⟨t,e,s3 _ _ z⟩).snoc ⟨t,rfl,ag⟩
 rintro zs H2 _ ⟨s2,hZ⟩ D hD
 rw[xl,ND]at hZ
 have s3:=aq hD (.lst zs)
 refine⟨D,zs,n,ls,rfl,ag,hZ.imp fun _ _ ⟨t,e,z⟩=>⟨t,e,s3 _ _ z⟩,ok,n1,fun r run=>?_⟩
 refine⟨_,rfl,_,_,rfl,rfl,⟨by omega,by omega,by decide⟩,_,_,rfl,rfl,rfl,?_⟩
 rw[G2]
 exact kk r _ run (s2.trans s3)
end
structure TxtM(mg:Str->Option Value):Prop where
 most:∃ t,mg "MOST_MARKS" = some (.int 14 t)
theorem tq{M p q:Nat}:(M&&&(2^p|||2^q)=0↔M.testBit p=false/\M.testBit q=false)/\(M|||(2^p|||2^q)=M->M.testBit p=true/\M.testBit q=true):=by
 have b1:∀ i,(2^p|||2^q).testBit i=(decide (p=i)||decide (q=i)):=fun i=>by rw[Ol,Nu,Nu]
 refine⟨⟨fun h=>?_,fun⟨h1,h2⟩=>?_⟩,fun h=>?_⟩
 ·have h1:=congrArg (fun z=>OZ z p) h
  have h2:=congrArg (fun z=>OZ z q) h
  simp only[Oo,b1,NK]at h1 h2
  constructor
  ·simpa using h1
  ·simpa using h2
 ·refine NF fun i=>?_
  rw[Oo,b1,NK]
  by_cases z1:p=i
  ·subst z1;rw[h1];rfl
  ·by_cases z2:q=i
   ·subst z2;rw[h2];rfl
   ·simp[z1,z2]
 ·have h1:=congrArg (fun z=>OZ z p) h
  have h2:=congrArg (fun z=>OZ z q) h
  simp only[Ol (x:=M),b1]at h1 h2
  constructor
  ·simpa using h1.symm
  ·simpa using h2.symm
theorem pH{M m:Nat}(h:M<2^m)(k:∀ p,p<m->M.testBit p=true):M=2^m-1:=by
 refine NF fun i=>?_
 rw[OR]
 by_cases z:i<m
 ·rw[k i z,decide_eq_true z]
 ·rw[decide_eq_false z]
  exact ON (Nk h (NZ (by decide) (by omega)))
theorem uq{X:Cx}{x:Str}{n:Int}{pos:Pos}(hg:Gl X x)(hm:∃ t,X.mg x=some (.int n t)) (hd:(x == ("__debug__" : Str))=false:=by decide):PE X (.Name x pos) (tC (.int n)):=by
 obtain⟨t,h⟩:=hm
 exact Fy hg h ⟨t,rfl⟩ hd
theorem mI{ls:List Lk}{m:Nat}:∀ i,m<=cy (ls.take i) m/\cy (ls.take i) m<=cy ls m:=fun i=>by
 have le:∀(l:List Lk)(m:Nat),m<=cy l m:=fun l=>by
  induction l with
  |nil=>intro m;exact MT _
  |cons x l ih=>intro m;exact NQ (FN m x) (ih _)
 refine⟨le _ _,?_⟩
 have e:cy ls m=cy (ls.drop i) (cy (ls.take i) m):=by
  unfold cy
  rw[← Py,OA]
 rw[e]
 exact le _ _
theorem Bz{ls:List Lk}{r:Nat}(h:cy ls r=r){l:Lk}(hl:l∈ls):r.testBit l.1=r.testBit l.2.1:=by
 obtain⟨i,hi,e⟩:=Oi hl
 have hi':ls[i]?=some l:=by rw[MN hi,e]
 have t1:=mI (ls:=ls) (m:=r) i
 have t2:=mI (ls:=ls) (m:=r) (i+1)
 have e1:cy (ls.take i) r=r:=by omega
 have e2:cy (ls.take (i+1)) r=r:=by omega
 rw[w8 hi',e1]at e2
 obtain⟨b1,b2⟩:=tq (M:=r) (p:=l.1) (q:=l.2.1)
 unfold one1 A8 at e2
 split at e2
 ·rename_i c
  obtain⟨z1,z2⟩:=b1.mp c
  rw[z1,z2]
 ·obtain⟨z1,z2⟩:=b2 e2
  rw[z1,z2]
theorem Run.shut{ls:List Lk}{n m a r:Nat}(h:Run ls m a r)(hl:∀ l∈ls,l.1<n/\l.2.1<n):(m=a->cy ls m=m)->m<2^n->cy ls r=r/\r<2^n/\(m.testBit 0=true->r.testBit 0=true):=by
 induction h with
 |stop=>intro h1 h2;exact⟨h1 rfl,h2,id⟩
 | @go m a r h nx ih =>
  intro _ h2
  have lt:∀(k:List Lk),(∀ l∈k,l.1<n/\l.2.1<n)->∀ m,m<2^n->cy k m<2^n:=fun k=>by
   induction k with
   |nil=>intro _ m hm;exact hm
   |cons x k ihk =>
    intro hk m hm
    obtain⟨b1,b2⟩:=hk x (M3 ..)
    exact ihk (fun l hl=>hk l (MY _ hl)) _ (FL hm b1 b2)
  have bit:∀(k:List Lk)(m:Nat),m.testBit 0=true->(cy k m).testBit 0=true:=fun k=>by
   induction k with
   |nil=>intro m hm;exact hm
   |cons x k ihk =>
    intro m hm
    refine ihk _ ?_
    unfold one1
    split
    ·exact hm
    ·rw[Ol,hm];rfl
  obtain⟨g1,g2,g3⟩:=ih (fun e=>by rw[e];exact e) (lt ls hl m h2)
  exact⟨g1,g2,fun z=>g3 (bit ls m z)⟩
theorem Iy{ls:List Lk}{n r:Nat}(h:Run ls 1 0 r)(hl:∀ l∈ls,l.1<n/\l.2.1<n)(n1:1<=n)(hc:Conn n ls):r=2^n-1:=by
 obtain⟨g1,g2,g3⟩:=h.shut hl (fun z=>by cases z) (P4 (by omega))
 refine pH g2 fun p hp=>?_
 obtain⟨x,hx⟩:=hc p hp
 have gen:∀{a b:Nat}{x:Int},Wk ls a b x->r.testBit a=r.testBit b:=fun h=>by
  induction h with
  |nil=>rfl
  | @step b i x l h' hl' he ih =>
   rw[ih]
   have cl:=Bz g1 (MP hl')
   unfold bey
   rcases he with z | z
   ·rw[if_pos z,z];exact cl
   ·by_cases w:b=l.1
    ·rw[if_pos w,w];exact cl
    ·rw[if_neg w,z];exact cl.symm
 rw[← gen hx]
 exact g3 (by decide)
noncomputable def spOnes:Sp:=fun vs H Q _=>∃ n:Nat,vs = [.int (n:Int)]/\n<2^40/\∀ H',Same H H'->Q (.int (((bl n).length:Nat):Int)) H'
noncomputable def spOdd:Sp:=fun vs H Q _=>∃ n:Nat,vs = [.int (n:Int)]/\n<2^40/\∀ H',Same H H'->Q (.int (((bl n).length:Nat)%2:Int)) H'
noncomputable def spMask(K:MQ):Sp:=fun vs H Q _=>∃(a:Addr)(ks:List Nat),vs = [.ref a]/\SqL K H a (ks.map iV)/\(∀ k∈ks,k<80)/\Q (.int ((gk ks:Nat):Int)) H
noncomputable def spRef:Sp:=fun vs H Q _=>∃(v:V)(n mk:Nat)(ls:List Lk),vs = [.int (n:Int),v,.int (mk:Int)]/\LnAt H v ls/\Lok n ls/\1<=n/\Conn n ls/\mk<2^n/\(bl mk).length%2=0/\(bl mk).length<=14/\∀ H',Same H H'->Q .non H'
section
variable{P:Program}{w:World}{K:MQ}{mg:Str->Option Value}{base:Heap}
theorem K9:av ["mask"] ["mask"] (ah oA):=⟨rfl,rfl,rfl,by decide +kernel,rfl,by decide +kernel,by decide +kernel⟩
theorem ok_ones{f f1:Addr}{fd fd1:FuncData} (F:Fun K "ones" "ones" oA f fd) (T:Txt mg) (G_bits:Cal P w K mg base 1 "bits" ["mask"] spBits f1 fd1):FnOk P w K mg base CX0 2 f fd ["mask"] spOnes:=by
 refine F.ok K9 (fun vs H Q E h=>?_) (fun cdv A outer s H vs Q E hr h=>?_)
 ·obtain⟨n,rfl,_⟩:=h
  rfl
 obtain⟨n,rfl,hn,kk⟩:=h
 have e40:(2:Nat)^40=1099511627776:=by decide
 refine⟨_,(ak (aE (aM aF (by rfl) T.n_len cN (ae (az G_bits.ok (hr.mono (by decide)) rfl G_bits.mg G_bits.kp G_bits.bn .nil aR (ae (pv 0) aj)) aj)))),?_⟩
 refine⟨_,rfl,_,rfl,by omega,by omega,fun r H1 s1 _ hr1=>?_⟩
 refine⟨r,_,rfl,.inl (SqL.of hr1),?_⟩
 rw[M7,Ng]
 exact kk _ s1
theorem sc_odd:av ["mask"] ["mask"] (ah zB):=⟨rfl,rfl,rfl,by decide +kernel,rfl,by decide +kernel,by decide +kernel⟩
theorem ok_odd{f f1:Addr}{fd fd1:FuncData} (F:Fun K "odd" "odd" zB f fd) (G_ones:Cal P w K mg base 2 "ones" ["mask"] spOnes f1 fd1):FnOk P w K mg base CX0 3 f fd ["mask"] spOdd:=by
 refine F.ok sc_odd (fun vs H Q E h=>?_) (fun cdv A outer s H vs Q E hr h=>?_)
 ·obtain⟨n,rfl,_⟩:=h
  rfl
 obtain⟨n,rfl,hn,kk⟩:=h
 refine⟨_,(ak (aE (aB cj (az G_ones.ok (hr.mono (by decide)) rfl G_ones.mg G_ones.kp G_ones.bn .nil aR (ae (pv 0) aj)) ai))),?_⟩
 exact⟨_,rfl,n,rfl,hn,fun H1 s1=>⟨_,_,rfl,rfl,(by show(0:Int)<2;decide),kk _ s1⟩⟩
theorem bI:av ["places","mask","place"] ["places"] (ah cC):=⟨rfl,rfl,rfl,by decide +kernel,rfl,by decide +kernel,by decide +kernel⟩
theorem ok_mask{f:Addr}{fd:FuncData} (F:Fun K "mask_of" "mask_of" cC f fd):FnOk P w K mg base CX0 1 f fd ["places"] (spMask K):=by
 refine F.ok bI (fun vs H Q E h=>?_) (fun cdv A outer s H vs Q E hr h=>?_)
 ·obtain⟨a,ks,rfl,_⟩:=h
  rfl
 obtain⟨a,ks,rfl,hS,k80,q⟩:=h
 refine⟨_,(af (ar (i:=1) bI.nd rfl (Or.inl rfl) ai)
   (af (cD PassesOwn.never rfl (bo (pv 0)) (aL (i:=2) bI.nd rfl (Or.inl rfl)) (ak (ar (i:=1) bI.nd rfl (Or.inl rfl) (aB C8 (pv 1) (aB de ai (pv 2))))))
   (ak (aE (pv 1))))),?_⟩
 refine⟨_,rfl,a,rfl,⟨_,hS⟩,cG (K:=K) (xs:=ks.map iV) (fun i σ H2=>∃ v2,σ = [some (.ref a),some (.int ((gk (ks.take i):Nat):Int)),v2]/\H2=H) ⟨_,rfl,rfl⟩ (fun i σ H2 _ ⟨_,_,z⟩=>by rw[z];exact hS) ?_ ?_⟩
 ·rintro i x σ H2 hx ⟨v2,rfl,rfl⟩
  rw[Nq]at hx
  obtain⟨k,hk,rfl⟩:=NI.mp hx
  have kb:=k80 k (MP hk)
  refine⟨_,rfl,_,rfl,_,_,rfl,rfl,⟨by show(0:Int)<=(k:Int);omega,by show(k:Int)<=1000000;omega,by decide⟩,_,_,rfl,rfl,?_⟩
  have e:Builtin.bitOr ((gk (ks.take i):Nat):Int) (1*2^((k:Nat):Int).toNat)=((gk (ks.take (i+1)):Nat):Int):=by
   rw[shlN,orN]
   unfold gk
   rw[NA,hk,Py]
   rfl
  simp only[e]
  exact⟨_,rfl,rfl⟩
 ·rintro σ H2 ⟨v2,rfl,rfl⟩
  rw[M7,ND]
  exact⟨_,rfl,q⟩
theorem ox:av ["many","links","marks"] ["many","links","marks"] (ah bf):=⟨rfl,rfl,rfl,by decide +kernel,rfl,by decide +kernel,by decide +kernel⟩
theorem ok_ref{f f1 f2 f3:Addr}{fd fd1 fd2 fd3:FuncData} (F:Fun K "refuse_marks" "refuse_marks" bf f fd) (T:TxtM mg) (G_odd:Cal P w K mg base 3 "odd" ["mask"] spOdd f1 fd1) (G_whole:Cal P w K mg base 2 "whole" ["many","links"] spWhl f2 fd2) (G_ones:Cal P w K mg base 2 "ones" ["mask"] spOnes f3 fd3):FnOk P w K mg base CX0 4 f fd ["many","links","marks"] spRef:=by
 refine F.ok ox (fun vs H Q E h=>?_) (fun cdv A outer s H vs Q E hr h=>?_)
 ·obtain⟨v,n,mk,ls,rfl,_⟩:=h
  rfl
 obtain⟨v,n,mk,ls,rfl,hV,ok,n1,hc,hmk,ev,few,kk⟩:=h
 have n40:=ok.n1
 have mlt:mk<2^40:=Nk hmk (NZ (by decide) n40)
 obtain⟨tM,hM⟩:=T.most
 refine⟨_,(af (bL (aC js (az G_odd.ok (hr.mono (by decide)) rfl G_odd.mg G_odd.kp G_odd.bn .nil aR (ae (pv 2) aj)) ai (aI _)) (ak cW) aP)
   (af (bL (wQ (rV (az G_whole.ok (hr.mono (by decide)) rfl G_whole.mg G_whole.kp G_whole.bn .nil aR (ae (pv 0) (ae (pv 1) aj))))) (ak cW) aP)
   (ak (bL (aC C9 (az G_ones.ok (hr.mono (by decide)) rfl G_ones.mg G_ones.kp G_ones.bn .nil aR (ae (pv 2) aj)) (uq rfl T.most) (aI _)) (ak cW) aP)))),?_⟩
 refine⟨_,rfl,mk,rfl,mlt,fun H1 s1=>?_⟩
 refine⟨rfl,_,rfl,ite2 (fun z=>absurd (V.int.inj (of_decide_eq_true z)) (by omega)) (fun _=>?_)⟩
 refine⟨_,rfl,_,rfl,v,n,ls,rfl,hV.mono s1,ok,n1,fun r H2 run s2=>?_⟩
 have er:=Iy run ok.sm n1 hc
 have eb:decide ((r:Int)=1*2^((n:Nat):Int).toNat-1)=true:=decide_eq_true (by
  rw[shlN,er]
  have:=Ou n
  omega)
 rw[eb]
 refine⟨_,rfl,iteF ?_⟩
 refine⟨_,rfl,mk,rfl,mlt,fun H3 s3=>?_⟩
 refine⟨_,_,rfl,rfl,_,rfl,ite2 (fun z=>absurd (of_decide_eq_true z) (by show ¬ (((bl mk).length:Nat):Int) > 14;omega)) (fun _=>?_)⟩
 exact kk _ (s1.trans (s2.trans s3))
end
end KF
namespace KF
open PySem L2
local macro_rules | `(tactic| walk_at "cc") => `(tactic| first | exact ⟨by decide, by decide⟩ | (show (0 : Int) < _; decide) | (show (0 : Int) < _; omega) | (show (0 : Int) ≤ _; omega) | exact ⟨by decide, by decide, by decide⟩ | exact ⟨by omega, by omega, by decide⟩ | exact Or.inl ⟨by decide, by decide⟩ | exact Or.inl ⟨by omega, by omega⟩)
local macro_rules | `(tactic| walk_at "rd") => `(tactic| repeat (first | refine ⟨_, rfl, ?_⟩ | refine ⟨_, _, rfl, rfl, ?_⟩ | refine ⟨rfl, ?_⟩ | (refine ⟨?cc, ?_⟩; (case cc => walk_at "cc"))))
noncomputable def spRow:Sp:=fun vs H Q _=>∃(v:V)(va:Addr)(r s:Nat)(ls:List Lk)(VL:List (Option Nat))(ks:List Nat),vs = [v,.ref va,.int (r:Int)]/\LnAt H v ls/\H va=some (.lst (VL.map oN))/\VL[s]?=some none/\Pth ls VL s r ks/\ks.length<=40/\∀ q H',Same H H'->H' q=some (.lst (ks.reverse.map iV))->Q (.ref q) H'
section
variable{P:Program}{w:World}{K:MQ}{mg:Str->Option Value}{base:Heap}
theorem kA:av ["links","via","room","back","here"] ["links","via","room"] (ah f9):=⟨rfl,rfl,rfl,by decide +kernel,rfl,by decide +kernel,by decide +kernel⟩
theorem ok_row{f f1:Addr}{fd fd1:FuncData} (F:Fun K "row_to" "row_to" f9 f fd) (T:TxtR mg) (G_beyond:Cal P w K mg base 1 "beyond" ["link","room"] spBey f1 fd1):FnOk P w K mg base CX0 2 f fd ["links","via","room"] spRow:=by
 refine F.ok kA (fun vs H Q E h=>?_) (fun cdv A outer s H vs Q E hr h=>?_)
 ·obtain⟨v,va,r,s0,ls,VL,ks,rfl,_⟩:=h
  rfl
 obtain⟨v,va,r,s0,ls,VL,ks,rfl,⟨a,xs,rfl,hA,hL⟩,hva,hs0,hP,k40,kk⟩:=h
 refine⟨_,(af (ar (i:=3) kA.nd rfl (Or.inl rfl) (dm aj))
   (af (ar (i:=4) kA.nd rfl (Or.inl rfl) (pv 2))
   (af (gf PassesOwn.never (aC FJ (aD aA (pv 1) (pv 4) (fun _ _=>rfl)) jw (aI _)) (af (bC (kK NB NH NG bu (pv 3) (ae (aD aA (pv 1) (pv 4) (fun _ _=>rfl)) aj)))
   (ak (ar (i:=4) kA.nd rfl (Or.inl rfl) (az G_beyond.ok (hr.mono (by decide)) rfl G_beyond.mg G_beyond.kp G_beyond.bn .nil aR (ae (aD aA (pv 0) (aD aA (pv 1) (pv 4) (fun _ _=>rfl)) (fun _ _=>rfl)) (ae (pv 4) aj)))))))
   (ak (aE (rX rfl rfl T.n_list rfl T.n_reversed (pv 3))))))),?_⟩
 refine⟨(by show 0<=sizeLine;decide),fun l hl=>?_⟩
 have lv:l≠va:=fun z=>by rw[z,hva]at hl;cases hl
 refine⟨_,rfl,fQ (fun σ H2=>∃(here:Nat)(pre rest:List Nat),σ = [some (.ref a),some (.ref va),some (.int (r:Int)),some (.ref l),some (.int (here:Int))]/\H2 l=some (.lst (pre.map iV))/\pre++rest=ks/\Pth ls VL s0 here rest/\Same H H2)
  (fun _ H2=>match H2 l with | some (.lst zs)=>100-zs.length | _=>0) ⟨r,[],ks,rfl,ag,rfl,hP,aq hl _⟩ ?_ ?_⟩
 ·rintro σ H2 ⟨here,pre,rest,rfl,hp,hpr,hc,s2⟩
  have hpl:pre.length+rest.length<=40:=by
   have:=congrArg List.length hpr
   rw[MX]at this
   omega
  have hva2:=s2 _ _ hva
  cases hc with
  |root =>
   refine⟨_,rfl,_,rfl,va,_,_,_,rfl,rfl,SqL.of hva2,aJ (Ja hs0),rfl,_,rfl,iteF ?_⟩
   rw[Ow]at hpr
   subst hpr
   refine⟨_,rfl,l,_,rfl,SqL.of hp,fun q hq=>?_⟩
   refine kk q _ (s2.trans (aq hq _)) ?_
   rw[ag,List.map_reverse]
  | @step _ k lk rest' hv hlk hc' =>
   obtain⟨lv',hlv,lt,rfl,hlt⟩:=hL.2 k lk hlk
   refine⟨_,rfl,_,rfl,va,_,_,_,rfl,rfl,SqL.of hva2,aJ (Ja hv),rfl,_,rfl,iteT ?_⟩
   rw[Nv]at hpl
   refine⟨_,rfl,.inl ⟨rfl,_,SqL.of hp⟩,_,rfl,_,rfl,va,_,_,_,rfl,rfl,SqL.of hva2,aJ (Ja hv),l,_,_,rfl,rfl,hp,ax (by rw[M7];omega),?_⟩
   have s3:=aW s2 hl (.lst (pre.map iV++[.int (k:Int)]))
   refine⟨_,rfl,_,rfl,_,rfl,va,_,_,_,rfl,rfl,SqL.of (s3 _ _ hva),aJ (Ja hv),a,_,_,_,rfl,rfl,SqL.of (s3 _ _ hA),aJ hlv,_,rfl,.ref lt,lk,here,rfl,⟨lt,rfl,s3 _ _ hlt⟩,?_⟩
   refine⟨⟨bey lk here,pre++[k],rest',rfl,?_,?_,hc',s3⟩,?_⟩
   ·rw[ag,NU];rfl
   ·rw[OV];exact hpr
   ·rw[hp]
    show(match(upd H2 l (.lst (pre.map iV++[.int (k:Int)]))) l with | some (.lst zs)=>100-zs.length | _=>0)<100-(pre.map iV).length
    rw[ag]
    show 100-(pre.map iV++[V.int (k:Int)]).length<100-(pre.map iV).length
    rw[MX,M7,Nc]
    omega
 ·rintro σ H2 Q1 Q2 hi ⟨v',e,i,j,a',b',c',d',f',g',h',i',j',k',l',q⟩
  exact⟨v',e,i,j,a',b',c',d',f',g',h',i',j',k',l',hi _ _ q⟩
end
noncomputable def RM(rho:Nat->Nat)(c:Nat):Nat->Nat
 |0=>0
 |i+1=>if c.testBit i=true then RM rho c i^^^2^rho i else RM rho c i
theorem HX(rho:Nat->Nat)(u v:Nat):∀ i,RM rho (u^^^v) i=RM rho u i^^^RM rho v i
 |0=>(OQ 0).symm
 |i+1=>by
  unfold RM
  rw[HX rho u v i,NT]
  have x4:∀ a b e:Nat,(a^^^e)^^^(b^^^e)=a^^^b:=fun a b e=>by rw[Pa b e,← NP,NP a e e,OQ,OP]
  cases u.testBit i<;>cases v.testBit i<;>simp
  ·rw[NP]
  ·rw[NP,NP,Pa (RM rho v i)]
  ·exact(x4 _ _ _).symm
theorem HY(rho:Nat->Nat)(k:Nat):∀ i,RM rho (2^k) i=if k<i then 2^rho k else 0
 |0=>by rw[if_neg (NV _)];rfl
 |i+1=>by
  unfold RM
  rw[HY rho k i,Nu]
  by_cases c:k=i
  ·subst c
   rw[if_pos (by simp),if_neg (Nz _),if_pos (NR _),Nat.zero_xor]
  ·rw[if_neg (by simpa using c)]
   by_cases d:k<i
   ·rw[if_pos d,if_pos (by omega)]
   ·rw[if_neg d,if_neg (by omega)]
theorem HW(rho:Nat->Nat):∀ i,RM rho 0 i=0
 |0=>rfl
 |i+1=>by unfold RM;rw[NK,if_neg Nn];exact HW rho i
theorem HZ{l:List Nat}(nd:l.Nodup)(x:Nat):∀ i,i<=l.length->(RM (fun i=>l.getD i 0) (2^l.length-1) i).testBit x=decide (x∈l.take i)
 |0,_=>by rw[Qr];show(0:Nat).testBit x=_;rw[NK];simp
 |i+1,h=>by
  unfold RM
  rw[if_pos (by rw[OR];exact decide_eq_true (by omega)),NT,HZ nd x i (by omega),Nu]
  have e:l[i]?=some l[i]:=MN (by omega)
  have eg:l.getD i 0=l[i]:=by rw[Ny,e];rfl
  rw[eg]
  have nm:l[i]∉l.take i:=fun z=>by
   obtain⟨k,hk,ek⟩:=Oi z
   rw[Oq]at hk
   rw[List.getElem_take]at ek
   have:=(List.getElem_inj nd).mp ek
   omega
  have mm:x∈l.take (i+1)↔(x∈l.take i∨x=l[i]):=by
   rw[NA,e]
   exact M5.trans (or_congr Iff.rfl Nx)
  by_cases c:x=l[i]
  ·rw[decide_eq_false (fun z=>nm (c▸z)),decide_eq_true c.symm,decide_eq_true (mm.mpr (.inr c))]
   rfl
  ·rw[decide_eq_false (show ¬ l[i]=x from fun z=>c z.symm),OX]
   exact decide_eq_decide.mpr ⟨fun h=>mm.mpr (.inl h),fun h=>(mm.mp h).resolve_right c⟩
theorem RM_all(mk:Nat):RM (fun i=>(bl mk).getD i 0) (2^(bl mk).length-1) (bl mk).length=mk:=NF fun x=>by
 rw[HZ (bl_nd mk) x _ (MT _),ND]
 cases z:mk.testBit x with
 |true=>exact decide_eq_true (mem_bl.mpr z)
 |false=>exact decide_eq_false fun y=>by rw[mem_bl,z]at y;cases y
theorem Hg{c f g:Nat}(hf:f∈bl c)(hg:g∈bl c)(n:f≠g):cut2 c f g<c:=by
 have sub:cut2 c f g&&&c=cut2 c f g:=NF fun i=>by
  rw[Oo]
  cases z:(cut2 c f g).testBit i with
  |false=>rfl
  |true =>
   have:=(og hf hg n i).mp (mem_bl.mpr z)
   rw[mem_bl.mp this.1]
   rfl
 have le:cut2 c f g<=c:=by rw[← sub];exact Nat.and_le_right
 have ne:cut2 c f g≠c:=fun z=>by
  have:=(og hf hg n f).mp (by rw[z];exact hf)
  exact this.2.1 rfl
 omega
theorem Cs.map{d:Nat->Nat->Int}{rho:Nat->Nat}{l:List Nat}{c:Int}(h:Cs (fun i j=>d (rho i) (rho j)) l c):Cs d (l.map rho) c:=by
 obtain⟨PL,p,e⟩:=h
 refine⟨PL.map fun q=>(rho q.1,rho q.2),?_,?_⟩
 ·have ef:∀ PL:List (Nat×Nat),flat (PL.map fun q=>(rho q.1,rho q.2))=(flat PL).map rho:=fun PL=>by
   induction PL with
   |nil=>rfl
   |cons q r ih=>rw[Nj,flat_cons,flat_cons,ih,Nj,Nj]
  rw[ef]
  exact p.map rho
 ·rw[← e]
  unfold cst
  rw[Pc]
  rfl
theorem Cs.back{d:Nat->Nat->Int}{rho ix:Nat->Nat}{l:List Nat}{c:Int}(hi:∀ i∈l,ix (rho i)=i)(h:Cs d (l.map rho) c):Cs (fun i j=>d (rho i) (rho j)) l c:=by
 obtain⟨PL,p,e⟩:=h
 have mem:∀ x∈flat PL,rho (ix x)=x:=fun x hx=>by
  obtain⟨i,hi',rfl⟩:=NL.mp (p.mem_iff.mp hx)
  rw[hi i hi']
 refine⟨PL.map fun q=>(ix q.1,ix q.2),?_,?_⟩
 ·have ef:∀ PL:List (Nat×Nat),flat (PL.map fun q=>(ix q.1,ix q.2))=(flat PL).map ix:=fun PL=>by
   induction PL with
   |nil=>rfl
   |cons q r ih=>rw[Nj,flat_cons,flat_cons,ih,Nj,Nj]
  rw[ef]
  refine(p.map ix).trans ?_
  rw[Pc]
  have:l.map (ix∘rho)=l:=by
   conv=>rhs;rw[← List.map_id l]
   exact Pk fun i hi'=>hi i hi'
  rw[this]
 ·rw[← e]
  unfold cst
  rw[Pc]
  refine congrArg List.sum (Pk fun q hq=>?_)
  have m1:q.1∈flat PL:=by
   unfold flat
   exact List.mem_flatMap.mpr ⟨q,hq,M3 ..⟩
  have m2:q.2∈flat PL:=by
   unfold flat
   exact List.mem_flatMap.mpr ⟨q,hq,MY _ (M3 ..)⟩
  show d (rho (ix q.1)) (rho (ix q.2))=d q.1 q.2
  rw[mem _ m1,mem _ m2]
theorem HC(m:Nat):(bl (2^m-1)).Perm (Na m):=by
 refine(N9 (bl_nd _) (PH)).mpr fun x=>?_
 rw[mem_bl,OR,NX,decide_eq_true_iff]
theorem Opt.rooms{d:Nat->Nat->Int}{l:List Nat}(nd:l.Nodup){t:Int}(h:Opt (fun i j=>d (l.getD i 0) (l.getD j 0)) (bl (2^l.length-1)) t):Opt d l t:=by
 have h':=h.perm (HC l.length)
 have em:(Na l.length).map (fun i=>l.getD i 0)=l:=by
  refine List.ext_getElem (by rw[M7,NN]) fun i h1 h2=>?_
  rw[List.getElem_map,List.getElem_range,Ny,MN h2]
  rfl
 have ix:∀ i∈Na l.length,l.idxOf (l.getD i 0)=i:=fun i hi=>by
  have hi':=NX.mp hi
  rw[Ny,MN hi']
  exact nd.idxOf_getElem i hi'
 refine⟨?_,fun c hc=>h'.2 c (Cs.back (rho:=fun i=>l.getD i 0) (ix:=fun x=>l.idxOf x) ix (by rw[em];exact hc))⟩
 have:=Cs.map (rho:=fun i=>l.getD i 0) h'.1
 rw[em]at this
 exact this
noncomputable def spChosen:Sp:=fun vs H Q _=>∃(ta r:Addr)(xs vals:List V)(ks:List Nat),vs = [.ref ta,.ref r]/\H ta=some (.lst xs)/\H r=some (.lst (ks.map iV))/\vals.length=ks.length/\ks.length<=900/\(∀(i k:Nat),ks[i]?=some k->∃ y,xs[k]?=some y/\vals[i]?=some y)/\∀ q H',Same H H'->H q=none->H' q=some (.lst vals)->Q (.ref q) H'
noncomputable def spTable:Sp:=fun vs H Q _=>vs = []/\∀ p t H',Same H H'->H p=none->H' p=some (.dK [(.inl ((0:Nat):Int),.ref t)])->H' t=some (.tup [.int 0,.non,.non])->Q (.ref p) H'
section
variable{P:Program}{w:World}{K:MQ}{mg:Str->Option Value}{base:Heap}
theorem wK:av ["entries","numbers"] ["entries","numbers"] (ah bX):=⟨rfl,rfl,rfl,by decide +kernel,rfl,by decide +kernel,by decide +kernel⟩
theorem ok_chosen{f:Addr}{fd:FuncData} (F:Fun K "chosen_of" "chosen_of" bX f fd):FnOk P w K mg base CX0 1 f fd ["entries","numbers"] spChosen:=by
 refine F.ok wK (fun vs H Q E h=>?_) (fun cdv A outer s H vs Q E hr h=>?_)
 ·obtain⟨ta,r,xs,vals,ks,rfl,_⟩:=h
  rfl
 obtain⟨ta,r,xs,vals,ks,rfl,hta,hr',vl,k9,hv,kk⟩:=h
 refine⟨_,(ak (aE (gh rfl (fr:=[("entries",0)]) (by exact bM.one (by rfl) (by decide +kernel) (by rfl) (by decide +kernel) (by rfl) (by decide +kernel) (by rfl) (by rfl) (by decide +kernel) (by rfl)) (bo (pv 1)) (fun C ex s H=>(aD (Jt (K:=K) rfl) (pv 1) (pv 0) (fun _ _=>rfl)))))),?_⟩
 refine⟨_,rfl,r,rfl,⟨_,SqL.of hr'⟩,eu (K:=K) (xs:=ks.map iV) (fun i zs H2=>H2=H/\zs=vals.take i) (NM (ax (by rw[M7];omega))) ⟨rfl,rfl⟩ (fun i zs H2 _ z=>by rw[z.1];exact SqL.of hr') ?_ ?_⟩
 ·rintro i x zs H2 hx ⟨rfl,rfl⟩
  rw[Nq]at hx
  obtain⟨k,hk,rfl⟩:=NI.mp hx
  obtain⟨y,h1,h2⟩:=hv i k hk
  refine⟨_,rfl,_,rfl,ta,_,_,_,rfl,rfl,SqL.of hta,aJ h1,rfl,?_⟩
  rw[NA,h2]
  rfl
 rintro zs H2 _ ⟨rfl,rfl⟩ q hq
 rw[M7,← vl,ND]
 exact kk q _ (aq hq _) hq ag
theorem wI:av [] [] (ah bW):=⟨rfl,rfl,rfl,by decide +kernel,rfl,by decide +kernel,by decide +kernel⟩
theorem ok_table{f:Addr}{fd:FuncData} (F:Fun K "new_table" "new_table" bW f fd):FnOk P w K mg base CX0 1 f fd [] spTable:=by
 refine F.ok wI (fun vs H Q E h=>?_) (fun cdv A outer s H vs Q E hr h=>?_)
 ·rw[h.1];rfl
 obtain⟨rfl,kk⟩:=h
 refine⟨_,(ak (aE (Fz (Cf ai (bP (ae ai (ae jw (ae jw aj)))) Fl) rfl rfl (fun z=>by cases z) (by decide)))),?_⟩
 intro p hp
 refine⟨(by show 3<=sizeLine;decide),fun t ht=>?_⟩
 have z1:=aq hp (.dK [])
 have z2:=aq ht (.tup [.int 0,.non,.non])
 have pt:p≠t:=fun z=>by rw[← z,ag]at ht;cases ht
 refine⟨by rw[ao pt];exact ag,[(.inl ((0:Nat):Int),.ref t)],rfl,(by show 1<=15;decide),?_⟩
 refine kk p t _ (aW (z1.trans z2) hp _) hp ag ?_
 rw[ao (Ne.symm pt)]
 exact ag
end
end KF
namespace KF
open PySem L2
local macro_rules | `(tactic| walk_at "cc") => `(tactic| first | exact ⟨by decide, by decide⟩ | (show (0 : Int) < _; decide) | (show (0 : Int) < _; omega) | (show (0 : Int) ≤ _; omega) | exact ⟨by decide, by decide, by decide⟩ | exact ⟨by omega, by omega, by decide⟩ | exact Or.inl ⟨by decide, by decide⟩ | exact Or.inl ⟨by omega, by omega⟩)
local macro_rules | `(tactic| walk_at "rd") => `(tactic| repeat (first | refine ⟨_, rfl, ?_⟩ | refine ⟨_, _, rfl, rfl, ?_⟩ | refine ⟨rfl, ?_⟩ | (refine ⟨?cc, ?_⟩; (case cc => walk_at "cc"))))
noncomputable def FdAt(n:Nat)(ls:List Lk)(H:Hp)(v:V)(s:Nat):Prop:=∃ t ta va TL VL,v=.ref t/\H t=some (.tup [.ref ta,.ref va])/\H ta=some (.lst (TL.map oV))/\H va=some (.lst (VL.map oN))/\FI n ls s MM TL VL [] (fun _ _=>False)
theorem tb_same{q:Str}{lp:Pos}{TT:Addr}{H H':Hp}(h:Tb q lp TT H)(s:Same H H'):Tb q lp TT H':=by
 rcases h with y | ⟨c',y1,y2⟩
 ·exact .inl (s _ _ y)
 ·exact .inr ⟨c',s _ _ y1,s _ _ y2⟩
theorem tb_ne{q:Str}{lp:Pos}{TT:Addr}{H:Hp}(h:Tb q lp TT H){b:Addr}{o:HO}(e:H b=some o)(n:∀ ps,o≠.tbl ps):b≠TT:=fun z=>by
 rw[z]at e
 rcases h with y | ⟨_,y,_⟩<;>rw[y]at e<;>cases e<;>exact n _ rfl
noncomputable def SmT(H H':Hp):Prop:=∀ b o,(∀ ps,o≠.tbl ps)->H b=some o->H' b=some o
theorem SmT.trans{H H1 H2:Hp}(a:SmT H H1)(b:SmT H1 H2):SmT H H2:=fun c o n e=>b c o n (a c o n e)
theorem SmT.of{H H':Hp}(s:Same H H'):SmT H H':=fun c o _ e=>s c o e
theorem TbS.smT{q:Str}{lp:Pos}{TT:Addr}{H H':Hp}(s:TbS TT H H')(h:Tb q lp TT H):SmT H H':=fun b o n e=>s b o (tb_ne h e n) e
theorem SmT.lst{H H':Hp}(s:SmT H H'){b:Addr}{xs:List V}(e:H b=some (.lst xs)):H' b=some (.lst xs):=s _ _ (fun ps z=>by cases z) e
theorem SmT.tup{H H':Hp}(s:SmT H H'){b:Addr}{xs:List V}(e:H b=some (.tup xs)):H' b=some (.tup xs):=s _ _ (fun ps z=>by cases z) e
theorem FdAt.mono{n:Nat}{ls:List Lk}{H H':Hp}{v:V}{s:Nat}(h:FdAt n ls H v s)(sm:SmT H H'):FdAt n ls H' v s:=by
 obtain⟨t,ta,va,TL,VL,e,h1,h2,h3,h4⟩:=h
 exact⟨t,ta,va,TL,VL,e,sm.tup h1,sm.lst h2,sm.lst h3,h4⟩
theorem LnAt.smT{H H':Hp}{v:V}{r:List Lk}(h:LnAt H v r)(s:SmT H H'):LnAt H' v r:=by
 obtain⟨a,ys,e,z,l⟩:=h
 exact⟨a,ys,e,s.lst z,l.imp fun _ _ ⟨t,e,q⟩=>⟨t,e,s.tup q⟩⟩
noncomputable def LT(H H':Hp):Prop:=(∀ b xs,H b=some (.lst xs)->H' b=some (.lst xs))/\∀ b xs,H b=some (.tup xs)->H' b=some (.tup xs)
theorem LT.same{H H':Hp}(s:Same H H'):LT H H':=⟨fun _ _ e=>s _ _ e,fun _ _ e=>s _ _ e⟩
theorem LT.tbS{H H':Hp}{tb:Addr}{kvs:List (Key×V)}(s:TbS tb H H')(h:H tb=some (.dK kvs)):LT H H':=⟨fun b xs e=>s _ _ (fun z=>by rw[z,h]at e;cases e) e,fun b xs e=>s _ _ (fun z=>by rw[z,h]at e;cases e) e⟩
theorem FdAt.lt{n:Nat}{ls:List Lk}{H H':Hp}{v:V}{s:Nat}(h:FdAt n ls H v s)(sm:LT H H'):FdAt n ls H' v s:=by
 obtain⟨t,ta,va,TL,VL,e,h1,h2,h3,h4⟩:=h
 exact⟨t,ta,va,TL,VL,e,sm.2 _ _ h1,sm.1 _ _ h2,sm.1 _ _ h3,h4⟩
theorem mF.uniq{H:Hp}{v:V}{t t':Int}(h:mF H v t)(h':mF H v t'):t=t':=by
 obtain⟨a,y,z,e,q⟩:=h
 obtain⟨a',y',z',e',q'⟩:=h'
 rw[e]at e'
 cases e'
 rw[q]at q'
 cases q'
 rfl
theorem Jg{ks:List Nat}{N:Nat}(h:∀ k∈ks,k<N):gk ks<2^N:=OD _ fun i hi=>by
 rw[ie]
 exact decide_eq_false fun z=>by have:=h i z;omega
theorem F6(ks:List Nat):gk ks.reverse=gk ks:=NF fun i=>by
 rw[ie,ie]
 exact decide_eq_decide.mpr PJ
noncomputable def PrI(v:V)(n mk m N:Nat)(ls:List Lk)(r fa bv tb:Addr)(kvs:List (Key×V))(t:Int)(H8:Hp)(σ:St)(H:Hp):Prop:=∃(c u:Nat)(v10 v11:Option V)(w:V)(tc:Int),σ = [some (.int (n:Int)),some v,some (.int (mk:Int)),some (.ref r),some (.ref fa),some (.ref bv),some (.ref tb),some (.int (c:Int)),some (.int t),some (.int (u:Int)),v10,v11]/\Same H8 H/\valV kvs (.inl (c:Int))=some w/\mF H8 w tc/\u<2^N/\oddE ls u N=mk^^^RM (fun i=>(bl mk).getD i 0) c m/\cstU ls u N<=t-tc
noncomputable def spPaired(TT:Addr):Sp:=fun vs H Q _=>∃(v:V)(n mk:Nat)(ls:List Lk),vs = [.int (n:Int),v,.int (mk:Int)]/\LnAt H v ls/\Lok n ls/\1<=n/\Conn n ls/\mk<2^n/\(bl mk).length%2=0/\(bl mk).length<=14/\Tb lqF lpF TT H /\
 ∀(t:Addr)(cost:Int)(u:Nat) H',SmT H H'->Tb lqF lpF TT H'->H' t=some (.tup [.int cost,.int (u:Int)])->u<2^ls.length->oddE ls u ls.length=mk->Opt (farD ls) (bl mk) cost->cstU ls u ls.length<=cost->Q (.ref t) H'
noncomputable def RwA(ls:List Lk)(mk:Nat)(H:Hp)(v:V)(s:Nat):Prop:=∃ p,v=V.ref p/\H p=some (.lst ((bl mk).map fun x=>V.int (farD ls s x)))
noncomputable def dR (ls:List Lk) (mk:Nat) (i j:Nat):Int:=farD ls ((bl mk).getD i 0) ((bl mk).getD j 0)
section
variable{P:Program}{w:World}{K:MQ}{mg:Str->Option Value}{base:Heap}
theorem br:av ["many","links","marks","rooms","found","between","table","left","cost","used","first","mate"] ["many","links","marks"] (ah gc):=⟨rfl,rfl,rfl,by decide +kernel,rfl,by decide +kernel,by decide +kernel⟩
theorem ok_paired{TT f f1 f2 f3 f4 f5 f6 f7 f8:Addr}{fd fd1 fd2 fd3 fd4 fd5 fd6 fd7 fd8:FuncData} (F:Fun K "paired" "paired" gc f fd) (T:Txt mg) (G_refuse_marks:Cal P w K mg base 4 "refuse_marks" ["many","links","marks"] spRef f1 fd1) (G_bits:Cal P w K mg base 1 "bits" ["mask"] spBits f2 fd2) (G_fares:Cal P w K mg base 2 "fares" ["many","links","start"] (spFares TT) f3 fd3)
  (G_chosen_of:Cal P w K mg base 1 "chosen_of" ["entries","numbers"] spChosen f4 fd4) (G_new_table:Cal P w K mg base 1 "new_table" [] spTable f5 fd5) (GL:∀(D:Nat->Nat->Int)(m:Nat),(∀ a b,D a b=D b a)->Cal P w K mg base 10 "laid_in_pairs" ["between","chosen","table"] (spLaid D m 8) f6 fd6)
  (G_mask_of:Cal P w K mg base 1 "mask_of" ["places"] (spMask K) f7 fd7) (G_row_to:Cal P w K mg base 2 "row_to" ["links","via","room"] spRow f8 fd8):FnOk P w K mg base CX0 11 f fd ["many","links","marks"] (spPaired TT):=by
 refine F.ok br (fun vs H Q E h=>?_) (fun cdv A outer s H vs Q E hr h=>?_)
 ·obtain⟨v,n,mk,ls,rfl,_⟩:=h
  rfl
 obtain⟨v,n,mk,ls,rfl,hV,ok,n1,hc,hmk,ev,few,tb0,kk⟩:=h
 have hu:=GK hr
 have n40:=ok.n1
 have l60:=ok.l9
 have G_laid_in_pairs:=GL (dR ls mk) (bl mk).length (fun a b=>Kg _ _ _)
 have mlt:mk<1099511627776:=by
  have h1:2^n<=2^40:=NZ (by decide) n40
  have e40:(2:Nat)^40=1099511627776:=by decide
  omega
 have rlt:∀ x∈bl mk,x<n:=fun x hx=>bl_lt hmk hx
 refine⟨_,(af (bC (az G_refuse_marks.ok (hr.mono (by decide)) rfl G_refuse_marks.mg G_refuse_marks.kp G_refuse_marks.bn .nil aR (ae (pv 0) (ae (pv 1) (ae (pv 2) aj)))))
   (af (ar (i:=3) br.nd rfl (Or.inr rfl) (az G_bits.ok (hr.mono (by decide)) rfl G_bits.mg G_bits.kp G_bits.bn .nil aR (ae (pv 2) aj)))
   (af (oE (i:=4) rfl br.nd rfl rfl (fr:=[("many",0),("links",1)]) (xs:=["room"]) (ju.of (by rfl) (by decide +kernel) (by rfl) (by decide +kernel) (by intro p hp;simp only[MV,NW,or_false]at hp;rcases hp with rfl | rfl<;>exact⟨rfl,rfl⟩) (by decide +kernel) (by intro p hp;simp only[MV,NW,or_false]at hp;rcases hp with rfl | rfl<;>rfl)) (bo (pv 3)) (fun C ex s H=>(aL (i:=0) (show(["room","many","links"]:List Str).Nodup from by decide +kernel) rfl (Or.inl rfl))) (fun C ex s H=>t6) (fun C ex s H=>(az G_fares.ok (hr.mono (by decide)) rfl G_fares.mg G_fares.kp G_fares.bn .nil aR (ae (pv 1) (ae (pv 2) (ae (pv 0) aj))))))
   (af (oE (i:=5) rfl br.nd rfl rfl (fr:=[("rooms",3)]) (xs:=["told","via"]) (ju.of (by rfl) (by decide +kernel) (by rfl) (by decide +kernel) (by intro p hp;simp only[MV,NW,or_false]at hp;rcases hp with rfl<;>exact⟨rfl,rfl⟩) (by decide +kernel) (by intro p hp;simp only[MV,NW,or_false]at hp;rcases hp with rfl<;>rfl)) (bo (pv 4)) (fun C ex s H=>(zY (n:=2) (K:=K) rfl rfl (bh (aL (i:=0) (show(["told","via","rooms"]:List Str).Nodup from by decide +kernel) rfl (Or.inl rfl)) (bh (aL (i:=1) (show(["told","via","rooms"]:List Str).Nodup from by decide +kernel) rfl (Or.inl rfl)) g9)))) (fun C ex s H=>t6) (fun C ex s H=>(az G_chosen_of.ok (hr.mono (by decide)) rfl G_chosen_of.mg G_chosen_of.kp G_chosen_of.bn .nil aR (ae (pv 0) (ae (pv 2) aj)))))
   (af (ar (i:=6) br.nd rfl (Or.inl rfl) (IF G_new_table.ok (hr.mono (by decide)) rfl G_new_table.mg G_new_table.kp G_new_table.bn .nil aR))
   (af (ar (i:=7) br.nd rfl (Or.inl rfl) (aB jx (aB de ai (aM aF (by rfl) T.n_len cN (ae (pv 3) aj))) ai))
   (af (ar (i:=8) br.nd rfl (Or.inl rfl) (aD aS (az G_laid_in_pairs.ok (hr.mono (by decide)) rfl G_laid_in_pairs.mg G_laid_in_pairs.kp G_laid_in_pairs.bn .nil aR (ae (pv 5) (ae (pv 7) (ae (pv 6) aj)))) ai (fun _ _=>rfl)))
   (af (ar (i:=9) br.nd rfl (Or.inl rfl) ai)
   (af (gf PassesOwn.never (aC nh (pv 7) ai (aI _)) (af (ar (i:=10) br.nd rfl (Or.inl rfl) (aD aS (oI hu (pv 6) (pv 7) (fun _ _=>rfl)) ai (fun _ _=>rfl)))
   (af (ar (i:=11) br.nd rfl (Or.inl rfl) (aD aS (oI hu (pv 6) (pv 7) (fun _ _=>rfl)) ai (fun _ _=>rfl)))
   (af (ar (i:=9) br.nd rfl (Or.inl rfl) (aB oK (pv 9) (az G_mask_of.ok (hr.mono (by decide)) rfl G_mask_of.mg G_mask_of.kp G_mask_of.bn .nil aR (ae (az G_row_to.ok (hr.mono (by decide)) rfl G_row_to.mg G_row_to.kp G_row_to.bn .nil aR (ae (pv 1) (ae (aD aS (aD aA (pv 4) (pv 10) (fun _ _=>rfl)) ai (fun _ _=>rfl)) (ae (aD aA (pv 3) (pv 11) (fun _ _=>rfl)) aj)))) aj))))
   (ak (ar (i:=7) br.nd rfl (Or.inl rfl) (aB oK (aB oK (pv 7) (aB de ai (pv 10))) (aB de ai (pv 11)))))))))
   (ak (aE (bP (ae (pv 8) (ae (pv 9) aj)))))))))))))),?_⟩
 refine⟨_,rfl,_,rfl,_,rfl,v,n,mk,ls,rfl,hV,ok,n1,hc,hmk,ev,few,fun H1 s1=>?_⟩
 refine⟨_,rfl,(mk:Int),rfl,by omega,by omega,fun r H2 s2 hr0 hr2=>?_⟩
 rw[Ng]at hr2
 have s12:=s1.trans s2
 have tb2:=tb_same tb0 s12
 have hr2':H2 r=some (.lst ((bl mk).map iV)):=hr2
 have lenm:((bl mk).map iV).length=(bl mk).length:=M7 ..
 refine⟨_,rfl,r,rfl,⟨_,SqL.of hr2'⟩,sj (K:=K) (xs:=(bl mk).map iV) (fun i zs H3=>SmT H2 H3/\Tb lqF lpF TT H3/\LsAt (FdAt n ls) H3 zs ((bl mk).take i)) (NM (ax (by omega))) ⟨fun _ _ _ e=>e,tb2,LsAt.nil⟩ (fun i zs H3 _ z=>SqL.of (z.1.lst hr2')) ?_ ?_ ?_⟩
 ·rintro i x zs H3 hx ⟨sm3,tb3,hZ⟩
  rw[Nq]at hx
  obtain⟨k,hk,rfl⟩:=NI.mp hx
  refine⟨rfl,yesT ⟨_,rfl,_,rfl,_,rfl,v,n,k,ls,rfl,LnAt.smT (hV.mono s12) sm3,ok,rlt k (MP hk),tb3,fun t ta va TL VL H4 sm4 tb4 _ _ ht hta hva fi=>?_⟩⟩
  have sm34:=TbS.smT sm4 tb3
  refine⟨sm3.trans sm34,tb4,?_⟩
  rw[NA,hk]
  exact(hZ.imp fun _ _ q=>q.mono sm34).snoc ⟨t,ta,va,TL,VL,rfl,ht,hta,hva,fi⟩
 ·rintro zs H3 ⟨sm3,tb3,hZ⟩ fa hfa
  rw[lenm,ND]at hZ
  have z4:=aq hfa (.lst zs)
  have sm24:SmT H2 (upd H3 fa (.lst zs)):=sm3.trans (.of z4)
  have tb4:=tb_same tb3 z4
  have hZ4:LsAt (FdAt n ls) (upd H3 fa (.lst zs)) zs (bl mk):=hZ.imp fun _ _ q=>q.mono (.of z4)
  have gfa:(upd H3 fa (.lst zs)) fa=some (.lst zs):=ag
  generalize upd H3 fa (.lst zs)=H4 at sm24 tb4 hZ4 gfa
  have zl:=hZ4.1
  have hr4:=sm24.lst hr2'
  refine⟨_,rfl,fa,rfl,⟨_,SqL.of gfa⟩,sj (K:=K) (xs:=zs) (fun i ws H5=>Same H4 H5/\LsAt (RwA ls mk) H5 ws ((bl mk).take i)) (NM (ax (by omega))) ⟨fun _ _ e=>e,LsAt.nil⟩ (fun i ws H5 _ z=>SqL.of (z.1 _ _ gfa)) ?_ ?_ ?_⟩
  ·rintro i x ws H5 hx ⟨s5,hW⟩
   obtain⟨s0,hs0,t,ta,va,TL,VL,rfl,ht,hta,hva,fi⟩:=hZ4.get hx
   have slt:=rlt s0 (MP hs0)
   refine⟨t,_,rfl,SqT.of (s5 _ _ ht),rfl,_,_,rfl,_,_,rfl,rfl,rfl,yesT ⟨_,rfl,_,rfl,ta,r,_,(bl mk).map fun x=>V.int (farD ls s0 x),bl mk,rfl,s5 _ _ hta,s5 _ _ hr4,M7 ..,by omega,fun j k hk=>?_,fun q H6 s6 hq0 hq=>?_⟩⟩
   ·refine⟨.int (farD ls s0 k),?_,by rw[Nq,hk];rfl⟩
    exact F2 (fi.is hc slt (rlt k (MP hk)))
   ·refine⟨s5.trans s6,?_⟩
    rw[NA,hs0]
    exact(hW.imp fun _ _ ⟨p,e,z⟩=>⟨p,e,s6 _ _ z⟩).snoc ⟨q,rfl,hq⟩
  ·rintro ws H5 ⟨s5,hW⟩ bv hbv
   rw[zl,ND]at hW
   have z6:=aq hbv (.lst ws)
   refine⟨rfl,fun tb t0 H7 s7 htb0 htb ht0=>?_⟩
   have s57:Same H4 H7:=s5.trans (z6.trans s7)
   have hW7:LsAt (RwA ls mk) H7 ws (bl mk):=hW.imp fun _ _ ⟨p,e,z⟩=>⟨p,e,s7 _ _ (z6 _ _ z)⟩
   have hbv7:H7 bv=some (.lst ws):=s7 _ _ ag
   have at':∀ i,i<(bl mk).length->(bl mk)[i]?=some ((bl mk).getD i 0):=fun i hi=>by rw[Ny,MN hi];rfl
   have bt:BtAt H7 (.ref bv) (dR ls mk) (bl mk).length:=⟨bv,ws,rfl,hbv7,fun i hi=>by
    obtain⟨y,hy,p,rfl,hp⟩:=hW7.2 i _ (at' i hi)
    exact⟨p,_,hy,hp,fun k hk=>by rw[Nq,at' k hk];rfl⟩⟩
   have ti:TI H7 (dR ls mk) (bl mk).length [(.inl ((0:Nat):Int),.ref t0)]:=⟨(fun k w e=>by
    by_cases c:(Sum.inl ((0:Nat):Int):Key)=k
    ·rw[bz c]at e
     cases e
     exact⟨0,c.symm,Ou _,.inl ⟨rfl,t0,_,_,rfl,ht0⟩⟩
    ·rw[bA c]at e
     cases e),⟨_,bz rfl⟩,Nb.mpr ⟨(by simp),OW⟩⟩
   have hr7:=s57 _ _ hr4
   have tb7:=tb_same tb4 s57
   have eL:(1:Int)*2^((((bl mk).map iV).length:Nat):Int).toNat-1=((2^(bl mk).length-1:Nat):Int):=by
    rw[lenm,shlN]
    have:=Ou (bl mk).length
    omega
   refine⟨_,rfl,r,_,rfl,.inl (SqL.of hr7),_,_,rfl,rfl,⟨by omega,by rw[lenm];omega,by decide⟩,_,_,rfl,rfl,?_⟩
   simp only[eL]
   have lfull:(bl (2^(bl mk).length-1)).length=(bl mk).length:=by rw[(HC _).length_eq,NN]
   refine⟨_,rfl,_,rfl,_,rfl,.ref bv,tb,2^(bl mk).length-1,_,rfl,bt,htb,ti,by have:=Ou (bl mk).length;omega,few,by rw[lfull];omega,by rw[lfull];exact ev,fun w t kvs' H8 sT hT' ti' gr hv cv op=>?_⟩
   have lt78:=LT.tbS sT htb
   obtain⟨va,y,z,rfl,hva⟩:=id cv
   refine⟨va,_,0,_,rfl,rfl,SqT.of hva,a30,?_⟩
   have optR:Opt (farD ls) (bl mk) t:=Opt.rooms (bl_nd mk) op
   have tb8:Tb lqF lpF TT H8:=tD tb7 fun b hb=>by
    have hs:∃ o,H7 b=some o/\b≠tb:=by
     rcases hb with rfl | ⟨c',hb⟩
     ·rcases tb7 with q | ⟨_,q,_⟩
      ·exact⟨_,q,fun z=>by rw[z,htb]at q;cases q⟩
      ·exact⟨_,q,fun z=>by rw[z,htb]at q;cases q⟩
     ·exact⟨_,hb,fun z=>by rw[z,htb]at hb;cases hb⟩
    obtain⟨o,h1,h2⟩:=hs
    rw[h1]
    exact sT _ _ h2 h1
   have smT8:SmT H H8:=fun b o no e=>by
    have e4:=sm24 b o no (s12 _ _ e)
    have e7:=s57 _ _ e4
    refine sT _ _ (fun z=>?_) e7
    subst z
    have:=gZ (s5.trans z6) htb0
    rw[this]at e4;cases e4
   have hZ8:LsAt (FdAt n ls) H8 zs (bl mk):=hZ4.imp fun _ _ q=>(q.lt (LT.same s57)).lt lt78
   have hfa8:=lt78.1 _ _ (s57 _ _ gfa)
   have hr8:=lt78.1 _ _ hr7
   have hV8:LnAt H8 v ls:=(LnAt.smT hV smT8)
   refine fQ (PrI v n mk (bl mk).length ls.length ls r fa bv tb kvs' t H8) (fun σ _=>match σ with | [_,_,_,_,_,_,_,some (.int c),_,_,_,_]=>c.toNat | _=>0) ⟨2^(bl mk).length-1,0,_,_,_,t,rfl,fun _ _ e=>e,hv,cv,Ou _,by rw[oO,RM_all,OQ],by rw[pR];omega⟩ ?_ ?_
   ·rintro σ H9 ⟨c,u,v10,v11,w,tc,rfl,s9,hw,cw,ult,ou,cu⟩
    obtain⟨c',ec',clt,en⟩:=ti'.en _ _ hw
    have ecc:c'=c:=by
     have:(c:Int)=(c':Int):=by injection ec'
     omega
    subst ecc
    refine⟨_,rfl,rfl,_,rfl,?_⟩
    by_cases c0:c'=0
    ·subst c0
     refine xU rfl ?_
     have t0':tc=0:=by
      rcases en with⟨_,q⟩ | ⟨_,f,_,_,_,_,_,_,q,_⟩
      ·exact cw.uniq q
      ·rw[BE]at q;cases q
     refine⟨_,rfl,_,rfl,(by show 2<=sizeLine;decide),fun t9 ht9=>?_⟩
     have z9:=aq ht9 (.tup [.int t,.int (u:Int)])
     refine kk t9 t u _ (smT8.trans (.of (s9.trans z9))) (tb_same tb8 (s9.trans z9)) ag ult ?_ optR (by omega)
     rw[ou,HW,OP]
    ·refine ite2 (fun _=>?_) (fun z=>absurd (by rw[decide_eq_false (fun y=>c0 (by have:=V.int.inj y;omega))];rfl) z)
     obtain⟨tt,f,g,a,vr,tr,rfl,ha,hf,hg,fg,hvr,cvr,ett,_⟩:∃(t:Int)(f g:Nat)(a:Addr)(vr:V)(tr:Int),w=.ref a/\H8 a=some (.tup [.int t,.int (f:Int),.int (g:Int)])/\f∈bl c'/\g∈bl c'/\f≠g/\valV kvs' (.inl ((cut2 c' f g:Nat):Int))=some vr/\mF H8 vr tr/\t=dR ls mk f g+tr/\Opt (dR ls mk) (bl c') t:=by
      rcases en with⟨q,_⟩ | q
      ·exact absurd q c0
      ·exact q
     have etc:tc=tt:=cw.uniq ⟨a,_,_,rfl,ha⟩
     have flt:=bl_lt clt hf
     have glt:=bl_lt clt hg
     have hT9:=s9 _ _ hT'
     have ha9:=s9 _ _ ha
     have dg:DGet H9 tb (.int (c':Int)) (some (.ref a)):=by have:=DGet.k (k:=.inl ((c':Nat):Int)) hT9;rw[hw]at this;exact this
     refine⟨_,rfl,_,rfl,tb,_,rfl,dg,a,_,1,_,rfl,rfl,SqT.of ha9,a31,?_⟩
     refine⟨_,rfl,_,rfl,tb,_,rfl,dg,a,_,2,_,rfl,rfl,SqT.of ha9,a32,?_⟩
     obtain⟨y,hy,tF,taF,vaF,TL,VL,rfl,htF,htaF,hvaF,fi⟩:=hZ8.2 f _ (at' f flt)
     have gl:=rlt _ (MP (at' g glt))
     have fl:=rlt _ (MP (at' f flt))
     have xg:=fi.is hc fl gl
     obtain⟨j,up⟩:=fi.up _ _ xg
     obtain⟨ks,pth,kl⟩:=up.path
     have sh:=up.short fi.vs
     have vl:=fi.vl
     obtain⟨j1,j2,j3⟩:=pth.join fi
     have j3':=j3 _ xg
     refine⟨_,rfl,_,rfl,_,rfl,_,rfl,fa,_,_,_,rfl,rfl,SqL.of (s9 _ _ hfa8),aJ hy,tF,_,1,_,rfl,rfl,SqT.of (s9 _ _ htF),at1,_,rfl,_,rfl,r,_,_,_,rfl,rfl,SqL.of (s9 _ _ hr8),aJ (show((bl mk).map iV)[g]?=some (V.int (((bl mk).getD g 0:Nat):Int)) by rw[Nq,at' g glt];rfl),v,vaF,(bl mk).getD g 0,(bl mk).getD f 0,ls,VL,ks,rfl,hV8.mono s9,s9 _ _ hvaF,fi.vs,pth,by omega,fun q H10 s10 hq=>?_⟩
     refine⟨q,ks.reverse,rfl,SqL.of hq,fun k hk=>by have:=j1 k (PJ.mp hk);omega,_,_,rfl,rfl,?_⟩
     have ex:Builtin.bitXor (u:Int) ((gk ks.reverse:Nat):Int)=((u^^^gk ks:Nat):Int):=by rw[F6,xorN]
     simp only[ex]
     refine⟨_,rfl,_,rfl,_,_,rfl,rfl,⟨by omega,by omega,by decide⟩,_,_,rfl,rfl,_,rfl,_,_,rfl,rfl,⟨by omega,by omega,by decide⟩,_,_,rfl,rfl,?_⟩
     have ec:Builtin.bitXor (Builtin.bitXor (c':Int) (1*2^((f:Nat):Int).toNat)) (1*2^((g:Nat):Int).toNat)=((cut2 c' f g:Nat):Int):=by rw[shlN,shlN,xorN,xorN];rfl
     simp only[ec]
     have cx:=vG ls (fun l hl=>(ok.w0 l hl).1) u (gk ks) ls.length (MT _)
     refine⟨⟨cut2 c' f g,u^^^gk ks,some (.int (f:Int)),some (.int (g:Int)),vr,tr,rfl,s9.trans s10,hvr,cvr,Oz ult (Jg j1),?_,?_⟩,?_⟩
     ·rw[uA,ou,j2]
      unfold cut2
      rw[HX,HX,HY,HY,if_pos flt,if_pos glt,NP,NP]
     ·have ed:dR ls mk f g=farD ls ((bl mk).getD f 0) ((bl mk).getD g 0):=rfl
      omega
     ·show((cut2 c' f g:Nat):Int).toNat<((c':Nat):Int).toNat
      have:=Hg hf hg fg
      omega
   ·rintro σ H9 Q1 Q2 hi ⟨v1,e1,e2,b,e3,q⟩
    exact⟨v1,e1,e2,b,e3,hi _ _ q⟩
  ·rintro i ws H5 ⟨_,hW⟩
   rw[hW.1,Oq]
   omega
 ·rintro i zs H3 ⟨_,_,hZ⟩
  rw[hZ.1,Oq]
  omega
end
end KF
namespace L2
theorem len_0{α:Type}{l:List α}(h:l.length=0):l = []:=List.length_eq_zero_iff.mp h
theorem DG{α:Type}{l:List α}{n:Nat}(h:l.length=n+1):∃ x r,l=x::r/\r.length=n:=by
 cases l with
 |nil=>cases h
 |cons x r=>exact⟨x,r,rfl,Nat.succ.inj h⟩
theorem gW{α:Type}{l:List α}(h:l.length=1):∃ a,l = [a]:=by
 obtain⟨a,r,rfl,e⟩:=DG h
 exact⟨a,by rw[len_0 e]⟩
theorem gm{α:Type}{l:List α}(h:l.length=2):∃ a b,l = [a,b]:=by
 obtain⟨a,r,rfl,e⟩:=DG h
 obtain⟨b,rfl⟩:=gW e
 exact⟨a,b,rfl⟩
theorem o7{α:Type}{l:List α}(h:l.length=3):∃ a b c,l = [a,b,c]:=by
 obtain⟨a,r,rfl,e⟩:=DG h
 obtain⟨b,c,rfl⟩:=gm e
 exact⟨a,b,c,rfl⟩
theorem LY{α:Type}{l:List α}(h:l.length=4):∃ a b c d,l = [a,b,c,d]:=by
 obtain⟨a,r,rfl,e⟩:=DG h
 obtain⟨b,c,d,rfl⟩:=o7 e
 exact⟨a,b,c,d,rfl⟩
theorem len_5{α:Type}{l:List α}(h:l.length=5):∃ a b c d e,l = [a,b,c,d,e]:=by
 obtain⟨a,r,rfl,z⟩:=DG h
 obtain⟨b,c,d,e,rfl⟩:=LY z
 exact⟨a,b,c,d,e,rfl⟩
theorem len_6{α:Type}{l:List α}(h:l.length=6):∃ a b c d e f,l = [a,b,c,d,e,f]:=by
 obtain⟨a,r,rfl,z⟩:=DG h
 obtain⟨b,c,d,e,f,rfl⟩:=len_5 z
 exact⟨a,b,c,d,e,f,rfl⟩
end L2
namespace K8
theorem JY:∀{a b:List Nat},a.Nodup->(∀ x∈a,x∈b)->a.length<=b.length
 |[],_,_,_=>NS _
 |x::a,b,nd,h=>by
  obtain⟨n1,n2⟩:=Nb.mp nd
  have hx:=h x (by simp)
  have ih:=JY (a:=a) (b:=b.erase x) n2 fun y hy=>(List.mem_erase_of_ne (fun e:y=x=>n1 (e▸hy))).mpr (h y (MY _ hy))
  rw[Px hx]at ih
  have:0<b.length:=Oy hx
  rw[Nv]
  omega
theorem jz{a:List Nat}{N:Nat}(nd:a.Nodup)(h:∀ x∈a,x<N):a.length<=N:=by
 have:=JY (b:=Na N) nd fun x hx=>NX.mpr (h x hx)
 rwa[NN]at this
theorem Kb{l:List Nat}(nd:l.Nodup){i j x:Nat}(hi:l[i]?=some x)(hj:l[j]?=some x):i=j:=by
 have p:=List.pairwise_iff_getElem.mp nd
 obtain⟨h1,e1⟩:=MO.mp hi
 obtain⟨h2,e2⟩:=MO.mp hj
 rcases Nat.lt_trichotomy i j with z | z | z
 ·exact absurd (e1.trans e2.symm) (p i j h1 h2 z)
 ·exact z
 ·exact absurd (e2.trans e1.symm) (p j i h2 h1 z)
noncomputable abbrev En:=List (Nat×Nat)
structure bO(m:Nat)(es:En)(ts:List (List Nat)):Prop where
 len:ts.length=m
 ends:∀ e∈es,e.1<m/\e.2<m/\e.1≠e.2
 nd:∀(p:Nat)(l:List Nat),ts[p]?=some l->l.Nodup
 mem:∀(p:Nat)(l:List Nat),ts[p]?=some l->∀ t,t∈l↔∃ e,es[t]?=some e/\(e.1=p∨e.2=p)
theorem Ij(m:Nat):bO m [] (M9 m []) where
 len:=by simp
 ends:=fun e h=>by cases h
 nd:=fun p l h=>by
  rw[N8]at h
  split at h
  ·cases h;exact OW
  ·cases h
 mem:=fun p l h t=>by
  rw[N8]at h
  split at h
  ·cases h;simp
  ·cases h
noncomputable def ins(l:List Nat)(k x:Nat):List Nat:=l.take k++x::l.drop k
theorem GG{l:List Nat}{k x y:Nat}:y∈ins l k x↔y=x∨y∈l:=by
 unfold ins
 rw[M5,MV]
 have:=OA k l
 constructor
 ·rintro(h | h | h)
  ·exact .inr (List.mem_of_mem_take h)
  ·exact .inl h
  ·exact .inr (List.mem_of_mem_drop h)
 ·rintro(h | h)
  ·exact .inr (.inl h)
  ·rw[← this]at h
   rcases M5.mp h with z | z
   ·exact .inl z
   ·exact .inr (.inr z)
theorem Ke{l:List Nat}{k x:Nat}(nd:l.Nodup)(h:x∉l):(ins l k x).Nodup:=by
 unfold ins
 have e:=OA k l
 rw[← e]at nd
 obtain⟨a,b,c⟩:=Nw.mp nd
 refine Nw.mpr ⟨a,Nb.mpr ⟨fun z=>h (List.mem_of_mem_drop z),b⟩,fun y hy z hz=>?_⟩
 rcases MV.mp hz with q | q
 ·intro w
  exact h (by rw[← q,← w];exact List.mem_of_mem_take hy)
 ·exact c y hy z q
theorem bO.put{m:Nat}{es:En}{ts:List (List Nat)}{one two k j:Nat}{l l':List Nat}(w:bO m es ts)(h1:one<m)(h2:two<m)(hn:one≠two)(e1:ts[one]?=some l)(e2:ts[two]?=some l') :
  bO m (es++[(one,two)]) ((ts.set one (ins l k es.length)).set two (ins l' j es.length)):=by
 have old:∀{p l},ts[p]?=some l->es.length∉l:=fun{p l} e z=>by
  obtain⟨x,hx,_⟩:=(w.mem p l e es.length).mp z
  have:=(MO.mp hx).1
  omega
 have get:∀ p q,((ts.set one (ins l k es.length)).set two (ins l' j es.length))[p]?=some q->(p=two/\q=ins l' j es.length)∨(p=one/\p≠two/\q=ins l k es.length)∨(p≠one/\p≠two/\ts[p]?=some q):=fun p q e=>by
  have L:two<(ts.set one (ins l k es.length)).length:=by rw[Ob,w.len];exact h2
  have L1:one<ts.length:=by rw[w.len];exact h1
  rw[Of]at e
  by_cases z:two=p
  ·rw[if_pos z,if_pos L]at e
   exact .inl ⟨z.symm,(Ni e).symm⟩
  ·rw[if_neg z,Of]at e
   by_cases y:one=p
   ·rw[if_pos y,if_pos L1]at e
    exact .inr (.inl ⟨y.symm,Ne.symm z,(Ni e).symm⟩)
   ·rw[if_neg y]at e
    exact .inr (.inr ⟨Ne.symm y,Ne.symm z,e⟩)
 have esg:∀ t x,(es++[(one,two)])[t]?=some x↔(es[t]?=some x)∨(t=es.length/\x=(one,two)):=fun t x=>by
  by_cases z:t<es.length
  ·rw[MU z]
   constructor
   ·exact .inl
   ·rintro(y | y)
    ·exact y
    ·omega
  ·rw[MR (by omega)]
   constructor
   ·intro y
    have hl:=(MO.mp y).1
    rw[Nc]at hl
    have ht:t=es.length:=by omega
    subst ht
    rw[Nl]at y
    cases y
    exact .inr ⟨rfl,rfl⟩
   ·rintro(y | ⟨y,rfl⟩)
    ·have:=(MO.mp y).1;omega
    ·rw[y,Nl];rfl
 refine⟨by rw[Ob,Ob];exact w.len,fun e he=>?_,fun p q e=>?_,fun p q e t=>?_⟩
 ·rcases M5.mp he with z | z
  ·exact w.ends e z
  ·have:e=(one,two):=by simpa using z
   subst this
   exact⟨h1,h2,hn⟩
 ·rcases get p q e with⟨_,rfl⟩ | ⟨_,_,rfl⟩ | ⟨_,_,y⟩
  ·exact Ke (w.nd two l' e2) (old e2)
  ·exact Ke (w.nd one l e1) (old e1)
  ·exact w.nd p q y
 ·rcases get p q e with⟨rfl,rfl⟩ | ⟨rfl,np,rfl⟩ | ⟨n1,n2,y⟩
  ·rw[GG,w.mem p l' e2 t]
   constructor
   ·rintro(z | ⟨x,hx,hp⟩)
    ·exact⟨(one,p),(esg _ _).mpr (.inr ⟨z,rfl⟩),.inr rfl⟩
    ·exact⟨x,(esg _ _).mpr (.inl hx),hp⟩
   ·rintro⟨x,hx,hp⟩
    rcases(esg _ _).mp hx with z | ⟨z,_⟩
    ·exact .inr ⟨x,z,hp⟩
    ·exact .inl z
  ·rw[GG,w.mem p l e1 t]
   constructor
   ·rintro(z | ⟨x,hx,hp⟩)
    ·exact⟨(p,two),(esg _ _).mpr (.inr ⟨z,rfl⟩),.inl rfl⟩
    ·exact⟨x,(esg _ _).mpr (.inl hx),hp⟩
   ·rintro⟨x,hx,hp⟩
    rcases(esg _ _).mp hx with z | ⟨z,_⟩
    ·exact .inr ⟨x,z,hp⟩
    ·exact .inl z
  ·rw[w.mem p q y t]
   constructor
   ·rintro⟨x,hx,hp⟩
    exact⟨x,(esg _ _).mpr (.inl hx),hp⟩
   ·rintro⟨x,hx,hp⟩
    rcases(esg _ _).mp hx with z | ⟨z,rfl⟩
    ·exact⟨x,z,hp⟩
    ·rcases hp with hp | hp
     ·exact absurd hp.symm n1
     ·exact absurd hp.symm n2
noncomputable def hd(es:En)(d:Nat):Nat:=match es[d/2]? with | some e=>if d%2=0 then e.2 else e.1 | none=>0
noncomputable def tl(es:En)(d:Nat):Nat:=match es[d/2]? with | some e=>if d%2=0 then e.1 else e.2 | none=>0
noncomputable def leave(es:En)(t p:Nat):Nat:=match es[t]? with | some e=>if e.1=p then 2*t else 2*t+1 | none=>0
noncomputable def nxt(l:List Nat)(t:Nat):Nat:=(l[(l.idxOf t+1)%l.length]?).getD 0
noncomputable def fol(es:En)(ts:List (List Nat))(d:Nat):Nat:=leave es (nxt ((ts[hd es d]?).getD []) (d/2)) (hd es d)
section
variable{m:Nat}{es:En}{ts:List (List Nat)}
theorem vg{l:List Nat}{t:Nat}(h:t∈l):l[l.idxOf t]?=some t:=by
 have hl:=OH.mpr h
 rw[MN hl,List.getElem_idxOf]
theorem hO{l:List Nat}{t:Nat}(h:t∈l):l[(l.idxOf t+1)%l.length]?=some (nxt l t):=by
 have hl:0<l.length:=Oy h
 have:=Nat.mod_lt (l.idxOf t+1) hl
 unfold nxt
 rw[MN this]
 rfl
theorem bO.at(w:bO m es ts){d:Nat}(h:d<2*es.length):∃ e l,es[d/2]?=some e/\hd es d=(if d%2=0 then e.2 else e.1)/\tl es d=(if d%2=0 then e.1 else e.2)/\hd es d<m/\ts[hd es d]?=some l/\d/2∈l:=by
 have hl:d/2<es.length:=by omega
 have e1:es[d/2]?=some es[d/2]:=MN hl
 have q:=w.ends _ (MP e1)
 generalize es[d/2]=e at e1 q
 have h1:hd es d=(if d%2=0 then e.2 else e.1):=by unfold hd;rw[e1]
 have h2:tl es d=(if d%2=0 then e.1 else e.2):=by unfold tl;rw[e1]
 have h3:hd es d<m:=by rw[h1];split<;>omega
 have h4:ts[hd es d]?=some (ts[hd es d]'(by rw[w.len];exact h3)):=MN _
 refine⟨e,_,e1,h1,h2,h3,h4,(w.mem _ _ h4 _).mpr ⟨e,e1,?_⟩⟩
 rw[h1]
 split
 ·exact .inr rfl
 ·exact .inl rfl
theorem bO.foll(w:bO m es ts){d:Nat}(h:d<2*es.length):∃ l e,ts[hd es d]?=some l/\d/2∈l/\es[nxt l (d/2)]?=some e/\(e.1=hd es d∨e.2=hd es d)/\e.1≠e.2/\fol es ts d=(if e.1=hd es d then 2*nxt l (d/2) else 2*nxt l (d/2)+1)/\fol es ts d<2*es.length/\fol es ts d/2=nxt l (d/2)/\tl es (fol es ts d)=hd es d:=by
 obtain⟨e0,l,h1,h2,h3,h4,h5,h6⟩:=w.at h
 have hn:=hO h6
 obtain⟨e,he,hp⟩:=(w.mem _ _ h5 _).mp (MP hn)
 have hlt:=(MO.mp he).1
 have hne:=(w.ends e (MP he)).2.2
 have hf:fol es ts d=(if e.1=hd es d then 2*nxt l (d/2) else 2*nxt l (d/2)+1):=by
  unfold fol
  rw[h5]
  show leave es (nxt l (d/2)) (hd es d)=_
  unfold leave
  rw[he]
 refine⟨l,e,h5,h6,he,hp,hne,hf,?_,?_,?_⟩
 ·rw[hf];split<;>omega
 ·rw[hf];split<;>omega
 ·rw[hf]
  by_cases z:e.1=hd es d
  ·have a1:2*nxt l (d/2)/2=nxt l (d/2):=by omega
   have a2:2*nxt l (d/2)%2=0:=by omega
   rw[if_pos z]
   unfold tl
   rw[a1,he]
   show(if 2*nxt l (d/2)%2=0 then e.1 else e.2)=_
   rw[if_pos a2,z]
  ·have a1:(2*nxt l (d/2)+1)/2=nxt l (d/2):=by omega
   have a2:¬ (2*nxt l (d/2)+1)%2=0:=by omega
   rw[if_neg z]
   unfold tl
   rw[a1,he]
   show(if(2*nxt l (d/2)+1)%2=0 then e.1 else e.2)=_
   rw[if_neg a2]
   exact hp.elim (fun y=>absurd y z) id
theorem bO.inj(w:bO m es ts){a b:Nat}(ha:a<2*es.length)(hb:b<2*es.length)(h:fol es ts a=fol es ts b):a=b:=by
 obtain⟨l,e,p1,p2,_,_,_,_,_,p3,p4⟩:=w.foll ha
 obtain⟨l',e',q1,q2,_,_,_,_,_,q3,q4⟩:=w.foll hb
 have hh:hd es a=hd es b:=by rw[← p4,← q4,h]
 rw[hh,q1]at p1
 cases p1
 have hx:nxt l (a/2)=nxt l (b/2):=by rw[← p3,← q3,h]
 have g1:=hO p2
 have g2:=hO q2
 rw[hx]at g1
 have ii:=Kb (w.nd _ _ q1) g1 g2
 have i1:=OH.mpr p2
 have i2:=OH.mpr q2
 have ix:l.idxOf (a/2)=l.idxOf (b/2):=by
  generalize l.idxOf (a/2)=x at *
  generalize l.idxOf (b/2)=y at *
  by_cases z1:x+1=l.length
  ·by_cases z2:y+1=l.length
   ·omega
   ·rw[z1,Pb,Oc (by omega)]at ii;omega
  ·by_cases z2:y+1=l.length
   ·rw[z2,Pb,Oc (by omega)]at ii;omega
   ·rw[Oc (by omega),Oc (by omega)]at ii;omega
 have ht:a/2=b/2:=by
  have g3:=vg p2
  have g4:=vg q2
  rw[ix,g4]at g3
  exact(Ni g3).symm
 obtain⟨e1,_,r1,r2,_,_,_,_⟩:=w.at ha
 obtain⟨e2,_,s1,s2,_,_,_,_⟩:=w.at hb
 rw[ht,s1]at r1
 have ee:e2=e1:=Ni r1
 rw[ee]at s1 s2
 have hne:=(w.ends e1 (MP s1)).2.2
 rw[r2,s2]at hh
 have:a%2=b%2:=by
  by_cases z1:a%2=0<;>by_cases z2:b%2=0
  ·omega
  ·rw[if_pos z1,if_neg z2]at hh;exact absurd hh.symm hne
  ·rw[if_neg z1,if_pos z2]at hh;exact absurd hh hne
  ·omega
 omega
end
structure Ia(f:Nat->Nat)(N:Nat):Prop where
 lt:∀ d,d<N->f d<N
 inj:∀ a b,a<N->b<N->f a=f b->a=b
structure Path(f:Nat->Nat)(N first:Nat)(r:List Nat):Prop where
 hd:r[0]?=some first
 lt:∀ d∈r,d<N
 nd:r.Nodup
 nx:∀ i x y,r[i]?=some x->r[i+1]?=some y->y=f x
theorem IG{f:Nat->Nat}{N d:Nat}(h:d<N):Path f N d [d] where
 hd:=rfl
 lt:=fun x hx=>by have:x=d:=by simpa using hx
                  rw[this];exact h
 nd:=by simp
 nx:=fun i x y h1 h2=>by
  have:=(MO.mp h2).1
  rw[Nc]at this
  omega
theorem Path.snoc{f:Nat->Nat}{N d x:Nat}{r:List Nat}(p:Ia f N)(h:Path f N d (r++[x]))(hn:f x≠d):Path f N d (r++[x]++[f x]) where
 hd:=by rw[MU (by rw[MX,Nc];omega)];exact h.hd
 lt:=fun y hy=>by
  rcases M5.mp hy with z | z
  ·exact h.lt y z
  ·have:y=f x:=by simpa using z
   rw[this];exact p.lt x (h.lt x (by simp))
 nd:=by
  refine Nw.mpr ⟨h.nd,by simp,fun a ha b hb e=>?_⟩
  have eb:b=f x:=by simpa using hb
  subst eb
  obtain⟨i,hi⟩:=N7.mp ha
  rw[e]at hi
  have hil:=(MO.mp hi).1
  rw[MX,Nc]at hil
  cases i with
  |zero =>
   rw[h.hd]at hi
   exact hn (Ni hi).symm
  |succ i =>
   have gi:(r++[x])[i]?=some ((r++[x])[i]'(by rw[MX,Nc];omega)):=MN _
   have:=h.nx i _ _ gi hi
   have mi:=h.lt _ (MP gi)
   have mx:=h.lt x (by simp)
   have e2:=p.inj _ _ mx mi this
   rw[← e2]at gi
   have gx:(r++[x])[r.length]?=some x:=by rw[MR (MT _),Nl];rfl
   have:=Kb h.nd gi gx
   omega
 nx:=fun i a b h1 h2=>by
  have h2l:=(MO.mp h2).1
  rw[MX,MX,Nc,Nc]at h2l
  rw[MU (by rw[MX,Nc];omega)]at h1
  by_cases z:i+1<(r++[x]).length
  ·rw[MU z]at h2
   exact h.nx i a b h1 h2
  ·rw[MX,Nc]at z
   have ei:i=r.length:=by omega
   subst ei
   rw[MR (by rw[MX,Nc];omega)]at h2
   have:r.length+1-(r++[x]).length=0:=by rw[MX,Nc];omega
   rw[this]at h2
   rw[MR (MT _),Nl]at h1
   have e1:x=a:=Ni h1
   have e2:f x=b:=Ni h2
   rw[← e2,e1]
structure Ring(f:Nat->Nat)(N:Nat)(r:List Nat):Prop where
 lt:∀ d∈r,d<N
 nd:r.Nodup
 ne:0<r.length
 nx:∀ i x,r[i]?=some x->r[(i+1)%r.length]?=some (f x)
theorem Path.ring{f:Nat->Nat}{N d x:Nat}{r:List Nat}(p:Ia f N)(h:Path f N d (r++[x]))(he:f x=d):Ring f N (r++[x]) where
 lt:=h.lt
 nd:=h.nd
 ne:=by rw[MX,Nc];omega
 nx:=fun i y hy=>by
  have hl:=(MO.mp hy).1
  by_cases z:i+1=(r++[x]).length
  ·rw[z,Pb]
   have:i=r.length:=by rw[MX,Nc]at z;omega
   subst this
   rw[MR (MT _),Nl]at hy
   have:x=y:=Ni hy
   subst this
   rw[he];exact h.hd
  ·have l2:i+1<(r++[x]).length:=by omega
   rw[Oc l2]
   have g:=MN l2
   rw[g,h.nx i _ _ hy g]
theorem Ring.back{f:Nat->Nat}{N a:Nat}{r:List Nat}(p:Ia f N)(h:Ring f N r)(ha:a<N)(hf:f a∈r):a∈r:=by
 obtain⟨i,hi⟩:=N7.mp hf
 have hl:=(MO.mp hi).1
 have key:∃ j,j<r.length/\(j+1)%r.length=i:=by
  cases i with
  |zero=>exact⟨r.length-1,by have:=h.ne;omega,by have:=h.ne;rw[show r.length-1+1=r.length by omega,Pb]⟩
  |succ i=>exact⟨i,by omega,Oc hl⟩
 obtain⟨j,hj,ej⟩:=key
 have g:=MN hj
 have q:=h.nx j _ g
 rw[ej,hi]at q
 have mj:=h.lt _ (MP g)
 have:=p.inj _ _ ha mj (Ni q)
 rw[this]
 exact MP g
structure bS(f:Nat->Nat)(N i:Nat)(rs:List (List Nat)):Prop where
 ring:∀ r∈rs,Ring f N r
 hdl:∀ r∈rs,∀ h,r[0]?=some h->h<i/\∀ d∈r,h<=d
 asc:∀(a b:Nat)(r r':List Nat)(h h':Nat),a<b->rs[a]?=some r->rs[b]?=some r'->r[0]?=some h->r'[0]?=some h'->h<h'
 nd:rs.flatten.Nodup
 all:∀ d,d<i->d∈rs.flatten
theorem C1(f:Nat->Nat)(N:Nat):bS f N 0 [] where
 ring:=fun r h=>by cases h
 hdl:=fun r h=>by cases h
 asc:=fun a b r r' h h' _ e=>by cases e
 nd:=by simp
 all:=fun d h=>by omega
theorem bS.skip{f:Nat->Nat}{N i:Nat}{rs:List (List Nat)}(w:bS f N i rs)(h:i∈rs.flatten):bS f N (i+1) rs where
 ring:=w.ring
 hdl:=fun r hr x hx=>⟨by have:=(w.hdl r hr x hx).1;omega,(w.hdl r hr x hx).2⟩
 asc:=w.asc
 nd:=w.nd
 all:=fun d hd=>by
  by_cases z:d=i
  ·rw[z];exact h
  ·exact w.all d (by omega)
theorem bS.put{f:Nat->Nat}{N i:Nat}{rs:List (List Nat)}{r:List Nat}(p:Ia f N)(w:bS f N i rs)(h:i∉rs.flatten)(hi:i<N)(hr:Ring f N r)(pa:Path f N i r):bS f N (i+1) (rs++[r]):=by
 have apart:∀(k x:Nat),r[k]?=some x->x∉rs.flatten:=fun k=>by
  induction k with
  |zero =>
   intro x hx
   rw[pa.hd]at hx
   cases hx
   exact h
  |succ k ih =>
   intro x hx z
   have hl:=(MO.mp hx).1
   have g:=MN (show k<r.length by omega)
   have e:=pa.nx k _ _ g hx
   obtain⟨q,hq,zq⟩:=NO.mp z
   rw[e]at zq
   exact ih _ g (NO.mpr ⟨q,hq,(w.ring q hq).back p (hr.lt _ (MP g)) zq⟩)
 have least:∀ d∈r,i<=d:=fun d hd=>by
  obtain⟨k,hk⟩:=N7.mp hd
  by_cases z:i<=d
  ·exact z
  ·exact absurd (w.all d (by omega)) (apart k d hk)
 refine⟨fun q hq=>?_,fun q hq x hx=>?_,fun a b q q' x x' hab ha hb hx hx'=>?_,?_,fun d hd=>?_⟩
 ·rcases M5.mp hq with z | z
  ·exact w.ring q z
  ·have:q=r:=by simpa using z
   rw[this];exact hr
 ·rcases M5.mp hq with z | z
  ·have:=w.hdl q z x hx
   exact⟨by omega,this.2⟩
  ·have e:q=r:=by simpa using z
   subst e
   rw[pa.hd]at hx
   cases hx
   exact⟨by omega,least⟩
 ·have bl:=(MO.mp hb).1
  rw[MX,Nc]at bl
  rw[MU (by omega)]at ha
  by_cases z:b<rs.length
  ·rw[MU z]at hb
   exact w.asc a b q q' x x' hab ha hb hx hx'
  ·have eb:b=rs.length:=by omega
   subst eb
   rw[MR (MT _),Nl]at hb
   have e:r=q':=Ni hb
   subst e
   rw[pa.hd]at hx'
   cases hx'
   exact(w.hdl q (MP ha) x hx).1
 ·rw[Oe]
  have e : [r].flatten=r:=by simp
  rw[e]
  refine Nw.mpr ⟨w.nd,hr.nd,fun a ha b hb e=>?_⟩
  obtain⟨k,hk⟩:=N7.mp hb
  exact apart k b hk (e▸ha)
 ·rw[Oe,M5]
  by_cases z:d=i
  ·right
   rw[z]
   simp
   exact MP pa.hd
  ·exact .inl (w.all d (by omega))
theorem lU{rs:List (List Nat)}(nd:rs.flatten.Nodup){a b:Nat}{r r':List Nat}{d:Nat}(ha:rs[a]?=some r)(hb:rs[b]?=some r')(h1:d∈r)(h2:d∈r'):a=b:=by
 induction rs generalizing a b with
 |nil=>cases ha
 |cons q rs ih =>
  rw[NY]at nd
  obtain⟨_,n2,n3⟩:=Nw.mp nd
  cases a with
  |zero =>
   cases b with
   |zero=>rfl
   |succ b =>
    have e:q=r:=Ni ha
    subst e
    exact absurd rfl (n3 d h1 d (NO.mpr ⟨r',MP hb,h2⟩))
  |succ a =>
   cases b with
   |zero =>
    have e:q=r':=Ni hb
    subst e
    exact absurd rfl (n3 d h2 d (NO.mpr ⟨r,MP ha,h1⟩))
   |succ b=>exact congrArg Nat.succ (ih n2 ha hb)
end K8
namespace K8
noncomputable def chain(f:Nat->Nat):Nat->List Nat->Nat->Prop
 |x,[],z=>f x=z
 |x,y::l,z=>f x=y/\chain f y l z
theorem gK{f:Nat->Nat}:∀{x:Nat}{l:List Nat}{y:Nat}{k:List Nat}{z:Nat},chain f x (l++y::k) z↔chain f x l y/\chain f y k z
 |x,[],y,k,z=>Iff.rfl
 |x,a::l,y,k,z=>by
  show(f x=a/\chain f a (l++y::k) z)↔(f x=a/\chain f a l y)/\chain f y k z
  rw[gK,and_assoc]
theorem oh{f g:Nat->Nat}:∀{x y:Nat}{l:List Nat}{z:Nat},chain f x l z->g y=f x->(∀ t∈l,g t=f t)->chain g y l z
 |x,y,[],z,h,e,_=>e.trans h
 |x,y,a::l,z,h,e,k=>⟨e.trans h.1,oh h.2 (k a (M3 ..)) fun t ht=>k t (MY _ ht)⟩
theorem pT{f g F:Nat->Nat}:∀{x:Nat}{l:List Nat}{z:Nat},chain f x l z->(∀ t∈x::l,g (F t)=F (f t))->chain g (F x) (l.map F) (F z)
 |x,[],z,h,k=>by
  show g (F x)=F z
  rw[k x (M3 ..),show f x=z from h]
 |x,a::l,z,h,k=>⟨by rw[k x (M3 ..),h.1],pT h.2 fun t ht=>k t (MY _ ht)⟩
theorem pU{f:Nat->Nat}{S:Nat->Prop}:∀{x:Nat}{l:List Nat}{z:Nat},chain f x l z->(∀ t∈x::l,S t->S (f t))->S x->S z/\∀ t∈l,S t
 |x,[],z,h,k,s=>⟨by have:=k x (M3 ..) s;rwa[show f x=z from h]at this,fun t ht=>nomatch ht⟩
 |x,a::l,z,h,k,s=>by
  have s1:S a:=by have:=k x (M3 ..) s;rwa[h.1]at this
  obtain⟨h1,h2⟩:=pU h.2 (fun t ht=>k t (MY _ ht)) s1
  refine⟨h1,fun t ht=>?_⟩
  rcases MV.mp ht with y | y
  ·rw[y];exact s1
  ·exact h2 t y
structure CR(f:Nat->Nat)(N:Nat)(r:List Nat):Prop where
 ch:∃ x l,r=x::l/\chain f x l x
 lt:∀ d∈r,d<N
 nd:r.Nodup
theorem CR.closed{f:Nat->Nat}{N:Nat}{r:List Nat}(h:CR f N r):∀ d∈r,f d∈r:=by
 obtain⟨x,l,rfl,c⟩:=h.ch
 intro d hd
 rcases MV.mp hd with y | y
 ·subst y
  cases l with
  |nil=>rw[show f d=d from c];exact M3 ..
  |cons a l=>rw[c.1];simp
 ·obtain⟨A,B,rfl⟩:=Pr y
  have c2:=(gK.mp c).2
  cases B with
  |nil=>rw[show f d=x from c2];exact M3 ..
  |cons a B=>rw[c2.1];simp
theorem CR.sub{f:Nat->Nat}{N:Nat}{r:List Nat}{S:Nat->Prop}(h:CR f N r)(k:∀ t∈r,S t->S (f t)){d:Nat}(hd:d∈r)(s:S d):∀ t∈r,S t:=by
 obtain⟨x,l,rfl,c⟩:=h.ch
 have fromx:S x->∀ t∈x::l,S t:=fun sx t ht=>by
  rcases MV.mp ht with y | y
  ·rw[y];exact sx
  ·exact(pU c k sx).2 t y
 rcases MV.mp hd with y | y
 ·exact fromx (y▸s)
 ·obtain⟨A,B,rfl⟩:=Pr y
  have c2:=(gK.mp c).2
  exact fromx (pU c2 (fun t ht=>k t (by simp only[MV,M5]at ht ⊢;rcases ht with z | z<;>simp[z])) s).1
theorem CR.same{f:Nat->Nat}{N:Nat}{r r':List Nat}(h:CR f N r)(h':CR f N r'){d:Nat}(h1:d∈r)(h2:d∈r'):∀ t∈r,t∈r':=h.sub (S:=fun t=>t∈r') (fun t _=>h'.closed t) h1 h2
theorem CR.ne{f:Nat->Nat}{N:Nat}{r:List Nat}(h:CR f N r):∃ d,d∈r:=by
 obtain⟨x,l,rfl,_⟩:=h.ch
 exact⟨x,M3 ..⟩
structure Part(f:Nat->Nat)(N:Nat)(rs:List (List Nat)):Prop where
 cr:∀ r∈rs,CR f N r
 nd:rs.flatten.Nodup
 all:∀ d,d<N->d∈rs.flatten
theorem Part.pick{f:Nat->Nat}{N:Nat}{rs:List (List Nat)}(p:Part f N rs){r:List Nat}(h:CR f N r):∃ rest,Part f N (r::rest)/\rest.length+1=rs.length:=by
 obtain⟨d,hd⟩:=h.ne
 obtain⟨r0,m1,m2⟩:=NO.mp (p.all d (h.lt d hd))
 have c0:=p.cr r0 m1
 have s1:=h.same c0 hd m2
 have s2:=c0.same h m2 hd
 obtain⟨A,B,rfl⟩:=Pr m1
 have nd:=p.nd
 rw[Oe,NY]at nd
 obtain⟨n1,n2,n3⟩:=Nw.mp nd
 obtain⟨n4,n5,n6⟩:=Nw.mp n2
 refine⟨A++B,⟨fun q hq=>?_,?_,fun y hy=>?_⟩,by simp;omega⟩
 ·rcases MV.mp hq with z | z
  ·rw[z];exact h
  ·refine p.cr q ?_
   rcases M5.mp z with z | z
   ·simp[z]
   ·simp[z]
 ·rw[NY,Oe]
  refine Nw.mpr ⟨h.nd,Nw.mpr ⟨n1,n5,fun a ha b hb=>n3 a ha b (by simp[hb])⟩,fun a ha b hb=>?_⟩
  rcases M5.mp hb with z | z
  ·exact fun e=>n3 b z a (Nt _ (s1 a ha)) e.symm
  ·exact n6 a (s1 a ha) b z
 ·have:=p.all y hy
  rw[Oe,NY]at this
  rw[NY,Oe]
  simp only[M5]at this ⊢
  rcases this with z | z | z
  ·exact .inr (.inl z)
  ·exact .inl (s2 y z)
  ·exact .inr (.inr z)
theorem Part.same:∀{rs qs:List (List Nat)}{f:Nat->Nat}{N:Nat},Part f N rs->Part f N qs->rs.length=qs.length:=by
 have le:∀(k:Nat){rs qs:List (List Nat)}{f:Nat->Nat}{N:Nat},Part f N rs->Part f N qs->rs.length<=qs.length:=by
  intro _ rs qs f N p q
  have g:∀ r∈rs,∃ i,i<qs.length/\∃ r',qs[i]?=some r'/\∀ t∈r',t∈r:=fun r hr=>by
   have c:=p.cr r hr
   obtain⟨d,hd⟩:=c.ne
   obtain⟨r',m1,m2⟩:=NO.mp (q.all d (c.lt d hd))
   obtain⟨i,hi⟩:=N7.mp m1
   exact⟨i,(MO.mp hi).1,r',hi,(q.cr r' m1).same c m2 hd⟩
  have:∀(l:List (List Nat)),(∀ r∈l,r∈rs)->l.flatten.Nodup->∃ is:List Nat,is.length=l.length/\is.Nodup/\∀ i∈is,i<qs.length/\∃ r∈l,∃ r',qs[i]?=some r'/\∀ t∈r',t∈r:=fun l=>by
   induction l with
   |nil=>intro _ _;exact⟨[],rfl,OW,fun i hi=>nomatch hi⟩
   |cons r l ih =>
    intro h nd
    rw[NY]at nd
    obtain⟨n1,n2,n3⟩:=Nw.mp nd
    obtain⟨is,e1,e2,e3⟩:=ih (fun r hr=>h r (MY _ hr)) n2
    obtain⟨i,h1,r',h2,h3⟩:=g r (h r (M3 ..))
    refine⟨i::is,by simp[e1],Nb.mpr ⟨fun z=>?_,e2⟩,fun j hj=>?_⟩
    ·obtain⟨_,r2,m2,r3,m3,m4⟩:=e3 i z
     rw[h2]at m3
     cases m3
     obtain⟨d,hd⟩:=(q.cr r' (MP h2)).ne
     exact n3 d (h3 d hd) d (NO.mpr ⟨r2,m2,m4 d hd⟩) rfl
    ·rcases MV.mp hj with z | z
     ·subst z;exact⟨h1,r,M3 ..,r',h2,h3⟩
     ·obtain⟨k1,r2,k2,k3⟩:=e3 j z
      exact⟨k1,r2,MY _ k2,k3⟩
  obtain⟨is,e1,e2,e3⟩:=this rs (fun _ h=>h) p.nd
  rw[← e1]
  exact jz e2 fun i hi=>(e3 i hi).1
 intro rs qs f N p q
 exact Nat.le_antisymm (le 0 p q) (le 0 q p)
theorem Ring.cr{f:Nat->Nat}{N:Nat}{r:List Nat}(h:Ring f N r):CR f N r:=by
 refine⟨?_,h.lt,h.nd⟩
 have ne:=h.ne
 match r,h,ne with
 |x::l,h,_ =>
  refine⟨x,l,rfl,?_⟩
  have key:∀(k i:Nat)(y:Nat),i+k+1=(x::l).length->(x::l)[i]?=some y->chain f y ((x::l).drop (i+1)) x:=fun k=>by
   induction k with
   |zero =>
    intro i y hi hy
    have e:=h.nx i y hy
    rw[show(i+1)%(x::l).length=0 by rw[← hi];simp]at e
    rw[List.drop_of_length_le (by omega)]
    exact(Ni e).symm
   |succ k ih =>
    intro i y hi hy
    have e:=h.nx i y hy
    rw[Oc (by omega)]at e
    obtain⟨hl,e2⟩:=MO.mp e
    rw[List.drop_eq_getElem_cons hl,e2]
    exact⟨rfl,ih (i+1) (f y) (by omega) e⟩
  exact key l.length 0 x (by simp) rfl
theorem bS.part{f:Nat->Nat}{N:Nat}{rs:List (List Nat)}(w:bS f N N rs):Part f N rs:=⟨fun r hr=>(w.ring r hr).cr,w.nd,w.all⟩
end K8
namespace K8
theorem xX{A B:List Nat}{t:Nat}(h:t∉A):(A++t::B).idxOf t=A.length:=by
 rw[List.idxOf_append,if_neg h,List.idxOf_cons_self,Nat.zero_add]
theorem aZ{A B:List Nat}{t:Nat}(h:t∉A):nxt (A++t::B) t=((B++(A++t::B)).head?).getD 0:=by
 unfold nxt
 rw[xX h]
 cases B with
 |nil =>
  have e:(A.length+1)%(A++[t]).length=0:=by rw[MX,Nc,Pb]
  rw[e,List.nil_append,List.head?_eq_getElem?]
 |cons b B =>
  have e:(A.length+1)%(A++t::b::B).length=A.length+1:=Oc (by simp)
  rw[e,MR (by omega)]
  rw[show A.length+1-A.length=1 by omega]
  rfl
theorem pF{A B:List Nat}{u n:Nat}(h:u∉A):ins (A++u::B) ((A++u::B).idxOf u+1) n=A++u::n::B:=by
 rw[xX h]
 unfold ins
 have e1:(A++u::B).take (A.length+1)=A++[u]:=by
  rw[List.take_append,O6 (by omega),show A.length+1-A.length=1 by omega]
  rfl
 have e2:(A++u::B).drop (A.length+1)=B:=by simp
 rw[e1,e2]
 simp
theorem fV{l:List Nat}{u:Nat}(h:u∈l):∃ A B,l=A++u::B/\u∉A:=by
 induction l with
 |nil=>exact nomatch h
 |cons a l ih =>
  by_cases z:a=u
  ·subst z;exact⟨[],l,rfl,NW⟩
  ·rcases MV.mp h with y | y
   ·exact absurd y.symm z
   ·obtain⟨A,B,rfl,k⟩:=ih y
    exact⟨a::A,B,rfl,fun w=>by rcases MV.mp w with w | w;exact z w.symm;exact k w⟩
theorem LO{l:List Nat}{u n:Nat}(hu:u∈l)(hn:n∉l) :
  nxt (ins l (l.idxOf u+1) n) u=n/\nxt (ins l (l.idxOf u+1) n) n=nxt l u/\∀ t∈l,t≠u->nxt (ins l (l.idxOf u+1) n) t=nxt l t:=by
 obtain⟨A,B,rfl,k⟩:=fV hu
 rw[pF k]
 have hnA:n∉A:=fun z=>hn (by simp[z])
 have hnu:n≠u:=fun z=>hn (by simp[z])
 refine⟨?_,?_,fun t ht htu=>?_⟩
 ·rw[aZ k];rfl
 ·have e:A++u::n::B=(A++[u])++n::B:=by simp
  rw[e,aZ (fun z=>by rcases M5.mp z with z | z;exact hnA z;exact hnu (by simpa using z)),aZ k]
  cases B<;>cases A<;>rfl
 ·rcases M5.mp ht with z | z
  ·obtain⟨A1,A2,rfl,k2⟩:=fV z
   have e1:(A1++t::A2)++u::n::B=A1++t::(A2++u::n::B):=by simp
   have e2:(A1++t::A2)++u::B=A1++t::(A2++u::B):=by simp
   rw[e1,e2,aZ k2,aZ k2]
   cases A2<;>rfl
  ·have z':t∈B:=by
    rcases MV.mp z with z | z
    ·exact absurd z htu
    ·exact z
   by_cases tA:t∈A
   ·obtain⟨A1,A2,rfl,k2⟩:=fV tA
    have e1:(A1++t::A2)++u::n::B=A1++t::(A2++u::n::B):=by simp
    have e2:(A1++t::A2)++u::B=A1++t::(A2++u::B):=by simp
    rw[e1,e2,aZ k2,aZ k2]
    cases A2<;>rfl
   ·obtain⟨B1,B2,rfl,k2⟩:=fV z'
    have tn:t≠n:=fun y=>hn (by rw[← y];simp)
    have e1:A++u::n::(B1++t::B2)=(A++u::n::B1)++t::B2:=by simp
    have e2:A++u::(B1++t::B2)=(A++u::B1)++t::B2:=by simp
    rw[e1,e2,aZ (by simp[tA,htu,tn,k2]),aZ (by simp[tA,htu,k2])]
    cases B2<;>cases A<;>rfl
theorem o8{es:En}{e:Nat×Nat}{t p:Nat}(h:t<es.length):leave (es++[e]) t p=leave es t p:=by
 unfold leave
 rw[MU h]
theorem Gg{es:En}{e:Nat×Nat}{p:Nat}:leave (es++[e]) es.length p=if e.1=p then 2*es.length else 2*es.length+1:=by
 unfold leave
 rw[MR (MT _),Nl]
 rfl
theorem se{es:En}{e:Nat×Nat}{d:Nat}(h:d<2*es.length):hd (es++[e]) d=hd es d:=by
 unfold hd
 rw[MU (by omega)]
theorem hd_new{es:En}{e:Nat×Nat}:hd (es++[e]) (2*es.length)=e.2/\hd (es++[e]) (2*es.length+1)=e.1:=by
 have e1:2*es.length/2=es.length:=by omega
 have e2:(2*es.length+1)/2=es.length:=by omega
 constructor
 ·unfold hd
  rw[e1,MR (MT _),Nl]
  show(if 2*es.length%2=0 then e.2 else e.1)=_
  rw[if_pos (by omega)]
 ·unfold hd
  rw[e2,MR (MT _),Nl]
  show(if(2*es.length+1)%2=0 then e.2 else e.1)=_
  rw[if_neg (by omega)]
theorem hd_inj{m:Nat}{es:En}{ts:List (List Nat)}(w:bO m es ts){a b:Nat}(ha:a<2*es.length)(hb:b<2*es.length)(h:hd es a=hd es b)(h2:a/2=b/2):a=b:=by
 obtain⟨e1,_,r1,r2,_⟩:=w.at ha
 obtain⟨e2,_,s1,s2,_⟩:=w.at hb
 rw[h2,s1]at r1
 cases r1
 have hne:=(w.ends e1 (MP s1)).2.2
 rw[r2,s2]at h
 by_cases z1:a%2=0<;>by_cases z2:b%2=0
 ·omega
 ·rw[if_pos z1,if_neg z2]at h;exact absurd h.symm hne
 ·rw[if_neg z1,if_pos z2]at h;exact absurd h hne
 ·omega
noncomputable def nG(n:Nat)(e:Nat×Nat)(p:Nat):Nat:=if e.1=p then 2*n else 2*n+1
theorem d9{es:En}{ts:List (List Nat)}{d:Nat}{l:List Nat}(h:ts[hd es d]?=some l):fol es ts d=leave es (nxt l (d/2)) (hd es d):=by
 unfold fol
 rw[h]
 rfl
end K8
namespace K8
theorem bO.flip{m:Nat}{es:En}{ts:List (List Nat)}{a b:Nat}(w:bO m (es++[(a,b)]) ts):bO m (es++[(b,a)]) ts:=by
 have key:∀(x y:Nat)(t p:Nat),(∃ e,(es++[(x,y)])[t]?=some e/\(e.1=p∨e.2=p))->∃ e,(es++[(y,x)])[t]?=some e/\(e.1=p∨e.2=p):=fun x y t p=>by
  rintro⟨e,h1,h2⟩
  by_cases z:t<es.length
  ·rw[MU z]at h1
   exact⟨e,by rw[MU z];exact h1,h2⟩
  ·have hl:=(MO.mp h1).1
   rw[MX,Nc]at hl
   have z':t=es.length:=by omega
   subst z'
   rw[MR (MT _),Nl]at h1
   cases h1
   exact⟨(y,x),by rw[MR (MT _),Nl];rfl,h2.symm⟩
 refine⟨w.len,fun e he=>?_,w.nd,fun p l h t=>⟨fun z=>key a b t p ((w.mem p l h t).mp z),fun z=>(w.mem p l h t).mpr (key b a t p z)⟩⟩
 rcases M5.mp he with z | z
 ·exact w.ends e (Nt _ z)
 ·have:e=(b,a):=by simpa using z
  subst this
  obtain⟨h1,h2,h3⟩:=w.ends (a,b) (by simp)
  exact⟨h2,h1,fun y=>h3 y.symm⟩
theorem Ml{m:Nat}{es:En}{ts:List (List Nat)}(w:bO m es ts){p:Nat}{l:List Nat}(h:ts[p]?=some l):es.length∉l:=fun z=>by
 obtain⟨x,hx,_⟩:=(w.mem p l h es.length).mp z
 have:=(MO.mp hx).1
 omega
theorem GQ{m:Nat}{es:En}{ts ts':List (List Nat)}{e:Nat×Nat}{p u:Nat}{l:List Nat}(w:bO m es ts)(hl:ts[p]?=some l)(hu:u<2*es.length)(hp:hd es u=p)(hl':ts'[p]?=some (ins l (l.idxOf (u/2)+1) es.length)) :
  fol (es++[e]) ts' u=nG es.length e p/\(∀ b,b/2=es.length->hd (es++[e]) b=p->fol (es++[e]) ts' b=fol es ts u)/\∀ d,d<2*es.length->d≠u->hd es d=p->fol (es++[e]) ts' d=fol es ts d:=by
 obtain⟨_,l0,_,_,_,_,g5,g6⟩:=w.at hu
 rw[hp,hl]at g5
 cases g5
 have nn:=Ml w hl
 obtain⟨n1,n2,n3⟩:=LO g6 nn
 have lt:∀ t∈l,nxt l t<es.length:=fun t ht=>by
  obtain⟨x,hx,_⟩:=(w.mem p l hl (nxt l t)).mp (MP (hO ht))
  exact(MO.mp hx).1
 refine⟨?_,fun b hb hpb=>?_,fun d hd' hne hpd=>?_⟩
 ·rw[d9 (l:=ins l (l.idxOf (u/2)+1) es.length) (by rw[se hu,hp];exact hl'),n1,se hu,hp,Gg]
  rfl
 ·rw[d9 (l:=ins l (l.idxOf (u/2)+1) es.length) (by rw[hpb];exact hl'),hb,n2,hpb,o8 (lt _ g6),d9 (l:=l) (by rw[hp];exact hl),hp]
 ·obtain⟨_,l0,_,_,_,_,k5,k6⟩:=w.at hd'
  rw[hpd,hl]at k5
  cases k5
  have tne:d/2≠u/2:=fun z=>hne (hd_inj w hd' hu (hpd.trans hp.symm) z)
  rw[d9 (l:=ins l (l.idxOf (u/2)+1) es.length) (by rw[se hd',hpd];exact hl'),n3 _ k6 tne,se hd',hpd,o8 (lt _ k6),d9 (l:=l) (by rw[hpd];exact hl),hpd]
theorem JB{m:Nat}{es:En}{ts ts':List (List Nat)}{e:Nat×Nat}(w:bO m es ts){d:Nat}(hd':d<2*es.length)(h:ts'[hd es d]?=ts[hd es d]?):fol (es++[e]) ts' d=fol es ts d:=by
 obtain⟨_,l,_,_,_,_,k5,k6⟩:=w.at hd'
 have lt:nxt l (d/2)<es.length:=by
  obtain⟨x,hx,_⟩:=(w.mem _ l k5 (nxt l (d/2))).mp (MP (hO k6))
  exact(MO.mp hx).1
 rw[d9 (l:=l) (by rw[se hd',h];exact k5),se hd',o8 lt,d9 k5]
theorem jr(n:Nat)(e:Nat×Nat)(p:Nat):nG n e p/2=n:=by
 unfold nG
 split<;>omega
theorem JH{es:En}{one two:Nat}{e:Nat×Nat}(hne:one≠two)(he:e=(one,two)∨e=(two,one)):hd (es++[e]) (nG es.length e one)=two/\hd (es++[e]) (nG es.length e two)=one/\nG es.length e one≠nG es.length e two/\∀ d,d<2*(es.length+1)->d<2*es.length∨d=nG es.length e one∨d=nG es.length e two:=by
 obtain⟨h1,h2⟩:=hd_new (es:=es) (e:=e)
 unfold nG
 rcases he with he | he
 ·have c1:e.1=one:=by rw[he]
  have c2:¬ e.1=two:=by rw[he];exact hne
  have c3:e.2=two:=by rw[he]
  rw[if_pos c1,if_neg c2,h1,h2]
  exact⟨c3,c1,by omega,fun d hd=>by omega⟩
 ·have c1:e.1=two:=by rw[he]
  have c2:¬ e.1=one:=by rw[he];exact fun z=>hne z.symm
  have c3:e.2=one:=by rw[he]
  rw[if_pos c1,if_neg c2,h1,h2]
  exact⟨c1,c3,by omega,fun d hd=>by omega⟩
noncomputable def par(S:Nat->Bool):List Nat->Bool
 |[]=>false
 |d::l=>S (d/2) ^^ par S l
theorem aH(S:Nat->Bool)(d:Nat)(l:List Nat):par S (d::l)=(S (d/2) ^^ par S l):=rfl
theorem uz(S:Nat->Bool):∀ a b:List Nat,par S (a++b)=(par S a ^^ par S b)
 |[],b=>by show par S b=(false ^^ par S b);rw[OM]
 |x::a,b=>by rw[Qe,aH,aH,uz S a b,Qs]
theorem uy(S:Nat->Bool){a b:List Nat}(p:a.Perm b):par S a=par S b:=by
 induction p with
 |nil=>rfl
 |cons x _ ih=>rw[aH,aH,ih]
 |swap x y l=>rw[aH,aH,aH,aH,← Qs,← Qs,PB (S (y/2))]
 |trans _ _ a b=>exact a.trans b
theorem FG(S:Nat->Bool)(σ:Nat->Nat):∀ l:List Nat,par S (l.map fun d=>2*σ (d/2)+d%2)=par (fun t=>S (σ t)) l
 |[]=>rfl
 |d::l=>by
  rw[Nj,aH,aH,FG S σ l,show(2*σ (d/2)+d%2)/2=σ (d/2) by omega]
noncomputable def B7(es:En)(S Pl:Nat->Bool):Prop:=∀(t:Nat)(e:Nat×Nat),es[t]?=some e->S t=(Pl e.1 ^^ Pl e.2)
theorem Cy{es:En}{S Pl:Nat->Bool}(h:B7 es S Pl){d:Nat}(hd':d<2*es.length):S (d/2)=(Pl (tl es d) ^^ Pl (hd es d)):=by
 have e1:es[d/2]?=some (es[d/2]'(by omega)):=MN _
 rw[h _ _ e1]
 unfold tl hd
 rw[e1]
 show _=(Pl (if d%2=0 then es[d/2].1 else es[d/2].2) ^^ Pl (if d%2=0 then es[d/2].2 else es[d/2].1))
 split
 ·rfl
 ·exact PB _ _
theorem vz{m:Nat}{es:En}{ts:List (List Nat)}{S Pl:Nat->Bool}(w:bO m es ts)(h:B7 es S Pl):∀{x:Nat}{l:List Nat}{z:Nat},chain (fol es ts) x l z->x<2*es.length->(∀ t∈l,t<2*es.length)->z<2*es.length->par S (l++[z])=(Pl (hd es x) ^^ Pl (hd es z))
 |x,[],z,c,hx,_,hz=>by
  obtain⟨_,_,_,_,_,_,_,_,_,_,k⟩:=w.foll hx
  have c':fol es ts x=z:=c
  rw[List.nil_append,aH,Cy h hz,← c',k]
  exact OX _
 |x,a::l,z,c,hx,hl,hz=>by
  obtain⟨_,_,_,_,_,_,_,_,_,_,k⟩:=w.foll hx
  have ha:=hl a (M3 ..)
  rw[Qe,aH,vz w h c.2 ha (fun t ht=>hl t (MY _ ht)) hz,Cy h ha,← c.1,k]
  cases Pl (hd es x)<;>cases Pl (hd es (fol es ts x))<;>cases Pl (hd es z)<;>rfl
structure Gr(m:Nat)(es:En)(ts:List (List Nat)):Prop where
 w:bO m es ts
 part:∃ rs,Part (fol es ts) (2*es.length) rs/\m+rs.length=es.length+2
 conn:∀ S:Nat->Prop,(∀ e∈es,S e.1↔S e.2)->∀ p q,p<m->q<m->S p->S q
 cut:∀ S:Nat->Bool,(∀ r,CR (fol es ts) (2*es.length) r->par S r=false)->∃ Pl:Nat->Bool,B7 es S Pl
theorem CR.mono{f g:Nat->Nat}{N M:Nat}{r:List Nat}(h:CR f N r)(hN:N<=M)(k:∀ t∈r,g t=f t):CR g M r:=by
 obtain⟨x,l,rfl,c⟩:=h.ch
 exact⟨⟨x,l,rfl,oh c (k x (M3 ..)) fun t ht=>k t (MY _ ht)⟩,fun d hd=>Nk (h.lt d hd) hN,h.nd⟩
theorem JK{m:Nat}{es:En}{e:Nat×Nat}(c:∀ S:Nat->Prop,(∀ e∈es,S e.1↔S e.2)->∀ p q,p<m->q<m->S p->S q):∀ S:Nat->Prop,(∀ x∈es++[e],S x.1↔S x.2)->∀ p q,p<m->q<m->S p->S q :=
 fun S h=>c S fun x hx=>h x (Nt _ hx)
theorem Gr.join{m:Nat}{es:En}{ts:List (List Nat)}(g:Gr m es ts){left right one two:Nat}{e:Nat×Nat}{l l' tail:List Nat}(hl:left<2*es.length)(hr:CR (fol es ts) (2*es.length) (left::tail))(hch:chain (fol es ts) left tail left)(hm:right∈left::tail)
  (h1:hd es left=one) (h2:hd es right=two) (hne:one≠two) (he:e=(one,two)∨e=(two,one)) (e1:ts[one]?=some l) (e2:ts[two]?=some l') :
  Gr m (es++[e]) ((ts.set one (ins l (l.idxOf (left/2)+1) es.length)).set two (ins l' (l'.idxOf (right/2)+1) es.length)):=by
 have w:=g.w
 have hrt:right<2*es.length:=hr.lt right hm
 have hlen:=w.len
 have o1:one<m:=by rw[← hlen];exact(MO.mp e1).1
 have o2:two<m:=by rw[← hlen];exact(MO.mp e2).1
 have W:bO m (es++[e]) ((ts.set one (ins l (l.idxOf (left/2)+1) es.length)).set two (ins l' (l'.idxOf (right/2)+1) es.length)):=by
  rcases he with rfl | rfl
  ·exact w.put o1 o2 hne e1 e2
  ·exact(w.put o1 o2 hne e1 e2).flip
 have r1:((ts.set one (ins l (l.idxOf (left/2)+1) es.length)).set two (ins l' (l'.idxOf (right/2)+1) es.length))[one]?=some (ins l (l.idxOf (left/2)+1) es.length):=by
  rw[Of,if_neg (fun z=>hne z.symm),Of,if_pos rfl,if_pos (by rw[hlen];exact o1)]
 have r2:((ts.set one (ins l (l.idxOf (left/2)+1) es.length)).set two (ins l' (l'.idxOf (right/2)+1) es.length))[two]?=some (ins l' (l'.idxOf (right/2)+1) es.length):=by
  rw[Of,if_pos rfl,if_pos (by rw[Ob,hlen];exact o2)]
 have r3:∀ p,p≠one->p≠two->((ts.set one (ins l (l.idxOf (left/2)+1) es.length)).set two (ins l' (l'.idxOf (right/2)+1) es.length))[p]?=ts[p]?:=fun p n1 n2=>by
  rw[Of,if_neg (fun z=>n2 z.symm),Of,if_neg (fun z=>n1 z.symm)]
 generalize (ts.set one (ins l (l.idxOf (left/2)+1) es.length)).set two (ins l' (l'.idxOf (right/2)+1) es.length)=ts' at W r1 r2 r3
 obtain⟨a1,a2,a3⟩:=GQ (e:=e) w e1 hl h1 r1
 obtain⟨b1,b2,b3⟩:=GQ (e:=e) w e2 hrt h2 r2
 obtain⟨d1,d2,d3,d4⟩:=JH (es:=es) hne he
 have fa:=b2 _ (jr _ _ _) d1
 have fb:=a2 _ (jr _ _ _) d2
 have els:∀ d,d<2*es.length->d≠left->d≠right->fol (es++[e]) ts' d=fol es ts d:=fun d hd' n1 n2=>by
  by_cases z1:hd es d=one
  ·exact a3 d hd' n1 z1
  ·by_cases z2:hd es d=two
   ·exact b3 d hd' n2 z2
   ·exact JB w hd' (r3 _ z1 z2)
 generalize ha:nG es.length e one=α at *
 generalize hb:nG es.length e two=β at *
 have hα:α/2=es.length:=by rw[← ha];exact jr _ _ _
 have hβ:β/2=es.length:=by rw[← hb];exact jr _ _ _
 have hlr:right≠left:=fun z=>hne (by rw[← h1,← h2,z])
 have hm':right∈tail:=by
  rcases MV.mp hm with z | z
  ·exact absurd z hlr
  ·exact z
 obtain⟨xs,ys,rfl⟩:=Pr hm'
 obtain⟨c1,c2⟩:=gK.mp hch
 have nd:=hr.nd
 have ltx:∀ t∈xs,t<2*es.length/\t≠left/\t≠right:=fun t ht=>by
  refine⟨hr.lt t (by simp[ht]),fun z=>?_,fun z=>?_⟩
  ·subst z;exact(Nb.mp nd).1 (by simp[ht])
  ·subst z
   have:=(Nw.mp (Nb.mp nd).2).2.2 t ht t (by simp)
   exact this rfl
 have lty:∀ t∈ys,t<2*es.length/\t≠left/\t≠right:=fun t ht=>by
  refine⟨hr.lt t (by simp[ht]),fun z=>?_,fun z=>?_⟩
  ·subst z;exact(Nb.mp nd).1 (by simp[ht])
  ·subst z
   exact(Nb.mp (Nw.mp (Nb.mp nd).2).2.1).1 ht
 obtain⟨rs,p,cnt⟩:=g.part
 obtain⟨rest,pr,cnt2⟩:=p.pick hr
 have ndr:=pr.nd
 rw[NY]at ndr
 obtain⟨_,nd2,nd3⟩:=Nw.mp ndr
 have ltr:∀ t∈rest.flatten,t<2*es.length/\t≠left/\t≠right:=fun t ht=>by
  obtain⟨q,q1,q2⟩:=NO.mp ht
  exact⟨(pr.cr q (MY _ q1)).lt t q2,fun z=>nd3 left (by simp) t ht z.symm,fun z=>nd3 right (by simp) t ht z.symm⟩
 have hlen2:(es++[e]).length=es.length+1:=by rw[MX];rfl
 have PP:Part (fol (es++[e]) ts') (2*(es++[e]).length) ((left::α::ys)::(right::β::xs)::rest):=by
  refine⟨fun q hq=>?_,?_,fun d hd'=>?_⟩
  ·rcases MV.mp hq with z | z
   ·subst z
    refine⟨⟨left,α::ys,rfl,a1,oh c2 fa fun t ht=>els t (lty t ht).1 (lty t ht).2.1 (lty t ht).2.2⟩,fun d hd'=>?_,?_⟩
    ·rw[hlen2]
     simp only[MV]at hd'
     rcases hd' with y | y | y
     ·omega
     ·omega
     ·have:=(lty d y).1;omega
    ·refine Nb.mpr ⟨fun y=>?_,Nb.mpr ⟨fun y=>?_,?_⟩⟩
     ·rcases MV.mp y with y | y
      ·omega
      ·exact(lty _ y).2.1 rfl
     ·have:=(lty _ y).1;omega
     ·exact(Nb.mp (Nw.mp (Nb.mp nd).2).2.1).2
   ·rcases MV.mp z with z | z
    ·subst z
     refine⟨⟨right,β::xs,rfl,b1,oh c1 fb fun t ht=>els t (ltx t ht).1 (ltx t ht).2.1 (ltx t ht).2.2⟩,fun d hd'=>?_,?_⟩
     ·rw[hlen2]
      simp only[MV]at hd'
      rcases hd' with y | y | y
      ·omega
      ·omega
      ·have:=(ltx d y).1;omega
     ·refine Nb.mpr ⟨fun y=>?_,Nb.mpr ⟨fun y=>?_,?_⟩⟩
      ·rcases MV.mp y with y | y
       ·omega
       ·exact(ltx _ y).2.2 rfl
      ·have:=(ltx _ y).1;omega
      ·exact(Nw.mp (Nb.mp nd).2).1
    ·refine(pr.cr q (MY _ z)).mono (by rw[hlen2];omega) fun t ht=>?_
     obtain⟨k1,k2,k3⟩:=ltr t (NO.mpr ⟨q,z,ht⟩)
     exact els t k1 k2 k3
  ·have dis:∀ x∈xs,∀ y∈ys,x≠y:=fun x hx y hy=>(Nw.mp (Nb.mp nd).2).2.2 x hx y (by simp[hy])
   rw[NY,NY]
   refine Nw.mpr ⟨?_,Nw.mpr ⟨?_,nd2,fun a ha b hb=>?_⟩,fun a ha b hb=>?_⟩
   ·refine Nb.mpr ⟨fun y=>?_,Nb.mpr ⟨fun y=>?_,(Nb.mp (Nw.mp (Nb.mp nd).2).2.1).2⟩⟩
    ·rcases MV.mp y with y | y
     ·omega
     ·exact(lty _ y).2.1 rfl
    ·have:=(lty _ y).1;omega
   ·refine Nb.mpr ⟨fun y=>?_,Nb.mpr ⟨fun y=>?_,(Nw.mp (Nb.mp nd).2).1⟩⟩
    ·rcases MV.mp y with y | y
     ·omega
     ·exact(ltx _ y).2.2 rfl
    ·have:=(ltx _ y).1;omega
   ·obtain⟨k1,k2,k3⟩:=ltr b hb
    simp only[MV]at ha
    rcases ha with y | y | y
    ·exact fun z=>k3 (z▸y)
    ·omega
    ·exact nd3 a (by simp[y]) b hb
   ·simp only[MV,M5]at ha hb
    rcases hb with(y | y | y) | y
    ·rcases ha with z | z | z
     ·exact fun u=>hlr (by rw[← y,← u,z])
     ·have:=hrt;omega
     ·exact fun u=>(lty a z).2.2 (u.trans y)
    ·rcases ha with z | z | z
     ·omega
     ·omega
     ·have:=(lty a z).1;omega
    ·rcases ha with z | z | z
     ·exact fun u=>(ltx b y).2.1 (u▸z)
     ·have:=(ltx b y).1;omega
     ·exact fun u=>dis b y a z u.symm
    ·obtain⟨k1,k2,k3⟩:=ltr b y
     rcases ha with z | z | z
     ·exact fun u=>k2 (u▸z)
     ·omega
     ·exact nd3 a (by simp[z]) b y
  ·rw[hlen2]at hd'
   simp only[NY,M5,MV]
   rcases d4 d hd' with y | y | y
   ·have:=pr.all d y
    simp only[NY,M5,MV]at this
    rcases this with(z | z | z | z) | z
    ·exact .inl (.inl z)
    ·exact .inr (.inl (.inr (.inr z)))
    ·exact .inr (.inl (.inl z))
    ·exact .inl (.inr (.inr z))
    ·exact .inr (.inr z)
   ·exact .inl (.inr (.inl y))
   ·exact .inr (.inl (.inr (.inl y)))
 refine⟨W,⟨_,PP,by rw[hlen2];simp only[Nv]at cnt2 ⊢;omega⟩,JK g.conn,fun S ev=>?_⟩
 have e1:=ev _ (PP.cr _ (M3 ..))
 have e2:=ev _ (PP.cr _ (MY _ (M3 ..)))
 rw[aH,aH,hα]at e1
 rw[aH,aH,hβ]at e2
 have lr:left∈left::(xs++right::ys):=M3 ..
 have rr:right∈left::(xs++right::ys):=by simp
 have old:∀ r,CR (fol es ts) (2*es.length) r->par S r=false:=fun r hr'=>by
  by_cases hin:left∈r
  ·have pm:r.Perm (left::(xs++right::ys)):=(N9 hr'.nd hr.nd).mpr fun t=>⟨hr'.same hr hin lr t,hr.same hr' lr hin t⟩
   rw[uy S pm,aH,uz,aH]
   revert e1 e2
   generalize S (left/2)=a
   generalize S (right/2)=b
   generalize S es.length=c
   generalize par S xs=d
   generalize par S ys=f
   cases a<;>cases b<;>cases c<;>cases d<;>cases f<;>decide
  ·refine ev r (hr'.mono (by rw[hlen2];omega) fun t ht=>els t (hr'.lt t ht) (fun z=>hin (z▸ht)) fun z=>hin (hr.same hr' rr (z▸ht) left lr))
 obtain⟨Pl,hP⟩:=g.cut S old
 refine⟨Pl,fun t x hx=>?_⟩
 by_cases ht:t<es.length
 ·rw[MU ht]at hx
  exact hP t x hx
 ·have ht2:t=es.length:=by
   have:=(MO.mp hx).1
   rw[hlen2]at this
   omega
  subst ht2
  rw[MR (MT _),Nl]at hx
  have hx':e=x:=Ni hx
  subst hx'
  have tw:=vz w hP c1 hl (fun t ht=>(ltx t ht).1) hrt
  rw[h1,h2,uz,aH]at tw
  have goal:S es.length=(Pl one ^^ Pl two):=by
   rw[← tw]
   revert e2
   show _->S es.length=(par S xs ^^ (S (right/2) ^^ false))
   generalize S (right/2)=b
   generalize S es.length=c
   generalize par S xs=d
   cases b<;>cases c<;>cases d<;>decide
  rcases he with z | z
  ·rw[z];exact goal
  ·rw[z];exact goal.trans (PB _ _)
end K8
namespace K8
theorem Kf:Gr 2 [(0,1)] [[0],[0]]:=by
 have W:bO 2 [(0,1)] [[0],[0]]:=by
  refine⟨rfl,fun e he=>?_,fun p l h=>?_,fun p l h t=>?_⟩
  ·have:e=(0,1):=by simpa using he
   subst this
   exact⟨by decide,by decide,by decide⟩
  ·match p,h with
   |0,h=>cases h;decide
   |1,h=>cases h;decide
   |p+2,h=>cases h
  ·have key:(∃ e,([(0,1)]:En)[t]?=some e/\(e.1=p∨e.2=p))↔t=0/\(p=0∨p=1):=by
    constructor
    ·rintro⟨e,h1,h2⟩
     match t,h1 with
     |0,h1=>cases h1;exact⟨rfl,h2.imp Eq.symm Eq.symm⟩
     |t+1,h1=>cases h1
    ·rintro⟨rfl,h2⟩
     exact⟨(0,1),rfl,h2.imp Eq.symm Eq.symm⟩
   rw[key]
   match p,h with
   |0,h=>cases h;simp
   |1,h=>cases h;simp
   |p+2,h=>cases h
 refine⟨W,⟨[[0,1]],⟨fun r hr=>?_,by decide,fun d hd=>?_⟩,rfl⟩,fun S hS p q hp hq sp=>?_,fun S ev=>?_⟩
 ·have:r = [0,1]:=by simpa using hr
  subst this
  exact⟨⟨0,[1],rfl,by decide,(by show fol [(0,1)] [[0],[0]] 1=0;decide)⟩,fun d hd=>by simp at hd ⊢;omega,by decide⟩
 ·have hd2:d<2:=hd
  simp
  omega
 ·have:=hS (0,1) (by simp)
  have h01:S 0↔S 1:=this
  have hp':p=0∨p=1:=by omega
  have hq':q=0∨q=1:=by omega
  rcases hp' with rfl | rfl<;>rcases hq' with rfl | rfl
  ·exact sp
  ·exact h01.mp sp
  ·exact h01.mpr sp
  ·exact sp
 ·refine⟨fun p=>if p=1 then S 0 else false,fun t x hx=>?_⟩
  match t,hx with
  |0,hx =>
   cases hx
   show S 0=((if(0:Nat)=1 then S 0 else false) ^^ (if(1:Nat)=1 then S 0 else false))
   rw[if_neg (by decide),if_pos rfl,OM]
  |t+1,hx=>cases hx
end K8
namespace K8
structure Bij(F:Nat->Nat)(n:Nat):Prop where
 lt:∀ k,k<n->F k<n
 inj:∀ a b,a<n->b<n->F a=F b->a=b
 sur:∀ y,y<n->∃ k,k<n/\F k=y
theorem xA{F:Nat->Nat}:∀{l:List Nat},l.Nodup->(∀ x∈l,∀ y∈l,F x=F y->x=y)->(l.map F).Nodup
 |[],_,_=>OW
 |a::l,nd,h=>by
  obtain⟨n1,n2⟩:=Nb.mp nd
  refine Nb.mpr ⟨fun z=>?_,xA n2 fun x hx y hy=>h x (MY _ hx) y (MY _ hy)⟩
  obtain⟨x,hx,e⟩:=NL.mp z
  have:=h x (MY _ hx) a (M3 ..) e
  exact n1 (this▸hx)
theorem LN{F:Nat->Nat}{l:List Nat}{t:Nat}(ht:t∈l)(h:∀ x∈l,F x=F t->x=t):nxt (l.map F) (F t)=F (nxt l t):=by
 obtain⟨A,B,rfl,k⟩:=fV ht
 have k2:F t∉A.map F:=fun z=>by
  obtain⟨x,hx,e⟩:=NL.mp z
  exact k (h x (by simp[hx]) e▸hx)
 rw[NU,Nj,aZ k2,aZ k]
 cases B<;>cases A<;>rfl
theorem Ax{X Y:List Nat}{t:Nat}(nd:(X++Y).Nodup)(ht:t∈X++Y):nxt (Y++X) t=nxt (X++Y) t:=by
 obtain⟨n1,n2,n3⟩:=Nw.mp nd
 rcases M5.mp ht with z | z
 ·have tY:t∉Y:=fun y=>n3 t z t y rfl
  obtain⟨A,B,rfl,k⟩:=fV z
  have e1:Y++(A++t::B)=(Y++A)++t::B:=by simp
  have e2:(A++t::B)++Y=A++t::(B++Y):=by simp
  rw[e1,e2,aZ (by simp[tY,k]),aZ k]
  cases B<;>cases Y<;>cases A<;>rfl
 ·have tX:t∉X:=fun y=>n3 t y t z rfl
  obtain⟨A,B,rfl,k⟩:=fV z
  have e1:(A++t::B)++X=A++t::(B++X):=by simp
  have e2:X++(A++t::B)=(X++A)++t::B:=by simp
  rw[e1,e2,aZ k,aZ (by simp[tX,k])]
  cases B<;>cases X<;>cases A<;>rfl
structure Ren(m:Nat)(es es2:En)(ts ts2:List (List Nat))(π σ:Nat->Nat):Prop where
 pi:Bij π m
 si:Bij σ es.length
 l1:es2.length=es.length
 l2:ts2.length=m
 es:∀(k:Nat)(e:Nat×Nat),es[k]?=some e->es2[σ k]?=some (π e.1,π e.2)
 ts:∀(p:Nat)(l:List Nat),ts[p]?=some l->∃ X Y,l=X++Y/\ts2[π p]?=some ((Y++X).map σ)
section
variable{m:Nat}{es es2:En}{ts ts2:List (List Nat)}{π σ:Nat->Nat}
theorem Ren.es'(R:Ren m es es2 ts ts2 π σ){j:Nat}{x:Nat×Nat}(h:es2[j]?=some x):∃ k e,σ k=j/\es[k]?=some e/\x=(π e.1,π e.2):=by
 have hj:=(MO.mp h).1
 rw[R.l1]at hj
 obtain⟨k,hk,rfl⟩:=R.si.sur j hj
 have e1:es[k]?=some es[k]:=MN hk
 have:=R.es k _ e1
 rw[h]at this
 exact⟨k,_,rfl,e1,Ni this⟩
theorem Ren.ts'(R:Ren m es es2 ts ts2 π σ)(w:bO m es ts){j:Nat}{L:List Nat}(h:ts2[j]?=some L):∃ p l X Y,p<m/\π p=j/\ts[p]?=some l/\l=X++Y/\L=(Y++X).map σ:=by
 have hj:=(MO.mp h).1
 rw[R.l2]at hj
 obtain⟨p,hp,rfl⟩:=R.pi.sur j hj
 have e1:ts[p]?=some (ts[p]'(by rw[w.len];exact hp)):=MN _
 obtain⟨X,Y,h1,h2⟩:=R.ts p _ e1
 rw[h]at h2
 exact⟨p,_,X,Y,hp,rfl,e1,h1,Ni h2⟩
theorem oX(w:bO m es ts){p:Nat}{l:List Nat}(h:ts[p]?=some l){t:Nat}(ht:t∈l):t<es.length:=by
 obtain⟨x,hx,_⟩:=(w.mem p l h t).mp ht
 exact(MO.mp hx).1
theorem Ren.turn(R:Ren m es es2 ts ts2 π σ)(w:bO m es ts):bO m es2 ts2:=by
 refine⟨R.l2,fun x hx=>?_,fun j L h=>?_,fun j L h t=>?_⟩
 ·obtain⟨j,hj⟩:=N7.mp hx
  obtain⟨k,e,_,h1,rfl⟩:=R.es' hj
  obtain⟨a1,a2,a3⟩:=w.ends e (MP h1)
  exact⟨R.pi.lt _ a1,R.pi.lt _ a2,fun z=>a3 (R.pi.inj _ _ a1 a2 z)⟩
 ·obtain⟨p,l,X,Y,hp,rfl,h1,rfl,rfl⟩:=R.ts' w h
  have nd:=w.nd p _ h1
  obtain⟨n1,n2,n3⟩:=Nw.mp nd
  refine xA (Nw.mpr ⟨n2,n1,fun a ha b hb z=>n3 b hb a ha z.symm⟩) fun x hx y hy=>R.si.inj x y (oX w h1 ?_) (oX w h1 ?_)
  ·simp only[M5]at hx ⊢;exact hx.symm
  ·simp only[M5]at hy ⊢;exact hy.symm
 ·obtain⟨p,l,X,Y,hp,rfl,h1,rfl,rfl⟩:=R.ts' w h
  constructor
  ·intro z
   obtain⟨k,hk,rfl⟩:=NL.mp z
   obtain⟨e,h2,h3⟩:=(w.mem p _ h1 k).mp (by simp only[M5]at hk ⊢;exact hk.symm)
   exact⟨_,R.es k e h2,h3.imp (congrArg π) (congrArg π)⟩
  ·rintro⟨x,h2,h3⟩
   obtain⟨k,e,rfl,h4,rfl⟩:=R.es' h2
   obtain⟨a1,a2,a3⟩:=w.ends e (MP h4)
   have hk:=(w.mem p _ h1 k).mpr ⟨e,h4,h3.imp (R.pi.inj _ _ a1 hp) (R.pi.inj _ _ a2 hp)⟩
   exact NL.mpr ⟨k,by simp only[M5]at hk ⊢;exact hk.symm,rfl⟩
noncomputable def Phi(σ:Nat->Nat)(d:Nat):Nat:=2*σ (d/2)+d%2
theorem oj(d:Nat):Phi σ d/2=σ (d/2):=by unfold Phi;omega
theorem Ren.hd(R:Ren m es es2 ts ts2 π σ){d:Nat}(hd':d<2*es.length):hd es2 (Phi σ d)=π (hd es d):=by
 have e1:es[d/2]?=some (es[d/2]'(by omega)):=MN _
 have e2:=R.es _ _ e1
 unfold K8.hd
 rw[oj,e1,e2]
 have hm:Phi σ d%2=d%2:=by unfold Phi;omega
 show(if Phi σ d%2=0 then π es[d/2].2 else π es[d/2].1)=π (if d%2=0 then es[d/2].2 else es[d/2].1)
 rw[hm]
 split<;>rfl
theorem Ren.fol(R:Ren m es es2 ts ts2 π σ)(w:bO m es ts){d:Nat}(hd':d<2*es.length):fol es2 ts2 (Phi σ d)=Phi σ (fol es ts d):=by
 obtain⟨_,l,_,_,_,k4,k5,k6⟩:=w.at hd'
 obtain⟨X,Y,rfl,h2⟩:=R.ts _ _ k5
 have nd:=w.nd _ _ k5
 rw[d9 (l:=(Y++X).map σ) (by rw[R.hd hd'];exact h2),d9 k5,oj,R.hd hd']
 have k7:d/2∈Y++X:=by simp only[M5]at k6 ⊢;exact k6.symm
 rw[LN k7 fun x hx=>R.si.inj x _ (oX w k5 (by simp only[M5]at hx ⊢;exact hx.symm)) (oX w k5 k6),Ax nd k6]
 have hn:=MP (hO k6)
 have hlt:=oX w k5 hn
 generalize nxt (X++Y) (d/2)=t at hlt
 have e1:es[t]?=some es[t]:=MN hlt
 have a1:=(w.ends _ (MP e1)).1
 unfold leave
 rw[R.es _ _ e1,e1]
 show(if π es[t].1=π (K8.hd es d) then 2*σ t else 2*σ t+1)=Phi σ (if es[t].1=K8.hd es d then 2*t else 2*t+1)
 by_cases z:es[t].1=K8.hd es d
 ·rw[if_pos z,if_pos (congrArg π z)]
  unfold Phi
  rw[show 2*t/2=t by omega]
  omega
 ·rw[if_neg z,if_neg (fun y=>z (R.pi.inj _ _ a1 k4 y))]
  unfold Phi
  rw[show(2*t+1)/2=t by omega]
  omega
theorem B6(b:Bij σ es.length){x y:Nat}(hx:x<2*es.length)(hy:y<2*es.length)(e:Phi σ x=Phi σ y):x=y:=by
 have e1:σ (x/2)=σ (y/2):=by
  have h1:=oj (σ:=σ) x
  have h2:=oj (σ:=σ) y
  rw[e]at h1
  exact h1.symm.trans h2
 have:=b.inj _ _ (by omega) (by omega) e1
 unfold Phi at e
 omega
theorem Ren.gr(R:Ren m es es2 ts ts2 π σ)(g:Gr m es ts):Gr m es2 ts2:=by
 obtain⟨rs,p,cnt⟩:=g.part
 have flt:∀ d∈rs.flatten,d<2*es.length:=fun d hd=>by
  obtain⟨r,h1,h2⟩:=NO.mp hd
  exact(p.cr r h1).lt d h2
 have hfl:(rs.map (List.map (Phi σ))).flatten=rs.flatten.map (Phi σ):=List.map_flatten.symm
 refine⟨R.turn g.w,⟨rs.map (List.map (Phi σ)),⟨fun q hq=>?_,?_,fun d hd=>?_⟩,by rw[M7,R.l1];exact cnt⟩,fun S hS x y hx hy sx=>?_,fun S ev=>?_⟩
 ·obtain⟨r,hr,rfl⟩:=NL.mp hq
  have c:=p.cr r hr
  obtain⟨x,l,rfl,ch⟩:=c.ch
  refine⟨⟨Phi σ x,l.map (Phi σ),rfl,pT ch fun t ht=>R.fol g.w (c.lt t ht)⟩,fun d hd=>?_,xA c.nd fun a ha b hb=>B6 R.si (c.lt a ha) (c.lt b hb)⟩
  obtain⟨t,ht,rfl⟩:=NL.mp hd
  have h1:=c.lt t ht
  have h2:=R.si.lt (t/2) (by omega)
  rw[R.l1]
  unfold Phi
  omega
 ·rw[hfl]
  exact xA p.nd fun a ha b hb=>B6 R.si (flt a ha) (flt b hb)
 ·rw[R.l1]at hd
  obtain⟨k,hk,e⟩:=R.si.sur (d/2) (by omega)
  rw[hfl]
  refine NL.mpr ⟨2*k+d%2,p.all _ (by omega),?_⟩
  unfold Phi
  rw[show(2*k+d%2)/2=k by omega,e]
  omega
 ·obtain⟨x',hx',rfl⟩:=R.pi.sur x hx
  obtain⟨y',hy',rfl⟩:=R.pi.sur y hy
  refine g.conn (fun p=>S (π p)) (fun e he=>?_) x' y' hx' hy' sx
  obtain⟨k,hk⟩:=N7.mp he
  exact hS (π e.1,π e.2) (MP (R.es k e hk))
 ·obtain⟨Pl,hP⟩:=g.cut (fun t=>S (σ t)) fun r hr=>by
   rw[← FG S σ r]
   refine ev _ ?_
   obtain⟨x,l,rfl,ch⟩:=hr.ch
   refine⟨⟨Phi σ x,l.map (Phi σ),rfl,pT ch fun t ht=>R.fol g.w (hr.lt t ht)⟩,fun d hd=>?_,xA hr.nd fun a ha b hb=>B6 R.si (hr.lt a ha) (hr.lt b hb)⟩
   obtain⟨t,ht,rfl⟩:=NL.mp hd
   have h1:=hr.lt t ht
   have h2:=R.si.lt (t/2) (by omega)
   rw[R.l1]
   omega
  have inv:∀ p,p<m->((Na m).find? fun q=>decide (π q=π p))=some p:=fun p hp=>by
   cases z:(Na m).find? fun q=>decide (π q=π p) with
   |none=>exact absurd (decide_eq_true rfl) (List.find?_eq_none.mp z p (NX.mpr hp))
   |some q =>
    have h0:=List.find?_some z
    have h1:π q=π p:=of_decide_eq_true h0
    rw[R.pi.inj q p (NX.mp (List.mem_of_find?_eq_some z)) hp h1]
  refine⟨fun y=>Pl (((Na m).find? fun q=>decide (π q=y)).getD 0),fun j x hx=>?_⟩
  obtain⟨k,e,rfl,h1,rfl⟩:=R.es' hx
  obtain⟨b1,b2,_⟩:=g.w.ends e (MP h1)
  show S (σ k)=(Pl (((Na m).find? fun q=>decide (π q=π e.1)).getD 0) ^^ Pl (((Na m).find? fun q=>decide (π q=π e.2)).getD 0))
  rw[inv _ b1,inv _ b2]
  exact hP k e h1
end
end K8
namespace K8
open PySem L2
local macro_rules | `(tactic| walk_at "cc") => `(tactic| first | exact ⟨by decide, by decide⟩ | (show (0 : Int) < _; decide) | (show (0 : Int) < _; omega) | (show (0 : Int) ≤ _; omega) | exact ⟨by decide, by decide, by decide⟩ | exact ⟨by omega, by omega, by decide⟩ | exact Or.inl ⟨by decide, by decide⟩ | exact Or.inl ⟨by omega, by omega⟩)
local macro_rules | `(tactic| walk_at "rd") => `(tactic| repeat (first | refine ⟨_, rfl, ?_⟩ | refine ⟨_, _, rfl, rfl, ?_⟩ | refine ⟨rfl, ?_⟩ | (refine ⟨?cc, ?_⟩; (case cc => walk_at "cc"))))
noncomputable def top(i:Nat):Stmt:=PySem.Challenge.pw_spinfloor_k78_both_ways_of_fans.main.body.getD i (.Pass ⟨0,0,0,0⟩)
noncomputable abbrev cC:Stmt:=top 13
noncomputable abbrev cA:Stmt:=top 15
noncomputable abbrev iZ:Stmt:=top 30
noncomputable abbrev i0:Stmt:=top 31
noncomputable abbrev b8:Stmt:=top 32
noncomputable abbrev dJ:Stmt:=top 34
noncomputable abbrev dI:Stmt:=top 37
noncomputable abbrev cg:Stmt:=pG (top 39) 0
noncomputable abbrev dS:Stmt:=pG (top 39) 1
noncomputable abbrev cf:Stmt:=pG (top 39) 4
noncomputable abbrev cU:Stmt:=pG (top 41) 0
noncomputable abbrev rS:Stmt:=top 43
noncomputable abbrev fG:Stmt:=top 44
noncomputable abbrev dQ:Stmt:=top 45
noncomputable abbrev bZ:Stmt:=top 46
noncomputable abbrev cO:Stmt:=top 47
noncomputable abbrev dG:Stmt:=top 48
noncomputable abbrev bJ:Stmt:=top 50
noncomputable abbrev bw:Stmt:=top 51
noncomputable abbrev bj:Stmt:=top 52
noncomputable abbrev b9:Stmt:=pG (top 53) 0
noncomputable abbrev rR:Stmt:=top 55
noncomputable abbrev b7:Stmt:=top 56
noncomputable abbrev bK:Stmt:=top 57
noncomputable abbrev bx:Stmt:=top 59
noncomputable abbrev cS:Stmt:=top 60
noncomputable abbrev fF:Stmt:=top 61
noncomputable abbrev dH:Stmt:=top 62
noncomputable abbrev dO:Stmt:=top 64
noncomputable abbrev cQ:Stmt:=top 65
noncomputable abbrev fH:Stmt:=top 66
noncomputable abbrev cR:Stmt:=top 67
noncomputable abbrev dM:Stmt:=top 68
noncomputable abbrev fJ:Stmt:=top 69
noncomputable abbrev dN:Stmt:=top 70
noncomputable abbrev tW:Stmt:=top 71
noncomputable def tf(a b s:Int):List (Str×V):=putF "strength" (.int s) (putF "two" (.int b) (putF "one" (.int a) []))
theorem rN(a b s:Int):(tf a b s).lookup ("one" : Str)=some (.int a):=by
 unfold tf
 rw[ay,if_neg (by decide +kernel),ay,if_neg (by decide +kernel),ay,if_pos rfl]
theorem Cb(a b s:Int):(tf a b s).lookup ("two" : Str)=some (.int b):=by
 unfold tf
 rw[ay,if_neg (by decide +kernel),ay,if_pos rfl]
theorem EE(a b s:Int):(tf a b s).lookup ("strength" : Str)=some (.int s):=by
 unfold tf
 rw[ay,if_pos rfl]
theorem yX(a b s:Int){m:Str} (h1:¬ m = "strength") (h2:¬ m = "two") (h3:¬ m = "one"):(tf a b s).lookup m=none:=by
 unfold tf
 rw[ay,if_neg h1,ay,if_neg h2,ay,if_neg h3]
 all_goals rfl
theorem f1_len(a:Int):(putF "one" (.int a) []).length<1000:=by show 1<1000;decide
theorem f2_len(a b:Int):(putF "two" (.int b) (putF "one" (.int a) [])).length<1000:=by
 have e:(putF "two" (.int b) (putF "one" (.int a) []):List (Str×V))=([("one",.int a),("two",.int b)]:List (Str×V)):=by
  show(if("one" : Str) = "two" then[(("one" : Str),V.int b)] else(("one" : Str),V.int a)::putF "two" (V.int b) [])=_
  rw[if_neg (by decide +kernel)]
  all_goals rfl
 rw[e]
 show 2<1000
 decide
structure CT(K:MQ)(C:Addr):Prop where
 cl:Cls K C
 n1:eU K C "one"
 n2:eU K C "two"
 n3:eU K C "strength"
noncomputable def rP(K:MQ):Sp:=fun vs H Q _=>∃(p C dx:Addr)(a b s:Int),vs = [.ref p,.int a,.int b,.int s]/\H p=some (.ins C dx [])/\CT K C/\a≠b/\0<=a/\0<=b/\0<=s /\
 ∀ H',H' p=some (.ins C dx (tf a b s))->(∀ q o,H q=some o->q≠p->H' q=some o)->Q .non H'
theorem aq{H:Hp}{p:Addr}(h:H p=none)(o:HO):Same H (upd H p o):=fun b u q=>by rw[ao (aG q h)];exact q
theorem aW{H H2:Hp}{l:Addr}(h:Same H H2)(hl:H l=none)(o:HO):Same H (upd H2 l o):=fun b u q=>by rw[ao (aG q hl)];exact h b u q
noncomputable def iV(p:Nat):V:=.int (p:Int)
theorem iV_at{hs:List Nat}{k x:Nat}(h:hs[k]?=some x):atI (hs.map iV) (k:Int)=some (iV x):=aJ (by rw[Nq,h];rfl)
noncomputable def m5(H:Hp)(ys:List V)(es:En):Prop:=ys.length=es.length/\∀(i:Nat)(e:Nat×Nat),es[i]?=some e->∃ p,ys[i]?=some (.ref p)/\H p=some (.tup [iV e.1,iV e.2])
theorem m5.mono{H H':Hp}{ys:List V}{es:En}(h:m5 H ys es)(s:Same H H'):m5 H' ys es:=⟨h.1,fun i e q=>by
 obtain⟨p,a,b⟩:=h.2 i e q
 exact⟨p,a,s _ _ b⟩⟩
noncomputable def dr(K:MQ)(H:Hp)(xs:List V)(es:En):Prop:=xs.length=es.length/\∀(i:Nat)(e:Nat×Nat),es[i]?=some e->∃ p C dx s,xs[i]?=some (.ref p)/\H p=some (.ins C dx (tf (e.1:Int) (e.2:Int) s))/\CT K C
theorem dr.mono{K:MQ}{H H':Hp}{xs:List V}{es:En}(t:dr K H xs es)(h:Same H H'):dr K H' xs es:=⟨t.1,fun i e q=>by
 obtain⟨p,C,dx,s,a,b,d⟩:=t.2 i e q
 exact⟨p,C,dx,s,a,h _ _ b,d⟩⟩
noncomputable def cL(H:Hp)(xs:List V)(ts:List (List Nat)):Prop:=xs.length=ts.length/\∀(i:Nat)(l:List Nat),ts[i]?=some l->∃ p,xs[i]?=some (.ref p)/\H p=some (.lst (l.map iV))
theorem cL.mono{H H':Hp}{xs:List V}{ts:List (List Nat)}(h:cL H xs ts)(s:Same H H'):cL H' xs ts:=⟨h.1,fun i e q=>by
 obtain⟨p,a,b⟩:=h.2 i e q
 exact⟨p,a,s _ _ b⟩⟩
theorem cL.snoc{H:Hp}{xs:List V}{ts:List (List Nat)}{q:Addr}{l:List Nat}(h:cL H xs ts)(e:H q=some (.lst (l.map iV))):cL H (xs++[.ref q]) (ts++[l]):=by
 refine⟨by rw[MX,MX,h.1];rfl,fun j k ej=>?_⟩
 by_cases hj:j<ts.length
 ·rw[MU hj]at ej
  obtain⟨p,a1,a2⟩:=h.2 j k ej
  exact⟨p,by rw[MU (by rw[h.1];exact hj)];exact a1,a2⟩
 ·rw[MR (by omega)]at ej
  have hj2:j=ts.length:=by
   have:=(MO.mp ej).1
   rw[Nc]at this
   omega
  subst hj2
  rw[Nl]at ej
  cases ej
  exact⟨q,by rw[← h.1,MR (MT _),Nl];rfl,e⟩
noncomputable def bq(S:Addr->Prop)(H:Hp)(xs:List V)(ts:List (List Nat)):Prop:=xs.length=ts.length/\∀(i:Nat)(l:List Nat),ts[i]?=some l->∃ p,xs[i]?=some (.ref p)/\¬ S p/\H p=some (.lst (l.map iV))
theorem bq.mono{S:Addr->Prop}{H H':Hp}{xs:List V}{ts:List (List Nat)}(h:bq S H xs ts)(s:∀ b u,¬ S b->H b=some u->H' b=some u):bq S H' xs ts:=⟨h.1,fun i e q=>by
 obtain⟨p,a,n,b⟩:=h.2 i e q
 exact⟨p,a,n,s _ _ n b⟩⟩
theorem bq.off{S:Addr->Prop}{H:Hp}{xs:List V}{ts:List (List Nat)}(h:bq S H xs ts):cL H xs ts:=⟨h.1,fun i e q=>by
 obtain⟨p,a,n,b⟩:=h.2 i e q
 exact⟨p,a,b⟩⟩
theorem bq.snoc{S:Addr->Prop}{H:Hp}{xs:List V}{ts:List (List Nat)}{q:Addr}{l:List Nat}(h:bq S H xs ts)(n:¬ S q)(e:H q=some (.lst (l.map iV))):bq S H (xs++[.ref q]) (ts++[l]):=by
 refine⟨by rw[MX,MX,h.1];rfl,fun j k ej=>?_⟩
 by_cases hj:j<ts.length
 ·rw[MU hj]at ej
  obtain⟨p,a1,a2⟩:=h.2 j k ej
  exact⟨p,by rw[MU (by rw[h.1];exact hj)];exact a1,a2⟩
 ·rw[MR (by omega)]at ej
  have hj2:j=ts.length:=by
   have:=(MO.mp ej).1
   rw[Nc]at this
   omega
  subst hj2
  rw[Nl]at ej
  cases ej
  exact⟨q,by rw[← h.1,MR (MT _),Nl];rfl,n,e⟩
theorem vi{f:Nat->Nat}{N i:Nat}{rs:List (List Nat)}(w:bS f N i rs):rs.flatten.length<=N:=jz w.nd fun x hx=>by
 obtain⟨r,h1,h2⟩:=NO.mp hx
 exact(w.ring r h1).lt x h2
theorem Iz{f:Nat->Nat}{N i:Nat}{rs:List (List Nat)}(w:bS f N i rs):rs.length<=N:=by
 have h:∀(l:List (List Nat)),(∀ r∈l,0<r.length)->l.length<=l.flatten.length:=fun l=>by
  induction l with
  |nil=>intro _;exact MT _
  |cons a l ih =>
   intro h
   rw[NY,MX,Nv]
   have h1:=h a (M3 ..)
   have h2:=ih fun r hr=>h r (MY _ hr)
   omega
 exact NQ (h rs fun r hr=>(w.ring r hr).ne) (vi w)
structure TT(K:MQ)(H:Hp)(a b:Addr)(m:Nat)(es:En)(ts:List (List Nat)):Prop where
 xs:∃ xs,SqL K H a xs/\dr K H xs es
 ys:∃ ys,SqL K H b ys/\cL H ys ts
 w:bO m es ts
 few:es.length<=62
theorem TT.mono{K:MQ}{H H':Hp}{a b:Addr}{m:Nat}{es:En}{ts:List (List Nat)}(t:TT K H a b m es ts)(s:Same H H'):TT K H' a b m es ts:=by
 obtain⟨⟨xs,h1,h2⟩,⟨ys,h3,h4⟩,w,f⟩:=t
 exact⟨⟨xs,s.seq h1,h2.mono s⟩,⟨ys,s.seq h3,h4.mono s⟩,w,f⟩
theorem CK{m:Nat}{es:En}{ts:List (List Nat)}(w:bO m es ts)(f:es.length<=62){p:Nat}{l:List Nat}(h:ts[p]?=some l):(∀ t∈l,t<62)/\l.length<=62:=by
 have a:∀ t∈l,t<es.length:=fun t ht=>by
  obtain⟨e,he,_⟩:=(w.mem p l h t).mp ht
  exact(MO.mp he).1
 exact⟨fun t ht=>by have:=a t ht;omega,NQ (jz (w.nd p l h) a) f⟩
theorem perm{m:Nat}{es:En}{ts:List (List Nat)}(w:bO m es ts):Ia (fol es ts) (2*es.length):=⟨fun d h=>by
 obtain⟨_,_,_,_,_,_,_,_,z,_⟩:=w.foll h
 exact z,fun a b ha hb h=>w.inj ha hb h⟩
noncomputable def ET(K:MQ):Sp:=fun vs H Q _=>∃(a:Addr)(xs:List V)(es:En)(d:Nat),vs = [.ref a,.int (d:Int)]/\SqL K H a xs/\dr K H xs es/\d<2*es.length/\Q (iV (hd es d)) H
noncomputable def ES(K:MQ):Sp:=fun vs H Q _=>∃(a:Addr)(xs:List V)(es:En)(t p:Nat)(e:Nat×Nat),vs = [.ref a,.int (t:Int),.int (p:Int)]/\SqL K H a xs/\dr K H xs es/\es[t]?=some e/\Q (iV (if e.1=p then 2*t else 2*t+1)) H
noncomputable def KY(K:MQ):Sp:=fun vs H Q _=>∃(a b:Addr)(m:Nat)(es:En)(ts:List (List Nat))(d:Nat),vs = [.ref a,.ref b,.int (d:Int)]/\TT K H a b m es ts/\d<2*es.length/\Q (iV (fol es ts d)) H
noncomputable def EU(K:MQ):Sp:=fun vs H Q _=>∃(a b:Addr)(m:Nat)(es:En)(ts:List (List Nat))(d:Nat),vs = [.ref a,.ref b,.int (d:Int)]/\TT K H a b m es ts/\d<2*es.length /\
 ∀ q r H',Same H H'->H q=none->H' q=some (.lst (r.map iV))->Path (fol es ts) (2*es.length) d r->Ring (fol es ts) (2*es.length) r->Q (.ref q) H'
noncomputable def tH(K:MQ):Sp:=fun vs H Q _=>∃(a b:Addr)(m:Nat)(es:En)(ts:List (List Nat)),vs = [.ref a,.ref b]/\TT K H a b m es ts /\
 ∀ q ys rs H',Same H H'->H' q=some (.lst ys)->cL H' ys rs->bS (fol es ts) (2*es.length) (2*es.length) rs->Q (.ref q) H'
noncomputable def gP(H:Hp)(ys:List V)(n:Nat)(rs:List (List Nat)):Prop:=ys.length=n/\∀ i,i<n->∃ p a b r r',ys[i]?=some (.ref p)/\H p=some (.tup [iV a,iV b])/\rs[a]?=some r/\2*i∈r/\rs[b]?=some r'/\2*i+1∈r'
noncomputable def yY(K:MQ):Sp:=fun vs H Q _=>∃(a b:Addr)(xs ys:List V)(es:En)(f:Nat->Nat)(rs:List (List Nat)),vs = [.ref a,.ref b]/\SqL K H a xs/\dr K H xs es/\es.length<=62/\SqL K H b ys/\cL H ys rs/\bS f (2*es.length) (2*es.length) rs /\
 ∀ q zs H',Same H H'->H' q=some (.lst zs)->gP H' zs es.length rs->Q (.ref q) H'
noncomputable def jt(ns:List Int)(k:Nat):Int:=ns.getD k 0
noncomputable def Cd(K:MQ):Sp:=fun vs H Q _=>∃(a:Addr)(k:Nat)(ns:List Int),vs = [.ref a,.int (k:Int)]/\SqL K H a (ns.map V.int)/\Q (.int (jt ns k)) H
structure Txt(mg:Str->Option Value):Prop where
 n_len:mg "len" = none
 n_int:mg "int" = none
 n_bool:mg "bool" = none
 n_list:mg "list" = none
 n_tuple:mg "tuple" = none
 n_range:mg "range" = none
 n_enumerate:mg "enumerate" = none
 n_isinstance:mg "isinstance" = none
 n_min:mg "min" = none
 n_sum:mg "sum" = none
 n_sorted:mg "sorted" = none
section
variable{P:Program}{w:World}{K:MQ}{mg:Str->Option Value}{base:Heap}
theorem E8:av ["ties","dart","tie"] ["ties","dart"] (ah rS):=⟨rfl,rfl,rfl,by decide +kernel,rfl,by decide +kernel,by decide +kernel⟩
theorem Lv{f:Addr}{fd:FuncData} (F:Fun K "head" "head" rS f fd):FnOk P w K mg base CX0 1 f fd ["ties","dart"] (ET K):=by
 refine F.ok E8 (fun vs H Q E h=>?_) (fun cdv A outer s H vs Q E hr h=>?_)
 ·obtain⟨a,xs,es,d,rfl,_⟩:=h
  rfl
 obtain⟨a,xs,es,d,rfl,hS,hT,hdl,k⟩:=h
 have hl:d/2<es.length:=by omega
 have e1:es[d/2]?=some es[d/2]:=MN hl
 obtain⟨p,C,dx,s',x1,x2,x3⟩:=hT.2 _ _ e1
 have hh:hd es d=if d%2=0 then es[d/2].2 else es[d/2].1:=by unfold hd;rw[e1]
 have ed:(d:Int)/2=((d/2:Nat):Int):=by omega
 refine⟨_,(af (ar (i:=2) E8.nd rfl (Or.inl rfl) (aD aA (pv 0) (aB dY (pv 1) ai) (fun _ _=>rfl)))
   (ak (aE (kG (aC js (aB cj (pv 1) ai) ai (aI _)) (bQ (pv 2) rfl) (bQ (pv 2) rfl))))),?_⟩
 refine⟨_,rfl,_,rfl,_,_,rfl,rfl,⟨by decide,by decide⟩,a,xs,_,_,rfl,rfl,hS,(by rw[ed];exact aJ x1),?_⟩
 refine⟨_,rfl,_,_,rfl,rfl,(by show(0:Int)<2;decide),rfl,_,rfl,?_⟩
 refine ite2 (fun q=>?_) (fun q=>?_)
 ·have q':(d:Int)%2=0:=V.int.inj (of_decide_eq_true q)
  refine⟨_,rfl,p,C,dx,_,_,rfl,x2,x3.cl,x3.n2,Cb _ _ _,?_⟩
  rw[hh,if_pos (by omega)]at k
  exact k
 ·have q':¬ (d:Int)%2=0:=fun z=>q (decide_eq_true (congrArg V.int z))
  refine⟨_,rfl,p,C,dx,_,_,rfl,x2,x3.cl,x3.n1,rN _ _ _,?_⟩
  rw[hh,if_neg (by omega)]at k
  exact k
theorem CZ:av ["ties","number","place"] ["ties","number","place"] (ah fG):=⟨rfl,rfl,rfl,by decide +kernel,rfl,by decide +kernel,by decide +kernel⟩
theorem Dd{f:Addr}{fd:FuncData} (F:Fun K "leaving" "leaving" fG f fd):FnOk P w K mg base CX0 1 f fd ["ties","number","place"] (ES K):=by
 refine F.ok CZ (fun vs H Q E h=>?_) (fun cdv A outer s H vs Q E hr h=>?_)
 ·obtain⟨a,xs,es,t,p,e,rfl,_⟩:=h
  rfl
 obtain⟨a,xs,es,t,pl,e,rfl,hS,hT,he,k⟩:=h
 obtain⟨p,C,dx,s',x1,x2,x3⟩:=hT.2 _ _ he
 have m2:CMul 2 (t:Int):=.inl ⟨by decide,by decide⟩
 refine⟨_,(ak (aE (kG (aC js (bQ (aD aA (pv 0) (pv 1) (fun _ _=>rfl)) rfl) (pv 2) (aI _)) (aB rY ai (pv 1)) (aB dZ (aB rY ai (pv 1)) ai)))),?_⟩
 refine⟨_,rfl,_,rfl,a,xs,_,_,rfl,rfl,hS,aJ x1,p,C,dx,_,_,rfl,x2,x3.cl,x3.n1,rN _ _ _,_,rfl,rfl,_,rfl,?_⟩
 refine ite2 (fun q=>?_) (fun q=>?_)
 ·have q':(e.1:Int)=(pl:Int):=V.int.inj (of_decide_eq_true q)
  refine⟨_,rfl,_,_,rfl,rfl,m2,?_⟩
  rw[if_pos (by omega)]at k
  exact k
 ·have q':¬ (e.1:Int)=(pl:Int):=fun z=>q (decide_eq_true (congrArg V.int z))
  refine⟨_,rfl,_,_,rfl,rfl,m2,_,_,rfl,rfl,?_⟩
  rw[if_neg (by omega)]at k
  exact k
theorem fZ:av ["ties","turns","dart","place","about","behind"] ["ties","turns","dart"] (ah dQ):=⟨rfl,rfl,rfl,by decide +kernel,rfl,by decide +kernel,by decide +kernel⟩
theorem Aa{f fh fl:Addr}{fd fdh fdl:FuncData} (F:Fun K "follower" "follower" dQ f fd) (T:Txt mg) (G_head:Cal P w K mg base 1 "head" ["ties","dart"] (ET K) fh fdh) (G_leaving:Cal P w K mg base 1 "leaving" ["ties","number","place"] (ES K) fl fdl):FnOk P w K mg base CX0 2 f fd ["ties","turns","dart"] (KY K):=by
 refine F.ok fZ (fun vs H Q E h=>?_) (fun cdv A outer s H vs Q E hr h=>?_)
 ·obtain⟨a,b,m,es,ts,d,rfl,_⟩:=h
  rfl
 obtain⟨a,b,m,es,ts,d,rfl,tt,hdl,k⟩:=h
 obtain⟨⟨xs,h1,h2⟩,⟨ys,h3,h4⟩,w',few⟩:=tt
 obtain⟨l,e,p1,p2,p3,p4,p5,p6,p7,p8,p9⟩:=w'.foll hdl
 obtain⟨small,len⟩:=CK w' few p1
 obtain⟨q,y1,y2⟩:=h4.2 _ _ p1
 have ed:(d:Int)/2=((d/2:Nat):Int):=by omega
 refine⟨_,(af (ar (i:=3) fZ.nd rfl (Or.inl rfl) (az G_head.ok (hr.mono (by decide)) rfl G_head.mg G_head.kp G_head.bn .nil aR (ae (pv 0) (ae (pv 2) aj))))
   (af (ar (i:=4) fZ.nd rfl (Or.inl rfl) (aD aA (pv 1) (pv 3) (fun _ _=>rfl)))
   (af (ar (i:=5) fZ.nd rfl (Or.inl rfl) (aB cj (aB dZ (kK NB PySem.F.slot_list_index PySem.F.type_list_index Jd (pv 4) (ae (aB dY (pv 2) ai) aj)) ai) (aM aF (by rfl) T.n_len cN (ae (pv 4) aj))))
   (ak (aE (az G_leaving.ok (hr.mono (by decide)) rfl G_leaving.mg G_leaving.kp G_leaving.bn .nil aR (ae (pv 0) (ae (aD aA (pv 4) (pv 5) (fun _ _=>rfl)) (ae (pv 3) aj))))))))),?_⟩
 refine⟨_,rfl,_,rfl,a,xs,es,d,rfl,h1,h2,hdl,?_⟩
 refine⟨_,rfl,_,rfl,b,ys,_,_,rfl,rfl,h3,aJ y1,?_⟩
 have hlen:(l.map iV).length=l.length:=M7 _
 have hl0:0<l.length:=Oy p2
 have hmod:(((l.idxOf (d/2):Nat):Int)+1)%((l.map iV).length:Int)=(((l.idxOf (d/2)+1)%l.length:Nat):Int):=by rw[hlen];rfl
 refine⟨_,rfl,.inl ⟨rfl,_,SqL.of y2⟩,_,rfl,_,_,rfl,rfl,⟨by decide,by decide⟩,q,l,d/2,rfl,congrArg (fun z=>[V.int z]) ed,SqL.of y2,fun p hp=>by have:=small p hp;omega,by omega,p2,_,_,rfl,rfl,_,rfl,q,_,rfl,.inl (SqL.of y2),_,_,rfl,rfl,(by show(0:Int)<((l.map iV).length:Int);rw[hlen];omega),?_⟩
 refine⟨_,rfl,_,rfl,_,rfl,q,_,_,_,rfl,rfl,SqL.of y2,(by rw[hmod];exact iV_at (hO p2)),_,rfl,a,xs,es,nxt l (d/2),hd es d,e,rfl,h1,h2,p3,?_⟩
 rw[p6]at k
 exact k
theorem dt:av ["ties","turns","first","row","dart"] ["ties","turns","first"] (ah bZ):=⟨rfl,rfl,rfl,by decide +kernel,rfl,by decide +kernel,by decide +kernel⟩
theorem Lx{f ff:Addr}{fd fdf:FuncData} (F:Fun K "round_from" "round_from" bZ f fd) (G_follower:Cal P w K mg base 2 "follower" ["ties","turns","dart"] (KY K) ff fdf):FnOk P w K mg base CX0 3 f fd ["ties","turns","first"] (EU K):=by
 refine F.ok dt (fun vs H Q E h=>?_) (fun cdv A outer s H vs Q E hr h=>?_)
 ·obtain⟨a,b,m,es,ts,d,rfl,_⟩:=h
  rfl
 obtain⟨a,b,m,es,ts,d,rfl,tt,hdl,k⟩:=h
 have pm:=perm tt.w
 refine⟨_,(af (ar (i:=3) dt.nd rfl (Or.inl rfl) (dm (ae (pv 2) aj)))
   (af (ar (i:=4) dt.nd rfl (Or.inl rfl) (az G_follower.ok (hr.mono (by decide)) rfl G_follower.mg G_follower.kp G_follower.bn .nil aR (ae (pv 0) (ae (pv 1) (ae (pv 2) aj)))))
   (af (gf PassesOwn.never (aC nh (pv 4) (pv 2) (aI _)) (af (bC (kK NB NH NG bu (pv 3) (ae (pv 4) aj)))
   (ak (ar (i:=4) dt.nd rfl (Or.inl rfl) (az G_follower.ok (hr.mono (by decide)) rfl G_follower.mg G_follower.kp G_follower.bn .nil aR (ae (pv 0) (ae (pv 1) (ae (pv 4) aj))))))))
   (ak (aE (pv 3)))))),?_⟩
 refine⟨_,rfl,(by show 1<=sizeLine;decide),fun q hq=>?_⟩
 have s1:=aq hq (.lst [.int (d:Int)])
 refine⟨_,rfl,_,rfl,_,rfl,a,b,m,es,ts,d,rfl,tt.mono s1,hdl,?_⟩
 refine fQ (fun σ H2=>∃(r:List Nat)(x:Nat),σ = [some (.ref a),some (.ref b),some (.int (d:Int)),some (.ref q),some (iV (fol es ts x))]/\Same H H2/\H2 q=some (.lst ((r++[x]).map iV))/\Path (fol es ts) (2*es.length) d (r++[x]))
  (fun σ H2=>match H2 q with | some (.lst xs)=>200-xs.length | _=>0) ⟨[],d,rfl,s1,ag,IG hdl⟩ ?_ ?_
 ·rintro σ H2 ⟨r,x,rfl,s2,hq2,pa⟩
  refine⟨_,rfl,_,rfl,rfl,_,rfl,?_⟩
  have few:=tt.few
  have hlen:=jz pa.nd pa.lt
  refine ite2 (fun c=>?_) (fun c=>?_)
  ·have c':fol es ts x≠d:=fun z=>by
    rw[decide_eq_true (show iV (fol es ts x)=V.int (d:Int) by rw[z];rfl)]at c
    cases c
   have pa2:=pa.snoc pm c'
   have hlen2:=jz pa2.nd pa2.lt
   have lt2:fol es ts x<2*es.length:=pa2.lt _ (by simp)
   refine⟨_,rfl,.inl ⟨rfl,_,SqL.of hq2⟩,_,rfl,q,_,_,rfl,rfl,hq2,ax (by rw[M7];omega),?_⟩
   have s3:=aW s2 hq (.lst ((r++[x]).map iV++[iV (fol es ts x)]))
   refine⟨_,rfl,_,rfl,_,rfl,a,b,m,es,ts,fol es ts x,rfl,tt.mono s3,lt2,?_⟩
   refine⟨⟨r++[x],fol es ts x,rfl,s3,?_,pa2⟩,?_⟩
   ·rw[ag,show((r++[x]++[fol es ts x]).map iV)=(r++[x]).map iV++[iV (fol es ts x)] from by rw[NU];rfl]
   ·show(match(upd H2 q (.lst ((r++[x]).map iV++[iV (fol es ts x)]))) q with | some (.lst xs)=>200-xs.length | _=>0)<(match H2 q with | some (.lst xs)=>200-xs.length | _=>0)
    rw[ag,hq2]
    show 200-((r++[x]).map iV++[iV (fol es ts x)]).length<200-((r++[x]).map iV).length
    rw[MX,M7,Nc]
    omega
  ·have c':fol es ts x=d:=by
    by_cases z:fol es ts x=d
    ·exact z
    ·exact absurd (by rw[decide_eq_false (fun y=>z (by have:=V.int.inj y;omega))];rfl) c
   refine⟨_,rfl,?_⟩
   exact k q _ H2 s2 hq hq2 pa (pa.ring pm c')
 ·rintro σ H2 Q1 Q2 hi ⟨v',e,b',e2,z1,c',e3,q'⟩
  exact⟨v',e,b',e2,z1,c',e3,hi _ _ q'⟩
theorem bY:av ["ties","turns","rounds","seen","dart","row","gone"] ["ties","turns"] (ah cO):=⟨rfl,rfl,rfl,by decide +kernel,rfl,by decide +kernel,by decide +kernel⟩
theorem FP{f ff:Addr}{fd fdf:FuncData} (F:Fun K "rounds_of" "rounds_of" cO f fd) (T:Txt mg) (G_round_from:Cal P w K mg base 3 "round_from" ["ties","turns","first"] (EU K) ff fdf):FnOk P w K mg base CX0 4 f fd ["ties","turns"] (tH K):=by
 refine F.ok bY (fun vs H Q E h=>?_) (fun cdv A outer s H vs Q E hr h=>?_)
 ·obtain⟨a,b,m,es,ts,rfl,_⟩:=h
  rfl
 obtain⟨a,b,m,es,ts,rfl,tt,k⟩:=h
 have hu:=GK hr
 have pm:=perm tt.w
 have few:=tt.few
 obtain⟨xs,h1,h2⟩:=tt.xs
 refine⟨_,(af (ar (i:=2) bY.nd rfl (Or.inl rfl) (dm aj))
   (af (ar (i:=3) bY.nd rfl (Or.inl rfl) ur)
   (af (cD PassesOwn.never rfl (bD rfl T.n_range (ae (aB rY ai (aM aF (by rfl) T.n_len cN (ae (pv 0) aj))) aj)) (aL (i:=4) bY.nd rfl (Or.inl rfl)) (ak (bL (J1 (w6 hu (pv 4) (pv 3))) (af (ar (i:=5) bY.nd rfl (Or.inl rfl) (az G_round_from.ok (hr.mono (by decide)) rfl G_round_from.mg G_round_from.kp G_round_from.bn .nil aR (ae (pv 0) (ae (pv 1) (ae (pv 4) aj)))))
   (af (bC (kK NB NH NG bu (pv 2) (ae (pv 5) aj)))
   (ak (cD PassesOwn.never rfl (bo (pv 5)) (aL (i:=6) bY.nd rfl (Or.inl rfl)) (ak (t8 hu (pv 3) (pv 6) qY rfl)))))) aP)))
   (ak (aE (pv 2)))))),?_⟩
 refine⟨(by show 0<=sizeLine;decide),fun qr hqr=>fun qs hqs=>?_⟩
 have s1:=(aq hqr (.lst [])).trans (aq hqs (.dK []))
 have hqs0:H qs=none:=by
  cases z:H qs with
  |none=>rfl
  |some o=>rw[aq hqr (.lst []) qs o z]at hqs;cases hqs
 have hne:qr≠qs:=fun z=>by rw[← z,ag]at hqs;cases hqs
 have hxl:xs.length=es.length:=h2.1
 have hN:(2*(xs.length:Int)).toNat=2*es.length:=by omega
 refine⟨_,rfl,a,xs,rfl,.inl (s1.seq h1),_,_,rfl,rfl,.inl ⟨by decide,by decide⟩,_,rfl,by omega,by omega,kS (n:=(2*(xs.length:Int)).toNat) (fun i σ H2=>∃ v4 v5 v6 ys rs kvs,σ = [some (.ref a),some (.ref b),some (.ref qr),some (.ref qs),v4,v5,v6]/\Same H H2/\H2 qr=some (.lst ys)/\bq (fun p=>p=qr∨p=qs) H2 ys rs/\H2 qs=some (.dK kvs)/\kvs.length<=rs.flatten.length/\(∀ d:Nat,(valV kvs (Sum.inl (d:Int))).isSome=true↔d∈rs.flatten)/\bS (fol es ts) (2*es.length) i rs)
  ⟨_,_,_,[],[],[],rfl,s1,by rw[ao hne,ag],⟨rfl,fun i l e=>by simp at e⟩,ag,MT _,fun d=>by simp[valV],C1 _ _⟩ ?_ ?_⟩
 ·rintro i σ H2 hi ⟨v4,v5,v6,ys,rs,kvs,rfl,s2,e1,rx,e2,kl,km,ro⟩
  rw[hN]at hi
  have e0:(0:Int)+(i:Int)=(i:Int):=OJ _
  rw[e0]
  have fl:=vi ro
  have rl:=Iz ro
  refine⟨_,rfl,_,rfl,_,_,rfl,DGet.k (k:=Sum.inl (i:Int)) e2,_,rfl,?_⟩
  refine ite2 (fun c=>?_) (fun c=>?_)
  ·have hni:i∉rs.flatten:=fun z=>by
    rw[(km i).mpr z]at c
    cases c
   refine⟨_,rfl,_,rfl,_,rfl,a,b,m,es,ts,i,rfl,tt.mono s2,hi,fun q r H3 s3 hq hq3 pa ri=>?_⟩
   have s23:=s2.trans s3
   have nq:¬ (q=qr∨q=qs):=by
    rintro(z | z)
    ·rw[z,e1]at hq;cases hq
    ·rw[z,e2]at hq;cases hq
   refine⟨_,rfl,.inl ⟨rfl,_,SqL.of (s3 _ _ e1)⟩,_,rfl,qr,_,_,rfl,rfl,s3 _ _ e1,ax (by rw[rx.1];omega),?_⟩
   have s4:=aW s23 hqr (.lst (ys++[.ref q]))
   have hrq:∀{H5:Hp},bq (fun p=>p=qr∨p=qs) H5 (ys++[.ref q]) (rs++[r])->H5 q=some (.lst (r.map iV)):=fun h=>by
    obtain⟨p,z1,_,z2⟩:=h.2 rs.length r (by rw[MR (MT _),Nl];rfl)
    rw[← rx.1,MR (MT _),Nl]at z1
    cases z1
    exact z2
   have rx4:bq (fun p=>p=qr∨p=qs) (upd H3 qr (.lst (ys++[.ref q]))) (ys++[.ref q]) (rs++[r]):=by
    refine(rx.mono fun p o n z=>?_).snoc nq ?_
    ·rw[ao (fun z=>n (.inl z))];exact s3 _ _ z
    ·rw[ao (fun z=>nq (.inl z))];exact hq3
   have rl:r.length<=2*es.length:=jz ri.nd ri.lt
   refine⟨_,rfl,q,rfl,⟨_,SqL.of (hrq rx4)⟩,cG (xs:=r.map iV) (fun j σ H5=>∃ v6 kvs',σ = [some (.ref a),some (.ref b),some (.ref qr),some (.ref qs),some (.int (i:Int)),some (.ref q),v6]/\Same H H5/\H5 qr=some (.lst (ys++[.ref q]))/\bq (fun p=>p=qr∨p=qs) H5 (ys++[.ref q]) (rs++[r])/\H5 qs=some (.dK kvs')/\kvs'.length<=rs.flatten.length+j/\∀ d:Nat,(valV kvs' (Sum.inl (d:Int))).isSome=true↔d∈rs.flatten∨d∈r.take j)
    ⟨_,kvs,rfl,s4,ag,rx4,by rw[ao hne.symm];exact s3 _ _ e2,kl,fun d=>by rw[km d];simp⟩ (fun j σ H5 _ p=>?_) ?_ ?_⟩
   ·obtain⟨_,_,_,_,_,z,_⟩:=p
    exact SqL.of (hrq z)
   ·rintro j x σ H5 hx ⟨v6,kvs',rfl,s5,f1,rx5,f2,kl5,km5⟩
    rw[Nq]at hx
    obtain⟨g,hg,rfl⟩:=NI.mp hx
    have hjl:j<r.length:=(MO.mp hg).1
    refine⟨_,rfl,_,rfl,qs,_,rfl,DPut.k (k:=Sum.inl (g:Int)) f2 (ax (by omega)),?_⟩
    refine⟨_,_,rfl,aW s5 hqs0 _,by rw[ao hne];exact f1,rx5.mono fun p o n z=>by rw[ao (fun z=>n (.inr z))];exact z,ag,by have:=d6 kvs' (Sum.inl (g:Int)) (V.bl true);omega,fun d=>?_⟩
    rw[fR]
    have tk:r.take (j+1)=r.take j++[g]:=by rw[NA,hg];rfl
    rw[tk]
    by_cases z:d=g
    ·subst z
     simp
    ·rw[if_neg (fun y=>z (by have:=Sum.inl.inj y;omega)),km5 d]
     simp[z]
   ·rintro σ H5 ⟨v6,kvs',rfl,s5,f1,rx5,f2,kl5,km5⟩
    rw[M7]at kl5 km5
    refine⟨_,_,_,_,rs++[r],kvs',rfl,s5,f1,rx5,f2,by rw[Oe,MX];simpa using kl5,fun d=>?_,ro.put pm hni hi ri pa⟩
    rw[km5 d,ND,Oe,M5]
    simp
  ·have hii:i∈rs.flatten:=(km i).mp (by
    cases z:(valV kvs (Sum.inl (i:Int))).isSome with
    |true=>rfl
    |false=>exact absurd (by rw[z];rfl) c)
   exact⟨_,_,_,ys,rs,kvs,rfl,s2,e1,rx,e2,kl,km,ro.skip hii⟩
 ·rintro σ H2 ⟨v4,v5,v6,ys,rs,kvs,rfl,s2,e1,rx,e2,kl,km,ro⟩
  rw[hN]at ro
  exact⟨_,rfl,k qr ys rs H2 s2 e1 rx.off ro⟩
theorem dU:av ["ties","rounds","number_at","number","row","dart"] ["ties","rounds"] (ah dG):=⟨rfl,rfl,rfl,by decide +kernel,rfl,by decide +kernel,by decide +kernel⟩
theorem IK{f:Addr}{fd:FuncData} (F:Fun K "sides_of" "sides_of" dG f fd) (T:Txt mg):FnOk P w K mg base CX0 1 f fd ["ties","rounds"] (yY K):=by
 refine F.ok dU (fun vs H Q E h=>?_) (fun cdv A outer s H vs Q E hr h=>?_)
 ·obtain⟨a,b,xs,ys,es,g,rs,rfl,_⟩:=h
  rfl
 obtain⟨a,b,xs,ys,es,g,rs,rfl,hS,hT,few,hB,hR,ro,k⟩:=h
 have hu:=GK hr
 have fl:=vi ro
 refine⟨_,(af (ar (i:=2) dU.nd rfl (Or.inr rfl) ur)
   (af (cD PassesOwn.never rfl (ui rfl T.n_enumerate (ae (pv 1) aj)) (rW rfl (bh (aL (i:=3) dU.nd rfl (Or.inl rfl)) (bh (aL (i:=4) dU.nd rfl (Or.inl rfl)) g9))) (ak (cD PassesOwn.never rfl (bo (pv 4)) (aL (i:=5) dU.nd rfl (Or.inl rfl)) (ak (t8 hu (pv 2) (pv 5) (pv 3) rfl)))))
   (ak (aE (gh rfl (fr:=[("number_at",2)]) (by exact bM.one (by rfl) (by decide +kernel) (by rfl) (by decide +kernel) (by rfl) (by decide +kernel) (by rfl) (by rfl) (by decide +kernel) (by rfl)) (bD rfl T.n_range (ae (aM aF (by rfl) T.n_len cN (ae (pv 0) aj)) aj)) (fun C ex s H=>(bP (ae (oI hu (pv 1) (aB rY ai (pv 0)) (fun _ _=>rfl)) (ae (oI hu (pv 1) (aB dZ (aB rY ai (pv 0)) ai) (fun _ _=>rfl)) aj))))))))),?_⟩
 intro q hq
 have s1:=aq hq (.dK [])
 have kF:∀ i,(rs.take i).flatten.length<=rs.flatten.length:=fun i=>by
  have:=congrArg (fun z=>z.flatten.length) (OA i rs)
  simp only[Oe,MX]at this
  omega
 refine⟨_,rfl,b,rfl,⟨_,s1.seq hB⟩,vh (K:=K) (xs:=ys) (fun i σ H2=>∃ v3 v4 v5 kvs,σ = [some (.ref a),some (.ref b),some (.ref q),v3,v4,v5]/\Same H H2/\H2 q=some (.dK kvs)/\kvs.length<=(rs.take i).flatten.length/\∀(d c:Nat)(r:List Nat),c<i->rs[c]?=some r->d∈r->valV kvs (Sum.inl (d:Int))=some (iV c))
  ⟨_,_,_,[],rfl,s1,ag,NS _,fun d c r z=>absurd z (NV _)⟩ (fun i σ H2 _ ⟨_,_,_,_,_,s2,_⟩=>s2.seq hB) ?_ ?_⟩
 ·rintro i x σ H2 T2 hx ⟨v3,v4,v5,kvs,rfl,s2,e1,kl,km⟩ hT2
  have hil:i<rs.length:=by
   have:=(MO.mp hx).1
   rw[hR.1]at this
   exact this
  have hr':rs[i]?=some rs[i]:=MN hil
  obtain⟨p,x1,x2⟩:=hR.2 i _ hr'
  rw[hx]at x1
  cases x1
  generalize rs[i]=r at hr' x2
  have s3:Same H (upd H2 T2 (.tup [.int (i:Int),.ref p])):=s2.trans (aq hT2 _)
  have f1:(rs.take (i+1)).flatten=(rs.take i).flatten++r:=by rw[NA,hr'];simp
  have f2:=kF (i+1)
  rw[f1,MX]at f2
  refine⟨T2,_,rfl,SqT.of ag,rfl,_,_,rfl,_,_,rfl,rfl,?_⟩
  refine⟨_,rfl,p,rfl,⟨_,SqL.of (s3 _ _ x2)⟩,cG (xs:=r.map iV) (fun j σ H5=>∃ v5 kvs',σ = [some (.ref a),some (.ref b),some (.ref q),some (.int (i:Int)),some (.ref p),v5]/\Same H H5/\H5 q=some (.dK kvs')/\kvs'.length<=(rs.take i).flatten.length+j/\(∀(d c:Nat)(r:List Nat),c<i->rs[c]?=some r->d∈r->valV kvs' (Sum.inl (d:Int))=some (iV c))/\∀ d∈r.take j,valV kvs' (Sum.inl (d:Int))=some (iV i))
   ⟨_,kvs,rfl,s3,aq hT2 _ _ _ e1,kl,km,fun d hd=>by simp at hd⟩ (fun j σ H5 _ ⟨_,_,_,z,_⟩=>SqL.of (z _ _ x2)) ?_ ?_⟩
  ·rintro j x σ H5 hx2 ⟨v5,kvs',rfl,s5,g1,kl5,km5,kn5⟩
   rw[Nq]at hx2
   obtain⟨g,hg,rfl⟩:=NI.mp hx2
   have hjl:j<r.length:=(MO.mp hg).1
   refine⟨_,rfl,_,rfl,_,rfl,q,_,rfl,DPut.k (k:=Sum.inl (g:Int)) g1 (ax (by omega)),?_⟩
   refine⟨_,_,rfl,aW s5 hq _,ag,by have:=d6 kvs' (Sum.inl (g:Int)) (V.int (i:Int));omega,fun d c r' hc hrc hd=>?_,fun d hd=>?_⟩
   ·rw[fR,if_neg (fun z=>?_)]
    ·exact km5 d c r' hc hrc hd
    ·have z':d=g:=by have:=Sum.inl.inj z;omega
     subst z'
     have:=lU ro.nd hrc hr' hd (MP hg)
     omega
   ·rw[fR]
    by_cases z:d=g
    ·subst z
     rw[if_pos rfl]
     rfl
    ·rw[if_neg (fun y=>z (by have:=Sum.inl.inj y;omega))]
     refine kn5 d ?_
     rw[NA,hg]at hd
     simpa[z] using hd
  ·rintro σ H5 ⟨v5,kvs',rfl,s5,g1,kl5,km5,kn5⟩
   rw[M7]at kl5 kn5
   rw[ND]at kn5
   refine⟨_,_,_,kvs',rfl,s5,g1,by rw[f1,MX];exact kl5,fun d c r' hc hrc hd=>?_⟩
   by_cases z:c=i
   ·subst z
    rw[hr']at hrc
    cases hrc
    exact kn5 d hd
   ·exact km5 d c r' (by omega) hrc hd
 ·rintro σ H2 ⟨v3,v4,v5,kvs,rfl,s2,e1,kl,km⟩
  rw[hR.1]at km
  have get:∀ d,d<2*es.length->∃ c r,rs[c]?=some r/\d∈r/\valV kvs (Sum.inl (d:Int))=some (iV c):=fun d hd=>by
   obtain⟨r,z1,z2⟩:=NO.mp (ro.all d hd)
   obtain⟨c,z3⟩:=N7.mp z1
   exact⟨c,r,z3,z2,km d c r (MO.mp z3).1 z3 z2⟩
  have hxl:xs.length=es.length:=hT.1
  refine⟨_,rfl,a,xs,rfl,.inl (s2.seq hS),_,rfl,by omega,by omega,fM (fun i zs H3=>Same H2 H3/\gP H3 zs i rs) (by rw[Ng,hxl];exact NM (ax (by omega))) ⟨fun _ _ e=>e,rfl,fun i hi=>absurd hi (NV _)⟩ ?_ ?_⟩
  ·rintro i zs H3 hi ⟨s3,sd⟩
   have e0:(0:Int)+(i:Int)=(i:Int):=OJ _
   rw[e0]
   rw[Ng,hxl]at hi
   obtain⟨c1,r1,z1,z2,z3⟩:=get (2*i) (by omega)
   obtain⟨c2,r2,y1,y2,y3⟩:=get (2*i+1) (by omega)
   have m2:CMul 2 (i:Int):=.inl ⟨by decide,by decide⟩
   have d1:DGet H3 q (V.int (2*(i:Int))) (some (iV c1)):=by
    rw[← z3,show((2*i:Nat):Int)=2*(i:Int) by omega]
    exact DGet.k (k:=Sum.inl (2*(i:Int))) (s3 _ _ e1)
   have d2:DGet H3 q (V.int (2*(i:Int)+1)) (some (iV c2)):=by
    rw[← y3,show((2*i+1:Nat):Int)=2*(i:Int)+1 by omega]
    exact DGet.k (k:=Sum.inl (2*(i:Int)+1)) (s3 _ _ e1)
   refine⟨_,rfl,_,rfl,_,_,rfl,rfl,m2,q,_,rfl,d1,_,rfl,_,rfl,_,_,rfl,rfl,m2,_,_,rfl,rfl,q,_,rfl,d2,(by show 2<=sizeLine;decide),fun t ht=>?_⟩
   have s4:=aq ht (.tup [iV c1,iV c2])
   refine⟨s3.trans s4,by rw[MX,sd.1];rfl,fun j hj=>?_⟩
   by_cases z:j=i
   ·subst z
    exact⟨t,c1,c2,r1,r2,by rw[← sd.1,MR (MT _),Nl];rfl,ag,z1,z2,y1,y2⟩
   ·obtain⟨p,a',b',r,r',w1,w2,w3⟩:=sd.2 j (by omega)
    exact⟨p,a',b',r,r',by rw[MU (by rw[sd.1];omega)];exact w1,s4 _ _ w2,w3⟩
  ·rintro zs H3 hzl ⟨s3,sd⟩ D hD
   rw[Ng,hxl]at sd
   exact k D zs _ ((s2.trans s3).trans (aq hD _)) ag ⟨sd.1,fun i hi=>by
    obtain⟨p,a',b',r,r',w1,w2,w3⟩:=sd.2 i hi
    exact⟨p,a',b',r,r',w1,aq hD _ _ _ w2,w3⟩⟩
theorem tV:av ["self","one","two","strength"] ["self","one","two","strength"] (ah cg):=⟨rfl,rfl,rfl,by decide +kernel,rfl,by decide +kernel,by decide +kernel⟩
theorem Lu{f:Addr}{fd:FuncData} (F:Fun K "__init__" "Tie.__init__" cg f fd):FnOk P w K mg base CX0 1 f fd ["self","one","two","strength"] (rP K):=by
 refine F.ok tV (fun vs H Q E h=>?_) (fun cdv A outer s H vs Q E hr h=>?_)
 ·obtain⟨p,C,dx,a,b,s,rfl,_⟩:=h
  rfl
 obtain⟨p,C,dx,a,b,st,rfl,hp,T,hne,ha,hb,hs,k⟩:=h
 refine⟨_,(af (bL (aC js (pv 1) (pv 2) (aI _)) (ak cW) aP)
   (af (bL (PW.pt (zF (aC oM (pv 1) ai (aI _)) (rT (aC oM (pv 2) ai (aI _))))) (ak cW) aP)
   (af (bL (aC oM (pv 3) ai (aI _)) (ak cW) aP)
   (af (mG (pv 0) (pv 1) rfl)
   (af (mG (pv 0) (pv 2) rfl)
   (ak (mG (pv 0) (pv 3) rfl))))))),?_⟩
 walk_at "rd"
 refine ite2 (fun c=>absurd (V.int.inj (of_decide_eq_true c)) hne) (fun _=>?_)
 walk_at "rd"
 refine ite2 (fun c=>absurd (of_decide_eq_true c) (by omega)) (fun _=>?_)
 walk_at "rd"
 refine ite2 (fun c=>absurd (of_decide_eq_true c) (by omega)) (fun _=>?_)
 walk_at "rd"
 refine ite2 (fun c=>absurd (of_decide_eq_true c) (by omega)) (fun _=>?_)
 refine⟨_,rfl,_,rfl,p,C,dx,[],rfl,hp,T.cl,T.n1,(by show 0<1000;decide),?_⟩
 refine⟨_,rfl,_,rfl,p,C,dx,_,rfl,ag,T.cl,T.n2,f1_len a,?_⟩
 refine⟨_,rfl,_,rfl,p,C,dx,_,rfl,ag,T.cl,T.n3,f2_len a b,?_⟩
 exact k _ ag fun q o e hq=>by rw[ao hq,ao hq,ao hq];exact e
theorem zw:av ["script","k"] ["script","k"] (ah dO):=⟨rfl,rfl,rfl,by decide +kernel,rfl,by decide +kernel,by decide +kernel⟩
theorem Ly{f:Addr}{fd:FuncData} (F:Fun K "_law_cell" "_law_cell" dO f fd) (T:Txt mg):FnOk P w K mg base CX0 1 f fd ["script","k"] (Cd K):=by
 refine F.ok zw (fun vs H Q E h=>?_) (fun cdv A outer s H vs Q E hr h=>?_)
 ·obtain⟨a,k,ns,rfl,_⟩:=h
  rfl
 obtain⟨a,k,ns,rfl,hS,q⟩:=h
 refine⟨_,(af (bL (aC oM (pv 1) (aM aF (by rfl) T.n_len cN (ae (pv 0) aj)) (aI _)) (ak (aE (aD aA (pv 0) (pv 1) (fun _ _=>rfl)))) aP)
   (ak (aE ai))),?_⟩
 refine⟨_,rfl,_,rfl,a,_,rfl,.inl hS,_,_,rfl,rfl,_,rfl,?_⟩
 refine ite2 (fun c=>?_) (fun c=>?_)
 ·have c':(k:Int)<((ns.map V.int).length:Int):=of_decide_eq_true c
  rw[M7]at c'
  have hk:k<ns.length:=by omega
  have hat:atI (ns.map V.int) (k:Int)=some (.int (jt ns k)):=aJ (by rw[Nq,MN hk];unfold jt;rw[Ny,MN hk];rfl)
  exact⟨_,rfl,_,rfl,a,_,_,_,rfl,rfl,hS,hat,q⟩
 ·have c':¬ (k:Int)<((ns.map V.int).length:Int):=fun z=>c (decide_eq_true z)
  rw[M7]at c'
  have e:jt ns k=0:=by unfold jt;rw[Ny,PR (by omega)];rfl
  rw[e]at q
  exact q
theorem at0{u v:V}:atI [u,v] 0=some u:=rfl
theorem at1{u v:V}:atI [u,v] 1=some v:=rfl
theorem LR{H:Hp}{a:Addr}{ps:List Nat}(h:SqL K H a (ps.map iV)):RdD K H (.ref a) (.list ((ps.map fun(p:Nat)=>((p:Nat):Int)).map PyData.int)):=by
 refine RdD.lst h (by simp) fun i x d e1 e2=>?_
 rw[Nq]at e1
 rw[Nq,Nq]at e2
 cases z:ps[i]? with
 |none=>rw[z]at e1;cases e1
 |some n =>
  rw[z]at e1 e2
  cases e1
  cases e2
  exact .int _
theorem GF(l:List Int):(PyData.list (l.map PyData.int)).canLay0=true/\(PyData.list (l.map PyData.int)).depth<=10:=by
 have h1:∀ d∈l.map PyData.int,d.canLay0=true/\d.depth<=1:=fun d hd=>by
  obtain⟨x,_,rfl⟩:=NL.mp hd
  exact⟨by simp[PyData.canLay0],by simp[PyData.depth]⟩
 have h2:=iK fun d hd=>(h1 d hd).1
 have h3:=jZ fun d hd=>(h1 d hd).2
 exact⟨by simp only[PyData.canLay0];exact h2,by simp only[PyData.depth];omega⟩
theorem m5.snoc{H:Hp}{xs:List V}{es:En}{e:Nat×Nat}{p:Addr}(t:m5 H xs es)(h:H p=some (.tup [iV e.1,iV e.2])):m5 H (xs++[.ref p]) (es++[e]):=by
 refine⟨by rw[MX,MX,t.1];rfl,fun j k ej=>?_⟩
 by_cases hj:j<es.length
 ·rw[MU hj]at ej
  obtain⟨p,a1,a2⟩:=t.2 j k ej
  exact⟨p,by rw[MU (by rw[t.1];exact hj)];exact a1,a2⟩
 ·rw[MR (by omega)]at ej
  have hj2:j=es.length:=by
   have:=(MO.mp ej).1
   rw[Nc]at this
   omega
  subst hj2
  rw[Nl]at ej
  cases ej
  exact⟨p,by rw[← t.1,MR (MT _),Nl];rfl,h⟩
noncomputable def Dist(xs:List V):Prop:=∀(i j:Nat)(p:Addr),xs[i]?=some (.ref p)->xs[j]?=some (.ref p)->i=j
theorem bq.set{S:Addr->Prop}{H:Hp}{xs:List V}{ts:List (List Nat)}{i:Nat}{p:Addr}{l':List Nat}(h:bq S H xs ts)(D:Dist xs)(e:xs[i]?=some (.ref p)):bq S (upd H p (.lst (l'.map iV))) xs (ts.set i l'):=by
 refine⟨by rw[Ob];exact h.1,fun j l z=>?_⟩
 have hi:i<ts.length:=by rw[← h.1];exact(MO.mp e).1
 rw[Of]at z
 by_cases hj:i=j
 ·subst hj
  rw[if_pos rfl,if_pos hi]at z
  cases z
  obtain⟨p',a1,a2,a3⟩:=h.2 i _ (MN hi)
  rw[e]at a1
  cases a1
  exact⟨p,e,a2,ag⟩
 ·rw[if_neg hj]at z
  obtain⟨p',a1,a2,a3⟩:=h.2 j l z
  exact⟨p',a1,a2,by rw[ao (fun y=>by rw[y]at a1;exact hj (D i j p e a1))];exact a3⟩
theorem Fd{H:Hp}{a:Addr}{xs:List V}{ts:List (List Nat)}(h:SqL K H a xs)(hR:cL H xs ts):RdD K H (.ref a) (.list (ts.map fun l=>PyData.list ((l.map fun(p:Nat)=>((p:Nat):Int)).map PyData.int))):=by
 refine RdD.lst h (by rw[M7];exact hR.1) fun i x d e1 e2=>?_
 rw[Nq]at e2
 obtain⟨l,hl,rfl⟩:=NI.mp e2
 obtain⟨p,a1,a2⟩:=hR.2 i l hl
 rw[e1]at a1
 cases a1
 exact LR (SqL.of a2)
theorem zC(ts:List (List Nat)):SeqAt.shaped (.list (ts.map fun l=>PyData.list ((l.map fun(p:Nat)=>((p:Nat):Int)).map PyData.int)))=true:=zt fun d hd=>by
 obtain⟨l,_,rfl⟩:=NL.mp hd
 exact GF _
end
end K8
namespace K8
open PySem L2
local macro_rules | `(tactic| walk_at "cc") => `(tactic| first | exact ⟨by decide, by decide⟩ | (show (0 : Int) < _; decide) | (show (0 : Int) < _; omega) | (show (0 : Int) ≤ _; omega) | exact ⟨by decide, by decide, by decide⟩ | exact ⟨by omega, by omega, by decide⟩ | exact Or.inl ⟨by decide, by decide⟩ | exact Or.inl ⟨by omega, by omega⟩)
local macro_rules | `(tactic| walk_at "rd") => `(tactic| repeat (first | refine ⟨_, rfl, ?_⟩ | refine ⟨_, _, rfl, rfl, ?_⟩ | refine ⟨rfl, ?_⟩ | (refine ⟨?cc, ?_⟩; (case cc => walk_at "cc"))))
section
variable{P:Program}{w:World}{K:MQ}{mg:Str->Option Value}{base:Heap}
end
end K8
namespace K8
open PySem L2
local macro_rules | `(tactic| walk_at "cc") => `(tactic| first | exact ⟨by decide, by decide⟩ | (show (0 : Int) < _; decide) | (show (0 : Int) < _; omega) | (show (0 : Int) ≤ _; omega) | exact ⟨by decide, by decide, by decide⟩ | exact ⟨by omega, by omega, by decide⟩ | exact Or.inl ⟨by decide, by decide⟩ | exact Or.inl ⟨by omega, by omega⟩)
local macro_rules | `(tactic| walk_at "rd") => `(tactic| repeat (first | refine ⟨_, rfl, ?_⟩ | refine ⟨_, _, rfl, rfl, ?_⟩ | refine ⟨rfl, ?_⟩ | (refine ⟨?cc, ?_⟩; (case cc => walk_at "cc"))))
theorem pK{S:Addr->Prop}{H:Hp}{xs:List V}{ts:List (List Nat)}{q:Addr}(h:bq S H xs ts)(D:Dist xs)(hq:H q=none):Dist (xs++[.ref q]):=by
 have old:∀(j:Nat)(p:Addr),j<xs.length->(xs++[V.ref q])[j]?=some (.ref p)->xs[j]?=some (.ref p)/\p≠q:=fun j p hj e=>by
  rw[MU hj]at e
  obtain⟨p',a1,_,a3⟩:=h.2 j _ (MN (by rw[← h.1];exact hj))
  rw[e]at a1
  cases a1
  exact⟨e,aG a3 hq⟩
 have new:∀(j:Nat)(p:Addr),¬ j<xs.length->(xs++[V.ref q])[j]?=some (.ref p)->j=xs.length/\p=q:=fun j p hj e=>by
  have:=(MO.mp e).1
  rw[MX,Nc]at this
  have hj2:j=xs.length:=by omega
  subst hj2
  rw[MR (MT _),Nl]at e
  cases e
  exact⟨rfl,rfl⟩
 intro j k p e1 e2
 by_cases hj:j<xs.length
 ·obtain⟨u1,u2⟩:=old j p hj e1
  by_cases hk:k<xs.length
  ·exact D j k p u1 (old k p hk e2).1
  ·exact absurd (new k p hk e2).2 u2
 ·obtain⟨u1,u2⟩:=new j p hj e1
  by_cases hk:k<xs.length
  ·exact absurd u2 (old k p hk e2).2
  ·rw[u1,(new k p hk e2).1]
noncomputable abbrev Kn:=List (Int×Int)
noncomputable def fN(H:Hp)(ws:List V)(ks:Kn):Prop:=ws.length=ks.length/\∀(i:Nat)(k:Int×Int),ks[i]?=some k->(k.1=0∨k.1=1)/\0<=k.2/\∃ p,ws[i]?=some (.ref p)/\H p=some (.tup [.int k.1,.int k.2])
theorem fN.mono{H H':Hp}{ws:List V}{ks:Kn}(h:fN H ws ks)(s:Same H H'):fN H' ws ks:=⟨h.1,fun i k z=>by
 obtain⟨a,b,p,c,d⟩:=h.2 i k z
 exact⟨a,b,p,c,s _ _ d⟩⟩
theorem fN.put{H:Hp}{ws:List V}{ks:Kn}{q:Addr}{zs:List V}{o:HO}(t:fN H ws ks)(h:H q=some (.lst zs)):fN (upd H q o) ws ks:=⟨t.1,fun i e z=>by
 obtain⟨u,v,p,a,b⟩:=t.2 i e z
 refine⟨u,v,p,a,?_⟩
 rw[ao (fun z=>by rw[z,h]at b;cases b)]
 exact b⟩
theorem fN.snoc{H:Hp}{ws:List V}{ks:Kn}{k:Int×Int}{p:Addr}(t:fN H ws ks)(h:H p=some (.tup [.int k.1,.int k.2]))(h1:k.1=0∨k.1=1)(h2:0<=k.2):fN H (ws++[.ref p]) (ks++[k]):=by
 refine⟨by rw[MX,MX,t.1];rfl,fun j x ej=>?_⟩
 by_cases hj:j<ks.length
 ·rw[MU hj]at ej
  obtain⟨u,v,p,a1,a2⟩:=t.2 j x ej
  exact⟨u,v,p,by rw[MU (by rw[t.1];exact hj)];exact a1,a2⟩
 ·rw[MR (by omega)]at ej
  have hj2:j=ks.length:=by
   have:=(MO.mp ej).1
   rw[Nc]at this
   omega
  subst hj2
  rw[Nl]at ej
  cases ej
  exact⟨h1,h2,p,by rw[← t.1,MR (MT _),Nl];rfl,h⟩
theorem Gr.two{m:Nat}{es:En}{ts:List (List Nat)}(g:Gr m es ts)(h:0<es.length):2<=m:=by
 obtain⟨a,b,c⟩:=g.w.ends _ (MP (MN h))
 omega
theorem gr_few{m:Nat}{es:En}{ts:List (List Nat)}(g:Gr m es ts):m<=es.length+2:=by
 obtain⟨rs,_,c⟩:=g.part
 omega
end K8
namespace K8
open PySem L2
local macro_rules | `(tactic| walk_at "cc") => `(tactic| first | exact ⟨by decide, by decide⟩ | (show (0 : Int) < _; decide) | (show (0 : Int) < _; omega) | (show (0 : Int) ≤ _; omega) | exact ⟨by decide, by decide, by decide⟩ | exact ⟨by omega, by omega, by decide⟩ | exact Or.inl ⟨by decide, by decide⟩ | exact Or.inl ⟨by omega, by omega⟩)
local macro_rules | `(tactic| walk_at "rd") => `(tactic| repeat (first | refine ⟨_, rfl, ?_⟩ | refine ⟨_, _, rfl, rfl, ?_⟩ | refine ⟨rfl, ?_⟩ | (refine ⟨?cc, ?_⟩; (case cc => walk_at "cc"))))
theorem andN(a b:Nat):Builtin.bitAnd (a:Int) (b:Int)=((a&&&b:Nat):Int):=by
 rw[PyProof.Rows.bitAnd_pp (O5 _) (O5 _),Ng,Ng]
theorem orN(a b:Nat):Builtin.bitOr (a:Int) (b:Int)=((a|||b:Nat):Int):=by
 rw[PyProof.Rows.bitOr_and,andN]
 have q:=PyProof.Rows.nat_or_add_and a b
 omega
theorem shlN(p:Nat):(1:Int)*2^((p:Nat):Int).toNat=((2^p:Nat):Int):=by
 rw[Qj,Ng,Qk]
 rfl
theorem tq{M p q:Nat}:(M&&&(2^p|||2^q)=0↔M.testBit p=false/\M.testBit q=false)/\(M|||(2^p|||2^q)=M->M.testBit p=true/\M.testBit q=true):=by
 have b1:∀ i,(2^p|||2^q).testBit i=(decide (p=i)||decide (q=i)):=fun i=>by rw[Ol,Nu,Nu]
 refine⟨⟨fun h=>?_,fun⟨h1,h2⟩=>?_⟩,fun h=>?_⟩
 ·have h1:=congrArg (fun z=>OZ z p) h
  have h2:=congrArg (fun z=>OZ z q) h
  simp only[Oo,b1,NK]at h1 h2
  constructor
  ·simpa using h1
  ·simpa using h2
 ·refine NF fun i=>?_
  rw[Oo,b1,NK]
  by_cases z1:p=i
  ·subst z1;rw[h1];rfl
  ·by_cases z2:q=i
   ·subst z2;rw[h2];rfl
   ·simp[z1,z2]
 ·have h1:=congrArg (fun z=>OZ z p) h
  have h2:=congrArg (fun z=>OZ z q) h
  simp only[Ol (x:=M),b1]at h1 h2
  constructor
  ·simpa using h1.symm
  ·simpa using h2.symm
theorem pH{M m:Nat}(h:M<2^m)(k:∀ p,p<m->M.testBit p=true):M=2^m-1:=by
 refine NF fun i=>?_
 rw[OR]
 by_cases z:i<m
 ·rw[k i z,decide_eq_true z]
 ·rw[decide_eq_false z]
  exact ON (Nk h (NZ (by decide) (by omega)))
noncomputable def spReach(K:MQ):Sp:=fun vs H Q _=>∃(a:Addr)(ys:List V)(m:Nat)(es:En)(ts:List (List Nat)),vs = [.int 0,.ref a]/\SqL K H a ys/\m5 H ys es/\Gr m es ts/\2<=m/\m<=40/\Q (.int ((2^m-1:Nat):Int)) H
section
variable{P:Program}{w:World}{K:MQ}{mg:Str->Option Value}{base:Heap}
theorem aQ:av ["start","pairs","mask","ahead","one","two","ends"] ["start","pairs"] (ah cA):=⟨rfl,rfl,rfl,by decide +kernel,rfl,by decide +kernel,by decide +kernel⟩
theorem ok_reached{f:Addr}{fd:FuncData} (F:Fun K "reached" "reached" cA f fd):FnOk P w K mg base CX0 1 f fd ["start","pairs"] (spReach K):=by
 refine F.ok aQ (fun vs H Q E h=>?_) (fun cdv A outer s H vs Q E hr h=>?_)
 ·obtain⟨a,ys,m,es,ts,rfl,_⟩:=h
  rfl
 obtain⟨a,ys,m,es,ts,rfl,hS,hE,g,m2,m40,kk⟩:=h
 refine⟨_,(af (ar (i:=2) aQ.nd rfl (Or.inl rfl) (aB de ai (pv 0)))
   (af (ar (i:=3) aQ.nd rfl (Or.inl rfl) ai)
   (af (gf PassesOwn.never (aC nh (pv 2) (pv 3) (aI _)) (af (ar (i:=3) aQ.nd rfl (Or.inl rfl) (pv 2))
   (ak (cD PassesOwn.never rfl (bo (pv 1)) (rW rfl (bh (aL (i:=4) aQ.nd rfl (Or.inl rfl)) (bh (aL (i:=5) aQ.nd rfl (Or.inl rfl)) g9))) (af (ar (i:=6) aQ.nd rfl (Or.inl rfl) (aB C8 (aB de ai (pv 4)) (aB de ai (pv 5))))
   (ak (bL (aC nh (aB FK (pv 2) (pv 6)) ai (aI _)) (ak (ar (i:=2) aQ.nd rfl (Or.inl rfl) (aB C8 (pv 2) (pv 6)))) aP)))))))
   (ak (aE (pv 2)))))),?_⟩
 refine⟨_,rfl,_,_,rfl,rfl,⟨by decide,by decide,by decide⟩,?_⟩
 have p2:∀ p,p<m->2^p<2^m:=fun p hp=>Oa (by decide) hp
 refine fQ (fun σ H2=>∃(M Ah:Nat),∃ v4 v5 v6,H2=H/\σ = [some (.int 0),some (.ref a),some (.int (M:Int)),some (.int (Ah:Int)),v4,v5,v6]/\M.testBit 0=true/\M<2^m/\(M=Ah->∀ e∈es,M.testBit e.1=M.testBit e.2))
  (fun σ _=>match σ with | [_,_,some (.int M),some (.int Ah),_,_,_]=>2*((2^m:Nat)-M).toNat+(if M=Ah then 0 else 1) | _=>0) ⟨1,0,_,_,_,rfl,rfl,by decide,P4 (by omega),fun z=>absurd z (by decide)⟩ ?_ ?_
 ·rintro σ H2 ⟨M,Ah,v4,v5,v6,rfl,rfl,b0,hM,cl⟩
  refine⟨_,rfl,_,rfl,rfl,_,rfl,?_⟩
  refine ite2 (fun c=>?_) (fun c=>?_)
  ·have c':M≠Ah:=fun z=>by
    rw[decide_eq_true (show V.int (M:Int)=V.int (Ah:Int) by rw[z])]at c
    cases c
   refine⟨_,rfl,?_⟩
   refine⟨_,rfl,a,rfl,⟨_,hS⟩,cG (K:=K) (xs:=ys) (fun i σ H3=>∃(M':Nat),∃ v4 v5 v6,H3=H2/\σ = [some (.int 0),some (.ref a),some (.int (M':Int)),some (.int (M:Int)),v4,v5,v6]/\M'.testBit 0=true/\M'<2^m/\M<=M'/\(M'=M->∀(j:Nat)(e:Nat×Nat),j<i->es[j]?=some e->M.testBit e.1=M.testBit e.2)) ⟨M,_,_,_,rfl,rfl,b0,hM,MT _,fun _ j e z=>absurd z (NV _)⟩ (fun i σ H3 _ ⟨_,_,_,_,z,_⟩=>z▸hS) ?_ ?_⟩
   ·rintro i x σ H3 hx ⟨M',v4,v5,v6,rfl,rfl,b0',hM',hle,cl'⟩
    have hi:i<es.length:=by rw[← hE.1];exact(MO.mp hx).1
    obtain⟨e,he⟩:∃ e,es[i]?=some e:=⟨_,MN hi⟩
    obtain⟨p,x1,x2⟩:=hE.2 i e he
    rw[hx]at x1
    cases x1
    obtain⟨e1,e2,_⟩:=g.w.ends e (MP he)
    obtain⟨t1,t2⟩:=tq (M:=M') (p:=e.1) (q:=e.2)
    refine⟨p,_,rfl,SqT.of x2,rfl,_,_,rfl,_,_,rfl,rfl,?_⟩
    refine⟨_,rfl,_,_,rfl,rfl,⟨by omega,by omega,by decide⟩,_,rfl,_,_,rfl,rfl,⟨by omega,by omega,by decide⟩,_,_,rfl,rfl,?_⟩
    have eo:Builtin.bitOr (1*2^((e.1:Nat):Int).toNat) (1*2^((e.2:Nat):Int).toNat)=((2^e.1|||2^e.2:Nat):Int):=by rw[shlN,shlN,orN]
    refine⟨_,rfl,_,rfl,_,_,rfl,rfl,rfl,_,rfl,?_⟩
    have step:∀ M'':Nat,M'<=M''->(M''=M'->M'.testBit e.1=M'.testBit e.2)->M''=M->∀(j:Nat)(x:Nat×Nat),j<i+1->es[j]?=some x->M.testBit x.1=M.testBit x.2:=fun M'' h1 h2 h3 j x hj hx'=>by
     have e3:M'=M:=by omega
     by_cases z:j=i
     ·subst z
      rw[he]at hx'
      cases hx'
      have:=h2 (by omega)
      rwa[e3]at this
     ·exact cl' e3 j x (by omega) hx'
    refine ite2 (fun c=>?_) (fun c=>?_)
    ·refine⟨_,rfl,_,rfl,_,_,rfl,rfl,?_⟩
     refine⟨M'|||(2^e.1|||2^e.2),some (iV e.1),some (iV e.2),some (V.int (Builtin.bitOr (1*2^((e.1:Nat):Int).toNat) (1*2^((e.2:Nat):Int).toNat))),rfl,?_,?_,Pw hM' (Pw (p2 _ e1) (p2 _ e2)),NQ hle Qq,step _ Qq fun z=>?_⟩
     ·show[some (V.int 0),some (V.ref a),some (V.int (Builtin.bitOr (M':Int) (Builtin.bitOr (1*2^((e.1:Nat):Int).toNat) (1*2^((e.2:Nat):Int).toNat)))),some (V.int (M:Int)),some (iV e.1),some (iV e.2),some (V.int (Builtin.bitOr (1*2^((e.1:Nat):Int).toNat) (1*2^((e.2:Nat):Int).toNat)))]=_
      rw[eo,orN]
     ·rw[Ol,b0'];rfl
     ·obtain⟨u1,u2⟩:=t2 z
      rw[u1,u2]
    ·refine⟨M',_,_,_,rfl,rfl,b0',hM',hle,step M' (MT _) fun _=>?_⟩
     have c3:M'&&&(2^e.1|||2^e.2)=0:=by
      by_cases z:M'&&&(2^e.1|||2^e.2)=0
      ·exact z
      ·refine absurd ?_ c
       rw[decide_eq_false (fun y=>z ?_)]
       ·rfl
       ·have y':=V.int.inj y
        rw[eo,andN]at y'
        omega
     obtain⟨u1,u2⟩:=t1.mp c3
     rw[u1,u2]
   ·rintro σ H3 ⟨M',v4,v5,v6,rfl,rfl,b0',hM',hle,cl'⟩
    rw[hE.1]at cl'
    refine⟨⟨M',M,_,_,_,rfl,rfl,b0',hM',fun z e he=>?_⟩,?_⟩
    ·obtain⟨j,hj⟩:=N7.mp he
     have:=cl' z j e (MO.mp hj).1 hj
     rw[z]
     exact this
    ·show 2*(((2^m:Nat):Int)-(M':Int)).toNat+(if(M':Int)=(M:Int) then 0 else 1)<2*(((2^m:Nat):Int)-(M:Int)).toNat+(if(M:Int)=(Ah:Int) then 0 else 1)
     rw[if_neg (show ¬ (M:Int)=(Ah:Int) from fun z=>c' (by omega))]
     have hMi:(M':Int)<((2^m:Nat):Int):=by exact_mod_cast hM'
     have hMj:(M:Int)<=(M':Int):=by omega
     generalize ((2^m:Nat):Int)=Z at hMi ⊢
     split<;>omega
  ·have c':M=Ah:=by
    by_cases z:M=Ah
    ·exact z
    ·exact absurd (by rw[decide_eq_false (fun y=>z (by have:=V.int.inj y;omega))];rfl) c
   have full:=pH hM fun p hp=>by
    have:=g.conn (fun x=>M.testBit x=true) (fun e he=>by rw[cl c' e he]) 0 p (by omega) hp b0
    exact this
   refine⟨_,rfl,?_⟩
   rw[full]
   exact kk
 ·rintro σ H2 Q1 Q2 hi ⟨v',e,b',e2,z1,c',e3,q'⟩
  exact⟨v',e,b',e2,z1,c',e3,hi _ _ q'⟩
end
end K8
namespace K8
open PySem L2
local macro_rules | `(tactic| walk_at "cc") => `(tactic| first | exact ⟨by decide, by decide⟩ | (show (0 : Int) < _; decide) | (show (0 : Int) < _; omega) | (show (0 : Int) ≤ _; omega) | exact ⟨by decide, by decide, by decide⟩ | exact ⟨by omega, by omega, by decide⟩ | exact Or.inl ⟨by decide, by decide⟩ | exact Or.inl ⟨by omega, by omega⟩)
local macro_rules | `(tactic| walk_at "rd") => `(tactic| repeat (first | refine ⟨_, rfl, ?_⟩ | refine ⟨_, _, rfl, rfl, ?_⟩ | refine ⟨rfl, ?_⟩ | (refine ⟨?cc, ?_⟩; (case cc => walk_at "cc"))))
theorem rQ:∀{a b:List Int},a.Perm b->a.Pairwise (·<=·)->b.Pairwise (·<=·)->a=b
 |[],b,h,_,_=>(List.nil_perm.mp h).symm▸rfl
 |x::a,[],h,_,_=>absurd h.length_eq (by simp)
 |x::a,y::b,h,pa,pb=>by
  obtain⟨a1,a2⟩:=List.pairwise_cons.mp pa
  obtain⟨b1,b2⟩:=List.pairwise_cons.mp pb
  have h1:x<=y:=by
   rcases MV.mp (h.mem_iff.mpr (M3 ..):y∈x::a)with z | z
   ·rw[z];exact Oj _
   ·exact a1 y z
  have h2:y<=x:=by
   rcases MV.mp (h.mem_iff.mp (M3 ..):x∈y::b)with z | z
   ·rw[z];exact Oj _
   ·exact b1 x z
  have e:x=y:=Int.le_antisymm h1 h2
  subst e
  rw[rQ (List.Perm.cons_inv h) a2 b2]
noncomputable def cI(l:List Nat):List Int:=l.map fun(p:Nat)=>((p:Nat):Int)
theorem cI_V(l:List Nat):(cI l).map V.int=l.map iV:=by unfold cI;rw[Pc];rfl
theorem K0{l r:List Nat}{out:List Int}(hp:out.Perm (cI l))(hs:out.Pairwise (·<=·))(nl:l.Nodup)(pr:r.Pairwise (· < ·))(hm:∀ t,t∈l↔t∈r):out=cI r:=by
 have nr:r.Nodup:=pr.imp fun h=>Nm h
 have q:(cI l).Perm (cI r):=((N9 nl nr).mpr hm).map _
 refine rQ (hp.trans q) hs ?_
 unfold cI
 exact List.Pairwise.map _ (fun a b h=>by omega) pr
theorem GH{l:List Nat}{n:Nat}:ins l l.length n=l++[n]:=by
 unfold ins
 rw[ND,List.drop_length]
noncomputable def y7(K:MQ):Sp:=fun vs H Q _=>∃(a:Addr)(xs:List V)(m:Nat)(es:En),vs = [.int (m:Int),.ref a]/\SqL K H a xs/\dr K H xs es/\(∀ e∈es,e.1<m/\e.2<m)/\Q .non H
noncomputable def tI(K:MQ):Sp:=fun vs H Q _=>∃(a b:Addr)(xs zs:List V)(m:Nat)(es:En)(ts:List (List Nat)),vs = [.int (m:Int),.ref a,.ref b]/\SqL K H a xs/\dr K H xs es/\SqL K H b zs/\cL H zs ts/\bO m es ts/\es.length<=30/\m<=40/\∀ H',Same H H'->Q .non H'
noncomputable def yZ(K:MQ):Sp:=fun vs H Q _=>∃(a:Addr)(xs:List V)(m:Nat)(es:En)(ts:List (List Nat)),vs = [.int (m:Int),.ref a]/\SqL K H a xs/\dr K H xs es/\Gr m es ts/\2<=m/\m<=40/\es.length<=30/\∀ H',Same H H'->Q .non H'
section
variable{P:Program}{w:World}{K:MQ}{mg:Str->Option Value}{base:Heap}
theorem jv:av ["many","ties","tie"] ["many","ties"] (ah bJ):=⟨rfl,rfl,rfl,by decide +kernel,rfl,by decide +kernel,by decide +kernel⟩
theorem IM{f:Addr}{fd:FuncData} (F:Fun K "refuse_ends" "refuse_ends" bJ f fd):FnOk P w K mg base CX0 1 f fd ["many","ties"] (y7 K):=by
 refine F.ok jv (fun vs H Q E h=>?_) (fun cdv A outer s H vs Q E hr h=>?_)
 ·obtain⟨a,xs,m,es,rfl,_⟩:=h
  rfl
 obtain⟨a,xs,m,es,rfl,hS,hT,hm,k⟩:=h
 refine⟨_,(ak (cD PassesOwn.never rfl (bo (pv 1)) (aL (i:=2) jv.nd rfl (Or.inl rfl)) (ak (bL (PW.pt (zF (aC op_ge (bQ (pv 2) rfl) (pv 0) (aI _)) (rT (aC op_ge (bQ (pv 2) rfl) (pv 0) (aI _))))) (ak cW) aP)))),?_⟩
 refine⟨_,rfl,a,rfl,⟨_,hS⟩,cG (K:=K) (xs:=xs) (fun i σ H2=>∃ v2,σ = [some (.int (m:Int)),some (.ref a),v2]/\H2=H) ⟨_,rfl,rfl⟩ (fun i σ H2 _ ⟨_,_,z⟩=>z▸hS) ?_ ?_⟩
 ·rintro i x σ H2 hx ⟨v2,rfl,rfl⟩
  have hi:i<es.length:=by rw[← hT.1];exact(MO.mp hx).1
  obtain⟨e,he⟩:∃ e,es[i]?=some e:=⟨_,MN hi⟩
  obtain⟨p,C,dx,st,x1,x2,x3⟩:=hT.2 i e he
  rw[hx]at x1
  cases x1
  obtain⟨e1,e2⟩:=hm e (MP he)
  refine⟨_,rfl,p,C,dx,_,_,rfl,x2,x3.cl,x3.n1,rN _ _ _,_,rfl,_,_,rfl,rfl,_,rfl,?_⟩
  refine ite2 (fun c=>absurd (of_decide_eq_true c) (by omega)) (fun _=>?_)
  refine⟨_,rfl,p,C,dx,_,_,rfl,x2,x3.cl,x3.n2,Cb _ _ _,_,rfl,_,_,rfl,rfl,_,rfl,?_⟩
  refine ite2 (fun c=>absurd (of_decide_eq_true c) (by omega)) (fun _=>?_)
  exact⟨_,rfl,rfl⟩
 ·rintro σ H2 ⟨v2,rfl,rfl⟩
  exact k
theorem cz:av ["many","ties","turns","ending","number","tie"] ["many","ties","turns"] (ah bw):=⟨rfl,rfl,rfl,by decide +kernel,rfl,by decide +kernel,by decide +kernel⟩
theorem FO{f:Addr}{fd:FuncData} (F:Fun K "refuse_turns" "refuse_turns" bw f fd) (T:Txt mg):FnOk P w K mg base CX0 1 f fd ["many","ties","turns"] (tI K):=by
 refine F.ok cz (fun vs H Q E h=>?_) (fun cdv A outer s H vs Q E hr h=>?_)
 ·obtain⟨a,b,xs,zs,m,es,ts,rfl,_⟩:=h
  rfl
 obtain⟨a,b,xs,zs,m,es,ts,rfl,hS,hT,hB,hR,w',few,m40,kk⟩:=h
 have hu64:=hr.units
 refine⟨_,(af (lG (i:=3) rfl cz.nd rfl rfl (fr:=[]) (by exact bM.plain (by rfl) (by decide +kernel) (by rfl) (by decide +kernel) (by rfl) (by decide +kernel)) (bD rfl T.n_range (ae (pv 0) aj)) (fun C ex s H=>(dm aj)))
   (af (cD PassesOwn.never rfl (ui rfl T.n_enumerate (ae (pv 1) aj)) (rW rfl (bh (aL (i:=4) cz.nd rfl (Or.inl rfl)) (bh (aL (i:=5) cz.nd rfl (Or.inl rfl)) g9))) (af (bC (kK NB NH NG bu (aD aA (pv 3) (bQ (pv 5) rfl) (fun _ _=>rfl)) (ae (pv 4) aj)))
   (ak (bC (kK NB NH NG bu (aD aA (pv 3) (bQ (pv 5) rfl) (fun _ _=>rfl)) (ae (pv 4) aj))))))
   (ak (bL (aC (Ka hu64) (gh rfl (fr:=[]) (by exact bM.plain (by rfl) (by decide +kernel) (by rfl) (by decide +kernel) (by rfl) (by decide +kernel)) (bo (pv 2)) (fun C ex s H=>(aM (yy (K:=K) rfl) (by rfl) T.n_sorted Hz (ae (pv 0) aj)))) (pv 3) (aI _)) (ak cW) aP)))),?_⟩
 refine⟨_,rfl,_,rfl,by omega,by omega,fM (n:=(m:Int).toNat) (fun i ys H2=>Same H H2/\bq (fun p=>H p≠none) H2 ys (M9 i [])/\Dist ys) (by rw[Ng];exact NM (ax (by omega))) ⟨fun _ _ e=>e,⟨rfl,fun i l e=>by simp at e⟩,fun i j p e=>by simp at e⟩ ?_ ?_⟩
 ·rintro i ys H2 hi ⟨s2,rx,D⟩
  refine⟨(by show 0<=sizeLine;decide),fun l hl=>?_⟩
  have s3:=aq hl (.lst [])
  refine⟨s2.trans s3,?_,pK rx D hl⟩
  rw[Pe]
  refine(rx.mono fun b u _ z=>s3 _ _ z).snoc (fun z=>z ?_) ag
  cases y:H l with
  |none=>rfl
  |some o=>rw[s2 _ _ y]at hl;cases hl
 rintro ys H2 hyl ⟨s2,rx,D⟩ pn hpn
 rw[Ng]at rx
 have s3:=aq hpn (.lst ys)
 have hpn0:H pn=none:=by
  cases y:H pn with
  |none=>rfl
  |some o=>rw[s2 _ _ y]at hpn;cases hpn
 have rx3:bq (fun p=>p=pn∨H p≠none) (upd H2 pn (.lst ys)) ys (M9 m []):=⟨rx.1,fun i l z=>by
  obtain⟨p,a1,a2,a3⟩:=rx.2 i l z
  have n2:p≠pn:=aG a3 hpn
  exact⟨p,a1,by rintro(y | y);exact n2 y;exact a2 y,s3 _ _ a3⟩⟩
 refine⟨_,rfl,a,rfl,⟨_,(s2.trans s3).seq hS⟩,vh (K:=K) (xs:=xs) (fun i σ H5=>∃ v4 v5 rows,σ = [some (.int (m:Int)),some (.ref a),some (.ref b),some (.ref pn),v4,v5]/\Same H H5/\H5 pn=some (.lst ys)/\bq (fun p=>p=pn∨H p≠none) H5 ys rows/\bO m (es.take i) rows/\∀ r∈rows,r.Pairwise (· < ·))
  ⟨_,_,_,rfl,s2.trans s3,ag,rx3,Ij m,fun r hr=>by rw[(Pq.mp hr).2];exact Pz⟩ (fun i σ H5 _ ⟨_,_,_,_,z,_⟩=>z.seq hS) ?_ ?_⟩
 ·rintro i x σ H5 T2 hx ⟨v4,v5,rows,rfl,s5,hpn5,rx5,w5,pw⟩ hT2
  have hi:i<es.length:=by rw[← hT.1];exact(MO.mp hx).1
  obtain⟨e,he⟩:∃ e,es[i]?=some e:=⟨_,MN hi⟩
  obtain⟨p,C,dx,st,x1,x2,x3⟩:=hT.2 i e he
  rw[hx]at x1
  cases x1
  have sT:=aq hT2 (.tup [.int (i:Int),.ref p])
  have s6:=s5.trans sT
  have x6:=s6 _ _ x2
  obtain⟨e1,e2,e3⟩:=w'.ends e (MP he)
  have til:(es.take i).length=i:=by rw[Oq];omega
  have rlen:=w5.len
  obtain⟨l,hl⟩:∃ l,rows[e.1]?=some l:=⟨_,MN (by omega)⟩
  obtain⟨l',hl'⟩:∃ l,rows[e.2]?=some l:=⟨_,MN (by omega)⟩
  have rx6:bq (fun p=>p=pn∨H p≠none) (upd H5 T2 (.tup [.int (i:Int),.ref p])) ys rows:=rx5.mono fun b u _ z=>sT _ _ z
  obtain⟨p1,y1,y2,y3⟩:=rx6.2 _ _ hl
  obtain⟨p2,z1,z2,z3⟩:=rx6.2 _ _ hl'
  have no_S:∀{p:Addr},¬ (p=pn∨H p≠none)->H p=none/\p≠pn:=fun{p} n=>by
   refine⟨?_,fun z=>n (.inl z)⟩
   cases y:H p with
   |none=>rfl
   |some o=>exact absurd (.inr (by rw[y];exact fun z=>nomatch z)) n
  obtain⟨hp1,np1⟩:=no_S y2
  obtain⟨hp2,np2⟩:=no_S z2
  have n12:p2≠p1:=fun y=>by rw[y]at z1;exact e3 (D _ _ p1 y1 z1)
  have ll:∀{q:Nat}{r:List Nat},rows[q]?=some r->∀ t∈r,t<i:=fun{q r} h t ht=>by
   have:=oX w5 h ht
   omega
  have lle:∀{q:Nat}{r:List Nat},rows[q]?=some r->r.length<=30:=fun{q r} h=>by
   have:=jz (w5.nd _ _ h) (ll h)
   omega
  have f1:=lle hl
  have f2:=lle hl'
  have hpn6:=sT _ _ hpn5
  refine⟨T2,_,rfl,SqT.of ag,rfl,_,_,rfl,_,_,rfl,rfl,?_⟩
  refine⟨_,rfl,_,rfl,p,C,dx,_,_,rfl,x6,x3.cl,x3.n1,rN _ _ _,pn,ys,_,_,rfl,rfl,SqL.of hpn6,aJ y1,.inl ⟨rfl,_,SqL.of y3⟩,_,rfl,p1,_,_,rfl,rfl,y3,ax (by rw[M7];omega),?_⟩
  have e1':(l.map iV)++[V.int (i:Int)]=(l++[i]).map iV:=by rw[NU];rfl
  rw[e1']
  have x7:(upd (upd H5 T2 (.tup [.int (i:Int),.ref p])) p1 (.lst ((l++[i]).map iV))) p=some (.ins C dx (tf (e.1:Int) (e.2:Int) st)):=by rw[ao (fun z=>by rw[z]at x2;rw[x2]at hp1;cases hp1)];exact x6
  have hpn7:(upd (upd H5 T2 (.tup [.int (i:Int),.ref p])) p1 (.lst ((l++[i]).map iV))) pn=some (.lst ys):=by rw[ao np1.symm];exact hpn6
  have z7:(upd (upd H5 T2 (.tup [.int (i:Int),.ref p])) p1 (.lst ((l++[i]).map iV))) p2=some (.lst (l'.map iV)):=by rw[ao n12];exact z3
  refine⟨_,rfl,_,rfl,p,C,dx,_,_,rfl,x7,x3.cl,x3.n2,Cb _ _ _,pn,ys,_,_,rfl,rfl,SqL.of hpn7,aJ z1,.inl ⟨rfl,_,SqL.of z7⟩,_,rfl,p2,_,_,rfl,rfl,z7,ax (by rw[M7];omega),?_⟩
  have e2':(l'.map iV)++[V.int (i:Int)]=(l'++[i]).map iV:=by rw[NU];rfl
  rw[e2']
  refine⟨_,_,(rows.set e.1 (l++[i])).set e.2 (l'++[i]),rfl,aW (aW s6 hp1 _) hp2 _,by rw[ao np2.symm];exact hpn7,(rx6.set D y1).set D z1,?_,fun r hr=>?_⟩
  ·have q:=w5.put (k:=l.length) (j:=l'.length) e1 e2 e3 hl hl'
   rw[GH,GH,til]at q
   rw[NA,he]
   exact q
  ·have app:∀{q:Nat}{r:List Nat},rows[q]?=some r->(r++[i]).Pairwise (· < ·):=fun{q r} h=>List.pairwise_append.mpr ⟨pw r (MP h),List.pairwise_singleton _ _,fun x hx y hy=>by
    have:=ll h x hx
    have:y=i:=by simpa using hy
    omega⟩
   rcases Pt hr with z | z
   ·rcases Pt z with z | z
    ·exact pw r z
    ·rw[z];exact app hl
   ·rw[z];exact app hl'
 rintro σ H5 ⟨v4,v5,rows,rfl,s5,hpn5,rx5,w5,pw⟩
 rw[hT.1,ND]at w5
 have hzl:zs.length=m:=by rw[hR.1,w'.len]
 refine⟨_,rfl,b,rfl,⟨_,s5.seq hB⟩,eu (K:=K) (xs:=zs) (fun i vs H6=>Same H5 H6/\cL H6 vs (rows.take i)) (NM (ax (by omega))) ⟨fun _ _ e=>e,rfl,fun i l e=>by simp at e⟩ (fun i vs H6 _ z=>(s5.trans z.1).seq hB) ?_ ?_⟩
 ·rintro i x vs H6 hx ⟨s6,rz⟩
  have hi:i<ts.length:=by rw[← hR.1];exact(MO.mp hx).1
  obtain⟨l,hl⟩:∃ l,ts[i]?=some l:=⟨_,MN hi⟩
  obtain⟨r,hr'⟩:∃ r,rows[i]?=some r:=⟨_,MN (by rw[w5.len,← w'.len];exact hi)⟩
  obtain⟨p,a1,a2⟩:=(hR.mono (s5.trans s6)).2 i l hl
  rw[hx]at a1
  cases a1
  have hll:l.length<=30:=NQ (jz (w'.nd _ _ hl) fun t ht=>oX w' hl ht) few
  refine⟨_,rfl,p,cI l,rfl,(by rw[cI_V];exact SqL.of a2),(by unfold cI;rw[M7];omega),fun q out hq hp hs=>?_⟩
  have eo:=K0 hp hs (w'.nd _ _ hl) (pw r (MP hr')) fun t=>(w'.mem i l hl t).trans (w5.mem i r hr' t).symm
  subst eo
  have s7:=aq hq (.lst ((cI r).map V.int))
  refine⟨s6.trans s7,?_⟩
  rw[show rows.take (i+1)=rows.take i++[r] by rw[NA,hr'];rfl]
  exact(rz.mono s7).snoc (by rw[ag,cI_V])
 rintro vs H6 _ ⟨s6,rz⟩ D' hD'
 rw[hzl,← w5.len,ND]at rz
 have s7:=aq hD' (.lst vs)
 have s67:=s6.trans s7
 refine⟨_,rfl,_,Fd (SqL.of ag) (rz.mono s7),Fd (SqL.of (s67 _ _ hpn5)) (rx5.off.mono s67),zC rows,_,rfl,iteF ?_⟩
 exact kk _ (s5.trans s67)
theorem m8:av ["many","ties"] ["many","ties"] (ah bj):=⟨rfl,rfl,rfl,by decide +kernel,rfl,by decide +kernel,by decide +kernel⟩
theorem IL{f fr:Addr}{fd fdr:FuncData} (F:Fun K "refuse_parted" "refuse_parted" bj f fd) (G_reached:Cal P w K mg base 1 "reached" ["start","pairs"] (spReach K) fr fdr):FnOk P w K mg base CX0 2 f fd ["many","ties"] (yZ K):=by
 refine F.ok m8 (fun vs H Q E h=>?_) (fun cdv A outer s H vs Q E hr h=>?_)
 ·obtain⟨a,xs,m,es,ts,rfl,_⟩:=h
  rfl
 obtain⟨a,xs,m,es,ts,rfl,hS,hT,g,m2,m40,few,kk⟩:=h
 have hul:xs.length=es.length:=hT.1
 refine⟨_,(ak (bL (aC nh (az G_reached.ok (hr.mono (by decide)) rfl G_reached.mg G_reached.kp G_reached.bn .nil aR (ae ai (ae (gh rfl (fr:=[]) (by exact bM.plain (by rfl) (by decide +kernel) (by rfl) (by decide +kernel) (by rfl) (by decide +kernel)) (bo (pv 1)) (fun C ex s H=>(bP (ae (z8 (K:=K) rfl (pv 0) rfl) (ae (z8 (K:=K) rfl (pv 0) rfl) aj))))) aj))) (aB jx (aB de ai (pv 0)) ai) (aI _)) (ak cW) aP)),?_⟩
 refine⟨_,rfl,a,rfl,⟨_,hS⟩,eu (K:=K) (xs:=xs) (fun i zs H11=>Same H H11/\m5 H11 zs (es.take i)) (NM (ax (by omega))) ⟨fun _ _ e=>e,rfl,fun i l e=>by simp at e⟩ (fun i zs H11 _ z=>z.1.seq hS) ?_ ?_⟩
 ·rintro i x zs H11 hx ⟨s11,ez⟩
  have hi:i<es.length:=by rw[← hT.1];exact(MO.mp hx).1
  obtain⟨e,he⟩:∃ e,es[i]?=some e:=⟨_,MN hi⟩
  obtain⟨p,C,dx,st,a1,a2,a3⟩:=(hT.mono s11).2 i e he
  rw[hx]at a1
  cases a1
  refine⟨_,rfl,p,C,dx,_,_,rfl,a2,a3.cl,a3.n1,rN _ _ _,_,rfl,p,C,dx,_,_,rfl,a2,a3.cl,a3.n2,Cb _ _ _,(by show 2<=sizeLine;decide),fun g hg=>?_⟩
  have s12:=aq hg (.tup [iV e.1,iV e.2])
  refine⟨s11.trans s12,?_⟩
  rw[show es.take (i+1)=es.take i++[e] by rw[NA,he];rfl]
  exact(ez.mono s12).snoc ag
 rintro zs H11 _ ⟨s11,ez⟩ D hD
 rw[hT.1,ND]at ez
 have s12:=aq hD (.lst zs)
 refine⟨D,zs,m,es,ts,rfl,SqL.of ag,ez.mono s12,g,m2,m40,_,rfl,_,_,rfl,rfl,⟨by omega,by omega,by decide⟩,_,_,rfl,rfl,rfl,_,rfl,?_⟩
 refine xU ?_ (kk _ (s11.trans s12))
 show V.int _=V.int _
 rw[shlN]
 have:=Ou m
 congr 1
 omega
end
end K8
namespace K8
open PySem L2
local macro_rules | `(tactic| walk_at "cc") => `(tactic| first | exact ⟨by decide, by decide⟩ | (show (0 : Int) < _; decide) | (show (0 : Int) < _; omega) | (show (0 : Int) ≤ _; omega) | exact ⟨by decide, by decide, by decide⟩ | exact ⟨by omega, by omega, by decide⟩ | exact Or.inl ⟨by decide, by decide⟩ | exact Or.inl ⟨by omega, by omega⟩)
local macro_rules | `(tactic| walk_at "rd") => `(tactic| repeat (first | refine ⟨_, rfl, ?_⟩ | refine ⟨_, _, rfl, rfl, ?_⟩ | refine ⟨rfl, ?_⟩ | (refine ⟨?cc, ?_⟩; (case cc => walk_at "cc"))))
noncomputable def cls(PL PS:Addr)(push:Bool):Addr:=if push=true then PS else PL
noncomputable def rM(PL PS:Addr)(H:Hp)(xs:List V)(es:En)(ks:Kn):Prop:=xs.length=es.length/\∀(i:Nat)(e:Nat×Nat)(k:Int×Int),es[i]?=some e->ks[i]?=some k->∃ p dx,xs[i]?=some (.ref p)/\H p=some (.ins (cls PL PS (decide (k.1=1))) dx (tf (e.1:Int) (e.2:Int) k.2))
theorem rM.mono{PL PS:Addr}{H H':Hp}{xs:List V}{es:En}{ks:Kn}(t:rM PL PS H xs es ks)(h:Same H H'):rM PL PS H' xs es ks:=⟨t.1,fun i e k q r=>by
 obtain⟨p,dx,a,b⟩:=t.2 i e k q r
 exact⟨p,dx,a,h _ _ b⟩⟩
structure CW(K:MQ)(C:Addr):Prop where
 cl:Cls K C
 n1:eU K C "many"
 n2:eU K C "ties"
 n3:eU K C "turns"
 n4:eU K C "rounds"
 n5:eU K C "sides"
theorem i4(k:Str)(v:V):∀ fs:List (Str×V),(putF k v fs).length<=fs.length+1
 |[]=>MT _
 | (a,b)::r=>by
  show(if a=k then(a,v)::r else(a,b)::putF k v r).length<=_
  have:=i4 k v r
  split<;>simp only[Nv]<;>omega
theorem none_of{H H':Hp}{b:Addr}(s:Same H H')(z:H' b=none):H b=none:=by
 cases y:H b with
 |none=>rfl
 |some o=>rw[s _ _ y]at z;cases z
structure WebG(S:Addr->Prop)(H:Hp)(fs:List (Str×V))(m:Nat)(es:En)(ts rs:List (List Nat)):Prop where
 many:fs.lookup ("many" : Str)=some (.int (m:Int))
 turns:∃ q z,fs.lookup ("turns" : Str)=some (.ref q)/\¬ S q/\H q=some (.lst z)/\bq S H z ts
 rounds:∃ q z,fs.lookup ("rounds" : Str)=some (.ref q)/\H q=some (.lst z)/\cL H z rs
 sides:∃ q z,fs.lookup ("sides" : Str)=some (.ref q)/\H q=some (.lst z)/\gP H z es.length rs
 part:bS (fol es ts) (2*es.length) (2*es.length) rs
theorem gP.mono{H H':Hp}{z:List V}{n:Nat}{rs:List (List Nat)}(h:gP H z n rs)(s:Same H H'):gP H' z n rs:=⟨h.1,fun i hi=>by
 obtain⟨t,a,b,r,r',y1,y2,y3⟩:=h.2 i hi
 exact⟨t,a,b,r,r',y1,s _ _ y2,y3⟩⟩
theorem WebG.mono{S S':Addr->Prop}{H H':Hp}{fs:List (Str×V)}{m:Nat}{es:En}{ts rs:List (List Nat)}(h:WebG S H fs m es ts rs)(s:Same H H')(i:∀ a,S' a->S a):WebG S' H' fs m es ts rs:=by
 obtain⟨a,⟨q,z,b1,b0,b2,b3⟩,⟨q',z',c1,c2,c3⟩,⟨q2,z2,d1,d2,d3⟩,e⟩:=h
 refine⟨a,⟨q,z,b1,fun y=>b0 (i _ y),s _ _ b2,b3.1,fun j l y=>?_⟩,⟨q',z',c1,s _ _ c2,c3.mono s⟩,⟨q2,z2,d1,s _ _ d2,d3.mono s⟩,e⟩
 obtain⟨r,y1,y2,y3⟩:=b3.2 j l y
 exact⟨r,y1,fun x=>y2 (i _ x),s _ _ y3⟩
noncomputable def tG(K:MQ):Sp:=fun vs H Q _=>∃(p C dx qt qh:Addr)(m:Nat)(xs zs:List V)(es:En)(ts:List (List Nat)),vs = [.ref p,.int (m:Int),.ref qt,.ref qh]/\H p=some (.ins C dx [])/\CW K C/\H qt=some (.lst xs)/\dr K H xs es/\H qh=some (.lst zs)/\cL H zs ts/\Gr m es ts/\0<es.length/\es.length<=30 /\
 ∀(fs:List (Str×V))(q1:Addr)(rs:List (List Nat))(H':Hp),H' p=some (.ins C dx fs)->WebG (fun a=>H a≠none) H' fs m es ts rs->H q1=none->fs.lookup ("ties" : Str)=some (.ref q1)->H' q1=some (.lst xs)->(∀ q o,H q=some o->q≠p->H' q=some o)->Q .non H'
theorem dr.keep{K:MQ}{H G:Hp}{xs:List V}{es:En}{p C dx:Addr}(t:dr K H xs es)(hp:H p=some (.ins C dx []))(k:∀ q u,q≠p->H q=some u->G q=some u):dr K G xs es:=⟨t.1,fun i e z=>by
 obtain⟨q,C',dx',s,a,b,d⟩:=t.2 i e z
 refine⟨q,C',dx',s,a,k _ _ (fun z=>?_) b,d⟩
 rw[z,hp]at b
 have e1:([]:List (Str×V))=tf (e.1:Int) (e.2:Int) s:=by
  injection b with b
  injection b
 have e2:=rN (e.1:Int) (e.2:Int) s
 rw[← e1]at e2
 cases e2⟩
section
variable{P:Program}{w:World}{K:MQ}{mg:Str->Option Value}{base:Heap}
theorem kD:av ["self","many","ties","turns","rounds"] ["self","many","ties","turns"] (ah b9):=⟨rfl,rfl,rfl,by decide +kernel,rfl,by decide +kernel,by decide +kernel⟩
theorem IJ{f f1 f2 f3 f4 f5:Addr}{fd d1 d2 d3 d4 d5:FuncData} (F:Fun K "__init__" "Web.__init__" b9 f fd) (T:Txt mg) (G_refuse_ends:Cal P w K mg base 1 "refuse_ends" ["many","ties"] (y7 K) f1 d1) (G_refuse_turns:Cal P w K mg base 1 "refuse_turns" ["many","ties","turns"] (tI K) f2 d2) (G_refuse_parted:Cal P w K mg base 2 "refuse_parted" ["many","ties"] (yZ K) f3 d3) (G_rounds_of:Cal P w K mg base 4 "rounds_of" ["ties","turns"] (tH K) f4 d4) (G_sides_of:Cal P w K mg base 1 "sides_of" ["ties","rounds"] (yY K) f5 d5) :
  FnOk P w K mg base CX0 5 f fd ["self","many","ties","turns"] (tG K):=by
 refine F.ok kD (fun vs H Q E h=>?_) (fun cdv A outer s H vs Q E hr h=>?_)
 ·obtain⟨p,C,dx,qt,qh,m,xs,zs,es,ts,rfl,_⟩:=h
  rfl
 obtain⟨p,C,dx,qt,qh,m,xs,zs,es,ts,rfl,hp,cw,hqt,hT,hqh,hR,g,e0,few,kk⟩:=h
 have w':=g.w
 have m2:=g.two e0
 have mf:=gr_few g
 have hul:xs.length=es.length:=hT.1
 have hzl:zs.length=m:=by rw[hR.1,w'.len]
 have pl:∀{q:Addr}{ys:List V},H q=some (.lst ys)->q≠p:=fun{q ys} h z=>by rw[z,hp]at h;cases h
 refine⟨_,(af (bC (az G_refuse_ends.ok (hr.mono (by decide)) rfl G_refuse_ends.mg G_refuse_ends.kp G_refuse_ends.bn .nil aR (ae (pv 1) (ae (pv 2) aj))))
   (af (bC (az G_refuse_turns.ok (hr.mono (by decide)) rfl G_refuse_turns.mg G_refuse_turns.kp G_refuse_turns.bn .nil aR (ae (pv 1) (ae (pv 2) (ae (pv 3) aj)))))
   (af (bC (az G_refuse_parted.ok (hr.mono (by decide)) rfl G_refuse_parted.mg G_refuse_parted.kp G_refuse_parted.bn .nil aR (ae (pv 1) (ae (pv 2) aj))))
   (af (ar (i:=4) kD.nd rfl (Or.inl rfl) (az G_rounds_of.ok (hr.mono (by decide)) rfl G_rounds_of.mg G_rounds_of.kp G_rounds_of.bn .nil aR (ae (pv 2) (ae (pv 3) aj))))
   (af (bL (aC nh (aB dZ (aB jx (pv 1) (aM aF (by rfl) T.n_len cN (ae (pv 2) aj))) (aM aF (by rfl) T.n_len cN (ae (pv 4) aj))) ai (aI _)) (ak cW) aP)
   (af (mG (pv 0) (pv 1) rfl)
   (af (mG (pv 0) (kH mR (by rfl) T.n_list qo (ae (pv 2) aj)) rfl)
   (af (mG (pv 0) (gh rfl (fr:=[]) (by exact bM.plain (by rfl) (by decide +kernel) (by rfl) (by decide +kernel) (by rfl) (by decide +kernel)) (bo (pv 3)) (fun C ex s H=>(kH (D9 (K:=K) rfl) (by rfl) T.n_list qo (ae (pv 0) aj)))) rfl)
   (af (mG (pv 0) (pv 4) rfl)
   (ak (mG (pv 0) (az G_sides_of.ok (hr.mono (by decide)) rfl G_sides_of.mg G_sides_of.kp G_sides_of.bn .nil aR (ae (pv 2) (ae (pv 4) aj))) rfl))))))))))),?_⟩
 refine⟨_,rfl,_,rfl,qt,xs,m,es,rfl,SqL.of hqt,hT,fun e he=>⟨(w'.ends e he).1,(w'.ends e he).2.1⟩,?_⟩
 refine⟨_,rfl,_,rfl,_,rfl,qt,qh,xs,zs,m,es,ts,rfl,SqL.of hqt,hT,SqL.of hqh,hR,w',few,by omega,fun H1 s1=>?_⟩
 refine⟨_,rfl,_,rfl,qt,xs,m,es,ts,rfl,SqL.of (s1 _ _ hqt),hT.mono s1,g,m2,by omega,few,fun H2 s2=>?_⟩
 have s12:=s1.trans s2
 refine⟨_,rfl,_,rfl,qt,qh,m,es,ts,rfl,⟨⟨xs,SqL.of (s12 _ _ hqt),hT.mono s12⟩,⟨zs,SqL.of (s12 _ _ hqh),hR.mono s12⟩,w',by omega⟩,fun qr vs rs H3 s3 hqr hrs ro=>?_⟩
 have s13:=s12.trans s3
 have cnt:m+rs.length=es.length+2:=by
  obtain⟨rs',p',c⟩:=g.part
  rw[← p'.same ro.part]
  exact c
 have hvl:vs.length=rs.length:=hrs.1
 refine⟨_,rfl,_,rfl,qt,xs,rfl,.inl (SqL.of (s13 _ _ hqt)),_,_,rfl,rfl,_,rfl,qr,vs,rfl,.inl (SqL.of hqr),_,_,rfl,rfl,rfl,_,rfl,?_⟩
 refine xU (congrArg V.int (by omega)) ?_
 have hp3:=s13 _ _ hp
 refine⟨_,rfl,_,rfl,p,C,dx,[],rfl,hp3,cw.cl,cw.n1,(by show 0<1000;decide),?_⟩
 have keep:∀{G:Hp}{o:HO}{q:Addr}{u:HO},q≠p->G q=some u->(upd G p o) q=some u:=fun n z=>by rw[ao n];exact z
 refine⟨_,rfl,qt,xs,rfl,.inl (SqL.of (keep (pl hqt) (s13 _ _ hqt))),fun q1 hq1=>?_⟩
 have n1p:q1≠p:=fun z=>by rw[z,ag]at hq1;cases hq1
 have t4:=aq hq1 (.lst xs)
 refine⟨_,rfl,p,C,dx,_,rfl,t4 _ _ ag,cw.cl,cw.n2,?_,?_⟩
 ·have:=i4 "many" (.int (m:Int)) ([]:List (Str×V));simp only[PQ]at this;omega
 have t1:∀ q u,q≠p->H3 q=some u->(upd (upd (upd H3 p (.ins C dx (putF "many" (.int (m:Int)) []))) q1 (.lst xs)) p (.ins C dx (putF "ties" (.ref q1) (putF "many" (.int (m:Int)) [])))) q=some u:=fun q u n z=>keep n (t4 _ _ (keep n z))
 have q1a:(upd (upd (upd H3 p (.ins C dx (putF "many" (.int (m:Int)) []))) q1 (.lst xs)) p (.ins C dx (putF "ties" (.ref q1) (putF "many" (.int (m:Int)) [])))) q1=some (.lst xs):=keep n1p ag
 have pa:(upd (upd (upd H3 p (.ins C dx (putF "many" (.int (m:Int)) []))) q1 (.lst xs)) p (.ins C dx (putF "ties" (.ref q1) (putF "many" (.int (m:Int)) [])))) p=some (.ins C dx (putF "ties" (.ref q1) (putF "many" (.int (m:Int)) []))):=ag
 generalize upd (upd (upd H3 p (.ins C dx (putF "many" (.int (m:Int)) []))) q1 (.lst xs)) p (.ins C dx (putF "ties" (.ref q1) (putF "many" (.int (m:Int)) [])))=H4 at t1 q1a pa
 have lk:(putF "ties" (.ref q1) (putF "many" (.int (m:Int)) []):List (Str×V)).lookup ("ties" : Str)=some (.ref q1):=by rw[ay,if_pos rfl]
 have ln:(putF "ties" (.ref q1) (putF "many" (.int (m:Int)) []):List (Str×V)).length<=2:=by
  have a1:=i4 "many" (.int (m:Int)) ([]:List (Str×V))
  have a2:=i4 "ties" (.ref q1) (putF "many" (.int (m:Int)) ([]:List (Str×V)))
  simp only[PQ]at a1
  omega
 have lkm:(putF "ties" (.ref q1) (putF "many" (.int (m:Int)) []):List (Str×V)).lookup ("many" : Str)=some (.int (m:Int)):=by rw[ay,if_neg (by decide +kernel),ay,if_pos rfl]
 generalize (putF "ties" (.ref q1) (putF "many" (.int (m:Int)) []):List (Str×V))=fs at pa lk ln lkm
 have hqh4:=t1 _ _ (pl hqh) (s13 _ _ hqh)
 have new4:∀{b:Addr},H4 b=none->H b=none:=fun{b} z=>by
  cases y:H b with
  |none=>rfl
  |some o =>
   by_cases n:b=p
   ·rw[n,pa]at z;cases z
   ·rw[t1 _ _ n (s13 _ _ y)]at z;cases z
 have new1:H q1=none:=by
  cases y:H q1 with
  |none=>rfl
  |some o=>rw[keep n1p (s13 _ _ y)]at hq1;cases hq1
 refine⟨_,rfl,qh,rfl,⟨_,SqL.of hqh4⟩,eu (K:=K) (xs:=zs) (fun i ys H5=>Same H4 H5/\bq (fun a=>H a≠none) H5 ys (ts.take i)) (NM (ax (by omega))) ⟨fun _ _ e=>e,rfl,fun i l e=>by simp at e⟩ (fun i _ H5 _ z=>SqL.of (z.1 _ _ hqh4)) ?_ ?_⟩
 ·rintro i x ys H5 hx ⟨s5,rz⟩
  have hi:i<ts.length:=by rw[← hR.1];exact(MO.mp hx).1
  obtain⟨l,hl⟩:∃ l,ts[i]?=some l:=⟨_,MN hi⟩
  obtain⟨r,a1,a2⟩:=hR.2 i l hl
  rw[hx]at a1
  cases a1
  refine⟨_,rfl,r,_,rfl,.inl (SqL.of (s5 _ _ (t1 _ _ (pl a2) (s13 _ _ a2)))),fun g hg=>⟨s5.trans (aq hg _),?_⟩⟩
  rw[show ts.take (i+1)=ts.take i++[l] by rw[NA,hl];rfl]
  exact(rz.mono fun b u _ z=>aq hg _ _ _ z).snoc (fun z=>z (new4 (none_of s5 hg))) ag
 rintro ys H5 _ ⟨s5,rz⟩ D hD
 rw[hR.1,ND]at rz
 have hDp:D≠p:=fun z=>by rw[z,s5 _ _ pa]at hD;cases hD
 have s6:=s5.trans (aq hD (.lst ys))
 refine⟨_,rfl,p,C,dx,fs,rfl,s6 _ _ pa,cw.cl,cw.n3,by omega,?_⟩
 have ln1:=i4 "turns" (.ref D) fs
 have lk1:(putF "turns" (.ref D) fs).lookup ("ties" : Str)=some (.ref q1):=by rw[ay,if_neg (by decide +kernel)];exact lk
 refine⟨_,rfl,_,rfl,p,C,dx,_,rfl,ag,cw.cl,cw.n4,by omega,?_⟩
 have ln2:=i4 "rounds" (.ref qr) (putF "turns" (.ref D) fs)
 have lk2:(putF "rounds" (.ref qr) (putF "turns" (.ref D) fs)).lookup ("ties" : Str)=some (.ref q1):=by rw[ay,if_neg (by decide +kernel)];exact lk1
 have t7:∀ q u,q≠p->H3 q=some u->(upd (upd (upd H5 D (.lst ys)) p (.ins C dx (putF "turns" (.ref D) fs))) p (.ins C dx (putF "rounds" (.ref qr) (putF "turns" (.ref D) fs)))) q=some u:=fun q u n z=>keep n (keep n (s6 _ _ (t1 q u n z)))
 have q17:(upd (upd (upd H5 D (.lst ys)) p (.ins C dx (putF "turns" (.ref D) fs))) p (.ins C dx (putF "rounds" (.ref qr) (putF "turns" (.ref D) fs)))) q1=some (.lst xs):=keep n1p (keep n1p (s6 _ _ q1a))
 have p7:(upd (upd (upd H5 D (.lst ys)) p (.ins C dx (putF "turns" (.ref D) fs))) p (.ins C dx (putF "rounds" (.ref qr) (putF "turns" (.ref D) fs)))) p=some (.ins C dx (putF "rounds" (.ref qr) (putF "turns" (.ref D) fs))):=ag
 have D7:(upd (upd (upd H5 D (.lst ys)) p (.ins C dx (putF "turns" (.ref D) fs))) p (.ins C dx (putF "rounds" (.ref qr) (putF "turns" (.ref D) fs)))) D=some (.lst ys):=keep hDp (keep hDp ag)
 have u7:∀ q u,q≠p->H5 q=some u->(upd (upd (upd H5 D (.lst ys)) p (.ins C dx (putF "turns" (.ref D) fs))) p (.ins C dx (putF "rounds" (.ref qr) (putF "turns" (.ref D) fs)))) q=some u:=fun q u n z=>keep n (keep n (aq hD _ _ _ z))
 generalize upd (upd (upd H5 D (.lst ys)) p (.ins C dx (putF "turns" (.ref D) fs))) p (.ins C dx (putF "rounds" (.ref qr) (putF "turns" (.ref D) fs)))=H7 at t7 q17 p7 D7 u7
 have pl3:∀{q:Addr}{ys:List V},H3 q=some (.lst ys)->q≠p:=fun{q ys} h z=>by rw[z,hp3]at h;cases h
 have rs7:cL H7 vs rs:=⟨hrs.1,fun i l z=>by
  obtain⟨r,a1,a2⟩:=hrs.2 i l z
  exact⟨r,a1,t7 _ _ (pl3 a2) a2⟩⟩
 have T7:dr K H7 xs es:=(hT.mono s13).keep hp3 t7
 refine⟨_,rfl,_,rfl,qt,qr,xs,vs,es,_,rs,rfl,SqL.of (t7 _ _ (pl hqt) (s13 _ _ hqt)),T7,by omega,SqL.of (t7 _ _ (pl3 hqr) hqr),rs7,ro,fun q5 z5 H8 s8 hq5 hs5=>?_⟩
 refine⟨_,rfl,p,C,dx,_,rfl,s8 _ _ p7,cw.cl,cw.n5,by omega,?_⟩
 have n5p:q5≠p:=fun z=>by rw[z,s8 _ _ p7]at hq5;cases hq5
 have hqr7:=t7 _ _ (pl3 hqr) hqr
 refine kk _ q1 rs _ ag ⟨?_,⟨D,ys,?_,fun z=>z (new4 (none_of s5 hD)),keep hDp (s8 _ _ D7),rz.1,fun i l z=>?_⟩,⟨qr,vs,?_,keep (pl3 hqr) (s8 _ _ hqr7),hrs.1,fun i l z=>?_⟩,⟨q5,z5,?_,keep n5p hq5,hs5.1,fun i hi=>?_⟩,ro⟩ new1 (by rw[ay,if_neg (by decide +kernel)];exact lk2) (keep n1p (s8 _ _ q17)) fun q o z n=>keep n (s8 _ _ (t7 q o n (s13 _ _ z)))
 ·rw[ay,if_neg (by decide +kernel),ay,if_neg (by decide +kernel),ay,if_neg (by decide +kernel)]
  exact lkm
 ·rw[ay,if_neg (by decide +kernel),ay,if_neg (by decide +kernel),ay,if_pos rfl]
 ·obtain⟨r,a1,a0,a2⟩:=rz.2 i l z
  have nr:r≠p:=fun z=>by rw[z,s5 _ _ pa]at a2;cases a2
  exact⟨r,a1,a0,keep nr (s8 _ _ (u7 r _ nr a2))⟩
 ·rw[ay,if_neg (by decide +kernel),ay,if_pos rfl]
 ·obtain⟨r,a1,a2⟩:=hrs.2 i l z
  exact⟨r,a1,keep (pl3 a2) (s8 _ _ (t7 _ _ (pl3 a2) a2))⟩
 ·rw[ay,if_pos rfl]
 ·obtain⟨t,a,b,r,r',y1,y2,y3⟩:=hs5.2 i hi
  exact⟨t,a,b,r,r',y1,keep (fun z=>by rw[z,s8 _ _ p7]at y2;cases y2) y2,y3⟩
theorem rM.at{PL PS:Addr}{H:Hp}{xs:List V}{es:En}{ks:Kn}(t:rM PL PS H xs es ks)(kl:ks.length=es.length)(TL:CT K PL)(TS:CT K PS):dr K H xs es:=⟨t.1,fun i e z=>by
 have hi:=(MO.mp z).1
 obtain⟨k,hk⟩:∃ k,ks[i]?=some k:=⟨_,MN (by omega)⟩
 obtain⟨p,dx,a,b⟩:=t.2 i e k z hk
 refine⟨p,_,dx,k.2,a,b,?_⟩
 unfold cls
 split
 ·exact TS
 ·exact TL⟩
noncomputable def WebF(S:Addr->Prop)(PL PS WC:Addr)(H:Hp)(p:Addr)(m:Nat)(es:En)(ts rs:List (List Nat))(ks:Kn):Prop:=∃ dx fs q1 xs,H p=some (.ins WC dx fs)/\WebG S H fs m es ts rs/\¬ S q1/\fs.lookup ("ties" : Str)=some (.ref q1)/\H q1=some (.lst xs)/\rM PL PS H xs es ks
theorem WebF.mono{S S':Addr->Prop}{PL PS WC p:Addr}{H H':Hp}{m:Nat}{es:En}{ts rs:List (List Nat)}{ks:Kn}(h:WebF S PL PS WC H p m es ts rs ks)(s:Same H H')(i:∀ a,S' a->S a):WebF S' PL PS WC H' p m es ts rs ks:=by
 obtain⟨dx,fs,q1,xs,a,b,n,c,d,e⟩:=h
 exact⟨dx,fs,q1,xs,s _ _ a,b.mono s i,fun y=>n (i _ y),c,s _ _ d,e.mono s⟩
end
end K8
namespace K8
open PySem L2
local macro_rules | `(tactic| walk_at "cc") => `(tactic| first | exact ⟨by decide, by decide⟩ | (show (0 : Int) < _; decide) | (show (0 : Int) < _; omega) | (show (0 : Int) ≤ _; omega) | exact ⟨by decide, by decide, by decide⟩ | exact ⟨by omega, by omega, by decide⟩ | exact Or.inl ⟨by decide, by decide⟩ | exact Or.inl ⟨by omega, by omega⟩)
local macro_rules | `(tactic| walk_at "rd") => `(tactic| repeat (first | refine ⟨_, rfl, ?_⟩ | refine ⟨_, _, rfl, rfl, ?_⟩ | refine ⟨rfl, ?_⟩ | (refine ⟨?cc, ?_⟩; (case cc => walk_at "cc"))))
theorem bt_sum:bootBuiltins "sum" = some (.builtin "sum"):=by decide +kernel
theorem Ll{X:Cx}{e:Expr}{t1 t2:TE}(h1:PE X e t1)(h2:PE X e t2):PE X e (fun σ H Q=>t1 σ H Q∨t2 σ H Q):=fun pins s σ H Q I h=>h.elim (h1 pins s σ H Q I) (h2 pins s σ H Q I)
noncomputable def ku(push:Bool):Sp:=fun vs H Q _=>∃ p,vs = [.ref p]/\Q (.int (if push=true then 1 else 0)) H
noncomputable def TieAt(H:Hp)(p C:Addr)(a b s:Int):Prop:=∃ dx,H p=some (.ins C dx (tf a b s))
noncomputable def upL(u:Nat->Bool)(i:Nat):List Nat:=(Na i).filter u
theorem tj(u:Nat->Bool)(i:Nat):upL u (i+1)=if u i=true then upL u i++[i] else upL u i:=by
 unfold upL
 rw[O3,List.filter_append]
 by_cases h:u i=true
 ·rw[if_pos h];simp[h]
 ·rw[if_neg h];simp[h]
noncomputable def xB(ps:List Nat):Nat:=ps.foldl (fun m p=>m|||2^p) 0
theorem rZ(ps:List Nat)(p:Nat):xB (ps++[p])=xB ps|||2^p:=by unfold xB;rw[Py];rfl
noncomputable def MK(u:Nat->Bool):Nat->Nat
 |0=>0
 |i+1=>if u i=true then MK u i|||2^i else MK u i
theorem uO(u:Nat->Bool):∀ i,xB (upL u i)=MK u i
 |0=>rfl
 |i+1=>by
  rw[tj]
  show _=if u i=true then MK u i|||2^i else MK u i
  split
  ·rw[rZ,uO u i]
  ·exact uO u i
theorem bg(u:Nat->Bool)(k:Nat):∀ i,(MK u i).testBit k=(decide (k<i)&&u k)
 |0=>by show OZ 0 k=_;simp
 |i+1=>by
  show(if u i=true then MK u i|||2^i else MK u i).testBit k=_
  have ih:=bg u k i
  by_cases h:u i=true
  ·rw[if_pos h,Ol,ih,Nu]
   by_cases z:i=k
   ·subst z;simp[h]
   ·by_cases z2:k<i
    ·simp[z2,OG z2,z]
    ·have:¬ k<i+1:=by omega
     simp[z2,z,this]
  ·rw[if_neg h,ih]
   by_cases z2:k<i
   ·simp[z2,OG z2]
   ·by_cases z:i=k
    ·subst z;simp[h]
    ·have:¬ k<i+1:=by omega
     simp[z2,this]
noncomputable def stg(ks:Kn)(t:Nat):Int:=match ks[t]? with | some k=>k.2 | none=>0
theorem xa(m n:Nat):(m^^^n)+2*(m&&&n)=m+n:=by
 have h:=PyProof.Rows.nat_or_add_and m n
 have h2:(m|||n)=(m^^^n)+(m&&&n):=by
  have e:(m^^^n)+(m&&&n)=(m^^^n)|||(m&&&n):=by
   have q:=PyProof.Rows.nat_or_add_and (m^^^n) (m&&&n)
   have z:(m^^^n)&&&(m&&&n)=0:=by
    apply NF
    intro i
    simp only[Oo,NT,NK]
    cases m.testBit i<;>cases n.testBit i<;>rfl
   omega
  rw[e]
  apply NF
  intro i
  simp only[Oo,NT,Ol]
  cases m.testBit i<;>cases n.testBit i<;>rfl
 omega
theorem xorN(a b:Nat):Builtin.bitXor (a:Int) (b:Int)=((a^^^b:Nat):Int):=by
 rw[PyProof.Rows.bitXor_and,andN]
 have q:=xa a b
 omega
noncomputable def spMask(K:MQ):Sp:=fun vs H Q _=>∃(a:Addr)(ps:List Nat),vs = [.ref a]/\SqL K H a (ps.map iV)/\(∀ p∈ps,p<80)/\Q (.int ((xB ps:Nat):Int)) H
theorem bS.at{f:Nat->Nat}{N d:Nat}{rs:List (List Nat)}(w:bS f N N rs)(h:d<N):∃(a:Nat)(r:List Nat),rs[a]?=some r/\d∈r:=by
 obtain⟨r,h1,h2⟩:=NO.mp (w.all d h)
 obtain⟨a,ha,e⟩:=Oi h1
 exact⟨a,r,by rw[MN ha,e],h2⟩
noncomputable def sm(l:List Nat)(g:Nat->Nat):Nat:=(l.map g).sum
theorem EX(x:Nat)(l:List Nat)(g:Nat->Nat):sm (x::l) g=g x+sm l g:=by unfold sm;rw[Nj,OB]
section
variable{P:Program}{w:World}{K:MQ}{mg:Str->Option Value}{base:Heap}
theorem zx:av ["self"] ["self"] (ah dS):=⟨rfl,rfl,rfl,by decide +kernel,rfl,by decide +kernel,by decide +kernel⟩
theorem II{f:Addr}{fd:FuncData} (F:Fun K "wish" "Tie.wish" dS f fd):FnOk P w K mg base CX0 1 f fd ["self"] (ku false):=by
 refine F.ok zx (fun vs H Q E h=>?_) (fun cdv A outer s H vs Q E hr h=>?_)
 ·obtain⟨p,rfl,_⟩:=h
  rfl
 obtain⟨p,rfl,k⟩:=h
 exact⟨_,(ak (aE ai)),k⟩
theorem wO:av ["self"] ["self"] (ah cU):=⟨rfl,rfl,rfl,by decide +kernel,rfl,by decide +kernel,by decide +kernel⟩
theorem IH{f:Addr}{fd:FuncData} (F:Fun K "wish" "Push.wish" cU f fd):FnOk P w K mg base CX0 1 f fd ["self"] (ku true):=by
 refine F.ok wO (fun vs H Q E h=>?_) (fun cdv A outer s H vs Q E hr h=>?_)
 ·obtain⟨p,rfl,_⟩:=h
  rfl
 obtain⟨p,rfl,k⟩:=h
 exact⟨_,(ak (aE ai)),k⟩
theorem bI:av ["places","mask","place"] ["places"] (ah cC):=⟨rfl,rfl,rfl,by decide +kernel,rfl,by decide +kernel,by decide +kernel⟩
theorem ok_mask{f:Addr}{fd:FuncData} (F:Fun K "mask_of" "mask_of" cC f fd):FnOk P w K mg base CX0 1 f fd ["places"] (spMask K):=by
 refine F.ok bI (fun vs H Q E h=>?_) (fun cdv A outer s H vs Q E hr h=>?_)
 ·obtain⟨a,ps,rfl,_⟩:=h
  rfl
 obtain⟨a,ps,rfl,hS,h80,kk⟩:=h
 refine⟨_,(af (ar (i:=1) bI.nd rfl (Or.inl rfl) ai)
   (af (cD PassesOwn.never rfl (bo (pv 0)) (aL (i:=2) bI.nd rfl (Or.inl rfl)) (ak (ar (i:=1) bI.nd rfl (Or.inl rfl) (aB C8 (pv 1) (aB de ai (pv 2))))))
   (ak (aE (pv 1))))),?_⟩
 refine⟨_,rfl,a,rfl,⟨_,hS⟩,cG (K:=K) (xs:=ps.map iV) (fun i σ H2=>∃ v2,σ = [some (.ref a),some (.int ((xB (ps.take i):Nat):Int)),v2]/\H2=H) ⟨_,rfl,rfl⟩ (fun i σ H2 _ ⟨_,_,z⟩=>z▸hS) ?_ ?_⟩
 ·rintro i x σ H2 hx ⟨v2,rfl,rfl⟩
  rw[Nq]at hx
  obtain⟨p,hp,rfl⟩:=NI.mp hx
  have hp80:=h80 p (MP hp)
  refine⟨_,rfl,_,rfl,_,_,rfl,rfl,⟨by omega,by omega,by decide⟩,_,_,rfl,rfl,some (iV p),?_,rfl⟩
  show[some (V.ref a),some (V.int (Builtin.bitOr ((xB (ps.take i):Nat):Int) (1*2^((p:Nat):Int).toNat))),some (iV p)]=_
  rw[shlN,orN,NA,hp]
  show _ = [some (V.ref a),some (V.int ((xB (ps.take i++[p]):Nat):Int)),some (iV p)]
  rw[rZ]
 ·rintro σ H2 ⟨v2,rfl,rfl⟩
  rw[M7,ND]
  exact⟨_,rfl,kk⟩
end
end K8
namespace K8
open PySem L2
local macro_rules | `(tactic| walk_at "cc") => `(tactic| first | exact ⟨by decide, by decide⟩ | (show (0 : Int) < _; decide) | (show (0 : Int) < _; omega) | (show (0 : Int) ≤ _; omega) | exact ⟨by decide, by decide, by decide⟩ | exact ⟨by omega, by omega, by decide⟩ | exact Or.inl ⟨by decide, by decide⟩ | exact Or.inl ⟨by omega, by omega⟩)
local macro_rules | `(tactic| walk_at "rd") => `(tactic| repeat (first | refine ⟨_, rfl, ?_⟩ | refine ⟨_, _, rfl, rfl, ?_⟩ | refine ⟨rfl, ?_⟩ | (refine ⟨?cc, ?_⟩; (case cc => walk_at "cc"))))
noncomputable def bt(M t:Nat):Nat:=M/2^t%2
theorem My(M t:Nat):bt M t=if M.testBit t=true then 1 else 0:=by
 unfold bt
 rw[Nat.testBit_eq_decide_div_mod_eq]
 by_cases z:M/2^t%2=1
 ·rw[z,decide_eq_true rfl,if_pos rfl]
 ·rw[decide_eq_false z,if_neg Nn];omega
theorem bt_inM(M t:Nat):Builtin.bitAnd ((M:Int)/2^((t:Nat):Int).toNat) 1=((bt M t:Nat):Int):=by
 have e:Builtin.bitAnd ((M:Int)/2^((t:Nat):Int).toNat) 1=((M:Int)/2^((t:Nat):Int).toNat)%2:=PySem.W.kbt_mask _ 1
 rw[e,Ng]
 unfold bt
 rw[Int.natCast_emod,Int.natCast_ediv,Qk]
 rfl
noncomputable def parR(M:Nat)(r:List Nat):Nat:=sm r (fun d=>bt M (d/2))%2
theorem Io(l:List Nat)(g:Nat->Nat):(l.map fun d=>((g d:Nat):Int)).sum=((sm l g:Nat):Int):=by
 induction l with
 |nil=>rfl
 |cons x l ih=>rw[Nj,OB,ih,EX];omega
noncomputable def aO(ks:Kn)(t:Nat):Bool:=match ks[t]? with | some k=>decide (k.1=1) | none=>false
theorem Fg{ks:Kn}{t:Nat}{k:Int×Int}(h:ks[t]?=some k):aO ks t=decide (k.1=1):=by unfold aO;rw[h]
noncomputable def oddU(M:Nat)(rs:List (List Nat))(k:Nat):Bool:=decide (parR M (rs.getD k [])=1)
theorem Cp{rs:List (List Nat)}{k:Nat}{r:List Nat}(h:rs[k]?=some r):rs.getD k []=r:=by rw[Ny,h];rfl
noncomputable def WebR(PL PS WC:Addr)(H:Hp)(p:Addr)(es:En)(ks:Kn)(rs:List (List Nat)):Prop:=∃ dx fs q1 xs q5 z5,H p=some (.ins WC dx fs)/\fs.lookup ("ties" : Str)=some (.ref q1)/\H q1=some (.lst xs)/\rM PL PS H xs es ks/\fs.lookup ("rounds" : Str)=some (.ref q5)/\H q5=some (.lst z5)/\cL H z5 rs
theorem WebR.mono{PL PS WC:Addr}{H H':Hp}{p:Addr}{es:En}{ks:Kn}{rs:List (List Nat)}(h:WebR PL PS WC H p es ks rs)(s:Same H H'):WebR PL PS WC H' p es ks rs:=by
 obtain⟨dx,fs,q1,xs,q5,z5,a,b,c,d,e,f,g⟩:=h
 exact⟨dx,fs,q1,xs,q5,z5,s _ _ a,b,s _ _ c,d.mono s,e,s _ _ f,g.mono s⟩
noncomputable def EN(PL PS WC:Addr):Sp:=fun vs H Q _=>∃(p:Addr)(es:En)(ks:Kn)(rs:List (List Nat)),vs = [.ref p]/\WebR PL PS WC H p es ks rs/\ks.length=es.length/\es.length<=30/\∀ H',Same H H'->Q (.int ((MK (aO ks) es.length:Nat):Int)) H'
noncomputable def y8(PL PS WC:Addr):Sp:=fun vs H Q _=>∃(p:Addr)(M k:Nat)(es:En)(ks:Kn)(rs:List (List Nat))(r:List Nat),vs = [.ref p,.int (M:Int),.int (k:Int)]/\WebR PL PS WC H p es ks rs/\rs[k]?=some r/\r.length<=900/\∀ H',Same H H'->Q (.int ((parR M r:Nat):Int)) H'
noncomputable def ER(PL PS WC:Addr):Sp:=fun vs H Q _=>∃(p:Addr)(es:En)(ks:Kn)(rs:List (List Nat)),vs = [.ref p]/\WebR PL PS WC H p es ks rs/\ks.length=es.length/\es.length<=30/\rs.length<=70/\(∀ r∈rs,r.length<=900)/\∀ H',Same H H'->Q (.int ((MK (oddU (MK (aO ks) es.length) rs) rs.length:Nat):Int)) H'
theorem WebF.r{S:Addr->Prop}{PL PS WC p:Addr}{H:Hp}{m:Nat}{es:En}{ts rs:List (List Nat)}{ks:Kn}(h:WebF S PL PS WC H p m es ts rs ks):WebR PL PS WC H p es ks rs:=by
 obtain⟨dx,fs,q1,xs,a,g,_,b,c,d⟩:=h
 obtain⟨q5,z5,l5,h5,r5⟩:=g.rounds
 exact⟨dx,fs,q1,xs,q5,z5,a,b,c,d,l5,h5,r5⟩
section
variable{P:Program}{w:World}{K:MQ}{mg:Str->Option Value}{base:Heap}
theorem E6:av ["web"] ["web"] (ah iZ):=⟨rfl,rfl,rfl,by decide +kernel,rfl,by decide +kernel,by decide +kernel⟩
theorem Lq{f fm PL PS WC f0 f1:Addr}{fd fdm d0 d1:FuncData} (F:Fun K "pushes" "pushes" iZ f fd) (T:Txt mg) (cw:CW K WC) (TL:CT K PL) (TS:CT K PS) (G_mask_of:Cal P w K mg base 1 "mask_of" ["places"] (spMask K) fm fdm) (u0:Met P w K mg base 1 PL "wish" ["self"] (ku false) f0 d0) (u1:Met P w K mg base 1 PS "wish" ["self"] (ku true) f1 d1) :
  FnOk P w K mg base CX0 2 f fd ["web"] (EN PL PS WC):=by
 refine F.ok E6 (fun vs H Q E h=>?_) (fun cdv A outer s H vs Q E hr h=>?_)
 ·obtain⟨p,es,ks,rs,rfl,_⟩:=h
  rfl
 obtain⟨p,es,ks,rs,rfl,⟨dx,fs,q1,xs,q5,z5,hp,hlk,hq1,tk,_⟩,kl,few,kk⟩:=h
 have CL0:=TL.cl
 have CL1:=TS.cl
 have hxl:xs.length=es.length:=tk.1
 refine⟨_,(ak (aE (az G_mask_of.ok (hr.mono (by decide)) rfl G_mask_of.mg G_mask_of.kp G_mask_of.bn .nil aR (ae (uu rfl (fr:=[]) (xs:=["number","tie"]) (ju.of (by rfl) (by decide +kernel) (by rfl) (by decide +kernel) (fun p hp=>nomatch hp) (by decide +kernel) (fun p hp=>nomatch hp)) (ui rfl T.n_enumerate (ae (bQ (pv 0) rfl) aj)) (fun C ex s H=>(zY (n:=2) (K:=K) rfl rfl (bh (aL (i:=0) (show(["number","tie"]:List Str).Nodup from by decide +kernel) rfl (Or.inl rfl)) (bh (aL (i:=1) (show(["number","tie"]:List Str).Nodup from by decide +kernel) rfl (Or.inl rfl)) g9)))) (fun C ex s H=>(Fh (aC js (Ll (gg (pv 1) CL0 u0.me u0.ok (hr.mono (by decide)) u0.bn .nil aR) (gg (pv 1) CL1 u1.me u1.ok (hr.mono (by decide)) u1.bn .nil aR)) ai (aI _)))) (fun C ex s H=>(pv 0))) aj)))),?_⟩
 refine⟨_,rfl,p,WC,dx,fs,_,rfl,hp,cw.cl,cw.n2,hlk,q1,rfl,⟨_,SqL.of hq1⟩,D8 (K:=K) (xs:=xs) (fun i ys H2=>Same H H2/\ys=(upL (aO ks) i).map iV) (NM (ax (by omega))) ⟨fun _ _ e=>e,rfl⟩ (fun i ys H2 _ z=>SqL.of (z.1 _ _ hq1)) ?_ ?_ ?_⟩
 ·rintro i x ys H2 T2 hx ⟨s2,rfl⟩ hT2
  have hi:i<es.length:=by rw[← tk.1];exact(MO.mp hx).1
  obtain⟨e,he⟩:∃ e,es[i]?=some e:=⟨_,MN hi⟩
  obtain⟨k,hk⟩:∃ k,ks[i]?=some k:=⟨_,MN (by omega)⟩
  have s3:=s2.trans (aq hT2 (.tup [.int (i:Int),x]))
  obtain⟨p',dx',x1,x2⟩:=(tk.mono s3).2 i e k he hk
  rw[hx]at x1
  cases x1
  refine⟨T2,_,rfl,SqT.of ag,rfl,_,_,rfl,_,_,rfl,rfl,rfl,?_⟩
  have hU:=Fg hk
  have tail:∀ b:Bool,b=aO ks i->(if b=true then tVar 0 ([some (.int (i:Int)),some (.ref p')]:St) (upd H2 T2 (.tup [.int (i:Int),.ref p'])) (fun y H4=>Same H H4/\(upL (aO ks) i).map iV++[y]=(upL (aO ks) (i+1)).map iV) else Same H (upd H2 T2 (.tup [.int (i:Int),.ref p']))/\(upL (aO ks) i).map iV=(upL (aO ks) (i+1)).map iV):=fun b hb=>by
   rw[tj,← hb]
   cases b with
   |true =>
    refine iteT ⟨_,rfl,s3,?_⟩
    rw[if_pos rfl,NU]
    rfl
   |false =>
    refine iteF ⟨s3,?_⟩
    rw[if_neg (by decide)]
  by_cases c:k.1=1
  ·rw[decide_eq_true c]at x2 hU
   refine .inr ⟨_,rfl,p',dx',_,rfl,x2,yX _ _ _ (by decide +kernel) (by decide +kernel) (by decide +kernel),p',rfl,rfl,_,rfl,?_⟩
   exact tail _ hU.symm
  ·rw[decide_eq_false c]at x2 hU
   refine .inl ⟨_,rfl,p',dx',_,rfl,x2,yX _ _ _ (by decide +kernel) (by decide +kernel) (by decide +kernel),p',rfl,rfl,_,rfl,?_⟩
   exact tail _ hU.symm
 ·rintro ys H2 ⟨s2,rfl⟩ D hD
  rw[hxl]
  refine⟨D,upL (aO ks) es.length,rfl,SqL.of ag,fun p hp=>?_,?_⟩
  ·have:=NX.mp (OS.mp hp).1;omega
  ·rw[uO]
   exact kk _ (s2.trans (aq hD _))
 ·rintro i ys H2 ⟨_,rfl⟩
  rw[M7]
  exact NQ (Pd _ _) (by rw[NN];exact MT _)
theorem E7:av ["web","ties","number"] ["web","ties","number"] (ah i0):=⟨rfl,rfl,rfl,by decide +kernel,rfl,by decide +kernel,by decide +kernel⟩
theorem IP{f PL PS WC:Addr}{fd:FuncData} (F:Fun K "odd_at" "odd_at" i0 f fd) (T:Txt mg) (cw:CW K WC):FnOk P w K mg base CX0 1 f fd ["web","ties","number"] (y8 PL PS WC):=by
 refine F.ok E7 (fun vs H Q E h=>?_) (fun cdv A outer s H vs Q E hr h=>?_)
 ·obtain⟨p,M,k,es,ks,rs,r,rfl,_⟩:=h
  rfl
 obtain⟨p,M,k,es,ks,rs,r,rfl,⟨dx,fs,q1,xs,q5,z5,hp,_,_,_,l5,hq5,hR⟩,hk,hl,kk⟩:=h
 obtain⟨pr,x1,x2⟩:=hR.2 k r hk
 refine⟨_,(ak (aE (aB cj (aM (JM rfl) (by rfl) T.n_sum bt_sum (ae (gh rfl (fr:=[("ties",1)]) (by exact bM.one (by rfl) (by decide +kernel) (by rfl) (by decide +kernel) (by rfl) (by decide +kernel) (by rfl) (by rfl) (by decide +kernel) (by rfl)) (bo (aD aA (bQ (pv 0) rfl) (pv 2) (fun _ _=>rfl))) (fun C ex s H=>(aB FK (aB op_shr (pv 1) (aB dY (pv 0) ai)) ai))) aj)) ai))),?_⟩
 refine⟨_,rfl,p,WC,dx,fs,_,rfl,hp,cw.cl,cw.n4,l5,_,rfl,q5,z5,_,_,rfl,rfl,SqL.of hq5,aJ x1,pr,rfl,⟨_,SqL.of x2⟩,eu (K:=K) (xs:=r.map iV) (fun i ys H2=>Same H H2/\ys=((r.take i).map fun d=>((bt M (d/2):Nat):Int)).map V.int) (NM (ax (by rw[M7];omega))) ⟨fun _ _ e=>e,rfl⟩ (fun i ys H2 _ z=>SqL.of (z.1 _ _ x2)) ?_ ?_⟩
 ·rintro i x ys H2 hx ⟨s2,rfl⟩
  rw[Nq]at hx
  obtain⟨d,hd',rfl⟩:=NI.mp hx
  have ed:(d:Int)/2=((d/2:Nat):Int):=by omega
  refine⟨_,rfl,_,rfl,_,_,rfl,rfl,⟨by decide,by decide⟩,_,_,rfl,rfl,(show(0:Int)<=(d:Int)/2 by omega),_,_,rfl,rfl,s2,?_⟩
  rw[NA,hd',NU,NU]
  show _++[V.int (Builtin.bitAnd ((M:Int)/2^((d:Int)/2).toNat) 1)]=_++[V.int ((bt M (d/2):Nat):Int)]
  rw[ed,bt_inM]
 rintro ys H2 _ ⟨s2,rfl⟩ D hD
 rw[M7,ND]
 refine⟨D,_,rfl,SqL.of ag,_,_,rfl,rfl,(by show(0:Int)<2;decide),?_⟩
 have e:(r.map fun d=>((bt M (d/2):Nat):Int)).sum%2=((parR M r:Nat):Int):=by
  rw[Io r fun d=>bt M (d/2)]
  unfold parR
  omega
 show Q (V.int ((r.map fun d=>((bt M (d/2):Nat):Int)).sum%2)) _
 rw[e]
 exact kk _ (s2.trans (aq hD _))
theorem kC:av ["web","pushing"] ["web"] (ah b8):=⟨rfl,rfl,rfl,by decide +kernel,rfl,by decide +kernel,by decide +kernel⟩
theorem Ls{f fm fp fo PL PS WC:Addr}{fd fdm fdp fdo:FuncData} (F:Fun K "odd_rounds" "odd_rounds" b8 f fd) (T:Txt mg) (cw:CW K WC) (G_mask_of:Cal P w K mg base 1 "mask_of" ["places"] (spMask K) fm fdm) (G_pushes:Cal P w K mg base 2 "pushes" ["web"] (EN PL PS WC) fp fdp) (G_odd_at:Cal P w K mg base 1 "odd_at" ["web","ties","number"] (y8 PL PS WC) fo fdo) :
  FnOk P w K mg base CX0 3 f fd ["web"] (ER PL PS WC):=by
 refine F.ok kC (fun vs H Q E h=>?_) (fun cdv A outer s H vs Q E hr h=>?_)
 ·obtain⟨p,es,ks,rs,rfl,_⟩:=h
  rfl
 obtain⟨p,es,ks,rs,rfl,wb,kl,few,h70,h900,kk⟩:=h
 refine⟨_,(af (ar (i:=1) kC.nd rfl (Or.inr rfl) (az G_pushes.ok (hr.mono (by decide)) rfl G_pushes.mg G_pushes.kp G_pushes.bn .nil aR (ae (pv 0) aj)))
   (ak (aE (az G_mask_of.ok (hr.mono (by decide)) rfl G_mask_of.mg G_mask_of.kp G_mask_of.bn .nil aR (ae (uu rfl (fr:=[("web",0),("pushing",1)]) (xs:=["number"]) (ju.of (by rfl) (by decide +kernel) (by rfl) (by decide +kernel) (by intro p hp;simp only[MV,NW,or_false]at hp;rcases hp with rfl | rfl<;>exact⟨rfl,rfl⟩) (by decide +kernel) (by intro p hp;simp only[MV,NW,or_false]at hp;rcases hp with rfl | rfl<;>rfl)) (bD rfl T.n_range (ae (aM aF (by rfl) T.n_len cN (ae (bQ (pv 0) rfl) aj)) aj)) (fun C ex s H=>(aL (i:=0) (show(["number","web","pushing"]:List Str).Nodup from by decide +kernel) rfl (Or.inl rfl))) (fun C ex s H=>(Fh (aC js (az G_odd_at.ok (hr.mono (by decide)) rfl G_odd_at.mg G_odd_at.kp G_odd_at.bn .nil aR (ae (pv 1) (ae (pv 2) (ae (pv 0) aj)))) ai (aI _)))) (fun C ex s H=>(pv 0))) aj))))),?_⟩
 refine⟨_,rfl,p,es,ks,rs,rfl,wb,kl,few,fun H1 s1=>?_⟩
 have wb1:=wb.mono s1
 obtain⟨dx,fs,q1,xs,q5,z5,hp,_,_,_,l5,hq5,hR⟩:=id wb1
 have hzl:z5.length=rs.length:=hR.1
 generalize hM:MK (aO ks) es.length=M
 rw[hM]at kk
 refine⟨_,rfl,p,WC,dx,fs,_,rfl,hp,cw.cl,cw.n4,l5,q5,z5,rfl,.inl (SqL.of hq5),_,rfl,by omega,by omega,pS (fun i ys H2=>Same H1 H2/\ys=(upL (oddU M rs) i).map iV) (NM (ax (by omega))) ⟨fun _ _ e=>e,rfl⟩ ?_ ?_ ?_⟩
 ·rintro i ys H2 hi ⟨s2,rfl⟩
  have e0:(0:Int)+(i:Int)=(i:Int):=OJ _
  rw[e0]
  obtain⟨r,hr'⟩:∃ r,rs[i]?=some r:=⟨_,MN (by omega)⟩
  refine⟨rfl,_,rfl,_,rfl,_,rfl,p,M,i,es,ks,rs,r,rfl,wb1.mono s2,hr',h900 r (MP hr'),fun H3 s3=>⟨rfl,_,rfl,?_⟩⟩
  have hu:oddU M rs i=decide (parR M r=1):=by unfold oddU;rw[Cp hr']
  rw[tj,hu]
  refine ite2 (fun c=>?_) (fun c=>?_)
  ·have c':parR M r=1:=by have:=V.int.inj (of_decide_eq_true c);omega
   refine⟨_,rfl,s2.trans s3,?_⟩
   rw[if_pos (decide_eq_true c'),NU]
   rfl
  ·have c':¬ parR M r=1:=fun z=>c (decide_eq_true (congrArg V.int (by omega)))
   refine⟨s2.trans s3,?_⟩
   rw[if_neg (by simpa using c')]
 ·rintro ys H2 ⟨s2,rfl⟩ D hD
  rw[Ng,hzl]
  refine⟨D,upL (oddU M rs) rs.length,rfl,SqL.of ag,fun p hp=>?_,?_⟩
  ·have:=NX.mp (OS.mp hp).1;omega
  ·rw[uO]
   exact kk _ (s1.trans (s2.trans (aq hD _)))
 ·rintro i ys H2 ⟨_,rfl⟩
  rw[M7]
  exact NQ (Pd _ _) (by rw[NN];exact MT _)
end
end K8
namespace K8
open PySem L2
local macro_rules | `(tactic| walk_at "cc") => `(tactic| first | exact ⟨by decide, by decide⟩ | (show (0 : Int) < _; decide) | (show (0 : Int) < _; omega) | (show (0 : Int) ≤ _; omega) | exact ⟨by decide, by decide, by decide⟩ | exact ⟨by omega, by omega, by decide⟩ | exact Or.inl ⟨by decide, by decide⟩ | exact Or.inl ⟨by omega, by omega⟩)
local macro_rules | `(tactic| walk_at "rd") => `(tactic| repeat (first | refine ⟨_, rfl, ?_⟩ | refine ⟨_, _, rfl, rfl, ?_⟩ | refine ⟨rfl, ?_⟩ | (refine ⟨?cc, ?_⟩; (case cc => walk_at "cc"))))
structure TxtZ(mg:Str->Option Value):Prop extends Txt mg where
 n_zip:mg "zip" = none
noncomputable def WebS(PL PS WC:Addr)(H:Hp)(p:Addr)(es:En)(ks:Kn)(rs:List (List Nat)):Prop:=∃ dx fs q1 xs q5 z5,H p=some (.ins WC dx fs)/\fs.lookup ("ties" : Str)=some (.ref q1)/\H q1=some (.lst xs)/\rM PL PS H xs es ks/\fs.lookup ("sides" : Str)=some (.ref q5)/\H q5=some (.lst z5)/\gP H z5 es.length rs
noncomputable def Es(H:Hp)(zs:List V)(n:Nat)(ks:Kn)(rs:List (List Nat)):Prop:=zs.length=n/\∀ i,i<n->∃ k t a b r r',ks[i]?=some k/\zs[i]?=some (.ref t)/\H t=some (.tup [iV a,iV b,.int k.2])/\rs[a]?=some r/\2*i∈r/\rs[b]?=some r'/\2*i+1∈r'
theorem Es.mono{H H':Hp}{zs:List V}{n:Nat}{ks:Kn}{rs:List (List Nat)}(h:Es H zs n ks rs)(s:Same H H'):Es H' zs n ks rs:=⟨h.1,fun i hi=>by
 obtain⟨k,t,a,b,r,r',y0,y1,y2,y3⟩:=h.2 i hi
 exact⟨k,t,a,b,r,r',y0,y1,s _ _ y2,y3⟩⟩
noncomputable def za(PL PS WC:Addr):Sp:=fun vs H Q _=>∃(p:Addr)(es:En)(ks:Kn)(rs:List (List Nat)),vs = [.ref p]/\WebS PL PS WC H p es ks rs/\ks.length=es.length/\es.length<=62/\∀ q zs H',Same H H'->H q=none->H' q=some (.lst zs)->Es H' zs es.length ks rs->Q (.ref q) H'
section
variable{P:Program}{w:World}{K:MQ}{mg:Str->Option Value}{base:Heap}
theorem zv:av ["web"] ["web"] (ah dJ):=⟨rfl,rfl,rfl,by decide +kernel,rfl,by decide +kernel,by decide +kernel⟩
theorem IS{f PL PS WC:Addr}{fd:FuncData} (F:Fun K "links_of" "links_of" dJ f fd) (T:TxtZ mg) (cw:CW K WC) (TL:CT K PL) (TS:CT K PS):FnOk P w K mg base CX0 1 f fd ["web"] (za PL PS WC):=by
 refine F.ok zv (fun vs H Q E h=>?_) (fun cdv A outer s H vs Q E hr h=>?_)
 ·obtain⟨p,es,ks,rs,rfl,_⟩:=h
  rfl
 obtain⟨p,es,ks,rs,rfl,⟨dx,fs,q1,xs,q5,z5,hp,l1,hq1,tk,l5,hq5,hs⟩,kl,few,kk⟩:=h
 have hxl:xs.length=es.length:=tk.1
 have hzl:z5.length=es.length:=hs.1
 have ct:∀ b,CT K (cls PL PS b):=fun b=>by
  unfold cls
  split
  ·exact TS
  ·exact TL
 refine⟨_,(ak (aE (uu rfl (fr:=[]) (xs:=["sides","tie"]) (ju.of (by rfl) (by decide +kernel) (by rfl) (by decide +kernel) (fun p hp=>nomatch hp) (by decide +kernel) (fun p hp=>nomatch hp)) (pi_zip rfl T.n_zip (ae (bQ (pv 0) rfl) (ae (bQ (pv 0) rfl) aj))) (fun C ex s H=>(zY (n:=2) (K:=K) rfl rfl (bh (aL (i:=0) (show(["sides","tie"]:List Str).Nodup from by decide +kernel) rfl (Or.inl rfl)) (bh (aL (i:=1) (show(["sides","tie"]:List Str).Nodup from by decide +kernel) rfl (Or.inl rfl)) g9)))) (fun C ex s H=>t6) (fun C ex s H=>(bP (ae (aD (ve (K:=K) rfl) (pv 0) ai (fun _ _=>rfl)) (ae (aD (ve (K:=K) rfl) (pv 0) ai (fun _ _=>rfl)) (ae (z8 (K:=K) rfl (pv 1) rfl) aj)))))))),?_⟩
 refine⟨_,rfl,p,WC,dx,fs,_,rfl,hp,cw.cl,cw.n5,l5,_,rfl,p,WC,dx,fs,_,rfl,hp,cw.cl,cw.n2,l1,q5,q1,rfl,⟨_,SqL.of hq5⟩,⟨_,SqL.of hq1⟩,Hn (K:=K) (xs:=z5) (zs:=xs) (fun i ys H2=>Same H H2/\Es H2 ys i ks rs) (NM (ax (by omega))) (by omega) ⟨fun _ _ e=>e,rfl,fun i hi=>by omega⟩ (fun i ys H2 _ z=>⟨SqL.of (z.1 _ _ hq5),SqL.of (z.1 _ _ hq1)⟩) ?_ ?_ ?_⟩
 ·rintro i x z ys H2 T2 hx hz ⟨s2,hY⟩ hT2
  have hi:i<es.length:=by rw[← hzl];exact(MO.mp hx).1
  obtain⟨e,he⟩:∃ e,es[i]?=some e:=⟨_,MN hi⟩
  obtain⟨k,hk⟩:∃ k,ks[i]?=some k:=⟨_,MN (by omega)⟩
  obtain⟨t,a,b,r,r',y1,y2,y3,y4,y5,y6⟩:=hs.2 i hi
  rw[hx]at y1
  cases y1
  obtain⟨p',dx',x1,x2⟩:=tk.2 i e k he hk
  rw[hz]at x1
  cases x1
  have s3:=s2.trans (aq hT2 (.tup [.ref t,.ref p']))
  refine⟨T2,_,rfl,SqT.of ag,rfl,_,_,rfl,_,_,rfl,rfl,rfl,yesT ?_⟩
  refine⟨_,rfl,t,_,0,_,rfl,rfl,SqT.of (s3 _ _ y2),at0,_,rfl,t,_,1,_,rfl,rfl,SqT.of (s3 _ _ y2),at1,_,rfl,p',_,dx',_,_,rfl,s3 _ _ x2,(ct _).cl,(ct _).n3,EE _ _ _,(by show 3<=sizeLine;decide),fun t4 ht4=>?_⟩
  have s4:=aq ht4 (.tup [iV a,iV b,.int k.2])
  have s24:=(aq hT2 (.tup [.ref t,.ref p'])).trans s4
  have hY':=hY.mono s24
  refine⟨s2.trans s24,by rw[MX,hY.1];rfl,fun j hj=>?_⟩
  by_cases c:j<i
  ·obtain⟨k',t',a',b',w1,w2,v0,v1,v2⟩:=hY'.2 j c
   exact⟨k',t',a',b',w1,w2,v0,by rw[MU (by rw[hY.1];exact c)];exact v1,v2⟩
  ·have:j=i:=by omega
   subst this
   exact⟨k,t4,a,b,r,r',hk,by rw[← hY.1,MR (MT _),Nl];rfl,ag,y3,y4,y5,y6⟩
 ·rintro ys H2 ⟨s2,hY⟩ D hD
  rw[hzl]at hY
  have hD0:H D=none:=by
   cases z:H D with
   |none=>rfl
   |some o=>rw[s2 _ _ z]at hD;cases hD
  exact kk D ys _ (s2.trans (aq hD _)) hD0 ag (hY.mono (aq hD _))
 ·rintro i ys H2 ⟨_,hY⟩
  rw[hY.1]
  exact MT _
end
end K8
namespace K8
open PySem L2
local macro_rules | `(tactic| walk_at "cc") => `(tactic| first | exact ⟨by decide, by decide⟩ | (show (0 : Int) < _; decide) | (show (0 : Int) < _; omega) | (show (0 : Int) ≤ _; omega) | exact ⟨by decide, by decide, by decide⟩ | exact ⟨by omega, by omega, by decide⟩ | exact Or.inl ⟨by decide, by decide⟩ | exact Or.inl ⟨by omega, by omega⟩)
local macro_rules | `(tactic| walk_at "rd") => `(tactic| repeat (first | refine ⟨_, rfl, ?_⟩ | refine ⟨_, _, rfl, rfl, ?_⟩ | refine ⟨rfl, ?_⟩ | (refine ⟨?cc, ?_⟩; (case cc => walk_at "cc"))))
theorem ux(S T:Nat->Bool):∀ l:List Nat,par (fun t=>S t ^^ T t) l=(par S l ^^ par T l)
 |[]=>rfl
 |d::l=>by
  rw[aH,aH,aH,ux S T l]
  cases S (d/2)<;>cases T (d/2)<;>cases par S l<;>cases par T l<;>rfl
theorem c9{S T:Nat->Bool}:∀{l:List Nat},(∀ d∈l,S (d/2)=T (d/2))->par S l=par T l
 |[],_=>rfl
 |d::l,h=>by rw[aH,aH,h d (M3 ..),c9 fun x hx=>h x (MY _ hx)]
theorem Cg:∀ l:List Nat,par (fun _=>false) l=false
 |[]=>rfl
 |d::l=>by rw[aH,Cg l];rfl
theorem FF(i:Nat):∀{l:List Nat},l.Nodup->par (fun t=>decide (t=i)) l=(decide (2*i∈l) ^^ decide (2*i+1∈l))
 |[],_=>rfl
 |d::l,nd=>by
  obtain⟨n1,n2⟩:=Nb.mp nd
  rw[aH,FF i n2]
  by_cases c0:d=2*i
  ·subst c0
   rw[decide_eq_true (show 2*i/2=i by omega),decide_eq_false n1,decide_eq_true (M3 ..)]
   have:decide (2*i+1∈2*i::l)=decide (2*i+1∈l):=decide_eq_decide.mpr ⟨fun z=>(MV.mp z).elim (fun y=>by omega) id,MY _⟩
   rw[this]
   cases decide (2*i+1∈l)<;>rfl
  ·have a0:decide (2*i∈d::l)=decide (2*i∈l):=decide_eq_decide.mpr ⟨fun z=>(MV.mp z).elim (fun y=>absurd y.symm c0) id,MY _⟩
   by_cases c1:d=2*i+1
   ·subst c1
    rw[decide_eq_true (show(2*i+1)/2=i by omega),a0,decide_eq_false n1,decide_eq_true (M3 ..)]
    cases decide (2*i∈l)<;>rfl
   ·have a1:decide (2*i+1∈d::l)=decide (2*i+1∈l):=decide_eq_decide.mpr ⟨fun z=>(MV.mp z).elim (fun y=>absurd y.symm c1) id,MY _⟩
    rw[decide_eq_false (show ¬ d/2=i by omega),a0,a1]
    cases decide (2*i∈l)<;>cases decide (2*i+1∈l)<;>rfl
structure Dl(N:Nat)(rs:List (List Nat))(ls:List KF.Lk):Prop where
 nd:rs.flatten.Nodup
 all:∀ d,d<2*N->d∈rs.flatten
 lt:∀ r∈rs,∀ d∈r,d<2*N
 rn:∀ r∈rs,r.Nodup
 ln:ls.length=N
 sd:∀(i:Nat)(l:KF.Lk),ls[i]?=some l->(∃ r,rs[l.1]?=some r/\2*i∈r)/\∃ r,rs[l.2.1]?=some r/\2*i+1∈r
theorem Dl.odd{N:Nat}{rs:List (List Nat)}{ls:List KF.Lk}(D:Dl N rs ls)(u:Nat){a:Nat}{R:List Nat}(hR:rs[a]?=some R):∀ i,i<=N->(KF.oddE ls u i).testBit a=par (fun t=>u.testBit t&&decide (t<i)) R
 |0,_=>by
  show(0:Nat).testBit a=_
  rw[NK]
  exact((c9 fun d _=>by rw[decide_eq_false (NV _),O9]).trans (Cg R)).symm
 |i+1,h=>by
  have ih:=D.odd u hR i (by omega)
  obtain⟨l,hl⟩:∃ l,ls[i]?=some l:=⟨_,MN (by rw[D.ln];omega)⟩
  obtain⟨⟨r,r1,r2⟩,⟨r',s1,s2⟩⟩:=D.sd i l hl
  have nR:=D.rn R (MP hR)
  have b0:decide (2*i∈R)=decide (l.1=a):=decide_eq_decide.mpr ⟨fun z=>lU D.nd r1 hR r2 z,fun z=>by rw[z,hR]at r1;cases r1;exact r2⟩
  have b1:decide (2*i+1∈R)=decide (l.2.1=a):=decide_eq_decide.mpr ⟨fun z=>lU D.nd s1 hR s2 z,fun z=>by rw[z,hR]at s1;cases s1;exact s2⟩
  unfold KF.oddE
  by_cases c:u.testBit i=true
  ·rw[if_pos c,NT,ih,KF.lkA_is hl]
   unfold KF.endX
   rw[NT,Nu,Nu,← b0,← b1,← FF i nR,← ux]
   refine c9 fun d _=>?_
   by_cases z:d/2=i
   ·rw[z,c,decide_eq_false (Nz i),decide_eq_true rfl,decide_eq_true (NR i)];rfl
   ·rw[decide_eq_false z,OX]
    congr 1
    exact decide_eq_decide.mpr (by omega)
  ·rw[if_neg c,ih]
   refine c9 fun d _=>?_
   by_cases z:d/2=i
   ·have c':u.testBit i=false:=by cases y:u.testBit i;rfl;exact absurd y c
    rw[z,c'];rfl
   ·congr 1
    exact decide_eq_decide.mpr (by omega)
theorem Dl.oddN{N:Nat}{rs:List (List Nat)}{ls:List KF.Lk}(D:Dl N rs ls)(u:Nat){a:Nat}{R:List Nat}(hR:rs[a]?=some R):(KF.oddE ls u N).testBit a=par (fun t=>u.testBit t) R:=by
 rw[D.odd u hR N (MT _)]
 refine c9 fun d hd=>?_
 have:=D.lt R (MP hR) d hd
 rw[decide_eq_true (show d/2<N by omega),QB]
theorem Dl.rooms{N:Nat}{rs:List (List Nat)}{ls:List KF.Lk}(D:Dl N rs ls):∀ l∈ls,l.1<rs.length/\l.2.1<rs.length:=fun l hl=>by
 obtain⟨i,hi⟩:=Ot hl
 obtain⟨⟨_,r1,_⟩,⟨_,s1,_⟩⟩:=D.sd i l hi
 exact⟨(MO.mp r1).1,(MO.mp s1).1⟩
theorem xb{n:Nat}{ls:List KF.Lk}(hl:∀ l∈ls,l.1<n/\l.2.1<n)(u:Nat):∀ i,i<=ls.length->KF.oddE ls u i<2^n
 |0,_=>Ou n
 |i+1,h=>by
  unfold KF.oddE
  have ih:=xb hl u i (by omega)
  split
  ·obtain⟨l,e⟩:∃ l,ls[i]?=some l:=⟨_,MN (by omega)⟩
   obtain⟨l1,l2⟩:=hl l (MP e)
   rw[KF.lkA_is e]
   exact Oz ih (Oz (Oa (by decide) l1) (Oa (by decide) l2))
  ·exact ih
theorem BF{x y n:Nat}(hx:x<2^n)(hy:y<2^n)(h:∀ a,a<n->x.testBit a=y.testBit a):x=y:=NF fun a=>by
 by_cases c:a<n
 ·exact h a c
 ·rw[ON (Nk hx (NZ (by decide) (by omega))),ON (Nk hy (NZ (by decide) (by omega)))]
noncomputable def phi(F:Nat->Bool)(x:Nat):Nat->Bool
 |0=>false
 |n+1=>phi F x n ^^ (F n&&x.testBit n)
theorem uk(F:Nat->Bool)(x y:Nat):∀ n,phi F (x^^^y) n=(phi F x n ^^ phi F y n)
 |0=>rfl
 |n+1=>by
  unfold phi
  rw[uk F x y n,NT]
  cases phi F x n<;>cases phi F y n<;>cases F n<;>cases x.testBit n<;>cases y.testBit n<;>rfl
theorem uj(F:Nat->Bool):∀ n,phi F 0 n=false
 |0=>rfl
 |n+1=>by unfold phi;rw[uj F n,NK,O9];rfl
theorem zV(F:Nat->Bool)(a:Nat):∀ n,phi F (2^a) n=(F a&&decide (a<n))
 |0=>by unfold phi;rw[decide_eq_false (NV _),O9]
 |n+1=>by
  unfold phi
  rw[zV F a n,Nu]
  by_cases c:a=n
  ·subst c
   rw[decide_eq_false (Nz _),decide_eq_true rfl,decide_eq_true (NR _),O9,OM]
  ·rw[decide_eq_false c,O9,OX]
   congr 1
   exact decide_eq_decide.mpr (by omega)
theorem Fu{n:Nat}{ls:List KF.Lk}(hl:∀ l∈ls,l.1<n/\l.2.1<n)(F:Nat->Bool)(u t:Nat)(hF:∀ (i:Nat) (l:KF.Lk),i≠t->ls[i]?=some l->F l.1=F l.2.1){lt:KF.Lk}(ht:ls[t]?=some lt)(hu:u.testBit t=true):∀ i,i<=ls.length->phi F (KF.oddE ls u i) n=(decide (t<i)&&(F lt.1 ^^ F lt.2.1))
 |0,_=>by
  show phi F 0 n=_
  rw[uj,decide_eq_false (NV _),Om]
 |i+1,h=>by
  have ih:=Fu hl F u t hF ht hu i (by omega)
  obtain⟨l,e⟩:∃ l,ls[i]?=some l:=⟨_,MN (by omega)⟩
  obtain⟨l1,l2⟩:=hl l (MP e)
  have pe:phi F (KF.endX l) n=(F l.1 ^^ F l.2.1):=by
   unfold KF.endX
   rw[uk,zV,zV,decide_eq_true l1,decide_eq_true l2,QB,QB]
  unfold KF.oddE
  by_cases c:t=i
  ·subst c
   rw[if_pos hu,uk,ih,KF.lkA_is e,pe]
   rw[ht]at e
   cases e
   rw[decide_eq_false (Nz _),decide_eq_true (NR _),Om,OM,N0]
  ·have dd:decide (t<i+1)=decide (t<i):=decide_eq_decide.mpr (by omega)
   rw[dd]
   split
   ·rw[uk,ih,KF.lkA_is e,pe,hF i l (fun z=>c z.symm) e,P6,OX]
   ·exact ih
theorem Cw{m:Nat}{es:En}{ts:List (List Nat)}{S Pl:Nat->Bool}(w:bO m es ts)(h:B7 es S Pl){r:List Nat}(c:CR (fol es ts) (2*es.length) r):par S r=false:=by
 obtain⟨x,l,rfl,ch⟩:=c.ch
 have hx:=c.lt x (M3 ..)
 have:=vz w h ch hx (fun t ht=>c.lt t (MY _ ht)) hx
 rw[uz]at this
 rw[aH]
 have e2:par S [x]=S (x/2):=by rw[aH];exact OX _
 rw[e2,P6]at this
 rw[PB]
 exact this
theorem Dl.last{m N:Nat}{es:En}{ts rs:List (List Nat)}{ls:List KF.Lk}(D:Dl N rs ls)(w:bO m es ts)(hN:es.length=N)(cr:∀ r∈rs,CR (fol es ts) (2*es.length) r)(F:Nat->Bool){t:Nat}{lt:KF.Lk}(ht:ls[t]?=some lt)(hF:∀ (i:Nat) (l:KF.Lk),i≠t->ls[i]?=some l->F l.1=F l.2.1):F lt.1=F lt.2.1:=by
 have tN:t<N:=by rw[← D.ln];exact(MO.mp ht).1
 obtain⟨e,he⟩:∃ e,es[t]?=some e:=⟨_,MN (by omega)⟩
 obtain⟨_,_,ne⟩:=w.ends e (MP he)
 obtain⟨S,hS⟩:∃ S:Nat->Bool,B7 es S (fun p=>decide (p=e.1)):=⟨fun s=>match es[s]? with | some x=>(decide (x.1=e.1) ^^ decide (x.2=e.1)) | none=>false,fun s x hx=>by show(match es[s]? with | some x=>(decide (x.1=e.1) ^^ decide (x.2=e.1)) | none=>false)=_;rw[hx]⟩
 have hu:(MK S N).testBit t=true:=by
  rw[bg,decide_eq_true tN,hS t e he]
  show(true&&(decide (e.1=e.1) ^^ decide (e.2=e.1)))=true
  rw[decide_eq_true rfl,decide_eq_false (Ne.symm ne)]
  rfl
 have z0:KF.oddE ls (MK S N) N=0:=by
  refine BF (n:=rs.length) (by rw[← D.ln];exact xb D.rooms _ _ (MT _)) (Ou _) fun a ha=>?_
  have hR:=MN ha
  rw[D.oddN _ hR,NK,← Cw w hS (cr _ (MP hR))]
  refine c9 fun d hd=>?_
  have:=D.lt _ (MP hR) d hd
  rw[bg,decide_eq_true (show d/2<N by omega),N0]
 have:=Fu D.rooms F (MK S N) t hF ht hu N (by rw[D.ln];exact MT _)
 rw[z0,uj,decide_eq_true tN,N0]at this
 cases a:F lt.1<;>cases b:F lt.2.1<;>rw[a,b]at this
 ·cases this
 ·cases this
theorem tZ{l:List Nat}(nd:l.Nodup){G:Nat->Bool}(h:∀ s∈l,G (nxt l s)=G s):∀{s s':Nat},s∈l->s'∈l->G s=G s':=by
 have key:∀ j,(hj:j<l.length)->G l[j]=G (l[0]'(by omega)):=fun j=>by
  induction j with
  |zero=>intro _;rfl
  |succ j ih =>
   intro hj
   have hm:l[j]'(by omega)∈l:=List.getElem_mem _
   have e:=hO hm
   rw[nd.idxOf_getElem j (by omega),Oc hj,MN hj]at e
   rw[Ni e,h _ hm]
   exact ih (by omega)
 intro s s' h1 h2
 obtain⟨j,hj,rfl⟩:=Oi h1
 obtain⟨i,hi,rfl⟩:=Oi h2
 rw[key j hj,key i hi]
theorem Dl.whole{m N:Nat}{es:En}{ts rs:List (List Nat)}{ls:List KF.Lk}(D:Dl N rs ls)(g:Gr m es ts)(hN:es.length=N)(cr:∀ r∈rs,CR (fol es ts) (2*es.length) r)(F:Nat->Bool)(hF:∀ (i:Nat) (l:KF.Lk),ls[i]?=some l->F l.1=F l.2.1){a b:Nat}(ha:a<rs.length)(hb:b<rs.length):F a=F b:=by
 have w:=g.w
 obtain⟨G,hG⟩:∃ G:Nat->Bool,∀ s l,ls[s]?=some l->G s=F l.1:=⟨fun s=>match ls[s]? with | some l=>F l.1 | none=>false,fun s l h=>by show(match ls[s]? with | some l=>F l.1 | none=>false)=_;rw[h]⟩
 have c:∀{a:Nat}{r:List Nat}{d:Nat},rs[a]?=some r->d∈r->F a=G (d/2):=fun{a r d} h1 h2=>by
  have hd:=D.lt r (MP h1) d h2
  obtain⟨l,hl⟩:∃ l,ls[d/2]?=some l:=⟨_,MN (by rw[D.ln];omega)⟩
  obtain⟨⟨r1,x1,x2⟩,⟨r2,y1,y2⟩⟩:=D.sd _ l hl
  rw[hG _ l hl]
  by_cases z:d%2=0
  ·rw[show 2*(d/2)=d by omega]at x2
   rw[lU D.nd h1 x1 h2 x2]
  ·rw[show 2*(d/2)+1=d by omega]at y2
   rw[lU D.nd h1 y1 h2 y2,hF _ l hl]
 have fl:∀ d,d<2*N->G (fol es ts d/2)=G (d/2):=fun d hd=>by
  obtain⟨r,hr,hdr⟩:=NO.mp (D.all d hd)
  obtain⟨a,ha⟩:=Ot hr
  rw[← c ha hdr,← c ha ((cr r hr).closed d hdr)]
 have row:∀{p:Nat}{l:List Nat},ts[p]?=some l->∀ s∈l,G (nxt l s)=G s:=fun{p l} hl s hs=>by
  obtain⟨e,he,hp⟩:=(w.mem p l hl s).mp hs
  have sl:=(MO.mp he).1
  obtain⟨d,d1,d2,d3⟩:∃ d,d/2=s/\hd es d=p/\d<2*es.length:=by
   rcases hp with z | z
   ·refine⟨2*s+1,by omega,?_,by omega⟩
    unfold hd
    rw[show(2*s+1)/2=s by omega,he]
    show(if(2*s+1)%2=0 then e.2 else e.1)=p
    rw[if_neg (by omega)]
    exact z
   ·refine⟨2*s,by omega,?_,by omega⟩
    unfold hd
    rw[show 2*s/2=s by omega,he]
    show(if 2*s%2=0 then e.2 else e.1)=p
    rw[if_pos (by omega)]
    exact z
  obtain⟨l',_,f1,_,_,_,_,_,_,f2,_⟩:=w.foll d3
  rw[d2,hl]at f1
  cases f1
  rw[← d1,← f2]
  exact fl d (by omega)
 obtain⟨r0,hr0⟩:∃ r,rs[a]?=some r:=⟨_,MN ha⟩
 obtain⟨r1,hr1⟩:∃ r,rs[b]?=some r:=⟨_,MN hb⟩
 obtain⟨d0,hd0⟩:=(cr r0 (MP hr0)).ne
 obtain⟨d1,hd1⟩:=(cr r1 (MP hr1)).ne
 rw[c hr0 hd0,c hr1 hd1]
 have l0:=D.lt _ (MP hr0) _ hd0
 have l1:=D.lt _ (MP hr1) _ hd1
 obtain⟨e0,k0,_,_,_,p0,q0,m0⟩:=w.at (d:=d0) (by omega)
 obtain⟨e1,k1,_,_,_,p1,q1,m1⟩:=w.at (d:=d1) (by omega)
 have:=g.conn (fun p=>∃ l s,ts[p]?=some l/\s∈l/\G s=G (d0/2)) (fun e he=>by
  obtain⟨t,ht⟩:=Ot he
  obtain⟨b1,b2,_⟩:=w.ends e he
  obtain⟨u,hu⟩:∃ l,ts[e.1]?=some l:=⟨_,MN (by rw[w.len];exact b1)⟩
  obtain⟨v,hv⟩:∃ l,ts[e.2]?=some l:=⟨_,MN (by rw[w.len];exact b2)⟩
  have tu:=(w.mem _ u hu t).mpr ⟨e,ht,.inl rfl⟩
  have tv:=(w.mem _ v hv t).mpr ⟨e,ht,.inr rfl⟩
  constructor
  ·rintro⟨l,s,x1,x2,x3⟩
   rw[hu]at x1
   cases x1
   exact⟨v,t,hv,tv,(tZ (w.nd _ _ hu) (row hu) tu x2).trans x3⟩
  ·rintro⟨l,s,x1,x2,x3⟩
   rw[hv]at x1
   cases x1
   exact⟨u,t,hu,tu,(tZ (w.nd _ _ hv) (row hv) tv x2).trans x3⟩) (hd es d0) (hd es d1) p0 p1 ⟨k0,_,q0,m0,rfl⟩
 obtain⟨l,s,x1,x2,x3⟩:=this
 rw[q1]at x1
 cases x1
 rw[tZ (w.nd _ _ q1) (row q1) m1 x2]
 exact x3.symm
theorem er_at{ls:List KF.Lk}{t i:Nat}{l:KF.Lk}(hi:i≠t)(h:ls[i]?=some l):∃ j:Nat,(ls.eraseIdx t)[j]?=some l:=by
 by_cases c:i<t
 ·exact⟨i,by rw[Pg c];exact h⟩
 ·refine⟨i-1,?_⟩
  rw[Ph (by omega),show i-1+1=i by omega]
  exact h
theorem Dl.conn{m N:Nat}{es:En}{ts rs:List (List Nat)}{ls:List KF.Lk}(D:Dl N rs ls)(g:Gr m es ts)(hN:es.length=N)(cr:∀ r∈rs,CR (fol es ts) (2*es.length) r){t:Nat}(ht:t<N):KF.Conn rs.length (ls.eraseIdx t):=fun b hb=>by
 obtain⟨F,hF⟩:∃ F:Nat->Bool,∀ b,F b=true↔∃ x,KF.Wk (ls.eraseIdx t) 0 b x:=⟨fun b=>@decide (∃ x,KF.Wk (ls.eraseIdx t) 0 b x) (Qz _),fun b=>by rw[@decide_eq_true_iff _ (Qz _)]⟩
 have cl:∀(i:Nat)(l:KF.Lk),i≠t->ls[i]?=some l->F l.1=F l.2.1:=fun i l hi hl=>by
  obtain⟨j,hj⟩:=er_at hi hl
  have h12:F l.1=true->F l.2.1=true:=fun z=>by
   obtain⟨x,hx⟩:=(hF _).mp z
   have:=KF.Wk.step hx hj (.inl rfl)
   have e:KF.bey l l.1=l.2.1:=by unfold KF.bey;rw[if_pos rfl]
   rw[e]at this
   exact(hF _).mpr ⟨_,this⟩
  have h21:F l.2.1=true->F l.1=true:=fun z=>by
   obtain⟨x,hx⟩:=(hF _).mp z
   have:=KF.Wk.step hx hj (.inr rfl)
   by_cases q:l.2.1=l.1
   ·rw[← q];exact z
   ·have e:KF.bey l l.2.1=l.1:=by unfold KF.bey;rw[if_neg q]
    rw[e]at this
    exact(hF _).mpr ⟨_,this⟩
  cases p:F l.1 with
  |true=>rw[h12 p]
  |false =>
   cases q:F l.2.1 with
   |true=>rw[h21 q]at p;cases p
   |false=>rfl
 obtain⟨lt,hlt⟩:∃ l,ls[t]?=some l:=⟨_,MN (by rw[D.ln];exact ht)⟩
 have cl2:∀(i:Nat)(l:KF.Lk),ls[i]?=some l->F l.1=F l.2.1:=fun i l hl=>by
  by_cases c:i=t
  ·subst c
   exact D.last g.w hN cr F hl cl
  ·exact cl i l c hl
 have:=D.whole g hN cr F cl2 (a:=0) (b:=b) (by omega) hb
 rw[(hF 0).mpr ⟨0,.nil 0⟩]at this
 exact(hF b).mp this.symm
theorem er_lk{ls:List KF.Lk}{t i:Nat}:KF.lkA (ls.eraseIdx t) i=if i<t then KF.lkA ls i else KF.lkA ls (i+1):=by
 unfold KF.lkA
 rw[Ny]
 by_cases c:i<t
 ·rw[Pg c,if_pos c,Ny]
 ·rw[Ph (by omega),if_neg c,Ny]
structure Ins(t:Nat)(u u':Nat):Prop where
 lo:∀ j,j<t->u'.testBit j=u.testBit j
 hi:∀ j,t<=j->u'.testBit j=u.testBit (j+1)
theorem Ins.odd1{ls:List KF.Lk}{t u u':Nat}(h:Ins t u u'):∀ i,i<=t->KF.oddE (ls.eraseIdx t) u' i=KF.oddE ls u i/\KF.cstU (ls.eraseIdx t) u' i=KF.cstU ls u i
 |0,_=>⟨rfl,rfl⟩
 |i+1,hi=>by
  obtain⟨a,b⟩:=h.odd1 (ls:=ls) i (by omega)
  unfold KF.oddE KF.cstU
  rw[a,b,h.lo i (by omega),er_lk,if_pos (show i<t by omega)]
  exact⟨rfl,rfl⟩
theorem Ins.odd2{ls:List KF.Lk}{t u u':Nat}(h:Ins t u u'):∀ i,KF.oddE ls u (t+i+1)=KF.oddE (ls.eraseIdx t) u' (t+i)^^^(if u.testBit t=true then KF.endX (KF.lkA ls t) else 0)/\KF.cstU ls u (t+i+1)=KF.cstU (ls.eraseIdx t) u' (t+i)+(if u.testBit t=true then(KF.lkA ls t).2.2 else 0)
 |0=>by
  obtain⟨a,b⟩:=h.odd1 (ls:=ls) t (MT _)
  show KF.oddE ls u (t+1)=KF.oddE (ls.eraseIdx t) u' t^^^_/\KF.cstU ls u (t+1)=KF.cstU (ls.eraseIdx t) u' t+_
  rw[a,b]
  show(if u.testBit t=true then KF.oddE ls u t^^^KF.endX (KF.lkA ls t) else KF.oddE ls u t)=_/\(if u.testBit t=true then KF.cstU ls u t+(KF.lkA ls t).2.2 else KF.cstU ls u t)=_
  split
  ·exact⟨rfl,rfl⟩
  ·exact⟨(OP _).symm,(Qa _).symm⟩
 |i+1=>by
  obtain⟨a,b⟩:=h.odd2 (ls:=ls) i
  have e1:KF.oddE ls u (t+(i+1)+1)=if u.testBit (t+i+1)=true then KF.oddE ls u (t+i+1)^^^KF.endX (KF.lkA ls (t+i+1)) else KF.oddE ls u (t+i+1):=rfl
  have e2:KF.cstU ls u (t+(i+1)+1)=if u.testBit (t+i+1)=true then KF.cstU ls u (t+i+1)+(KF.lkA ls (t+i+1)).2.2 else KF.cstU ls u (t+i+1):=rfl
  have e3:KF.oddE (ls.eraseIdx t) u' (t+(i+1))=if u'.testBit (t+i)=true then KF.oddE (ls.eraseIdx t) u' (t+i)^^^KF.endX (KF.lkA (ls.eraseIdx t) (t+i)) else KF.oddE (ls.eraseIdx t) u' (t+i):=rfl
  have e4:KF.cstU (ls.eraseIdx t) u' (t+(i+1))=if u'.testBit (t+i)=true then KF.cstU (ls.eraseIdx t) u' (t+i)+(KF.lkA (ls.eraseIdx t) (t+i)).2.2 else KF.cstU (ls.eraseIdx t) u' (t+i):=rfl
  rw[e1,e2,e3,e4,a,b,h.hi (t+i) (by omega),er_lk,if_neg (show ¬ t+i<t by omega)]
  by_cases c:u.testBit (t+i+1)=true
  ·rw[if_pos c,if_pos c,if_pos c,if_pos c]
   refine⟨?_,by omega⟩
   rw[NP,NP]
   congr 1
   exact Pa _ _
  ·rw[if_neg c,if_neg c,if_neg c,if_neg c]
   exact⟨rfl,rfl⟩
theorem Ins.all{ls:List KF.Lk}{t u u' N:Nat}(h:Ins t u u')(hN:ls.length=N)(ht:t<N):KF.oddE ls u N=KF.oddE (ls.eraseIdx t) u' (ls.eraseIdx t).length^^^(if u.testBit t=true then KF.endX (KF.lkA ls t) else 0)/\KF.cstU ls u N=KF.cstU (ls.eraseIdx t) u' (ls.eraseIdx t).length+(if u.testBit t=true then(KF.lkA ls t).2.2 else 0):=by
 obtain⟨i,hi⟩:∃ i,N=t+i+1:=⟨N-t-1,by omega⟩
 have el:(ls.eraseIdx t).length=t+i:=by rw[Qm (by omega)];omega
 rw[el,hi]
 exact h.odd2 i
noncomputable def AllEv(rs:List (List Nat))(S M:Nat):Prop:=∀(k:Nat)(r:List Nat),rs[k]?=some r->parR S r=parR M r
theorem oJ(S:Nat):∀ r:List Nat,par (fun t=>S.testBit t) r=decide (parR S r=1)
 |[]=>rfl
 |d::r=>by
  have ih:=oJ S r
  rw[aH,ih]
  unfold parR
  rw[EX,My]
  cases S.testBit (d/2) with
  |true =>
   rw[if_pos rfl,QA]
   by_cases c:sm r (fun d=>bt S (d/2))%2=1
   ·rw[decide_eq_true c,decide_eq_false (by omega)];rfl
   ·rw[decide_eq_false c,decide_eq_true (by omega)];rfl
  |false =>
   rw[if_neg Nn,OM,Nat.zero_add]
theorem Iu{m:Nat}{es:En}{ts:List (List Nat)}{ks:Kn}{rs:List (List Nat)}{S:Nat}(g:Gr m es ts)(ro:bS (fol es ts) (2*es.length) (2*es.length) rs)(ev:AllEv rs S (MK (aO ks) es.length)):∃ Pl:Nat->Bool,Pl 0=false/\B7 es (fun t=>S.testBit t ^^ aO ks t) Pl:=by
 obtain⟨Pl,h⟩:=g.cut (fun t=>S.testBit t ^^ aO ks t) fun r hr=>by
  obtain⟨d,hd⟩:=hr.ne
  obtain⟨q,q1,q2⟩:=NO.mp (ro.all d (hr.lt d hd))
  have cq:=(ro.ring q q1).cr
  have pm:r.Perm q:=(N9 hr.nd cq.nd).mpr fun t=>⟨hr.same cq hd q2 t,cq.same hr q2 hd t⟩
  rw[uy _ pm,ux]
  have e1:par (aO ks) q=par (fun t=>(MK (aO ks) es.length).testBit t) q:=c9 fun x hx=>by
   have:=cq.lt x hx
   rw[bg,decide_eq_true (by omega),N0]
  obtain⟨k,hk⟩:=Ot q1
  rw[e1,oJ,oJ,ev k q hk]
  exact P6 _
 refine⟨fun p=>Pl p ^^ Pl 0,P6 _,fun t e he=>?_⟩
 rw[h t e he]
 show _=((Pl e.1 ^^ Pl 0) ^^ (Pl e.2 ^^ Pl 0))
 cases Pl e.1<;>cases Pl e.2<;>cases Pl 0<;>rfl
noncomputable def UB(es:En)(ks:Kn)(L t:Nat):Bool:=match es[t]? with | some e=>(L.testBit e.1 ^^ L.testBit e.2 ^^ aO ks t) | none=>false
theorem HV{es:En}{ks:Kn}{L t:Nat}{e:Nat×Nat}(h:es[t]?=some e):UB es ks L t=(L.testBit e.1 ^^ L.testBit e.2 ^^ aO ks t):=by unfold UB;rw[h]
noncomputable def oc(st:Nat->Int)(t:Nat)(S:Nat->Bool):Nat->Int
 |0=>0
 |i+1=>if i≠t/\S i=true then oc st t S i+st i else oc st t S i
theorem uK{st:Nat->Int}{t:Nat}{S S':Nat->Bool}:∀{N:Nat},(∀ i,i<N->S i=S' i)->oc st t S N=oc st t S' N
 |0,_=>rfl
 |i+1,h=>by unfold oc;rw[uK fun j hj=>h j (by omega),h i (by omega)]
theorem Hm(ls:List KF.Lk)(t u:Nat):∀ i,KF.cstU ls u i=oc (fun k=>(KF.lkA ls k).2.2) t (fun k=>u.testBit k) i+(if t<i/\u.testBit t=true then(KF.lkA ls t).2.2 else 0)
 |0=>by
  show(0:Int)=0+_
  rw[if_neg fun z=>NV _ z.1]
  rfl
 |i+1=>by
  unfold KF.cstU oc
  rw[Hm ls t u i]
  by_cases c:i=t
  ·subst c
   rw[if_neg (fun z:i≠i/\_=>z.1 rfl),if_neg (fun z:i<i/\_=>Nz _ z.1)]
   by_cases b:u.testBit i=true
   ·rw[if_pos b,if_pos ⟨NR _,b⟩];omega
   ·rw[if_neg b,if_neg (fun z=>b z.2)]
  ·have e:(t<i+1/\u.testBit t=true)↔(t<i/\u.testBit t=true):=⟨fun z=>⟨by omega,z.2⟩,fun z=>⟨by omega,z.2⟩⟩
   by_cases b:u.testBit i=true
   ·have p1:i≠t/\u.testBit i=true:=⟨c,b⟩
    rw[if_pos b,if_pos p1]
    by_cases q:t<i/\u.testBit t=true
    ·rw[if_pos q,if_pos (e.mpr q)];omega
    ·rw[if_neg q,if_neg (fun z=>q (e.mp z))];omega
   ·rw[if_neg b,if_neg (fun z:i≠t/\u.testBit i=true=>b z.2)]
    by_cases q:t<i/\u.testBit t=true
    ·rw[if_pos q,if_pos (e.mpr q)]
    ·rw[if_neg q,if_neg (fun z=>q (e.mp z))]
noncomputable def skp(t j:Nat):Nat:=if j<t then j else j+1
theorem ins_mk{N t:Nat}(ht:t<N)(S:Nat->Bool):Ins t (MK S N) (MK (fun j=>S (skp t j)) (N-1)) where
 lo j hj:=by
  rw[bg,bg]
  show(decide (j<N-1)&&S (if j<t then j else j+1))=_
  rw[if_pos hj,decide_eq_true (show j<N-1 by omega),decide_eq_true (show j<N by omega)]
 hi j hj:=by
  rw[bg,bg]
  show(decide (j<N-1)&&S (if j<t then j else j+1))=_
  rw[if_neg (by omega)]
  congr 1
  exact decide_eq_decide.mpr (by omega)
theorem xZ:∀ PL:List (Nat×Nat),(KF.flat PL).length%2=0
 |[]=>rfl
 |p::PL=>by
  rw[KF.flat_cons,Nv,Nv]
  have:=xZ PL
  omega
structure Oth(m:Nat)(es:En)(ts:List (List Nat))(ks:Kn)(rs:List (List Nat))(ls:List KF.Lk):Prop where
 g:Gr m es ts
 ro:bS (fol es ts) (2*es.length) (2*es.length) rs
 d:Dl es.length rs ls
 kl:ks.length=es.length
 ws:∀(i:Nat)(l:KF.Lk),ls[i]?=some l->∃ k,ks[i]?=some k/\l.2.2=k.2/\0<=k.2/\k.2<=10^(30:Int).toNat
 m2:2<=m
 few:es.length<=14
theorem Oth.cr{m:Nat}{es:En}{ts:List (List Nat)}{ks:Kn}{rs:List (List Nat)}{ls:List KF.Lk}(O:Oth m es ts ks rs ls):∀ r∈rs,CR (fol es ts) (2*es.length) r:=fun r hr=>(O.ro.ring r hr).cr
noncomputable def mkO(ks:Kn)(N:Nat)(ls:List KF.Lk)(t:Nat)(b:Bool):Nat:=KF.oddE ls (MK (aO ks) N) N^^^(if b=true then KF.endX (KF.lkA ls t) else 0)
theorem Ie{a b c:Nat}(h:a=b^^^c):b=a^^^c:=by rw[h,NP,OQ,OP]
theorem Oth.lay{m:Nat}{es:En}{ts:List (List Nat)}{ks:Kn}{rs:List (List Nat)}{ls:List KF.Lk}(O:Oth m es ts ks rs ls)(L:Nat):KF.oddE ls (MK (UB es ks L) es.length) es.length=KF.oddE ls (MK (aO ks) es.length) es.length:=by
 refine BF (n:=rs.length) (by rw[← O.d.ln];exact xb O.d.rooms _ _ (MT _)) (by rw[← O.d.ln];exact xb O.d.rooms _ _ (MT _)) fun a ha=>?_
 have hR:=MN ha
 rw[O.d.oddN _ hR,O.d.oddN _ hR]
 have lt:=O.d.lt _ (MP hR)
 obtain⟨S,hS⟩:∃ S:Nat->Bool,B7 es S (fun p=>L.testBit p):=⟨fun s=>match es[s]? with | some x=>(L.testBit x.1 ^^ L.testBit x.2) | none=>false,fun s x hx=>by show(match es[s]? with | some x=>(L.testBit x.1 ^^ L.testBit x.2) | none=>false)=_;rw[hx]⟩
 have ce:=Cw O.g.w hS (O.cr _ (MP hR))
 have:par (fun t=>(MK (UB es ks L) es.length).testBit t) rs[a]=par (fun t=>S t ^^ (MK (aO ks) es.length).testBit t) rs[a]:=c9 fun d hd=>by
  have:=lt d hd
  obtain⟨e,he⟩:∃ e,es[d/2]?=some e:=⟨_,MN (by omega)⟩
  rw[bg,bg,decide_eq_true (show d/2<es.length by omega),N0,N0,HV he,hS _ e he]
 rw[this,ux,ce,OM]
theorem Oth.down{m:Nat}{es:En}{ts:List (List Nat)}{ks:Kn}{rs:List (List Nat)}{ls:List KF.Lk}(O:Oth m es ts ks rs ls){t:Nat}(ht:t<es.length)(L:Nat):KF.oddE (ls.eraseIdx t) (MK (fun j=>UB es ks L (skp t j)) (es.length-1)) (ls.eraseIdx t).length=mkO ks es.length ls t (UB es ks L t)/\KF.cstU (ls.eraseIdx t) (MK (fun j=>UB es ks L (skp t j)) (es.length-1)) (ls.eraseIdx t).length=oc (fun k=>(KF.lkA ls k).2.2) t (UB es ks L) es.length:=by
 have bt:(MK (UB es ks L) es.length).testBit t=UB es ks L t:=by rw[bg,decide_eq_true ht,N0]
 obtain⟨a,b⟩:=(ins_mk ht (UB es ks L)).all (ls:=ls) O.d.ln ht
 rw[bt]at a b
 rw[O.lay L]at a
 refine⟨Ie a,?_⟩
 have:=Hm ls t (MK (UB es ks L) es.length) es.length
 rw[bt]at this
 have oe:oc (fun k=>(KF.lkA ls k).2.2) t (fun k=>(MK (UB es ks L) es.length).testBit k) es.length=oc (fun k=>(KF.lkA ls k).2.2) t (UB es ks L) es.length:=uK fun i hi=>by rw[bg,decide_eq_true hi,N0]
 rw[oe]at this
 by_cases c:UB es ks L t=true
 ·rw[if_pos c]at b
  rw[if_pos ⟨ht,c⟩]at this
  omega
 ·rw[if_neg c]at b
  rw[if_neg (fun z=>c z.2)]at this
  omega
theorem Oth.lok{m:Nat}{es:En}{ts:List (List Nat)}{ks:Kn}{rs:List (List Nat)}{ls:List KF.Lk}(O:Oth m es ts ks rs ls)(t:Nat)(hn:rs.length<=40):KF.Lok rs.length (ls.eraseIdx t) where
 n1:=hn
 l9:=by
  have h1:=List.length_eraseIdx_le ls t
  have h2:=O.d.ln
  have h3:=O.few
  omega
 sm l hl:=O.d.rooms l (Qu hl)
 w0 l hl:=by
  obtain⟨i,hi⟩:=Ot (Qu hl)
  obtain⟨k,_,e,a,b⟩:=O.ws i l hi
  rw[e]
  refine⟨a,Int.le_trans b ?_⟩
  unfold KF.MM
  decide
theorem Oth.ways{m:Nat}{es:En}{ts:List (List Nat)}{ks:Kn}{rs:List (List Nat)}{ls:List KF.Lk}(O:Oth m es ts ks rs ls){t:Nat}(ht:t<es.length)(b:Bool):∃ L,UB es ks L t=b:=by
 obtain⟨e,he⟩:∃ e,es[t]?=some e:=⟨_,MN ht⟩
 obtain⟨_,_,ne⟩:=O.g.w.ends e (MP he)
 by_cases c:aO ks t=b
 ·exact⟨0,by rw[HV he,NK,NK,c];cases b<;>rfl⟩
 ·refine⟨2^e.1,?_⟩
  rw[HV he,Nu,Nu,decide_eq_true rfl,decide_eq_false ne]
  cases p:aO ks t<;>cases b<;>first | rfl | (rw[p]at c;exact absurd rfl c)
theorem Oth.even{m:Nat}{es:En}{ts:List (List Nat)}{ks:Kn}{rs:List (List Nat)}{ls:List KF.Lk}(O:Oth m es ts ks rs ls){t:Nat}(ht:t<es.length)(hn:rs.length<=40)(b:Bool):mkO ks es.length ls t b<2^rs.length/\(KF.bl (mkO ks es.length ls t b)).length%2=0:=by
 obtain⟨L,hL⟩:=O.ways ht b
 have ok:=O.lok t hn
 have hw:∀ l∈ls.eraseIdx t,0<=l.2.2:=fun l hl=>(ok.w0 l hl).1
 have hc:=O.d.conn O.g rfl O.cr ht
 obtain⟨h1,c,⟨PL,p1,_⟩,_⟩:=KF.low_join (KF.far_met hw hc) (MK (fun j=>UB es ks L (skp t j)) (es.length-1)) (fun l hl=>⟨(ok.sm l hl).1,(ok.sm l hl).2,KF.far_link hw hl⟩) (ls.eraseIdx t).length (MT _)
 rw[(O.down ht L).1,hL]at h1 p1
 refine⟨h1,?_⟩
 rw[← p1.length_eq]
 exact xZ PL
theorem Jo{n:Nat}{ls:List KF.Lk}(ok:KF.Lok n ls)(hc:KF.Conn n ls){mk u:Nat}{cost:Int}(ho:KF.Opt (KF.farD ls) (KF.bl mk) cost)(e:KF.oddE ls u ls.length=mk):cost<=KF.cstU ls u ls.length:=by
 have hw:∀ l∈ls,0<=l.2.2:=fun l hl=>(ok.w0 l hl).1
 obtain⟨_,c,h1,h2⟩:=KF.low_join (KF.far_met hw hc) u (fun l hl=>⟨(ok.sm l hl).1,(ok.sm l hl).2,KF.far_link hw hl⟩) ls.length (MT _)
 rw[e]at h1
 have:=ho.2 c h1
 omega
structure Lst(m:Nat)(es:En)(ks:Kn)(st:Nat->Int)(t:Nat)(b:Bool)(c:Int):Prop where
 ex:∃ L,L<2^m/\L.testBit 0=false/\UB es ks L t=b/\oc st t (UB es ks L) es.length=c
 lo:∀ L,UB es ks L t=b->c<=oc st t (UB es ks L) es.length
theorem Oth.least{m:Nat}{es:En}{ts:List (List Nat)}{ks:Kn}{rs:List (List Nat)}{ls:List KF.Lk}(O:Oth m es ts ks rs ls){t:Nat}(ht:t<es.length)(hn:rs.length<=40){b:Bool}{cost:Int}{u:Nat}(hu:u<2^(ls.eraseIdx t).length)(ho:KF.Opt (KF.farD (ls.eraseIdx t)) (KF.bl (mkO ks es.length ls t b)) cost)(e:KF.oddE (ls.eraseIdx t) u (ls.eraseIdx t).length=mkO ks es.length ls t b)(le:KF.cstU (ls.eraseIdx t) u (ls.eraseIdx t).length<=cost):Lst m es ks (fun k=>(KF.lkA ls k).2.2) t b cost:=by
 have hc:=O.d.conn O.g rfl O.cr ht
 have ok:=O.lok t hn
 have lo:∀ L,UB es ks L t=b->cost<=oc (fun k=>(KF.lkA ls k).2.2) t (UB es ks L) es.length:=fun L hL=>by
  obtain⟨h1,h2⟩:=O.down ht L
  rw[← h2]
  exact Jo ok hc ho (by rw[h1,hL])
 have el:(ls.eraseIdx t).length=es.length-1:=by rw[Qm (by rw[O.d.ln];exact ht),O.d.ln]
 obtain⟨S,s1,s2,s3⟩:∃ S:Nat->Bool,(∀ j,j<t->S j=u.testBit j)/\S t=b/\∀ j,t<j->S j=u.testBit (j-1):=⟨fun j=>if j<t then u.testBit j else if j=t then b else u.testBit (j-1),fun j hj=>if_pos hj,by show(if t<t then u.testBit t else if t=t then b else u.testBit (t-1))=b;rw[if_neg (Nz _),if_pos rfl],fun j hj=>by show(if j<t then u.testBit j else if j=t then b else u.testBit (j-1))=_;rw[if_neg (by omega),if_neg (by omega)]⟩
 have uh:∀ j,es.length-1<=j->u.testBit j=false:=fun j hj=>ON (Nk hu (by rw[el];exact NZ (by decide) hj))
 have I:Ins t (MK S es.length) u:=⟨fun j hj=>by rw[bg,s1 j hj,decide_eq_true (show j<es.length by omega),N0],fun j hj=>by
  rw[bg,s3 (j+1) (by omega),Nat.add_sub_cancel]
  by_cases c:j+1<es.length
  ·rw[decide_eq_true c,N0]
  ·rw[decide_eq_false c,Om]
   exact uh j (by omega)⟩
 have bt:(MK S es.length).testBit t=b:=by rw[bg,decide_eq_true ht,N0,s2]
 obtain⟨a1,a2⟩:=I.all (ls:=ls) O.d.ln ht
 rw[bt,e]at a1
 have a3:KF.oddE ls (MK S es.length) es.length=KF.oddE ls (MK (aO ks) es.length) es.length:=by
  rw[a1]
  unfold mkO
  rw[NP,OQ,OP]
 have ev:AllEv rs (MK S es.length) (MK (aO ks) es.length):=fun k r hr=>by
  have q1:=O.d.oddN (MK S es.length) hr
  have q2:=O.d.oddN (MK (aO ks) es.length) hr
  rw[a3,q2,oJ,oJ]at q1
  have l1:parR (MK S es.length) r<2:=Nat.mod_lt _ (by decide)
  have l2:parR (MK (aO ks) es.length) r<2:=Nat.mod_lt _ (by decide)
  have:=decide_eq_decide.mp q1
  omega
 obtain⟨Pl,p0,cb⟩:=Iu O.g O.ro ev
 have ub:∀ i,i<es.length->UB es ks (MK Pl m) i=S i:=fun i hi=>by
  obtain⟨x,hx⟩:∃ e,es[i]?=some e:=⟨_,MN hi⟩
  obtain⟨e1,e2,_⟩:=O.g.w.ends x (MP hx)
  have q:=cb i x hx
  have q':((MK S es.length).testBit i ^^ aO ks i)=(Pl x.1 ^^ Pl x.2):=q
  rw[bg,decide_eq_true hi,N0]at q'
  rw[HV hx,bg,bg,decide_eq_true e1,decide_eq_true e2,N0,N0,← q']
  cases S i<;>cases aO ks i<;>rfl
 have ubt:UB es ks (MK Pl m) t=b:=by rw[ub t ht,s2]
 have co:oc (fun k=>(KF.lkA ls k).2.2) t (UB es ks (MK Pl m)) es.length=KF.cstU (ls.eraseIdx t) u (ls.eraseIdx t).length:=by
  rw[uK (S':=fun k=>(MK S es.length).testBit k) fun i hi=>by rw[ub i hi,bg,decide_eq_true hi,N0]]
  have:=Hm ls t (MK S es.length) es.length
  rw[bt]at this a2
  by_cases c:b=true
  ·rw[if_pos ⟨ht,c⟩]at this
   rw[if_pos c]at a2
   omega
  ·rw[if_neg (fun z=>c z.2)]at this
   rw[if_neg c]at a2
   omega
 refine⟨⟨MK Pl m,?_,?_,ubt,Int.le_antisymm (by rw[co];exact le) (lo _ ubt)⟩,lo⟩
 ·refine OD _ fun i hi=>?_
  rw[bg,decide_eq_false (by omega),Om]
 ·rw[bg,p0,O9]
end K8
namespace K8
open PySem L2
local macro_rules | `(tactic| walk_at "cc") => `(tactic| first | exact ⟨by decide, by decide⟩ | (show (0 : Int) < _; decide) | (show (0 : Int) < _; omega) | (show (0 : Int) ≤ _; omega) | exact ⟨by decide, by decide, by decide⟩ | exact ⟨by omega, by omega, by decide⟩ | exact Or.inl ⟨by decide, by decide⟩ | exact Or.inl ⟨by omega, by omega⟩)
local macro_rules | `(tactic| walk_at "rd") => `(tactic| repeat (first | refine ⟨_, rfl, ?_⟩ | refine ⟨_, _, rfl, rfl, ?_⟩ | refine ⟨rfl, ?_⟩ | (refine ⟨?cc, ?_⟩; (case cc => walk_at "cc"))))
theorem at30{u v x:V}:atI [u,v,x] 0=some u:=rfl
theorem at31{u v x:V}:atI [u,v,x] 1=some v:=rfl
theorem Dl.marks{N:Nat}{rs:List (List Nat)}{ls:List KF.Lk}(D:Dl N rs ls)(M:Nat):MK (oddU M rs) rs.length=KF.oddE ls M N:=by
 refine BF (n:=rs.length) (OD _ fun i hi=>by rw[bg,decide_eq_false (by omega),Om]) (by rw[← D.ln];exact xb D.rooms _ _ (MT _)) fun a ha=>?_
 have hR:=MN ha
 rw[D.oddN _ hR,oJ,bg,decide_eq_true ha,N0]
 unfold oddU
 rw[Ny,hR]
 rfl
theorem LG{st st':Nat->Int}{t:Nat}{S:Nat->Bool}:∀{N:Nat},(∀ i,i<N->st i=st' i)->oc st t S N=oc st' t S N
 |0,_=>rfl
 |i+1,h=>by unfold oc;rw[LG fun j hj=>h j (by omega),h i (by omega)]
noncomputable def stK(ks:Kn)(t:Nat):Int:=match ks[t]? with | some k=>k.2 | none=>0
theorem EJ{ks:Kn}{t:Nat}{k:Int×Int}(h:ks[t]?=some k):stK ks t=k.2:=by unfold stK;rw[h]
theorem Lst.st{m:Nat}{es:En}{ks:Kn}{st st':Nat->Int}{t:Nat}{b:Bool}{c:Int}(h:Lst m es ks st t b c)(e:∀ i,i<es.length->st i=st' i):Lst m es ks st' t b c:=by
 obtain⟨⟨L,a1,a2,a3,a4⟩,lo⟩:=h
 exact⟨⟨L,a1,a2,a3,by rw[← LG e];exact a4⟩,fun L hL=>by rw[← LG e];exact lo L hL⟩
theorem LX{α:Type}{R:Hp->V->α->Prop}{H:Hp}{ys:List V}{xs:List α}(h:LsAt R H ys xs)(t:Nat):LsAt R H (ys.eraseIdx t) (xs.eraseIdx t):=by
 refine⟨by rw[List.length_eraseIdx,List.length_eraseIdx,h.1],fun i x e=>?_⟩
 by_cases c:i<t
 ·rw[Pg c]at e ⊢
  exact h.2 i x e
 ·rw[Ph (by omega)]at e ⊢
  exact h.2 (i+1) x e
theorem lnk_ls{H:Hp}{ks:Kn}{rs:List (List Nat)}{zs:List V}{N:Nat}(h:Es H zs N ks rs):∃ ls:List KF.Lk,LsAt KF.LkAt H zs ls/\ls.length=N/\∀(i:Nat)(l:KF.Lk),ls[i]?=some l->((∃ r,rs[l.1]?=some r/\2*i∈r)/\∃ r,rs[l.2.1]?=some r/\2*i+1∈r)/\∃ k,ks[i]?=some k/\l.2.2=k.2:=by
 have go:∀ n,n<=N->∃ ls:List KF.Lk,LsAt KF.LkAt H (zs.take n) ls/\ls.length=n/\∀(i:Nat)(l:KF.Lk),ls[i]?=some l->((∃ r,rs[l.1]?=some r/\2*i∈r)/\∃ r,rs[l.2.1]?=some r/\2*i+1∈r)/\∃ k,ks[i]?=some k/\l.2.2=k.2:=fun n=>by
  induction n with
  |zero=>exact fun _=>⟨[],LsAt.nil,rfl,fun i l z=>by simp at z⟩
  |succ n ih =>
   intro hn
   obtain⟨ls,a,b,c⟩:=ih (by omega)
   obtain⟨k,t,x,y,r,r',h0,h1,h2,h3,h4,h5,h6⟩:=h.2 n (by omega)
   refine⟨ls++[(x,y,k.2)],?_,by rw[MX,b];rfl,fun i l e=>?_⟩
   ·rw[NA,h1]
    exact a.snoc ⟨t,rfl,h2⟩
   ·by_cases q:i<n
    ·rw[MU (by omega)]at e
     exact c i l e
    ·have:i=n:=by
      have:=(MO.mp e).1
      rw[MX,b]at this
      have:i<n+1:=this
      omega
     subst this
     rw[MR (by omega),b,Nl]at e
     cases e
     exact⟨⟨⟨r,h3,h4⟩,⟨r',h5,h6⟩⟩,k,h0,rfl⟩
 obtain⟨ls,a,b,c⟩:=go N (MT _)
 rw[← h.1,ND]at a
 exact⟨ls,a,b,c⟩
theorem zD{m:Nat}{es:En}{ts:List (List Nat)}{rs:List (List Nat)}(g:Gr m es ts)(ro:bS (fol es ts) (2*es.length) (2*es.length) rs):m+rs.length=es.length+2:=by
 obtain⟨rs',p,c⟩:=g.part
 rw[← p.same ro.part]
 exact c
structure TxtO(mg:Str->Option Value)(TR:Addr):Prop extends TxtZ mg where
 modd:∃ t,mg "MOST_ODD" = some (.int 12 t)
 n_max:mg "max" = none
 g_TooRough:mg "TooRough" = some (.ref TR)
noncomputable def rgh(ks:Kn)(n:Nat)(rs:List (List Nat)):Nat:=(KF.bl (MK (oddU (MK (aO ks) n) rs) rs.length)).length
noncomputable def y9(TR PL PS WC:Addr):Sp:=fun vs H Q E=>∃(p:Addr)(es:En)(ks:Kn)(rs:List (List Nat)),vs = [.ref p]/\WebR PL PS WC H p es ks rs/\ks.length=es.length/\es.length<=30/\rs.length<=14/\(∀ r∈rs,r.length<=900)/\(12<rgh ks es.length rs->∀ H',Same H H'->E (.ref TR) none H')/\(rgh ks es.length rs<=12->∀ H',Same H H'->Q (.int ((MK (oddU (MK (aO ks) es.length) rs) rs.length:Nat):Int)) H')
noncomputable def EM(TR TT PL PS WC:Addr):Sp:=fun vs H Q E=>∃(p:Addr)(t m:Nat)(es:En)(ts rs:List (List Nat))(ks:Kn)(S:Addr->Prop),vs = [.ref p,.int (t:Int)]/\WebF S PL PS WC H p m es ts rs ks/\Gr m es ts/\ks.length=es.length/\(∀ k∈ks,k.1=0∨k.1=1)/\(∀ k∈ks,0<=k.2/\k.2<=10^(30:Int).toNat)/\es.length<=14/\t<es.length/\Tb KF.lqF KF.lpF TT H/\(12<rgh ks es.length rs->∀ H',Same H H'->E (.ref TR) none H')/\(rgh ks es.length rs<=12 ->
 ∀(r:Addr)(c0 c1:Int)(H':Hp),KF.SmT H H'->Tb KF.lqF KF.lpF TT H'->H' r=some (.tup [.int c0,.int c1])->Lst m es ks (stK ks) t (aO ks t) c0->Lst m es ks (stK ks) t (!aO ks t) c1->Q (.ref r) H')
noncomputable def rO(s:Int):Sp:=fun vs H Q _=>∃ x:Int,vs = [.int x]/\Q (.int (if s*x > 0 then s*x else 0)) H
theorem uq{X:Cx}{x:Str}{n:Int}{pos:Pos}(hg:Gl X x)(hm:∃ t,X.mg x=some (.int n t)) (hd:(x == ("__debug__" : Str))=false:=by decide):PE X (.Name x pos) (tC (.int n)):=by
 obtain⟨t,h⟩:=hm
 exact Fy hg h ⟨t,rfl⟩ hd
theorem Ks{mk n:Nat}(h:mk<2^n):(KF.bl mk).length<=n:=jz (KF.bl_nd mk) fun x hx=>KF.bl_lt h hx
section
variable{P:Program}{w:World}{K:MQ}{mg:Str->Option Value}{base:Heap}
theorem oy:av ["web","marks"] ["web"] (ah dI):=⟨rfl,rfl,rfl,by decide +kernel,rfl,by decide +kernel,by decide +kernel⟩
theorem IQ{f f1 f2 TR PL PS WC:Addr}{fd d1 d2:FuncData} (F:Fun K "marks_of" "marks_of" dI f fd) (T:TxtO mg TR) (ecR:ExC K TR) (G_odd_rounds:Cal P w K mg base 3 "odd_rounds" ["web"] (ER PL PS WC) f1 d1) (G_ones:Cal P w K mg base 2 "ones" ["mask"] KF.spOnes f2 d2):FnOk P w K mg base (CXd P w) 4 f fd ["web"] (y9 TR PL PS WC):=by
 refine F.okD oy (fun vs H Q E h=>?_) (fun cdv A outer s H vs Q E hr h=>?_)
 ·obtain⟨p,es,ks,rs,rfl,_⟩:=h
  rfl
 obtain⟨p,es,ks,rs,rfl,wb,kl,few,h14,h900,kx,kk⟩:=h
 refine⟨_,(af (ar (i:=1) oy.nd rfl (Or.inl rfl) (az G_odd_rounds.ok (hr.mono (by decide)) rfl G_odd_rounds.mg G_odd_rounds.kp G_odd_rounds.bn .nil aR (ae (pv 0) aj)))
   (af (bL (aC C9 (az G_ones.ok (hr.mono (by decide)) rfl G_ones.mg G_ones.kp G_ones.bn .nil aR (ae (pv 1) aj)) (uq rfl T.modd) (aI _)) (ak (Fi ecR T.g_TooRough rfl lE rfl rfl (ae Fx aj))) aP)
   (ak (aE (pv 1))))),?_⟩
 refine⟨_,rfl,p,es,ks,rs,rfl,wb,kl,few,by omega,h900,fun H1 s1=>?_⟩
 have kk':=fun z H2 (s2:Same H1 H2)=>kk z H2 (s1.trans s2)
 have kx':=fun z H2 (s2:Same H1 H2)=>kx z H2 (s1.trans s2)
 have lt:MK (oddU (MK (aO ks) es.length) rs) rs.length<2^rs.length:=OD _ fun i hi=>by rw[bg,decide_eq_false (by omega),Om]
 unfold rgh at kk' kx'
 generalize MK (oddU (MK (aO ks) es.length) rs) rs.length=mk at lt kk' kx' ⊢
 refine⟨_,rfl,mk,rfl,Nk lt (NZ (by decide) (by omega)),fun H2 s2=>?_⟩
 refine⟨_,_,rfl,rfl,_,rfl,ite2 (fun z=>⟨(by decide:1<=sizeLine),kx' (by have:=of_decide_eq_true z;omega) _ s2⟩) (fun z=>?_)⟩
 exact⟨_,rfl,kk' (by have z':¬ ((12:Int)<((KF.bl mk).length:Int)):=fun y=>z (decide_eq_true y);omega) _ s2⟩
theorem tS:av ["pull"] ["pull"] (ah b7):=⟨rfl,rfl,rfl,by decide +kernel,rfl,by decide +kernel,by decide +kernel⟩
theorem ok_pa{f TR:Addr}{fd:FuncData} (F:Fun K "paid_alike" "paid_alike" b7 f fd) (T:TxtO mg TR):FnOk P w K mg base CX0 1 f fd ["pull"] (rO (-1)):=by
 refine F.ok tS (fun vs H Q E h=>?_) (fun cdv A outer s H vs Q E hr h=>?_)
 ·obtain⟨x,rfl,_⟩:=h
  rfl
 obtain⟨x,rfl,kk⟩:=h
 refine⟨_,(ak (aE (aM (yw rfl) (by rfl) T.n_max Kr (ae ai (ae (pe_un JW (pv 0)) aj))))),?_⟩
 refine⟨_,rfl,_,rfl,_,_,rfl,?_⟩
 rw[show(-1:Int)*x = -x by omega]at kk
 exact kk
theorem qV:av ["pull"] ["pull"] (ah bK):=⟨rfl,rfl,rfl,by decide +kernel,rfl,by decide +kernel,by decide +kernel⟩
theorem ok_pu{f TR:Addr}{fd:FuncData} (F:Fun K "paid_unlike" "paid_unlike" bK f fd) (T:TxtO mg TR):FnOk P w K mg base CX0 1 f fd ["pull"] (rO 1):=by
 refine F.ok qV (fun vs H Q E h=>?_) (fun cdv A outer s H vs Q E hr h=>?_)
 ·obtain⟨x,rfl,_⟩:=h
  rfl
 obtain⟨x,rfl,kk⟩:=h
 refine⟨_,(ak (aE (aM (yw rfl) (by rfl) T.n_max Kr (ae ai (ae (pv 0) aj))))),?_⟩
 refine⟨_,rfl,_,_,rfl,?_⟩
 rw[Qj]at kk
 exact kk
theorem jG:av ["web","number","marks","many","links","link","pleased","displeased"] ["web","number"] (ah rR):=⟨rfl,rfl,rfl,by decide +kernel,rfl,by decide +kernel,by decide +kernel⟩
theorem Lp{TR TT f f1 f2 f3 g0 g1 PL PS WC:Addr}{fd d1 d2 d3 e0 e1:FuncData} (F:Fun K "roof" "roof" rR f fd) (T:TxtO mg TR) (cw:CW K WC) (TL:CT K PL) (TS:CT K PS) (G_marks_of:CalD P w K mg base 4 "marks_of" ["web"] (y9 TR PL PS WC) f1 d1) (G_links_of:Cal P w K mg base 1 "links_of" ["web"] (za PL PS WC) f2 d2) (G_paired:Cal P w K mg base 11 "paired" ["many","links","marks"] (KF.spPaired TT) f3 d3)
  (u0:Met P w K mg base 1 PL "wish" ["self"] (ku false) g0 e0) (u1:Met P w K mg base 1 PS "wish" ["self"] (ku true) g1 e1):FnOk P w K mg base (CXd P w) 12 f fd ["web","number"] (EM TR TT PL PS WC):=by
 refine F.okD jG (fun vs H Q E h=>?_) (fun cdv A outer s H vs Q E hr h=>?_)
 ·obtain⟨p,t,m,es,ts,rs,ks,S,rfl,_⟩:=h
  rfl
 obtain⟨p,t,m,es,ts,rs,ks,S,rfl,wf,g,kl,kin,kb,few,ht,tb,kx,kq⟩:=h
 have CL0:=TL.cl
 have CL1:=TS.cl
 obtain⟨dx,fs,q1,xs,hp,wg,_,l2,hq1,tk⟩:=id wf
 obtain⟨q5,z5,l5,hq5,r5⟩:=wg.rounds
 obtain⟨q6,z6,l6,hq6,r6⟩:=wg.sides
 have ro:=wg.part
 have cnt:=zD g ro
 have m2:=g.two (by omega)
 have rs8:rs.length<=14:=by omega
 have rs1:1<=rs.length:=by
  obtain⟨r,hr',_⟩:=NO.mp (ro.all 0 (by omega))
  have:=Oy hr'
  omega
 have r900:∀ r∈rs,r.length<=900:=fun r hr=>by
  have:=jz (ro.ring r hr).nd (ro.ring r hr).lt
  omega
 have z5l:z5.length=rs.length:=r5.1
 refine⟨_,(af (ar (i:=2) jG.nd rfl (Or.inl rfl) (kJ G_marks_of.ok (hr.mono (by decide)) rfl G_marks_of.mg G_marks_of.kp G_marks_of.bn .nil lE rfl (ae (pv 0) aj)))
   (af (ar (i:=3) jG.nd rfl (Or.inl rfl) (aM aF (by rfl) T.n_len cN (ae (bQ (pv 0) rfl) aj)))
   (af (ar (i:=4) jG.nd rfl (Or.inl rfl) (az G_links_of.ok (hr.mono (by decide)) rfl G_links_of.mg G_links_of.kp G_links_of.bn .nil aR (ae (pv 0) aj)))
   (af (ar (i:=5) jG.nd rfl (Or.inl rfl) (kK NB PySem.F.slot_list_pop PySem.F.type_list_pop Jc (pv 4) (ae (pv 1) aj)))
   (af (ar (i:=6) jG.nd rfl (Or.inl rfl) (aD aS (az G_paired.ok (hr.mono (by decide)) rfl G_paired.mg G_paired.kp G_paired.bn .nil aR (ae (pv 3) (ae (pv 4) (ae (pv 2) aj)))) ai (fun _ _=>rfl)))
   (af (ar (i:=7) jG.nd rfl (Or.inl rfl) (aD aS (az G_paired.ok (hr.mono (by decide)) rfl G_paired.mg G_paired.kp G_paired.bn .nil aR (ae (pv 3) (ae (pv 4) (ae (aB oK (aB oK (pv 2) (aB de ai (aD aS (pv 5) ai (fun _ _=>rfl)))) (aB de ai (aD aS (pv 5) ai (fun _ _=>rfl)))) aj)))) ai (fun _ _=>rfl)))
   (ak (aE (kG (aC js (Ll (gg (aD aA (bQ (pv 0) rfl) (pv 1) (fun _ _=>rfl)) CL0 u0.me u0.ok (hr.mono (by decide)) u0.bn .nil aR) (gg (aD aA (bQ (pv 0) rfl) (pv 1) (fun _ _=>rfl)) CL1 u1.me u1.ok (hr.mono (by decide)) u1.bn .nil aR)) ai (aI _)) (bP (ae (pv 6) (ae (pv 7) aj))) (bP (ae (pv 7) (ae (pv 6) aj)))))))))))),?_⟩
 refine⟨_,rfl,p,es,ks,rs,rfl,wf.r,kl,by omega,by omega,r900,kx,fun h12 H1 s1=>?_⟩
 have kk:=kq h12
 refine⟨_,rfl,p,WC,dx,fs,_,rfl,s1 _ _ hp,cw.cl,cw.n4,l5,q5,z5,rfl,.inl (SqL.of (s1 _ _ hq5)),?_⟩
 rw[z5l]
 refine⟨_,rfl,p,es,ks,rs,rfl,⟨dx,fs,q1,xs,q6,z6,s1 _ _ hp,l2,s1 _ _ hq1,tk.mono s1,l6,s1 _ _ hq6,r6.mono s1⟩,kl,by omega,fun q zs H2 s2 nq hq lk=>?_⟩
 obtain⟨ls,lsa,ln,lp⟩:=lnk_ls lk
 have O:Oth m es ts ks rs ls:=⟨g,ro,⟨ro.nd,ro.all,fun r hr=>(ro.ring r hr).lt,fun r hr=>(ro.ring r hr).nd,ln,fun i l hl=>(lp i l hl).1⟩,kl,fun i l hl=>by
  obtain⟨k,h1,h2⟩:=(lp i l hl).2
  exact⟨k,h1,h2,kb k (MP h1)⟩,m2,few⟩
 have st:∀ i,i<es.length->(KF.lkA ls i).2.2=stK ks i:=fun i hi=>by
  obtain⟨l,hl⟩:∃ l,ls[i]?=some l:=⟨_,MN (by omega)⟩
  obtain⟨k,h1,h2⟩:=(lp i l hl).2
  rw[KF.lkA_is hl,EJ h1,h2]
 have mkE:=O.d.marks (MK (aO ks) es.length)
 have mk0:MK (oddU (MK (aO ks) es.length) rs) rs.length=mkO ks es.length ls t false:=by rw[mkE];exact(OP _).symm
 obtain⟨l,hl⟩:∃ l,ls[t]?=some l:=⟨_,MN (by omega)⟩
 obtain⟨y,hy,tt,rfl,htt⟩:=lsa.2 t l hl
 have zl:zs.length=es.length:=by rw[lsa.1,ln]
 have hlr:=O.d.rooms l (MP hl)
 have qt:tt≠q:=fun z=>by rw[z,hq]at htt;cases htt
 refine⟨_,rfl,.inl ⟨rfl,_,SqL.of hq⟩,_,rfl,q,zs,_,t,_,rfl,rfl,hq,by omega,by omega,(A4 (pD (show t<zs.length by omega))).1,hy,?_⟩
 have hq3:(upd H2 q (.lst (zs.eraseIdx t))) q=some (.lst (zs.eraseIdx t)):=ag
 have s3:Same H1 (upd H2 q (.lst (zs.eraseIdx t))):=aW s2 nq _
 have ln3:KF.LnAt (upd H2 q (.lst (zs.eraseIdx t))) (.ref q) (ls.eraseIdx t):=⟨q,_,rfl,hq3,(LX lsa t).imp fun v x ⟨a,b,c⟩=>⟨a,b,by rw[ao (fun z=>by rw[z,hq]at c;cases c)];exact c⟩⟩
 have tt3:(upd H2 q (.lst (zs.eraseIdx t))) tt=some (.tup [.int (l.1:Int),.int (l.2.1:Int),.int l.2.2]):=by rw[ao qt];exact htt
 generalize upd H2 q (.lst (zs.eraseIdx t))=H3 at hq3 s3 ln3 tt3
 have s13:=s1.trans s3
 have tb3:=KF.tb_same tb s13
 have lok:=O.lok t (by omega)
 have conn:=O.d.conn O.g rfl O.cr ht
 obtain⟨e1,e2⟩:=O.even ht (by omega) false
 obtain⟨e3,e4⟩:=O.even ht (by omega) true
 have f1:=Ks e1
 have f3:=Ks e3
 rw[mk0]
 refine⟨_,rfl,_,rfl,_,rfl,.ref q,rs.length,_,ls.eraseIdx t,rfl,ln3,lok,rs1,conn,e1,e2,by omega,tb3,fun r4 c4 u4 H4 sm4 tb4 hr4 hu4 od4 op4 le4=>?_⟩
 have L0:=(O.least ht (by omega) hu4 op4 od4 le4).st st
 refine⟨r4,_,0,_,rfl,rfl,SqT.of hr4,at0,?_⟩
 have ex:Builtin.bitXor (Builtin.bitXor ((mkO ks es.length ls t false:Nat):Int) (1*2^((l.1:Nat):Int).toNat)) (1*2^((l.2.1:Nat):Int).toNat)=((mkO ks es.length ls t true:Nat):Int):=by
  rw[shlN,shlN,xorN,xorN]
  congr 1
  unfold mkO
  rw[if_neg Nn,if_pos rfl,OP,NP,KF.lkA_is hl]
  rfl
 have tt4:=sm4.tup tt3
 refine⟨_,rfl,_,rfl,_,rfl,_,rfl,tt,_,0,_,rfl,rfl,SqT.of tt4,at30,_,_,rfl,rfl,⟨by omega,by omega,by decide⟩,_,_,rfl,rfl,_,rfl,tt,_,1,_,rfl,rfl,SqT.of tt4,at31,_,_,rfl,rfl,⟨by omega,by omega,by decide⟩,_,_,rfl,rfl,?_⟩
 dsimp only
 rw[ex]
 refine⟨.ref q,rs.length,_,ls.eraseIdx t,rfl,ln3.smT sm4,lok,rs1,conn,e3,e4,by omega,tb4,fun r5 c5 u5 H5 sm5 tb5 hr5 hu5 od5 op5 le5=>?_⟩
 have L1:=(O.least ht (by omega) hu5 op5 od5 le5).st st
 refine⟨r5,_,0,_,rfl,rfl,SqT.of hr5,at0,?_⟩
 have sm35:=sm4.trans sm5
 have ins:∀{b C d:Addr}{fs:List (Str×V)},H b=some (.ins C d fs)->H5 b=some (.ins C d fs):=fun z=>sm35 _ _ (fun ps y=>by cases y) (s13 _ _ z)
 have hq15:=sm35.lst (s13 _ _ hq1)
 obtain⟨e,he⟩:∃ e,es[t]?=some e:=⟨_,MN ht⟩
 obtain⟨k,hk⟩:∃ k,ks[t]?=some k:=⟨_,MN (by omega)⟩
 obtain⟨p',dx',x1,x2⟩:=tk.2 t e k he hk
 have x5:=ins x2
 have pu:=Fg hk
 have smA:KF.SmT H H5:=(KF.SmT.of s13).trans sm35
 by_cases c:k.1=1
 ·rw[decide_eq_true c]at pu x5
  refine .inr ⟨_,rfl,p,WC,dx,fs,_,rfl,ins hp,cw.cl,cw.n2,l2,_,rfl,q1,xs,_,_,rfl,rfl,SqL.of hq15,aJ x1,p',dx',_,rfl,x5,yX _ _ _ (by decide +kernel) (by decide +kernel) (by decide +kernel),p',rfl,rfl,_,rfl,iteF ?_⟩
  refine⟨_,rfl,_,rfl,(by show 2<=sizeLine;decide),fun r6 hr6=>?_⟩
  have s6:=aq hr6 (.tup [.int c5,.int c4])
  exact kk r6 c5 c4 _ (smA.trans (.of s6)) (KF.tb_same tb5 s6) ag (by rw[pu];exact L1) (by rw[pu];exact L0)
 ·rw[decide_eq_false c]at pu x5
  refine .inl ⟨_,rfl,p,WC,dx,fs,_,rfl,ins hp,cw.cl,cw.n2,l2,_,rfl,q1,xs,_,_,rfl,rfl,SqL.of hq15,aJ x1,p',dx',_,rfl,x5,yX _ _ _ (by decide +kernel) (by decide +kernel) (by decide +kernel),p',rfl,rfl,_,rfl,iteT ?_⟩
  refine⟨_,rfl,_,rfl,(by show 2<=sizeLine;decide),fun r6 hr6=>?_⟩
  have s6:=aq hr6 (.tup [.int c4,.int c5])
  exact kk r6 c4 c5 _ (smA.trans (.of s6)) (KF.tb_same tb5 s6) ag (by rw[pu];exact L0) (by rw[pu];exact L1)
end
end K8
namespace K8
open PySem L2
local macro_rules | `(tactic| walk_at "cc") => `(tactic| first | exact ⟨by decide, by decide⟩ | (show (0 : Int) < _; decide) | (show (0 : Int) < _; omega) | (show (0 : Int) ≤ _; omega) | exact ⟨by decide, by decide, by decide⟩ | exact ⟨by omega, by omega, by decide⟩ | exact Or.inl ⟨by decide, by decide⟩ | exact Or.inl ⟨by omega, by omega⟩)
local macro_rules | `(tactic| walk_at "rd") => `(tactic| repeat (first | refine ⟨_, rfl, ?_⟩ | refine ⟨_, _, rfl, rfl, ?_⟩ | refine ⟨rfl, ?_⟩ | (refine ⟨?cc, ?_⟩; (case cc => walk_at "cc"))))
noncomputable def UN(es:En)(ks:Kn)(L t:Nat):Bool:=match es[t]? with | some e=>(L.testBit e.1 ^^ L.testBit e.2 ^^ aO ks t) | none=>false
theorem t5{ks:Kn}{t:Nat}{k:Int×Int}(h:ks[t]?=some k):aO ks t=decide (k.1=1):=by unfold aO;rw[h]
noncomputable def wS(es:En)(ks:Kn)(L:Nat):Nat->Int
 |0=>0
 |i+1=>if UN es ks L i=true then wS es ks L i+stg ks i else wS es ks L i
noncomputable def wT(es:En)(ks:Kn)(L:Nat):Int:=wS es ks L es.length
noncomputable def sgN(es:En)(n L:Nat):Bool:=match es[n]? with | some e=>(L.testBit e.1 ^^ L.testBit e.2) | none=>false
theorem JZ{es:En}{n L:Nat}{e:Nat×Nat}(h:es[n]?=some e):sgN es n L=(L.testBit e.1 ^^ L.testBit e.2):=by unfold sgN;rw[h]
theorem Kv{es:En}{ks:Kn}{n L:Nat}(hn:n<es.length):UB es ks L n=(sgN es n L ^^ aO ks n):=by
 obtain⟨e,he⟩:∃ e,es[n]?=some e:=⟨_,MN hn⟩
 rw[HV he,JZ he]
structure Way(m:Nat)(es:En)(ks:Kn)(t:Nat)(b:Bool)(v:Int):Prop where
 ex:∃ L,L<2^m/\sgN es t L=b/\wT es ks L=v
 lo:∀ L,L<2^m->sgN es t L=b->v<=wT es ks L
theorem wS_oc{es:En}{ks:Kn}{L t:Nat}:∀ N:Nat,wS es ks L N=oc (stK ks) t (UB es ks L) N+if t<N/\UB es ks L t=true then stK ks t else 0
 |0=>by rw[if_neg (fun z=>NV _ z.1)];rfl
 |i+1=>by
  have ih:=wS_oc (es:=es) (ks:=ks) (L:=L) (t:=t) i
  show(if UB es ks L i=true then wS es ks L i+stK ks i else wS es ks L i)=(if i≠t/\UB es ks L i=true then oc (stK ks) t (UB es ks L) i+stK ks i else oc (stK ks) t (UB es ks L) i)+_
  by_cases hi:i=t
  ·subst hi
   rw[if_neg (fun z=>Nz _ z.1),Qa]at ih
   rw[if_neg (show ¬ (i≠i/\UB es ks L i=true) from fun z=>z.1 rfl),ih]
   by_cases u:UB es ks L i=true
   ·rw[if_pos u,if_pos ⟨NR _,u⟩]
   ·rw[if_neg u,if_neg (fun z=>u z.2),Qa]
  ·have c1:(t<i+1/\UB es ks L t=true)↔(t<i/\UB es ks L t=true):=⟨fun z=>⟨by omega,z.2⟩,fun z=>⟨by omega,z.2⟩⟩
   rw[ih]
   simp only[c1]
   by_cases u:UB es ks L i=true
   ·rw[if_pos u,if_pos (show i≠t/\UB es ks L i=true from⟨hi,u⟩)]
    exact Int.add_right_comm _ _ _
   ·rw[if_neg u,if_neg (show ¬ (i≠t/\UB es ks L i=true) from fun z=>u z.2)]
theorem Lst.way{m:Nat}{es:En}{ks:Kn}{t:Nat}{b:Bool}{c:Int}(ht:t<es.length)(h:Lst m es ks (stK ks) t (b ^^ aO ks t) c):Way m es ks t b (c+if(b ^^ aO ks t)=true then stK ks t else 0):=by
 obtain⟨⟨L,a1,a2,a3,a4⟩,lo⟩:=h
 have sb:∀ L,UB es ks L t=(b ^^ aO ks t)↔sgN es t L=b:=fun L=>by
  rw[Kv ht]
  cases sgN es t L<;>cases b<;>cases aO ks t<;>decide
 have ww:∀ L,sgN es t L=b->wT es ks L=oc (stK ks) t (UB es ks L) es.length+if(b ^^ aO ks t)=true then stK ks t else 0:=fun L hL=>by
  have e1:=(sb L).mpr hL
  show wS es ks L es.length=_
  rw[wS_oc (t:=t),e1]
  simp only[ht,true_and]
 refine⟨⟨L,a1,(sb L).mp a3,by rw[ww L ((sb L).mp a3),a4]⟩,fun L' _ hL=>?_⟩
 have:=lo L' ((sb L').mpr hL)
 rw[ww L' hL]
 omega
theorem Ip{H H':Hp}{z:List V}{n:Nat}{rs:List (List Nat)}(h:gP H z n rs)(s:KF.SmT H H'):gP H' z n rs:=⟨h.1,fun i hi=>by
 obtain⟨t,a,b,r,r',y1,y2,y3⟩:=h.2 i hi
 exact⟨t,a,b,r,r',y1,s.tup y2,y3⟩⟩
theorem EY{H H':Hp}(s:KF.SmT H H'){xs:List V}{ts:List (List Nat)}(h:cL H xs ts):cL H' xs ts:=⟨h.1,fun i l e=>by
 obtain⟨p,a,b⟩:=h.2 i l e
 exact⟨p,a,s.lst b⟩⟩
theorem WebF.smT{S:Addr->Prop}{PL PS WC p:Addr}{H H':Hp}{m:Nat}{es:En}{ts rs:List (List Nat)}{ks:Kn}(h:WebF S PL PS WC H p m es ts rs ks)(s:KF.SmT H H'):WebF S PL PS WC H' p m es ts rs ks:=by
 obtain⟨dx,fs,q1,xs,a,⟨g1,⟨q,z,b1,b0,b2,b3⟩,⟨q',z',c1,c2,c3⟩,⟨q2,z2,d1,d2,d3⟩,pt⟩,n,c,d,e⟩:=h
 have si:∀{b C d:Addr}{fs:List (Str×V)},H b=some (.ins C d fs)->H' b=some (.ins C d fs):=fun z=>s _ _ (fun ps y=>by cases y) z
 refine⟨dx,fs,q1,xs,si a,⟨g1,⟨q,z,b1,b0,s.lst b2,b3.1,fun j l y=>?_⟩,⟨q',z',c1,s.lst c2,EY s c3⟩,⟨q2,z2,d1,s.lst d2,Ip d3 s⟩,pt⟩,n,c,s.lst d,e.1,fun i x k q r=>?_⟩
 ·obtain⟨r,y1,y2,y3⟩:=b3.2 j l y
  exact⟨r,y1,y2,s.lst y3⟩
 ·obtain⟨p',dx',u1,u2⟩:=e.2 i x k q r
  exact⟨p',dx',u1,si u2⟩
noncomputable def setV(a b:Int):List V:=if a<b then[.int 0,.int (b-a)] else if b<a then[.int 1,.int (a-b)] else[.non,.int 0]
noncomputable def ky(C:Addr)(push:Bool):Sp:=fun vs H Q _=>∃ p a b s,vs = [.ref p]/\TieAt H p C a b s/\Q (.int (if push=true then -s else s)) H
noncomputable def B5(TT PL PS WC:Addr)(H:Hp)(p:Addr)(m:Nat)(es:En)(ks:Kn)(rs:List (List Nat)):Prop:=∃(ts:List (List Nat))(S:Addr->Prop),WebF S PL PS WC H p m es ts rs ks/\Gr m es ts/\ks.length=es.length/\(∀ k∈ks,k.1=0∨k.1=1)/\(∀ k∈ks,0<=k.2/\k.2<=10^(30:Int).toNat)/\es.length<=14/\0<es.length/\Tb KF.lqF KF.lpF TT H
noncomputable def RX(TR TT:Addr)(ks:Kn)(es:En)(rs:List (List Nat))(H:Hp)(E:XK):Prop:=12<rgh ks es.length rs->∀ H',KF.SmT H H'->Tb KF.lqF KF.lpF TT H'->E (.ref TR) none H'
noncomputable def EW(TR TT PL PS WC:Addr):Sp:=fun vs H Q E=>∃(p:Addr)(t m:Nat)(es:En)(ks:Kn)(rs:List (List Nat)),vs = [.ref p,.int (t:Int)]/\B5 TT PL PS WC H p m es ks rs/\t<es.length/\RX TR TT ks es rs H E/\(rgh ks es.length rs<=12 ->
 ∀(r:Addr)(v0 v1:Int)(H':Hp),KF.SmT H H'->Tb KF.lqF KF.lpF TT H'->H' r=some (.tup [.int v0,.int v1])->Way m es ks t false v0->Way m es ks t true v1->Q (.ref r) H')
noncomputable def qG(H:Hp)(zs:List V)(m:Nat)(es:En)(ks:Kn)(n:Nat):Prop:=zs.length=n/\∀ t,t<n->∃ r v0 v1,zs[t]?=some (.ref r)/\H r=some (.tup [.int v0,.int v1])/\Way m es ks t false v0/\Way m es ks t true v1
theorem qG.smT{H H':Hp}{zs:List V}{m:Nat}{es:En}{ks:Kn}{n:Nat}(h:qG H zs m es ks n)(s:KF.SmT H H'):qG H' zs m es ks n:=⟨h.1,fun t ht=>by
 obtain⟨r,v0,v1,a,b,c⟩:=h.2 t ht
 exact⟨r,v0,v1,a,s.tup b,c⟩⟩
noncomputable def spBW(TR TT PL PS WC:Addr):Sp:=fun vs H Q E=>∃(p:Addr)(m:Nat)(es:En)(ks:Kn)(rs:List (List Nat)),vs = [.ref p]/\B5 TT PL PS WC H p m es ks rs/\RX TR TT ks es rs H E/\(rgh ks es.length rs<=12 ->
 ∀(q:Addr)(zs:List V)(H':Hp),KF.SmT H H'->Tb KF.lqF KF.lpF TT H'->H' q=some (.lst zs)->qG H' zs m es ks es.length->Q (.ref q) H')
noncomputable def oo:Sp:=fun vs H Q _=>∃(r:Addr)(a b:Int),vs = [.ref r]/\H r=some (.tup [.int a,.int b])/\∀ t,H t=none->Q (.ref t) (upd H t (.tup (setV a b)))
noncomputable def qH(H:Hp)(zs:List V)(m:Nat)(es:En)(ks:Kn)(n:Nat):Prop:=zs.length=n/\∀ t,t<n->∃ r v0 v1,zs[t]?=some (.ref r)/\H r=some (.tup (setV v0 v1))/\Way m es ks t false v0/\Way m es ks t true v1
theorem qH.mono{H H':Hp}{zs:List V}{m:Nat}{es:En}{ks:Kn}{n:Nat}(h:qH H zs m es ks n)(s:Same H H'):qH H' zs m es ks n:=⟨h.1,fun t ht=>by
 obtain⟨r,v0,v1,a,b,c⟩:=h.2 t ht
 exact⟨r,v0,v1,a,s _ _ b,c⟩⟩
noncomputable def EL(TR TT PL PS WC:Addr):Sp:=fun vs H Q E=>∃(p:Addr)(m:Nat)(es:En)(ks:Kn)(rs:List (List Nat)),vs = [.ref p]/\B5 TT PL PS WC H p m es ks rs/\RX TR TT ks es rs H E/\(rgh ks es.length rs<=12 ->
 ∀(q:Addr)(zs:List V)(H':Hp),KF.SmT H H'->Tb KF.lqF KF.lpF TT H'->H' q=some (.lst zs)->qH H' zs m es ks es.length->Q (.ref q) H')
section
variable{P:Program}{w:World}{K:MQ}{mg:Str->Option Value}{base:Heap}
theorem tU:av ["self"] ["self"] (ah cf):=⟨rfl,rfl,rfl,by decide +kernel,rfl,by decide +kernel,by decide +kernel⟩
theorem w9{f C fw:Addr}{fd fdw:FuncData}{push:Bool} (F:Fun K "signed" "Tie.signed" cf f fd) (T:CT K C) (m_wish:Met P w K mg base 1 C "wish" ["self"] (ku push) fw fdw):FnOk P w K mg base CX0 2 f fd ["self"] (ky C push):=by
 refine F.ok tU (fun vs H Q E h=>?_) (fun cdv A outer s H vs Q E hr h=>?_)
 ·obtain⟨p,a,b,s,rfl,_⟩:=h
  rfl
 obtain⟨p,a,b,st,rfl,⟨dx,hp⟩,k⟩:=h
 have CL:=T.cl
 refine⟨_,(ak (aE (kG (aC js (gg (pv 0) CL m_wish.me m_wish.ok (hr.mono (by decide)) m_wish.bn .nil aR) ai (aI _)) (bQ (pv 0) rfl) (pe_un JW (bQ (pv 0) rfl))))),?_⟩
 refine⟨_,rfl,p,dx,_,rfl,hp,yX _ _ _ (by decide +kernel) (by decide +kernel) (by decide +kernel),p,rfl,rfl,_,rfl,?_⟩
 cases push with
 |false=>exact iteT ⟨_,rfl,p,C,dx,_,_,rfl,hp,T.cl,T.n3,EE _ _ _,k⟩
 |true=>exact iteF ⟨_,rfl,p,C,dx,_,_,rfl,hp,T.cl,T.n3,EE _ _ _,_,rfl,k⟩
theorem dX:av ["web","number","pair","pull"] ["web","number"] (ah bx):=⟨rfl,rfl,rfl,by decide +kernel,rfl,by decide +kernel,by decide +kernel⟩
theorem Lz{TR TT f f1 f2 f3 g0 g1 PL PS WC:Addr}{fd d1 d2 d3 e0 e1:FuncData} (F:Fun K "both_ways_of" "both_ways_of" bx f fd) (cw:CW K WC) (TL:CT K PL) (TS:CT K PS) (G_roof:CalD P w K mg base 12 "roof" ["web","number"] (EM TR TT PL PS WC) f1 d1) (G_paid_alike:Cal P w K mg base 1 "paid_alike" ["pull"] (rO (-1)) f2 d2) (G_paid_unlike:Cal P w K mg base 1 "paid_unlike" ["pull"] (rO 1) f3 d3) (u0:Met P w K mg base 2 PL "signed" ["self"] (ky PL false) g0 e0) (u1:Met P w K mg base 2 PS "signed" ["self"] (ky PS true) g1 e1):FnOk P w K mg base (CXd P w) 13 f fd ["web","number"] (EW TR TT PL PS WC):=by
 refine F.okD dX (fun vs H Q E h=>?_) (fun cdv A outer s H vs Q E hr h=>?_)
 ·obtain⟨p,t,m,es,ks,rs,rfl,_⟩:=h
  rfl
 obtain⟨p,t,m,es,ks,rs,rfl,⟨ts,S,wf,g,kl,kin,kb,few,e0,tb⟩,ht,kx,kq⟩:=h
 have CL0:=TL.cl
 have CL1:=TS.cl
 refine⟨_,(af (ar (i:=2) dX.nd rfl (Or.inl rfl) (kJ G_roof.ok (hr.mono (by decide)) rfl G_roof.mg G_roof.kp G_roof.bn .nil lE rfl (ae (pv 0) (ae (pv 1) aj))))
   (af (ar (i:=3) dX.nd rfl (Or.inl rfl) (Ll (gg (aD aA (bQ (pv 0) rfl) (pv 1) (fun _ _=>rfl)) CL0 u0.me u0.ok (hr.mono (by decide)) u0.bn .nil aR) (gg (aD aA (bQ (pv 0) rfl) (pv 1) (fun _ _=>rfl)) CL1 u1.me u1.ok (hr.mono (by decide)) u1.bn .nil aR)))
   (ak (aE (bP (ae (aB dZ (aD aS (pv 2) ai (fun _ _=>rfl)) (az G_paid_alike.ok (hr.mono (by decide)) rfl G_paid_alike.mg G_paid_alike.kp G_paid_alike.bn .nil aR (ae (pv 3) aj))) (ae (aB dZ (aD aS (pv 2) ai (fun _ _=>rfl)) (az G_paid_unlike.ok (hr.mono (by decide)) rfl G_paid_unlike.mg G_paid_unlike.kp G_paid_unlike.bn .nil aR (ae (pv 3) aj))) aj))))))),?_⟩
 refine⟨_,rfl,_,rfl,p,t,m,es,ts,rs,ks,S,rfl,wf,g,kl,kin,kb,few,ht,tb,fun z H1 s1=>kx z H1 (.of s1) (KF.tb_same tb s1),fun z r c0 c1 H1 sm1 tb1 hr1 L0 L1=>?_⟩
 have kk:=kq z
 obtain⟨dx,fs,q1,xs,hp,wg,_,l2,hq1,tk⟩:=id (wf.smT sm1)
 obtain⟨e,he⟩:∃ e,es[t]?=some e:=⟨_,MN ht⟩
 obtain⟨k,hk⟩:∃ k,ks[t]?=some k:=⟨_,MN (by omega)⟩
 obtain⟨p',dx',x1,x2⟩:=tk.2 t e k he hk
 obtain⟨k20,_⟩:=kb k (MP hk)
 have pu:aO ks t=decide (k.1=1):=t5 hk
 have sk:stK ks t=k.2:=EJ hk
 have W0:=Lst.way (b:=false) ht (by rw[OM];exact L0)
 have W1:=Lst.way (b:=true) ht (by rw[QA];exact L1)
 rw[OM,sk]at W0
 rw[QA,sk]at W1
 have fin:∀ sg:Int,sg=(if aO ks t=true then -k.2 else k.2)->∀ r',H1 r'=none->Q (.ref r') (upd H1 r' (.tup [.int (c0+(if -1*sg > 0 then -1*sg else 0)),.int (c1+(if 1*sg > 0 then 1*sg else 0))])):=fun sg hs r' hr'=>by
  have s6:=aq hr' (.tup [.int (c0+(if -1*sg > 0 then -1*sg else 0)),.int (c1+(if 1*sg > 0 then 1*sg else 0))])
  refine kk r' _ _ _ (sm1.trans (.of s6)) (KF.tb_same tb1 s6) ag ?_ ?_
  ·have:(if -1*sg > 0 then -1*sg else 0)=(if aO ks t=true then k.2 else 0):=by
    rw[hs]
    by_cases c:aO ks t=true
    ·rw[if_pos c,if_pos c];split<;>omega
    ·rw[if_neg c,if_neg c];split<;>omega
   rw[this];exact W0
  ·have:(if 1*sg > 0 then 1*sg else 0)=(if(!aO ks t)=true then k.2 else 0):=by
    rw[hs]
    by_cases c:aO ks t=true
    ·rw[if_pos c,if_neg (show ¬ (!aO ks t)=true by rw[c];decide)];split<;>omega
    ·rw[if_neg c,if_pos (show(!aO ks t)=true by rw[Bool.eq_false_iff.mpr c];rfl)];split<;>omega
   rw[this];exact W1
 by_cases c:k.1=1
 ·rw[decide_eq_true c]at pu x2
  refine .inr ⟨_,rfl,p,WC,dx,fs,_,rfl,hp,cw.cl,cw.n2,l2,_,rfl,q1,xs,_,_,rfl,rfl,SqL.of hq1,aJ x1,p',dx',_,rfl,x2,yX _ _ _ (by decide +kernel) (by decide +kernel) (by decide +kernel),p',_,_,k.2,rfl,⟨dx',x2⟩,?_⟩
  refine⟨_,rfl,r,_,0,_,rfl,rfl,SqT.of hr1,at0,_,rfl,_,rfl,_,_,rfl,rfl,_,rfl,r,_,1,_,rfl,rfl,SqT.of hr1,at1,_,rfl,_,rfl,_,_,rfl,rfl,(by show 2<=sizeLine;decide),fun r' hr'=>fin _ (by rw[pu]) r' hr'⟩
 ·rw[decide_eq_false c]at pu x2
  refine .inl ⟨_,rfl,p,WC,dx,fs,_,rfl,hp,cw.cl,cw.n2,l2,_,rfl,q1,xs,_,_,rfl,rfl,SqL.of hq1,aJ x1,p',dx',_,rfl,x2,yX _ _ _ (by decide +kernel) (by decide +kernel) (by decide +kernel),p',_,_,k.2,rfl,⟨dx',x2⟩,?_⟩
  refine⟨_,rfl,r,_,0,_,rfl,rfl,SqT.of hr1,at0,_,rfl,_,rfl,_,_,rfl,rfl,_,rfl,r,_,1,_,rfl,rfl,SqT.of hr1,at1,_,rfl,_,rfl,_,_,rfl,rfl,(by show 2<=sizeLine;decide),fun r' hr'=>fin _ (by rw[pu]) r' hr'⟩
theorem wN:av ["web"] ["web"] (ah cS):=⟨rfl,rfl,rfl,by decide +kernel,rfl,by decide +kernel,by decide +kernel⟩
theorem ok_bw{TR TT f f1 PL PS WC:Addr}{fd d1:FuncData} (F:Fun K "both_ways" "both_ways" cS f fd) (T:Txt mg) (cw:CW K WC) (G_both_ways_of:CalD P w K mg base 13 "both_ways_of" ["web","number"] (EW TR TT PL PS WC) f1 d1):FnOk P w K mg base (CXd P w) 14 f fd ["web"] (spBW TR TT PL PS WC):=by
 refine F.okD wN (fun vs H Q E h=>?_) (fun cdv A outer s H vs Q E hr h=>?_)
 ·obtain⟨p,m,es,ks,rs,rfl,_⟩:=h
  rfl
 obtain⟨p,m,es,ks,rs,rfl,⟨ts,S,wf,g,kl,kin,kb,few,e0,tb⟩,kx,kq⟩:=h
 obtain⟨dx,fs,q1,xs,hp,wg,_,l2,hq1,tk⟩:=id wf
 have xl:xs.length=es.length:=tk.1
 refine⟨_,(ak (aE (FA KL rfl rfl rfl rfl (fr:=[("web",0)]) (xs:=["number"]) (ju.of (by rfl) (by decide +kernel) (by rfl) (by decide +kernel) (by intro p hp;simp only[MV,NW,or_false]at hp;rcases hp with rfl<;>exact⟨rfl,rfl⟩) (by decide +kernel) (by intro p hp;simp only[MV,NW,or_false]at hp;rcases hp with rfl<;>rfl)) (bD rfl T.n_range (ae (aM aF (by rfl) T.n_len cN (ae (bQ (pv 0) rfl) aj)) aj)) (fun C ex s H=>(aL (i:=0) (show(["number","web"]:List Str).Nodup from by decide +kernel) rfl (Or.inl rfl))) (fun C ex s H=>t6) (fun C ex s H ps XE Wi hP ws=>(FD G_both_ways_of.ok (hr.mono (by decide)) rfl G_both_ways_of.mg G_both_ways_of.kp G_both_ways_of.bn .nil ws hP (ae (pv 1) (ae (pv 0) aj))))))),?_⟩
 refine⟨_,rfl,p,WC,dx,fs,_,rfl,hp,cw.cl,cw.n2,l2,q1,xs,rfl,.inl (SqL.of hq1),_,rfl,by omega,by omega,pS (fun i zs H2=>KF.SmT H H2/\Tb KF.lqF KF.lpF TT H2/\qG H2 zs m es ks i/\(0<i->rgh ks es.length rs<=12)) (by rw[Ng];exact NM (ax (by omega))) ⟨KF.SmT.of (fun _ _ z=>z),tb,⟨rfl,fun t z=>absurd z (NV _)⟩,fun z=>absurd z (Nz _)⟩ ?_ ?_ ?_⟩
 ·rintro i zs H2 hi ⟨sm2,tb2,wa,r2⟩
  rw[Ng,xl]at hi
  rw[OJ]
  refine⟨rfl,yesT ⟨_,rfl,_,rfl,p,i,m,es,ks,rs,rfl,⟨ts,S,wf.smT sm2,g,kl,kin,kb,few,e0,tb2⟩,hi,fun z H3 sm3 tb3 D ys hD=>?_,fun z r v0 v1 H3 sm3 tb3 hr3 w0 w1=>?_⟩⟩
  ·have sD:=aq hD (.lst ys)
   exact kx z _ ((sm2.trans sm3).trans (.of sD)) (KF.tb_same tb3 sD)
  refine⟨sm2.trans sm3,tb3,⟨by rw[MX,wa.1];rfl,fun t ht=>?_⟩,fun _=>z⟩
  by_cases z:t=i
  ·subst z
   exact⟨r,v0,v1,by rw[← wa.1,MR (MT _),Nl];rfl,hr3,w0,w1⟩
  ·obtain⟨r',u0,u1,y1,y2⟩:=(wa.smT sm3).2 t (by omega)
   exact⟨r',u0,u1,by rw[MU (by rw[wa.1];omega)];exact y1,y2⟩
 ·rintro zs H2 ⟨sm2,tb2,wa,r2⟩ D hD
  rw[Ng,xl]at wa r2
  have sD:=aq hD (.lst zs)
  exact kq (r2 e0) D zs _ (sm2.trans (.of sD)) (KF.tb_same tb2 sD) ag (wa.smT (.of sD))
 ·rintro i zs H2 ⟨_,_,wa,_⟩
  exact P9 wa.1
theorem CY:av ["pair"] ["pair"] (ah fF):=⟨rfl,rfl,rfl,by decide +kernel,rfl,by decide +kernel,by decide +kernel⟩
theorem Dc{f:Addr}{fd:FuncData} (F:Fun K "setting" "setting" fF f fd):FnOk P w K mg base CX0 1 f fd ["pair"] oo:=by
 refine F.ok CY (fun vs H Q E h=>?_) (fun cdv A outer s H vs Q E hr h=>?_)
 ·obtain⟨r,a,b,rfl,_⟩:=h
  rfl
 obtain⟨r,a,b,rfl,hr1,kk⟩:=h
 refine⟨_,(af (bL (aC oM (aD aS (pv 0) ai (fun _ _=>rfl)) (aD aS (pv 0) ai (fun _ _=>rfl)) (aI _)) (ak (aE (bP (ae ai (ae (aB jx (aD aS (pv 0) ai (fun _ _=>rfl)) (aD aS (pv 0) ai (fun _ _=>rfl))) aj))))) aP)
   (af (bL (aC oM (aD aS (pv 0) ai (fun _ _=>rfl)) (aD aS (pv 0) ai (fun _ _=>rfl)) (aI _)) (ak (aE (bP (ae ai (ae (aB jx (aD aS (pv 0) ai (fun _ _=>rfl)) (aD aS (pv 0) ai (fun _ _=>rfl))) aj))))) aP)
   (ak (aE (bP (ae jw (ae ai aj))))))),?_⟩
 refine⟨_,rfl,r,_,0,_,rfl,rfl,SqT.of hr1,at0,_,rfl,r,_,1,_,rfl,rfl,SqT.of hr1,at1,_,_,rfl,rfl,_,rfl,ite2 (fun c=>?_) (fun c=>?_)⟩
 ·have c':a<b:=of_decide_eq_true c
  have e:setV a b = [.int 0,.int (b-a)]:=if_pos c'
  rw[e]at kk
  exact⟨_,rfl,r,_,1,_,rfl,rfl,SqT.of hr1,at1,_,rfl,r,_,0,_,rfl,rfl,SqT.of hr1,at0,_,_,rfl,rfl,(by show 2<=sizeLine;decide),kk⟩
 ·have c':¬ a<b:=fun z=>c (decide_eq_true z)
  refine⟨_,rfl,r,_,1,_,rfl,rfl,SqT.of hr1,at1,_,rfl,r,_,0,_,rfl,rfl,SqT.of hr1,at0,_,_,rfl,rfl,_,rfl,ite2 (fun c2=>?_) (fun c2=>?_)⟩
  ·have c2':b<a:=of_decide_eq_true c2
   have e:setV a b = [.int 1,.int (a-b)]:=by unfold setV;rw[if_neg c',if_pos c2']
   rw[e]at kk
   exact⟨_,rfl,r,_,0,_,rfl,rfl,SqT.of hr1,at0,_,rfl,r,_,1,_,rfl,rfl,SqT.of hr1,at1,_,_,rfl,rfl,(by show 2<=sizeLine;decide),kk⟩
  ·have c2':¬ b<a:=fun z=>c2 (decide_eq_true z)
   have e:setV a b = [.non,.int 0]:=by unfold setV;rw[if_neg c',if_neg c2']
   rw[e]at kk
   exact⟨(by show 2<=sizeLine;decide),kk⟩
theorem zu:av ["web"] ["web"] (ah dH):=⟨rfl,rfl,rfl,by decide +kernel,rfl,by decide +kernel,by decide +kernel⟩
theorem Lo{TR TT f f1 f2 PL PS WC:Addr}{fd d1 d2:FuncData} (F:Fun K "set_ties" "set_ties" dH f fd) (G_both_ways:CalD P w K mg base 14 "both_ways" ["web"] (spBW TR TT PL PS WC) f1 d1) (G_setting:Cal P w K mg base 1 "setting" ["pair"] oo f2 d2):FnOk P w K mg base (CXd P w) 15 f fd ["web"] (EL TR TT PL PS WC):=by
 refine F.okD zu (fun vs H Q E h=>?_) (fun cdv A outer s H vs Q E hr h=>?_)
 ·obtain⟨p,m,es,ks,rs,rfl,_⟩:=h
  rfl
 obtain⟨p,m,es,ks,rs,rfl,wo,kx,kq⟩:=h
 have few:es.length<=14:=by obtain⟨ts,S,wf,g,kl,kin,kb,few,e0,tb⟩:=wo;exact few
 refine⟨_,(ak (aE (gh rfl (fr:=[]) (by exact bM.plain (by rfl) (by decide +kernel) (by rfl) (by decide +kernel) (by rfl) (by decide +kernel)) (bo (kJ G_both_ways.ok (hr.mono (by decide)) rfl G_both_ways.mg G_both_ways.kp G_both_ways.bn .nil lE rfl (ae (pv 0) aj))) (fun C ex s H=>(az G_setting.ok (hr.mono (by decide)) rfl G_setting.mg G_setting.kp G_setting.bn .nil aR (ae (pv 0) aj)))))),?_⟩
 refine⟨_,rfl,p,m,es,ks,rs,rfl,wo,kx,fun z q zs H1 sm1 tb1 hq wa=>?_⟩
 have kk:=kq z
 have zl:=wa.1
 refine⟨q,rfl,⟨_,SqL.of hq⟩,eu (K:=K) (xs:=zs) (fun i ys H2=>Same H1 H2/\qH H2 ys m es ks i) (NM (ax (by omega))) ⟨fun _ _ z=>z,rfl,fun t z=>absurd z (NV _)⟩ (fun i ys H2 _ z=>SqL.of (z.1 _ _ hq)) ?_ ?_⟩
 ·rintro i x ys H2 hx ⟨s2,sa⟩
  have hi:i<es.length:=by rw[← zl];exact(MO.mp hx).1
  obtain⟨r,v0,v1,a1,a2,w0,w1⟩:=wa.2 i hi
  rw[hx]at a1
  cases a1
  refine⟨_,rfl,r,v0,v1,rfl,s2 _ _ a2,fun t ht=>?_⟩
  have sn:=aq ht (.tup (setV v0 v1))
  refine⟨s2.trans sn,by rw[MX,sa.1];rfl,fun t' ht'=>?_⟩
  by_cases z:t'=i
  ·subst z
   exact⟨t,v0,v1,by rw[← sa.1,MR (MT _),Nl];rfl,ag,w0,w1⟩
  ·obtain⟨r',u0,u1,y1,y2⟩:=(sa.mono sn).2 t' (by omega)
   exact⟨r',u0,u1,by rw[MU (by rw[sa.1];omega)];exact y1,y2⟩
 rintro ys H2 _ ⟨s2,sa⟩ D hD
 rw[zl]at sa
 have sD:=aq hD (.lst ys)
 exact kk D ys _ (sm1.trans (.of (s2.trans sD))) (KF.tb_same tb1 (s2.trans sD)) ag (sa.mono sD)
end
end K8
namespace K8
open PySem L2
local macro_rules | `(tactic| walk_at "cc") => `(tactic| first | exact ⟨by decide, by decide⟩ | (show (0 : Int) < _; decide) | (show (0 : Int) < _; omega) | (show (0 : Int) ≤ _; omega) | exact ⟨by decide, by decide, by decide⟩ | exact ⟨by omega, by omega, by decide⟩ | exact Or.inl ⟨by decide, by decide⟩ | exact Or.inl ⟨by omega, by omega⟩)
local macro_rules | `(tactic| walk_at "rd") => `(tactic| repeat (first | refine ⟨_, rfl, ?_⟩ | refine ⟨_, _, rfl, rfl, ?_⟩ | refine ⟨rfl, ?_⟩ | (refine ⟨?cc, ?_⟩; (case cc => walk_at "cc"))))
noncomputable def FanE(es:En):Prop:=∀(k:Nat)(e:Nat×Nat),es[k]?=some e->e=(0,1)∨e=(1,0)
theorem FanE.init{es:En}{e:Nat×Nat}(h:FanE (es++[e])):FanE es/\(e=(0,1)∨e=(1,0)) :=
 ⟨fun k x hx=>h k x (by rw[MU (MO.mp hx).1];exact hx),h es.length e (by rw[MR (MT _),Nl];rfl)⟩
theorem bV{es:En}(h:FanE es){k:Nat}(hk:k<es.length):leave es k 0/2=k/\leave es k 1/2=k/\hd es (leave es k 0)=1/\hd es (leave es k 1)=0/\∀ d,d/2=k->d=leave es k 0∨d=leave es k 1:=by
 have e1:=MN hk
 unfold leave
 rw[e1]
 rcases h k _ e1 with e | e
 ·rw[e]at e1 ⊢
  dsimp only
  rw[if_pos rfl,if_neg (by decide)]
  refine⟨by omega,by omega,?_,?_,fun d hd=>by omega⟩
  ·unfold hd
   rw[show 2*k/2=k by omega,e1]
   dsimp only
   rw[if_pos (by omega)]
  ·unfold hd
   rw[show(2*k+1)/2=k by omega,e1]
   dsimp only
   rw[if_neg (by omega)]
 ·rw[e]at e1 ⊢
  dsimp only
  rw[if_neg (by decide),if_pos rfl]
  refine⟨by omega,by omega,?_,?_,fun d hd=>by omega⟩
  ·unfold hd
   rw[show(2*k+1)/2=k by omega,e1]
   dsimp only
   rw[if_neg (by omega)]
  ·unfold hd
   rw[show 2*k/2=k by omega,e1]
   dsimp only
   rw[if_pos (by omega)]
theorem GJ{n k:Nat}(h:k<n):(Na n).idxOf k=k:=by
 have a:=vg (NX.mpr h)
 have b:(Na n).idxOf k<n:=by
  have:=OH.mpr (NX.mpr h)
  rwa[NN]at this
 rw[O0 b]at a
 exact Ni a
theorem Fe{n i:Nat}(h:i<n):(Na n).reverse[i]?=some (n-1-i):=by
 rw[List.getElem?_reverse (by rw[NN];exact h),NN,O0 (by omega)]
theorem nd_rev(n:Nat):(Na n).reverse.Nodup:=(List.reverse_perm _).nodup_iff.mpr PH
theorem Mb{n k:Nat}(h:k<n):(Na n).reverse.idxOf k=n-1-k:=by
 have m:k∈(Na n).reverse:=PJ.mpr (NX.mpr h)
 have a:=vg m
 have b:(Na n).reverse.idxOf k<n:=by
  have:=OH.mpr m
  rwa[Pn,NN]at this
 rw[Fe b]at a
 have:=Ni a
 omega
noncomputable def prv(n k:Nat):Nat:=if k=0 then n-1 else k-1
theorem kE{n k:Nat}(h:k<n):prv n k<n:=by unfold prv;split<;>omega
theorem LL{n k:Nat}(h:k<n):nxt (Na n).reverse k=prv n k:=by
 unfold nxt prv
 rw[Mb h,Pn,NN]
 split
 ·rw[show n-1-k+1=n by omega,Pb,Fe (by omega)]
  show n-1-0=n-1
  omega
 ·rw[Oc (by omega),Fe (by omega)]
  show n-1-(n-1-k+1)=k-1
  omega
theorem F3{n k:Nat}(h:k<n):nxt (Na n) (prv n k)=k:=by
 unfold nxt
 rw[GJ (kE h),NN]
 unfold prv
 split
 ·rw[show n-1+1=n by omega,Pb,O0 (by omega)]
  show 0=k
  omega
 ·rw[show k-1+1=k by omega,Oc h,O0 h]
  rfl
structure FanT(n:Nat)(ts:List (List Nat)):Prop where
 r0:∃ X Y,Na n=X++Y/\ts[0]?=some (Y++X)
 r1:∃ X Y,(Na n).reverse=X++Y/\ts[1]?=some (Y++X)
theorem A7{es:En}{ts:List (List Nat)}(h:FanE es)(t:FanT es.length ts){k:Nat}(hk:k<es.length):fol es ts (leave es k 0)=leave es (prv es.length k) 1/\fol es ts (leave es (prv es.length k) 1)=leave es k 0:=by
 obtain⟨a1,_,a3,_,_⟩:=bV h hk
 obtain⟨_,b2,_,b4,_⟩:=bV h (kE hk)
 obtain⟨X,Y,e,e0⟩:=t.r0
 obtain⟨X',Y',e',e1⟩:=t.r1
 constructor
 ·rw[d9 (l:=Y'++X') (by rw[a3];exact e1),a1,a3,Ax (by rw[← e'];exact nd_rev _) (by rw[← e'];exact PJ.mpr (NX.mpr hk)),← e',LL hk]
 ·rw[d9 (l:=Y++X) (by rw[b4];exact e0),b2,b4,Ax (by rw[← e];exact PH) (by rw[← e];exact NX.mpr (kE hk)),← e,F3 hk]
theorem Mc:Gr 2 [(1,0)] [[0],[0]]:=by
 refine Ren.gr (es:=[(0,1)]) (ts:=[[0],[0]]) (π:=fun p=>if p=0 then 1 else 0) (σ:=fun t=>t) ⟨⟨fun k hk=>?_,fun a b ha hb e=>?_,fun y hy=>?_⟩,⟨fun k hk=>hk,fun a b _ _ e=>e,fun y hy=>⟨y,hy,rfl⟩⟩,rfl,rfl,fun k e he=>?_,fun p l hl=>?_⟩ Kf
 ·show(if k=0 then 1 else 0)<2
  split<;>omega
 ·have e':(if a=0 then 1 else 0)=(if b=0 then(1:Nat) else 0):=e
  by_cases c:a=0
  ·by_cases d:b=0
   ·omega
   ·rw[if_pos c,if_neg d]at e';cases e'
  ·by_cases d:b=0
   ·rw[if_neg c,if_pos d]at e';cases e'
   ·omega
 ·by_cases c:y=0
  ·exact⟨1,by omega,by rw[c];rfl⟩
  ·exact⟨0,by omega,by show(if(0:Nat)=0 then 1 else 0)=y;rw[if_pos rfl];omega⟩
 ·match k,he with
  |0,he=>cases he;rfl
  |k+1,he=>cases he
 ·match p,hl with
  |0,hl=>cases hl;exact⟨[0],[],rfl,rfl⟩
  |1,hl=>cases hl;exact⟨[0],[],rfl,rfl⟩
  |p+2,hl=>cases hl
theorem Kt(n:Nat):Bij (fun x=>x) n:=⟨fun k hk=>hk,fun a b _ _ e=>e,fun y hy=>⟨y,hy,rfl⟩⟩
theorem Gr.rot2{es:En}{X Y X' Y':List Nat}(g:Gr 2 es [X++Y,X'++Y']):Gr 2 es [Y++X,Y'++X']:=by
 refine Ren.gr (π:=fun p=>p) (σ:=fun t=>t) ⟨Kt _,Kt _,rfl,rfl,fun k e he=>he,fun p l hl=>?_⟩ g
 match p,hl with
 |0,hl=>cases hl;exact⟨X,Y,rfl,by rw[List.map_id'];rfl⟩
 |1,hl=>cases hl;exact⟨X',Y',rfl,by rw[List.map_id'];rfl⟩
 |p+2,hl=>cases hl
theorem GU:∀{n:Nat}{es:En},es.length=n+1->FanE es->Gr 2 es [Na (n+1),(Na (n+1)).reverse]
 |0,es,hl,h=>by
  match es,hl,h with
  |[e],_,h =>
   rcases h 0 e rfl with z | z
   ·rw[z];exact Kf
   ·rw[z];exact Mc
 |n+1,es,hl,h=>by
  have ne:es≠[]:=fun z=>by rw[z]at hl;cases hl
  obtain⟨es0,e,rfl⟩:∃ es0 e,es=es0++[e]:=⟨es.dropLast,es.getLast ne,(List.dropLast_concat_getLast ne).symm⟩
  have l0:es0.length=n+1:=by rw[MX,Nc]at hl;omega
  obtain⟨h0,he⟩:=h.init
  have g:=GU l0 h0
  obtain⟨c1,c2⟩:=A7 h0 (ts:=[Na (n+1),(Na (n+1)).reverse]) (by rw[l0];exact⟨⟨[],_,rfl,by rw[Ow];rfl⟩,⟨[],_,rfl,by rw[Ow];rfl⟩⟩) (k:=0) (by omega)
  obtain⟨a1,a2,a3,a4,_⟩:=bV h0 (k:=0) (by omega)
  obtain⟨b1,b2,b3,b4,_⟩:=bV h0 (k:=prv es0.length 0) (kE (by omega))
  have pv:prv es0.length 0=n:=by show es0.length-1=n;omega
  have ne2:leave es0 (prv es0.length 0) 1≠leave es0 0 0:=fun z=>by rw[z,a3]at b4;cases b4
  have cc:chain (fol es0 [Na (n+1),(Na (n+1)).reverse]) (leave es0 (prv es0.length 0) 1) [leave es0 0 0] (leave es0 (prv es0.length 0) 1):=⟨c2,c1⟩
  have q:=g.join (left:=leave es0 (prv es0.length 0) 1) (right:=leave es0 0 0) (tail:=[leave es0 0 0]) (one:=0) (two:=1) (e:=e) (l:=Na (n+1)) (l':=(Na (n+1)).reverse) (by omega) ⟨⟨_,_,rfl,cc⟩,fun d hd=>by
   rcases MV.mp hd with z | z
   ·omega
   ·have:=Nx.mp z;omega,by simp[ne2]⟩ cc (by simp) b4 a3 (by decide) he rfl rfl
  rw[b2,a1,pv,l0]at q
  have i1:ins (Na (n+1)) ((Na (n+1)).idxOf n+1) (n+1)=Na (n+1+1):=by
   rw[O3,pF (by simp),O3,O3,OV]
   rfl
  have i2:ins (Na (n+1)).reverse ((Na (n+1)).reverse.idxOf 0+1) (n+1)=(Na (n+1)).reverse++[n+1]:=by
   have e3:(Na (n+1)).reverse=((Na n).map Nat.succ).reverse++[0]:=by rw[List.range_succ_eq_map,P8]
   rw[e3,pF (by simp),OV]
   rfl
  rw[i1,i2]at q
  have q2:=Gr.rot2 (X:=[]) (Y:=Na (n+1+1)) (X':=(Na (n+1)).reverse) (Y':=[n+1]) q
  rw[Ow]at q2
  have e4:(Na (n+1+1)).reverse = [n+1]++(Na (n+1)).reverse:=by rw[O3,List.reverse_append];rfl
  rw[e4]
  exact q2
theorem fan_gr{es:En}(h:FanE es)(e0:0<es.length){X Y:List Nat}(e:Na es.length=X++Y):Gr 2 es [Y++X,(Na es.length).reverse]:=by
 obtain⟨n,hn⟩:∃ n,es.length=n+1:=⟨es.length-1,by omega⟩
 have g:=GU hn h
 rw[← hn,e,show(X++Y).reverse = []++(X++Y).reverse from rfl]at g
 have q:=g.rot2
 rw[Ow]at q
 rw[e]
 exact q
theorem zE{R:Nat->Nat->Prop}(inj:∀ a a' b,R a b->R a' b->a=a'):∀{A B:List Nat},A.Nodup->(∀ a∈A,∃ b∈B,R a b)->A.length<=B.length
 |[],B,_,_=>NS _
 |a::A,B,nd,h=>by
  obtain⟨n1,n2⟩:=Nb.mp nd
  obtain⟨b,hb,r⟩:=h a (M3 ..)
  have:=zE inj (A:=A) (B:=B.erase b) n2 fun a' ha'=>by
   obtain⟨b',hb',r'⟩:=h a' (MY _ ha')
   refine⟨b',(List.mem_erase_of_ne fun z=>?_).mpr hb',r'⟩
   subst z
   exact n1 (inj _ _ _ r r'▸ha')
  rw[Px hb]at this
  have:=Oy hb
  rw[Nv]
  omega
noncomputable def oddK(ks:Kn)(n k:Nat):Bool:=aO ks k ^^ aO ks (prv n k)
theorem Mh{es:En}{ts rs:List (List Nat)}{ks:Kn}(h:FanE es)(t:FanT es.length ts)(ro:bS (fol es ts) (2*es.length) (2*es.length) rs):rgh ks es.length rs=((Na es.length).filter (oddK ks es.length)).length:=by
 have ne:∀{k j},k<es.length->j<es.length->leave es k 0≠leave es j 1:=fun{k j} hk hj z=>by
  have a:=(bV h hk).2.2.1
  rw[z,(bV h hj).2.2.2.1]at a
  cases a
 have two:∀{k i:Nat}{r:List Nat},k<es.length->rs[i]?=some r->leave es k 0∈r->(∀ d,d∈r↔d∈[leave es k 0,leave es (prv es.length k) 1])/\oddU (MK (aO ks) es.length) rs i=oddK ks es.length k:=fun{k i r} hk hi hr=>by
  have cr:=(ro.ring r (MP hi)).cr
  obtain⟨f1,f2⟩:=A7 h t hk
  have sub:=cr.sub (S:=fun d=>d∈[leave es k 0,leave es (prv es.length k) 1]) (fun d _ hd=>by
   rcases MV.mp hd with z | z
   ·rw[z,f1];simp
   ·rw[Nx.mp z,f2];simp) hr (by simp)
  have iff:∀ d,d∈r↔d∈[leave es k 0,leave es (prv es.length k) 1]:=fun d=>⟨sub d,fun hd=>by
   rcases MV.mp hd with z | z
   ·rw[z];exact hr
   ·rw[Nx.mp z,← f1];exact cr.closed _ hr⟩
  refine⟨iff,?_⟩
  have pm:r.Perm [leave es k 0,leave es (prv es.length k) 1]:=(N9 cr.nd (by simp[ne hk (kE hk)])).mpr iff
  unfold oddU
  rw[Cp hi,← oJ,uy _ pm,aH,aH,(bV h hk).1,(bV h (kE hk)).2.1,bg,bg,decide_eq_true hk,decide_eq_true (kE hk)]
  show(aO ks k ^^ (aO ks (prv es.length k) ^^ false))=_
  rw[OX]
  rfl
 have lt:MK (oddU (MK (aO ks) es.length) rs) rs.length<2^rs.length:=OD _ fun i hi=>by rw[bg,decide_eq_false (by omega),Om]
 have mb:∀ i,i∈KF.bl (MK (oddU (MK (aO ks) es.length) rs) rs.length)↔i<rs.length/\oddU (MK (aO ks) es.length) rs i=true:=fun i=>by
  rw[KF.mem_bl,bg,Qf,decide_eq_true_iff]
 refine Nat.le_antisymm ?_ ?_
 ·refine zE (R:=fun i k=>k<es.length/\∃ r,rs[i]?=some r/\leave es k 0∈r) (fun i i' k ⟨_,r,a,b⟩ ⟨_,r',a',b'⟩=>lU ro.nd a a' b b') (KF.bl_nd _) fun i hi=>?_
  obtain⟨i1,i2⟩:=(mb i).mp hi
  have er:=MN i1
  have cr:=(ro.ring _ (MP er)).cr
  obtain⟨d,hd⟩:=cr.ne
  have dl:=cr.lt d hd
  have hk:d/2<es.length:=by omega
  obtain⟨k,hk',hm⟩:∃ k,k<es.length/\leave es k 0∈rs[i]:=by
   rcases(bV h hk).2.2.2.2 d rfl with z | z
   ·exact⟨d/2,hk,z▸hd⟩
   ·-- the next one leaves place 0
    obtain⟨k,k1,k2⟩:∃ k,k<es.length/\prv es.length k=d/2:=by
     by_cases c:d/2+1=es.length
     ·exact⟨0,by omega,by show es.length-1=d/2;omega⟩
     ·exact⟨d/2+1,by omega,by unfold prv;rw[if_neg (by omega)];omega⟩
    refine⟨k,k1,?_⟩
    rw[← (A7 h t k1).2,k2,← z]
    exact cr.closed d hd
  exact⟨k,OS.mpr ⟨NX.mpr hk',by rw[← (two hk' er hm).2];exact i2⟩,hk',_,er,hm⟩
 ·refine zE (R:=fun k i=>k<es.length/\∃ r,rs[i]?=some r/\leave es k 0∈r) (fun k k' i ⟨h1,r,a,b⟩ ⟨h2,r',a',b'⟩=>?_) ((PH).filter _) fun k hk=>?_
  ·rw[a]at a'
   cases a'
   have:=((two h1 a b).1 _).mp b'
   rcases MV.mp this with z | z
   ·rw[← (bV h h1).1,← (bV h h2).1,z]
   ·exact absurd (Nx.mp z) (ne h2 (kE h1))
  ·obtain⟨k1,k2⟩:=OS.mp hk
   have k1:=NX.mp k1
   obtain⟨i,r,a,b⟩:=ro.at (d:=leave es k 0) (by have:=(bV h k1).1;omega)
   exact⟨i,(mb i).mpr ⟨(MO.mp a).1,by rw[(two k1 a b).2];exact k2⟩,k1,r,a,b⟩
noncomputable def cF(ks:Kn)(x:Bool):Nat->Int
 |0=>0
 |i+1=>if(x ^^ aO ks i)=true then cF ks x i+stK ks i else cF ks x i
theorem Ki{es:En}(h:FanE es){t L:Nat}(ht:t<es.length):sgN es t L=(L.testBit 0 ^^ L.testBit 1):=by
 have e:=MN ht
 rw[JZ e]
 rcases h t _ e with z | z
 ·rw[z]
 ·rw[z];exact PB _ _
theorem Kh{es:En}{ks:Kn}(h:FanE es){L:Nat}:∀ i,i<=es.length->wS es ks L i=cF ks (L.testBit 0 ^^ L.testBit 1) i
 |0,_=>rfl
 |i+1,hi=>by
  have ih:=Kh (ks:=ks) h (L:=L) i (by omega)
  have u:UN es ks L i=((L.testBit 0 ^^ L.testBit 1) ^^ aO ks i):=by
   have:=Kv (es:=es) (ks:=ks) (L:=L) (show i<es.length by omega)
   rw[Ki h (by omega)]at this
   exact this
  show(if UN es ks L i=true then wS es ks L i+stg ks i else wS es ks L i)=_
  rw[u,ih]
  rfl
theorem vj{es:En}{ks:Kn}(h:FanE es){t:Nat}{b:Bool}{v:Int}(ht:t<es.length)(w:Way 2 es ks t b v):v=cF ks b es.length:=by
 obtain⟨L,_,l2,l3⟩:=w.ex
 rw[Ki h ht]at l2
 rw[← l3,← l2]
 exact Kh h _ (MT _)
end K8
namespace K8
open PySem L2
local macro_rules | `(tactic| walk_at "cc") => `(tactic| first | exact ⟨by decide, by decide⟩ | (show (0 : Int) < _; decide) | (show (0 : Int) < _; omega) | (show (0 : Int) ≤ _; omega) | exact ⟨by decide, by decide, by decide⟩ | exact ⟨by omega, by omega, by decide⟩ | exact Or.inl ⟨by decide, by decide⟩ | exact Or.inl ⟨by omega, by omega⟩)
local macro_rules | `(tactic| walk_at "rd") => `(tactic| repeat (first | refine ⟨_, rfl, ?_⟩ | refine ⟨_, _, rfl, rfl, ?_⟩ | refine ⟨rfl, ?_⟩ | (refine ⟨?cc, ?_⟩; (case cc => walk_at "cc"))))
structure TxtV(mg:Str->Option Value):Prop extends Txt mg where
 n_reversed:mg "reversed" = none
noncomputable def zb(K:MQ):Sp:=fun vs H Q _=>∃(a:Addr)(ns:List Int),vs = [.ref a]/\SqL K H a (ns.map V.int)/\ns.length<=63 /\
 ∀(q:Addr)(ws:List V)(ks:Kn)(H':Hp),Same H H'->H' q=some (.lst ws)->fN H' ws ks->4<=ks.length->ks.length<=14->(∀ k∈ks,k.2<=10^(30:Int).toNat)->Q (.ref q) H'
noncomputable def EV(PL PS WC:Addr):Sp:=fun vs H Q _=>∃(pk:Addr)(c:Int)(ws:List V)(ks:Kn),vs = [.ref pk,.int c]/\H pk=some (.lst ws)/\fN H ws ks/\4<=ks.length/\ks.length<=14 /\
 ∀(p:Addr)(es:En)(ts rs:List (List Nat))(H':Hp),Same H H'->WebF (fun a=>H a≠none) PL PS WC H' p 2 es ts rs ks->FanE es->es.length=ks.length->FanT es.length ts->Gr 2 es ts->Q (.ref p) H'
section
variable{P:Program}{w:World}{K:MQ}{mg:Str->Option Value}{base:Heap}
theorem aX:av ["script","lead","many","other_one","kinds","k","cell","push"] ["script"] (ah cQ):=⟨rfl,rfl,rfl,by decide +kernel,rfl,by decide +kernel,by decide +kernel⟩
theorem IU{f fc:Addr}{fd dc:FuncData} (F:Fun K "_law_kinds" "_law_kinds" cQ f fd) (T:Txt mg) (G_law_cell:Cal P w K mg base 1 "_law_cell" ["script","k"] (Cd K) fc dc):FnOk P w K mg base CX0 2 f fd ["script"] (zb K):=by
 refine F.ok aX (fun vs H Q E h=>?_) (fun cdv A outer s H vs Q E hr h=>?_)
 ·obtain⟨a,ns,rfl,_⟩:=h
  rfl
 obtain⟨a,ns,rfl,hS,h63,kk⟩:=h
 refine⟨_,(af (ar (i:=1) aX.nd rfl (Or.inl rfl) (az G_law_cell.ok (hr.mono (by decide)) rfl G_law_cell.mg G_law_cell.kp G_law_cell.bn .nil aR (ae (pv 0) (ae ai aj))))
   (af (ar (i:=2) aX.nd rfl (Or.inl rfl) (aD aA (dm (ae ai (ae ai (ae ai (ae ai aj))))) (aB cj (aB cj (pv 1) ai) ai) (fun _ _=>rfl)))
   (af (bL (aC C9 (aB cj (pv 1) ai) ai (aI _)) (ak (ar (i:=2) aX.nd rfl (Or.inl rfl) (aB dZ ai (aB cj (aB dY (pv 1) ai) ai)))) aP)
   (af (ar (i:=3) aX.nd rfl (Or.inl rfl) (aB cj (aB dY (pv 1) ai) (pv 2)))
   (af (ar (i:=4) aX.nd rfl (Or.inl rfl) (dm aj))
   (af (cD PassesOwn.never rfl (bD rfl T.n_range (ae (pv 2) aj)) (aL (i:=5) aX.nd rfl (Or.inl rfl)) (af (ar (i:=6) aX.nd rfl (Or.inl rfl) (az G_law_cell.ok (hr.mono (by decide)) rfl G_law_cell.mg G_law_cell.kp G_law_cell.bn .nil aR (ae (pv 0) (ae (aB dZ ai (pv 5)) aj))))
   (af (ar (i:=7) aX.nd rfl (Or.inl rfl) (aB cj (aB dZ (pv 5) (kH yx (by rfl) T.n_int HA (ae (pe_and (uv js (aB cj (pv 1) ai) ai (aI _)) (pe_one (uv js (pv 5) (pv 3) (aI _)))) aj))) ai))
   (af (bL (aC C9 (aB cj (pv 1) ai) ai (aI _)) (ak (ar (i:=7) aX.nd rfl (Or.inl rfl) (aB cj (aB dY (aB cj (pv 6) ai) ai) ai))) aP)
   (ak (bC (kK NB NH NG bu (pv 4) (ae (bP (ae (pv 7) (ae (aB cj (aB dY (pv 6) ai) (aD aA (dm (ae ai (ae ai (ae (aB dZ (aB op_pow ai ai) ai) aj)))) (aB cj (aB dY (pv 1) ai) ai) (fun _ _=>rfl))) aj))) aj))))))))
   (ak (aE (pv 4))))))))),?_⟩
 refine⟨_,rfl,a,0,ns,rfl,hS,?_⟩
 refine⟨(by show 4<=sizeLine;decide),fun q0 hq0=>?_⟩
 obtain⟨M,hM,M4,M14⟩:∃ M:Nat,atI [V.int 14,V.int 14,V.int 13,V.int 12] (jt ns 0%16%4)=some (.int (M:Int))/\4<=M/\M<=14:=by
  have:jt ns 0%16%4=0∨jt ns 0%16%4=1∨jt ns 0%16%4=2∨jt ns 0%16%4=3:=by omega +splitDisjunctions
  rcases this with z | z | z | z<;>rw[z]
  ·exact⟨14,rfl,by omega +splitDisjunctions,by omega +splitDisjunctions⟩
  ·exact⟨14,rfl,by omega +splitDisjunctions,by omega +splitDisjunctions⟩
  ·exact⟨13,rfl,by omega +splitDisjunctions,by omega +splitDisjunctions⟩
  ·exact⟨12,rfl,by omega +splitDisjunctions,by omega +splitDisjunctions⟩
 have s0:=aq hq0 (.lst [V.int 14,V.int 14,V.int 13,V.int 12])
 have g0:(upd H q0 (.lst [V.int 14,V.int 14,V.int 13,V.int 12])) q0=some (.lst [V.int 14,V.int 14,V.int 13,V.int 12]):=ag
 refine⟨_,rfl,_,_,rfl,rfl,(by decide:(0:Int)<16),_,_,rfl,rfl,(by decide:(0:Int)<4),q0,_,_,_,rfl,rfl,SqL.of g0,hM,?_⟩
 generalize upd H q0 (.lst [V.int 14,V.int 14,V.int 13,V.int 12])=H0 at s0 g0
 generalize jt ns 0=c
 refine⟨_,rfl,_,_,rfl,rfl,(by decide:(0:Int)<16),_,_,rfl,rfl,_,rfl,ite2 (fun _=>⟨_,rfl,_,_,rfl,rfl,⟨by decide,by decide⟩,_,_,rfl,rfl,(by decide:(0:Int)<5),_,_,rfl,rfl,?_⟩) (fun _=>?_)⟩
 obtain⟨M,hM,M4,M14⟩:∃ N:Nat,4+c/16%5=(N:Int)/\4<=N/\N<=14:=⟨(4+c/16%5).toNat,by omega +splitDisjunctions,by omega +splitDisjunctions,by omega +splitDisjunctions⟩
 show JA 2 (V.int (4+c/16%5)) _ _ _
 rw[hM]
 all_goals
  refine⟨_,rfl,_,_,rfl,rfl,⟨by decide,by decide⟩,_,rfl,_,_,rfl,rfl,(show(0:Int)<(M:Int) by omega +splitDisjunctions),?_⟩
  refine⟨(by show 0<=sizeLine;decide),fun q hq=>?_⟩
  have s1:=aq hq (.lst [])
  refine⟨_,rfl,_,rfl,by omega +splitDisjunctions,by omega +splitDisjunctions,kS (n:=(M:Int).toNat) (fun i σ H2=>∃ v5 v6 v7 ws ks,σ = [some (.ref a),some (.int c),some (.int (M:Int)),some (.int (c/80%(M:Int))),some (.ref q),v5,v6,v7]/\Same H0 H2/\H2 q=some (.lst ws)/\fN H2 ws ks/\ks.length=i/\∀ k∈ks,k.2<=10^(30:Int).toNat) ⟨_,_,_,[],[],rfl,s1,ag,⟨rfl,fun i k z=>by simp at z⟩,rfl,fun k z=>nomatch z⟩ ?_ ?_⟩
  ·rintro i σ H2 hi ⟨v5,v6,v7,ws,ks,rfl,s2,hq2,tk,kl,kb⟩
   rw[Ng]at hi
   have wl:=tk.1
   have e0:(0:Int)+(i:Int)=(i:Int):=OJ _
   rw[e0]
   refine⟨_,rfl,_,rfl,_,_,rfl,rfl,a,2+i,ns,(by show _ = [V.ref a,V.int ((2+i:Nat):Int)];rw[Int.natCast_add];rfl),(s0.trans s2).seq hS,?_⟩
   generalize jt ns (2+i)=cc
   refine⟨_,rfl,_,rfl,_,_,rfl,rfl,(by decide:(0:Int)<16),rfl,_,rfl,ite2 (fun _=>⟨_,rfl,_,rfl,rfl,.inr ⟨_,rfl,?_⟩⟩) (fun _=>.inr ⟨_,rfl,?_⟩)⟩
   all_goals
    refine⟨_,_,rfl,rfl,_,_,rfl,rfl,(by decide:(0:Int)<2),?_⟩
    have two:∀ x:Int,x%2=0∨x%2=1:=fun x=>by omega +splitDisjunctions
    have w30:∃ L:Int,atI [V.int 2,V.int 4,V.int (10^(30:Int).toNat+1)] (c/7%3)=some (.int L)/\1<=L/\L<=10^(30:Int).toNat+1:=by
     have:c/7%3=0∨c/7%3=1∨c/7%3=2:=by omega +splitDisjunctions
     rcases this with z | z | z<;>rw[z]
     ·exact⟨2,rfl,by decide,by decide⟩
     ·exact⟨4,rfl,by decide,by decide⟩
     ·exact⟨_,rfl,by decide,Oj _⟩
    obtain⟨L,hL,L1,L2⟩:=w30
    have fin:∀(pu:Int)(t:Addr)(H3:Hp),(pu=0∨pu=1)->Same H2 H3->H3 t=none->Same H0 (upd (upd H3 t (.tup [.int pu,.int (cc/30%L)])) q (.lst (ws++[.ref t])))/\(upd (upd H3 t (.tup [.int pu,.int (cc/30%L)])) q (.lst (ws++[.ref t]))) q=some (.lst (ws++[.ref t]))/\fN (upd (upd H3 t (.tup [.int pu,.int (cc/30%L)])) q (.lst (ws++[.ref t]))) (ws++[.ref t]) (ks++[(pu,cc/30%L)])/\(ks++[(pu,cc/30%L)]).length=i+1/\∀ k∈ks++[(pu,cc/30%L)],k.2<=10^(30:Int).toNat:=fun pu t H3 h01 s3 ht=>by
     have sA:=s3.trans (aq ht (.tup [.int pu,.int (cc/30%L)]))
     refine⟨aW (s2.trans sA) hq _,ag,((tk.mono sA).snoc (p:=t) (k:=(pu,cc/30%L)) ag h01 (Int.emod_nonneg _ (by omega +splitDisjunctions))).put (sA _ _ hq2),by rw[MX,kl];rfl,fun k hk=>?_⟩
     rcases M5.mp hk with z | z
     ·exact kb k z
     ·rw[Nx.mp z]
      have:=Int.emod_lt_of_pos (cc/30) (show(0:Int)<L by omega +splitDisjunctions)
      show cc/30%L<=_
      omega +splitDisjunctions
    refine⟨_,rfl,_,_,rfl,rfl,(by decide:(0:Int)<16),_,_,rfl,rfl,_,rfl,ite2 (fun _=>⟨_,rfl,_,_,rfl,rfl,(by decide:(0:Int)<1000003),_,_,rfl,rfl,⟨by decide,by decide⟩,_,_,rfl,rfl,(by decide:(0:Int)<2),?_⟩) (fun _=>?_)⟩
    all_goals
     refine⟨_,rfl,.inl ⟨rfl,_,SqL.of hq2⟩,_,rfl,_,rfl,_,_,rfl,rfl,⟨by decide,by decide⟩,?_⟩
     refine⟨_,_,rfl,rfl,⟨by decide,by decide,by decide⟩,_,_,rfl,rfl,(by show 3<=sizeLine;decide),fun q9 hq9=>?_⟩
     have s9:=aq hq9 (.lst [V.int 2,V.int 4,V.int (10^(30:Int).toNat+1)])
     refine⟨_,rfl,_,_,rfl,rfl,⟨by decide,by decide⟩,_,_,rfl,rfl,(by decide:(0:Int)<3),q9,_,_,_,rfl,rfl,SqL.of ag,hL,_,_,rfl,rfl,(show(0:Int)<L by omega +splitDisjunctions),(by show 2<=sizeLine;decide),fun t ht=>?_⟩
     exact⟨q,ws,_,rfl,rfl,aq ht _ _ _ (s9 _ _ hq2),ax (by omega +splitDisjunctions),_,_,_,_,_,rfl,fin _ t _ (two _) s9 ht⟩
  rintro σ H2 ⟨v5,v6,v7,ws,ks,rfl,s2,hq2,tk,kl,kb⟩
  rw[Ng]at kl
  exact⟨_,rfl,kk q ws ks H2 (s0.trans s2) hq2 tk (by omega +splitDisjunctions) (by omega +splitDisjunctions) kb⟩
end
end K8
namespace K8
open PySem L2
local macro_rules | `(tactic| walk_at "cc") => `(tactic| first | exact ⟨by decide, by decide⟩ | (show (0 : Int) < _; decide) | (show (0 : Int) < _; omega) | (show (0 : Int) ≤ _; omega) | exact ⟨by decide, by decide, by decide⟩ | exact ⟨by omega, by omega, by decide⟩ | exact Or.inl ⟨by decide, by decide⟩ | exact Or.inl ⟨by omega, by omega⟩)
local macro_rules | `(tactic| walk_at "rd") => `(tactic| repeat (first | refine ⟨_, rfl, ?_⟩ | refine ⟨_, _, rfl, rfl, ?_⟩ | refine ⟨rfl, ?_⟩ | (refine ⟨?cc, ?_⟩; (case cc => walk_at "cc"))))
theorem cut_hi{xs:List V}{c:Nat}(h:c<=xs.length):cutV xs (some (c:Int)) none=xs.drop c:=by
 unfold cutV
 rw[HT.sIx_nat,Nat.min_eq_left h]
 show(xs.drop c).take (xs.length-c)=_
 exact O6 (by rw[Qc];exact MT _)
theorem cut_lo{xs:List V}{c:Nat}(h:c<=xs.length):cutV xs none (some (c:Int))=xs.take c:=by
 unfold cutV
 rw[HT.sIx_nat,Nat.min_eq_left h]
 show(xs.drop 0).take (c-0)=_
 rw[List.drop_zero,Nat.sub_zero]
theorem up2{H:Hp}{x dx:Addr}{o1 o2:HO}(nx:H x=none)(ndx:H dx=none):Same H (upd (upd H dx o1) x o2):=fun b o z=>by rw[ao (aG z nx),ao (aG z ndx)];exact z
theorem La{H H':Hp}(s:Same H H'){a:Addr}(h:H a≠none):H' a≠none:=fun y=>h (by
 cases u:H a with
 |none=>rfl
 |some o=>rw[s _ _ u]at y;cases y)
section
variable{P:Program}{w:World}{K:MQ}{mg:Str->Option Value}{base:Heap}
theorem dE:av ["kinds","cell","ties","k","ends","start","row"] ["kinds","cell"] (ah fH):=⟨rfl,rfl,rfl,by decide +kernel,rfl,by decide +kernel,by decide +kernel⟩
theorem Lw{f fI PL PS WC fW:Addr}{fd fdI fdW:FuncData} (F:Fun K "_law_web" "_law_web" fH f fd) (T:TxtV mg) (M_Pull:Mak P w K mg base 1 "Pull" ["self","one","two","strength"] (rP K) PL fI fdI) (M_Push:Mak P w K mg base 1 "Push" ["self","one","two","strength"] (rP K) PS fI fdI) (TL:CT K PL) (TS:CT K PS)
  (M_Web:Mak P w K mg base 5 "Web" ["self","many","ties","turns"] (tG K) WC fW fdW) (cw:CW K WC):FnOk P w K mg base CX0 7 f fd ["kinds","cell"] (EV PL PS WC):=by
 refine F.ok dE (fun vs H Q E h=>?_) (fun cdv A outer s H vs Q E hr h=>?_)
 ·obtain⟨pk,c,ws,ks,rfl,_⟩:=h
  rfl
 obtain⟨pk,c,ws,ks,rfl,hpk,tk,k4,k14,kk⟩:=h
 refine⟨_,(af (ar (i:=2) dE.nd rfl (Or.inl rfl) (dm aj))
   (af (cD PassesOwn.never rfl (bD rfl T.n_range (ae (aM aF (by rfl) T.n_len cN (ae (pv 0) aj)) aj)) (aL (i:=3) dE.nd rfl (Or.inl rfl)) (af (ar (i:=4) dE.nd rfl (Or.inl rfl) (aD aA (dm (ae (bP (ae ai (ae ai aj))) (ae (bP (ae ai (ae ai aj))) aj))) (aB cj (aB dZ (pv 1) (aB rY (pv 3) (pv 3))) ai) (fun _ _=>rfl)))
   (ak (bL (aC js (aD aS (aD aA (pv 0) (pv 3) (fun _ _=>rfl)) ai (fun _ _=>rfl)) ai (aI _)) (ak (bC (kK NB NH NG bu (pv 2) (ae (zZ M_Push.mkc M_Push.ok (hr.mono (by decide)) rfl M_Push.mg M_Push.bn .nil aR (ae (aD aS (pv 4) ai (fun _ _=>rfl)) (ae (aD aS (pv 4) ai (fun _ _=>rfl)) (ae (aD aS (aD aA (pv 0) (pv 3) (fun _ _=>rfl)) ai (fun _ _=>rfl)) aj)))) aj)))) (ak (bC (kK NB NH NG bu (pv 2) (ae (zZ M_Pull.mkc M_Pull.ok (hr.mono (by decide)) rfl M_Pull.mg M_Pull.bn .nil aR (ae (aD aS (pv 4) ai (fun _ _=>rfl)) (ae (aD aS (pv 4) ai (fun _ _=>rfl)) (ae (aD aS (aD aA (pv 0) (pv 3) (fun _ _=>rfl)) ai (fun _ _=>rfl)) aj)))) aj))))))))
   (af (ar (i:=5) dE.nd rfl (Or.inl rfl) (aB cj (aB dY (pv 1) ai) (aM aF (by rfl) T.n_len cN (ae (pv 0) aj))))
   (af (ar (i:=6) dE.nd rfl (Or.inl rfl) (w4 rfl rfl T.n_list rfl T.n_range (aM aF (by rfl) T.n_len cN (ae (pv 0) aj))))
   (ak (aE (zZ M_Web.mkc M_Web.ok (hr.mono (by decide)) rfl M_Web.mg M_Web.bn .nil aR (ae ai (ae (pv 2) (ae (dm (ae (aB op_cat (uo zh (pv 6) (zH (pv 5)) zI) (uo zh (pv 6) zI (zH (pv 5)))) (ae (rX rfl rfl T.n_list rfl T.n_reversed (pv 6)) aj))) aj)))))))))),?_⟩
 refine⟨(by show 0<=sizeLine;decide),fun q hq=>?_⟩
 have s1:=aq hq (.lst [])
 have hwl:ws.length=ks.length:=tk.1
 refine⟨_,rfl,pk,ws,rfl,.inl (SqL.of (s1 _ _ hpk)),_,rfl,by omega,by omega,kS (n:=(ws.length:Int).toNat) (fun i σ H2=>∃ v3 v4 us es,σ = [some (.ref pk),some (.int c),some (.ref q),v3,v4,none,none]/\Same H H2/\H2 q=some (.lst us)/\rM PL PS H2 us es ks/\es.length=i/\FanE es) ⟨_,_,[],[],rfl,s1,ag,⟨rfl,fun i e k z=>by simp at z⟩,rfl,fun k e z=>by simp at z⟩ ?_ ?_⟩
 ·rintro i σ H2 hi ⟨v3,v4,us,es,rfl,s2,hq2,tt,el,fe⟩
  rw[Ng,hwl]at hi
  have e0:(0:Int)+(i:Int)=(i:Int):=OJ _
  rw[e0]
  obtain⟨k,hk⟩:∃ k,ks[i]?=some k:=⟨_,MN hi⟩
  have ul:us.length=i:=by rw[tt.1,el]
  refine⟨(by show 2<=sizeLine;decide),fun t1 h1=>⟨(by show 2<=sizeLine;decide),fun t2 h2=>⟨(by show 2<=sizeLine;decide),fun q1 hq1=>?_⟩⟩⟩
  have sa:=(aq h1 (.tup [.int 0,.int 1])).trans (aq h2 (.tup [.int 1,.int 0]))
  have sb:=sa.trans (aq hq1 (.lst [.ref t1,.ref t2]))
  have g1:=(aq hq1 (.lst [.ref t1,.ref t2])) _ _ ((aq h2 (.tup [.int 1,.int 0])) _ _ (show(upd H2 t1 (.tup [.int 0,.int 1])) t1=_ from ag))
  have g2:=(aq hq1 (.lst [.ref t1,.ref t2])) _ _ (show(upd (upd H2 t1 (.tup [.int 0,.int 1])) t2 (.tup [.int 1,.int 0])) t2=_ from ag)
  have gq:(upd (upd (upd H2 t1 (.tup [.int 0,.int 1])) t2 (.tup [.int 1,.int 0])) q1 (.lst [.ref t1,.ref t2])) q1=some (.lst [.ref t1,.ref t2]):=ag
  obtain⟨p,e,hp,he,hpe⟩:∃(p:Addr)(e:Nat×Nat),atI [V.ref t1,V.ref t2] ((c+(i:Int)*(i:Int))%2)=some (.ref p)/\(e=(0,1)∨e=(1,0))/\(upd (upd (upd H2 t1 (.tup [.int 0,.int 1])) t2 (.tup [.int 1,.int 0])) q1 (.lst [.ref t1,.ref t2])) p=some (.tup [.int (e.1:Int),.int (e.2:Int)]):=by
   have:(c+(i:Int)*(i:Int))%2=0∨(c+(i:Int)*(i:Int))%2=1:=by omega
   rcases this with z | z<;>rw[z]
   ·exact⟨t1,(0,1),rfl,.inl rfl,g1⟩
   ·exact⟨t2,(1,0),rfl,.inr rfl,g2⟩
  refine⟨_,rfl,_,rfl,_,rfl,_,_,rfl,rfl,.inl ⟨by omega,by omega⟩,_,_,rfl,rfl,_,_,rfl,rfl,(by decide:(0:Int)<2),q1,_,_,_,rfl,rfl,SqL.of gq,hp,?_⟩
  generalize (upd (upd (upd H2 t1 (.tup [.int 0,.int 1])) t2 (.tup [.int 1,.int 0])) q1 (.lst [.ref t1,.ref t2]))=H3 at sb hpe
  have s3:=s2.trans sb
  have hq3:=sb _ _ hq2
  obtain⟨k1,k2,pk',y1,y2⟩:=(tk.mono s3).2 i k hk
  have ne:e.1≠e.2/\e.1<=1/\e.2<=1:=by
   rcases he with z | z<;>rw[z]<;>decide
  have tt3:=tt.mono sb
  refine⟨_,rfl,_,rfl,pk,ws,_,_,rfl,rfl,SqL.of (s3 _ _ hpk),aJ y1,pk',_,0,_,rfl,rfl,SqT.of y2,at0,rfl,_,rfl,?_⟩
  have fin:∀(x dx:Addr)(H':Hp),Same H3 H'->H' x=some (.ins (cls PL PS (decide (k.1=1))) dx (tf (e.1:Int) (e.2:Int) k.2))->∃ v3 v4 zs es,([some (.ref pk),some (.int c),some (.ref q),some (.int (i:Int)),some (.ref p),none,none]:St) = [some (.ref pk),some (.int c),some (.ref q),v3,v4,none,none]/\Same H (upd H' q (.lst (us++[.ref x])))/\(upd H' q (.lst (us++[.ref x]))) q=some (.lst zs)/\rM PL PS (upd H' q (.lst (us++[.ref x]))) zs es ks/\es.length=i+1/\FanE es:=fun x dx H' s4 h1=>by
   refine⟨_,_,_,es++[e],rfl,aW (s3.trans s4) hq _,ag,⟨by rw[MX,MX,ul,el];rfl,fun j e' k' hj hk'=>?_⟩,by rw[MX,el];rfl,fun j e' hj=>?_⟩
   ·have hqn:∀{b:Addr}{C dx:Addr}{fs:List (Str×V)},H' b=some (.ins C dx fs)->b≠q:=fun z y=>by rw[y,s4 _ _ hq3]at z;cases z
    by_cases z:j<i
    ·rw[MU (by omega)]at hj
     obtain⟨p',dx',a1,a2⟩:=(tt3.mono s4).2 j e' k' hj hk'
     exact⟨p',dx',by rw[MU (by omega)];exact a1,by rw[ao (hqn a2)];exact a2⟩
    ·have jl:=(MO.mp hj).1
     rw[MX,el]at jl
     have z2:j=i:=by have:j<i+1:=jl;omega
     subst z2
     rw[← el,MR (MT _),Nl]at hj
     cases hj
     rw[hk]at hk'
     cases hk'
     exact⟨x,dx,by rw[← ul,MR (MT _),Nl];rfl,by rw[ao (hqn h1)];exact h1⟩
   ·by_cases z:j<es.length
    ·rw[MU z]at hj
     exact fe j e' hj
    ·rw[MR (by omega)]at hj
     have:=Nx.mp (MP hj)
     rw[this]
     exact he
  refine ite2 (fun c=>?_) (fun c=>?_)
  ·have c':k.1=1:=V.int.inj (of_decide_eq_true c)
   refine⟨_,rfl,.inl ⟨rfl,_,SqL.of hq3⟩,_,rfl,p,_,0,_,rfl,rfl,SqT.of hpe,at0,_,rfl,p,_,1,_,rfl,rfl,SqT.of hpe,at1,_,rfl,_,rfl,pk,ws,_,_,rfl,rfl,SqL.of (s3 _ _ hpk),aJ y1,pk',_,1,_,rfl,rfl,SqT.of y2,at1,?_⟩
   intro x dx nx ndx nex
   refine⟨x,PS,dx,_,_,_,rfl,ag,TS,by omega,by omega,by omega,k2,fun H' h1 h2=>?_⟩
   have s4:Same H3 H':=fun b o z=>h2 b o (by rw[ao (aG z nx),ao (aG z ndx)];exact z) (aG z nx)
   refine⟨rfl,q,us,_,rfl,rfl,s4 _ _ hq3,ax (by omega),fin x dx H' s4 ?_⟩
   rw[decide_eq_true c']
   exact h1
  ·have c':¬ k.1=1:=fun z=>c (decide_eq_true (by rw[z]))
   refine⟨_,rfl,.inl ⟨rfl,_,SqL.of hq3⟩,_,rfl,p,_,0,_,rfl,rfl,SqT.of hpe,at0,_,rfl,p,_,1,_,rfl,rfl,SqT.of hpe,at1,_,rfl,_,rfl,pk,ws,_,_,rfl,rfl,SqL.of (s3 _ _ hpk),aJ y1,pk',_,1,_,rfl,rfl,SqT.of y2,at1,?_⟩
   intro x dx nx ndx nex
   refine⟨x,PL,dx,_,_,_,rfl,ag,TL,by omega,by omega,by omega,k2,fun H' h1 h2=>?_⟩
   have s4:Same H3 H':=fun b o z=>h2 b o (by rw[ao (aG z nx),ao (aG z ndx)];exact z) (aG z nx)
   refine⟨rfl,q,us,_,rfl,rfl,s4 _ _ hq3,ax (by omega),fin x dx H' s4 ?_⟩
   rw[decide_eq_false c']
   exact h1
 rintro σ H2 ⟨v3,v4,us,es,rfl,s2,hq2,tt,el,fe⟩
 rw[Ng,hwl]at el
 have hpk2:=s2 _ _ hpk
 obtain⟨st,hst,stl⟩:∃ st:Nat,c/2%(ws.length:Int)=(st:Int)/\st<ks.length:=by
  have u0:=Int.emod_nonneg (c/2) (show(ws.length:Int)≠0 by omega)
  have u1:=Int.emod_lt_of_pos (c/2) (show(0:Int)<(ws.length:Int) by omega)
  exact⟨(c/2%(ws.length:Int)).toNat,by omega,by omega⟩
 refine⟨_,rfl,_,_,rfl,rfl,⟨by decide,by decide⟩,_,rfl,pk,ws,rfl,.inl (SqL.of hpk2),_,_,rfl,rfl,(by omega),?_⟩
 show JA 5 (V.int (c/2%(ws.length:Int))) _ _ _
 rw[hst]
 refine⟨_,rfl,pk,ws,rfl,.inl (SqL.of hpk2),ws.length,rfl,by omega,fun r hr'=>?_⟩
 rw[hwl]
 have s3:=aq hr' (.lst ((Na ks.length).map iV))
 have g3:(upd H2 r (.lst ((Na ks.length).map iV))) r=some (.lst ((Na ks.length).map iV)):=ag
 have rl:((Na ks.length).map iV).length=ks.length:=by rw[M7,NN]
 refine⟨_,rfl,_,rfl,_,rfl,_,rfl,r,_,rfl,SqL.of g3,fun b1 hb1=>?_⟩
 rw[cut_hi (by omega)]
 have s4:=aq hb1 (.lst (((Na ks.length).map iV).drop st))
 refine⟨_,rfl,_,rfl,_,rfl,r,_,rfl,SqL.of (s4 _ _ g3),fun b2 hb2=>?_⟩
 rw[cut_lo (by omega)]
 have s5:=aq hb2 (.lst (((Na ks.length).map iV).take st))
 refine⟨b1,b2,_,_,rfl,rfl,s5 _ _ ag,ag,by rw[Qc,Oq];exact NM (ax (by omega)),fun b3 hb3=>?_⟩
 have hrow:((Na ks.length).map iV).drop st++((Na ks.length).map iV).take st=((Na ks.length).drop st++(Na ks.length).take st).map iV:=by
  rw[NU,List.map_drop,List.map_take]
 rw[hrow]
 have s6:=aq hb3 (.lst (((Na ks.length).drop st++(Na ks.length).take st).map iV))
 have g6:(upd (upd (upd (upd H2 r (.lst ((Na ks.length).map iV))) b1 (.lst (((Na ks.length).map iV).drop st))) b2 (.lst (((Na ks.length).map iV).take st))) b3 (.lst (((Na ks.length).drop st++(Na ks.length).take st).map iV))) b3=some (.lst (((Na ks.length).drop st++(Na ks.length).take st).map iV)):=ag
 have s7:=((s3.trans s4).trans s5).trans s6
 have g7:=((s4.trans s5).trans s6) _ _ g3
 refine⟨_,rfl,r,_,rfl,SqL.of g7,fun b4 hb4=>?_⟩
 have hrv:((Na ks.length).map iV).reverse=(Na ks.length).reverse.map iV:=List.map_reverse.symm
 have s8:=s7.trans (aq hb4 (.lst ((Na ks.length).reverse.map iV)))
 refine⟨(by show 2<=sizeLine;decide),fun D hD x dx nx ndx nex=>?_⟩
 rw[← hrv]at s8
 have sD:=aq hD (.lst [.ref b3,.ref b4])
 have s9:=s8.trans sD
 have g3':=sD _ _ (aq hb4 (.lst ((Na ks.length).map iV).reverse) _ _ g6)
 have g4':=sD b4 _ ag
 have up:=up2 (o1:=.own x) (o2:=.ins WC dx []) nx ndx
 have kl:ks.length=es.length:=el.symm
 have g:Gr 2 es [(Na ks.length).drop st++(Na ks.length).take st,(Na ks.length).reverse]:=by
  rw[kl]
  exact fan_gr fe (by omega) (OA st _).symm
 refine⟨x,WC,dx,q,D,2,us,[.ref b3,.ref b4],es,_,rfl,ag,cw,up _ _ (s9 _ _ hq2),((tt.at kl TL TS).mono s9).mono up,up _ _ ag,⟨rfl,fun i l hl=>?_⟩,g,by omega,by omega,fun fs q1 rs H' h1 hg hn h2 h3 h4=>⟨rfl,?_⟩⟩
 ·match i,hl with
  |0,hl=>cases hl;exact⟨b3,rfl,up _ _ g3'⟩
  |1,hl=>cases hl;exact⟨b4,rfl,by rw[← hrv];exact up _ _ g4'⟩
  |i+2,hl=>cases hl
 have s10:Same H2 H':=fun b o z=>h4 b o (up _ _ (s9 _ _ z)) (aG (s9 _ _ z) nx)
 have up0:=fun a (z:H a≠none)=>La ((s2.trans s9).trans up) z
 exact kk x es _ rs H' (s2.trans s10) ⟨dx,fs,q1,us,h1,hg.mono (fun _ _ z=>z) up0,fun z=>up0 _ z hn,h2,h3,tt.mono s10⟩ fe el (by rw[el];exact⟨⟨_,_,(OA st _).symm,rfl⟩,⟨[],_,rfl,by rw[Ow];rfl⟩⟩) g
end
end K8
namespace K8
open PySem L2
local macro_rules | `(tactic| walk_at "cc") => `(tactic| first | exact ⟨by decide, by decide⟩ | (show (0 : Int) < _; decide) | (show (0 : Int) < _; omega) | (show (0 : Int) ≤ _; omega) | exact ⟨by decide, by decide, by decide⟩ | exact ⟨by omega, by omega, by decide⟩ | exact Or.inl ⟨by decide, by decide⟩ | exact Or.inl ⟨by omega, by omega⟩)
local macro_rules | `(tactic| walk_at "rd") => `(tactic| repeat (first | refine ⟨_, rfl, ?_⟩ | refine ⟨_, _, rfl, rfl, ?_⟩ | refine ⟨rfl, ?_⟩ | (refine ⟨?cc, ?_⟩; (case cc => walk_at "cc"))))
noncomputable def zc(TR TT PL PS WC:Addr):Sp:=fun vs H Q E=>∃(wh:Nat)(p:Addr)(m:Nat)(es:En)(ks:Kn)(rs:List (List Nat)),vs = [.ref p,.int (wh:Int)]/\wh<=1/\B5 TT PL PS WC H p m es ks rs/\RX TR TT ks es rs H E/\(rgh ks es.length rs<=12 ->
 ∀(q:Addr)(zs:List V)(H':Hp),KF.SmT H H'->Tb KF.lqF KF.lpF TT H'->H' q=some (.lst zs)->(wh=0->qG H' zs m es ks es.length)->(wh=1->qH H' zs m es ks es.length)->Q (.ref q) H')
noncomputable def EK(TR TT PL PS WC:Addr):Sp:=fun vs H Q _=>∃(wh:Nat)(p:Addr)(m:Nat)(es:En)(ks:Kn)(rs:List (List Nat)),vs = [.ref p,.int (wh:Int)]/\wh<=1/\B5 TT PL PS WC H p m es ks rs/\(12<rgh ks es.length rs->∀ H',KF.SmT H H'->Tb KF.lqF KF.lpF TT H'->Q (.str "rough") H')/\(rgh ks es.length rs<=12 ->
 ∀(q:Addr)(zs:List V)(H':Hp),KF.SmT H H'->Tb KF.lqF KF.lpF TT H'->H' q=some (.lst zs)->(wh=0->qG H' zs m es ks es.length)->(wh=1->qH H' zs m es ks es.length)->Q (.ref q) H')
noncomputable def dueV(wh:Nat)(a b:Int):List V:=if wh=0 then[.int a,.int b] else setV a b
noncomputable def KZ(K:MQ):Sp:=fun vs H Q _=>∃(wh:Nat)(p:Addr)(a b:Int),vs = [.ref p,.int (wh:Int)]/\wh<=1/\SqL K H p [.int a,.int b]/\∀ t,H t=none->Q (.ref t) (upd H t (.tup (dueV wh a b)))
noncomputable def EO:Sp:=fun vs H Q _=>∃(wh:Nat)(p q:Addr)(a b:Int),vs = [.ref p,.ref q]/\H p=some (.tup (dueV wh a b))/\H q=some (.tup (dueV wh a b))/\∀ H',Same H H'->Q (.bl true) H'
section
variable{P:Program}{w:World}{K:MQ}{mg:Str->Option Value}{base:Heap}
theorem wJ:av ["web","which"] ["web","which"] (ah cR):=⟨rfl,rfl,rfl,by decide +kernel,rfl,by decide +kernel,by decide +kernel⟩
theorem IV{TR TT f f1 f2 PL PS WC:Addr}{fd d1 d2:FuncData} (F:Fun K "_law_asked" "_law_asked" cR f fd) (G_both_ways:CalD P w K mg base 14 "both_ways" ["web"] (spBW TR TT PL PS WC) f1 d1) (G_set_ties:CalD P w K mg base 15 "set_ties" ["web"] (EL TR TT PL PS WC) f2 d2):FnOk P w K mg base (CXd P w) 16 f fd ["web","which"] (zc TR TT PL PS WC):=by
 refine F.okD wJ (fun vs H Q E h=>?_) (fun cdv A outer s H vs Q E hr h=>?_)
 ·obtain⟨wh,p,m,es,ks,rs,rfl,_⟩:=h
  rfl
 obtain⟨wh,p,m,es,ks,rs,rfl,w1,wo,kx,kk⟩:=h
 refine⟨_,(af (bL (aC js (pv 1) ai (aI _)) (ak (aE (kJ G_both_ways.ok (hr.mono (by decide)) rfl G_both_ways.mg G_both_ways.kp G_both_ways.bn .nil lE rfl (ae (pv 0) aj)))) aP)
   (ak (aE (kJ G_set_ties.ok (hr.mono (by decide)) rfl G_set_ties.mg G_set_ties.kp G_set_ties.bn .nil lE rfl (ae (pv 0) aj))))),?_⟩
 refine⟨_,rfl,rfl,_,rfl,ite2 (fun c=>?_) (fun c=>?_)⟩
 ·have w0:wh=0:=by have:=V.int.inj (of_decide_eq_true c);omega
  exact⟨_,rfl,p,m,es,ks,rs,rfl,wo,kx,fun z q zs H' s1 tb hq wa=>kk z q zs H' s1 tb hq (fun _=>wa) (fun y=>absurd y (by omega))⟩
 ·have w0:wh≠0:=fun z=>c (by subst z;rfl)
  exact⟨_,rfl,p,m,es,ks,rs,rfl,wo,kx,fun z q zs H' s1 tb hq wa=>kk z q zs H' s1 tb hq (fun y=>absurd y w0) (fun _=>wa)⟩
theorem fY:av ["web","which","found"] ["web","which"] (ah dM):=⟨rfl,rfl,rfl,by decide +kernel,rfl,by decide +kernel,by decide +kernel⟩
theorem Ln{TR TT f f1 PL PS WC:Addr}{fd d1:FuncData} (F:Fun K "_law_told" "_law_told" dM f fd) (T:TxtO mg TR) (ecR:ExC K TR) (hCs:∀ c,c=TR->Pf K c (.ref TR)=some true) (G_law_asked:CalD P w K mg base 16 "_law_asked" ["web","which"] (zc TR TT PL PS WC) f1 d1):FnOk P w K mg base CX0 17 f fd ["web","which"] (EK TR TT PL PS WC):=by
 refine F.ok fY (fun vs H Q E h=>?_) (fun cdv A outer s H vs Q E hr h=>?_)
 ·obtain⟨wh,p,m,es,ks,rs,rfl,_⟩:=h
  rfl
 obtain⟨wh,p,m,es,ks,rs,rfl,w1,wo,kx,kk⟩:=h
 refine⟨_,(af (ar (i:=2) fY.nd rfl (Or.inl rfl) jw)
   (af (Le (Cs:=(fun c=>c=TR)) rfl rfl rfl rfl T.g_TooRough ecR hCs (fun pins XE W ws=>(ak (ar (i:=2) fY.nd rfl (Or.inl rfl) (FC G_law_asked.ok (hr.mono (by decide)) rfl G_law_asked.mg G_law_asked.kp G_law_asked.bn .nil ws rfl (ae (pv 0) (ae (pv 1) aj)))))) (fun v=>(ak (ar (i:=2) fY.nd rfl (Or.inl rfl) Fx))))
   (ak (aE (pv 2))))),?_⟩
 refine⟨_,rfl,_,rfl,wh,p,m,es,ks,rs,rfl,w1,wo,fun z H1 s1 tb1=>⟨TR,rfl,rfl,⟨_,rfl,kx z H1 s1 tb1⟩⟩,fun z q zs H1 s1 tb1 hq wa sa=>⟨_,rfl,kk z q zs H1 s1 tb1 hq wa sa⟩⟩
theorem C0:av ["costs","which"] ["costs","which"] (ah fJ):=⟨rfl,rfl,rfl,by decide +kernel,rfl,by decide +kernel,by decide +kernel⟩
theorem ok_due{f:Addr}{fd:FuncData} (F:Fun K "_law_due" "_law_due" fJ f fd):FnOk P w K mg base CX0 1 f fd ["costs","which"] (KZ K):=by
 refine F.ok C0 (fun vs H Q E h=>?_) (fun cdv A outer s H vs Q E hr h=>?_)
 ·obtain⟨wh,p,a,b,rfl,_⟩:=h
  rfl
 obtain⟨wh,r,a,b,rfl,w1,hr1,kk⟩:=h
 refine⟨_,(af (bL (aC js (pv 1) ai (aI _)) (ak (aE (bP (ae (aD aA (pv 0) ai (fun _ _=>rfl)) (ae (aD aA (pv 0) ai (fun _ _=>rfl)) aj))))) aP)
   (af (bL (aC oM (aD aA (pv 0) ai (fun _ _=>rfl)) (aD aA (pv 0) ai (fun _ _=>rfl)) (aI _)) (ak (aE (bP (ae ai (ae (aB jx (aD aA (pv 0) ai (fun _ _=>rfl)) (aD aA (pv 0) ai (fun _ _=>rfl))) aj))))) aP)
   (af (bL (aC oM (aD aA (pv 0) ai (fun _ _=>rfl)) (aD aA (pv 0) ai (fun _ _=>rfl)) (aI _)) (ak (aE (bP (ae ai (ae (aB jx (aD aA (pv 0) ai (fun _ _=>rfl)) (aD aA (pv 0) ai (fun _ _=>rfl))) aj))))) aP)
   (ak (aE (bP (ae jw (ae ai aj)))))))),?_⟩
 refine⟨_,rfl,rfl,_,rfl,ite2 (fun c=>?_) (fun c=>?_)⟩
 ·have w0:wh=0:=by have:=V.int.inj (of_decide_eq_true c);omega +splitDisjunctions
  subst w0
  exact⟨_,rfl,r,_,0,_,rfl,rfl,hr1,at0,_,rfl,r,_,1,_,rfl,rfl,hr1,at1,(by show 2<=sizeLine;decide),kk⟩
 have w0:wh≠0:=fun z=>c (by subst z;rfl)
 rw[show dueV wh a b=setV a b from if_neg w0]at kk
 refine⟨_,rfl,r,_,0,_,rfl,rfl,hr1,at0,_,rfl,r,_,1,_,rfl,rfl,hr1,at1,_,_,rfl,rfl,_,rfl,ite2 (fun c=>?_) (fun c=>?_)⟩
 ·have c':a<b:=of_decide_eq_true c
  have e:setV a b = [.int 0,.int (b-a)]:=if_pos c'
  rw[e]at kk
  exact⟨_,rfl,r,_,1,_,rfl,rfl,hr1,at1,_,rfl,r,_,0,_,rfl,rfl,hr1,at0,_,_,rfl,rfl,(by show 2<=sizeLine;decide),kk⟩
 ·have c':¬ a<b:=fun z=>c (decide_eq_true z)
  refine⟨_,rfl,r,_,1,_,rfl,rfl,hr1,at1,_,rfl,r,_,0,_,rfl,rfl,hr1,at0,_,_,rfl,rfl,_,rfl,ite2 (fun c2=>?_) (fun c2=>?_)⟩
  ·have c2':b<a:=of_decide_eq_true c2
   have e:setV a b = [.int 1,.int (a-b)]:=by unfold setV;rw[if_neg c',if_pos c2']
   rw[e]at kk
   exact⟨_,rfl,r,_,0,_,rfl,rfl,hr1,at0,_,rfl,r,_,1,_,rfl,rfl,hr1,at1,_,_,rfl,rfl,(by show 2<=sizeLine;decide),kk⟩
  ·have c2':¬ b<a:=fun z=>c2 (decide_eq_true z)
   have e:setV a b = [.non,.int 0]:=by unfold setV;rw[if_neg c',if_neg c2']
   rw[e]at kk
   exact⟨(by show 2<=sizeLine;decide),kk⟩
theorem oz:av ["found","due","part"] ["found","due"] (ah dN):=⟨rfl,rfl,rfl,by decide +kernel,rfl,by decide +kernel,by decide +kernel⟩
theorem Lr{f:Addr}{fd:FuncData} (F:Fun K "_law_pair" "_law_pair" dN f fd) (T:Txt mg):FnOk P w K mg base CX0 1 f fd ["found","due"] EO:=by
 refine F.ok oz (fun vs H Q E h=>?_) (fun cdv A outer s H vs Q E hr h=>?_)
 ·obtain⟨wh,p,q,a,b,rfl,_⟩:=h
  rfl
 obtain⟨wh,p,q,a,b,rfl,hp,hq,kk⟩:=h
 have hu64:=hr.units
 refine⟨_,(af (bL (PW.pt (zF (wQ (rV (aM oi (by rfl) T.n_isinstance dB (ae (pv 0) (ae (uw (v:=.ty "tuple") rfl T.n_tuple JN rfl) aj))))) (zF (aC nh (aM aF (by rfl) T.n_len cN (ae (pv 0) aj)) ai (aI _)) (rT (aC (Ka hu64) (pv 0) (pv 1) (aI _)))))) (ak (aE qY)) aP)
   (af (cD PassesOwn.never rfl (pi_tup (pv 0)) (aL (i:=2) oz.nd rfl (Or.inl rfl)) (ak (bL (PW.pt (pw_and (aC FJ (pv 2) jw (aI _)) (Ld (PW.pt (zF (wQ (rV (aM oi (by rfl) T.n_isinstance dB (ae (pv 2) (ae (uw (v:=.ty "int") rfl T.n_int HA rfl) aj))))) (rT (rV (aM oi (by rfl) T.n_isinstance dB (ae (pv 2) (ae (uw (v:=.ty "bool") rfl T.n_bool Mz rfl) aj)))))))))) (ak (aE qY)) aP)))
   (ak (aE qY)))),?_⟩
 have hv:∃(v0:V)(b':Int)(d0:PyData),dueV wh a b = [v0,.int b']/\(v0=.non∨∃ a',v0=.int a')/\RdD K H v0 d0/\SeqAt.shaped (.tuple [d0,.int b'])=true:=by
  unfold dueV setV
  by_cases c0:wh=0
  ·rw[if_pos c0];exact⟨_,_,_,rfl,.inr ⟨_,rfl⟩,.int _,rfl⟩
  ·rw[if_neg c0]
   by_cases c:a<b
   ·rw[if_pos c];exact⟨_,_,_,rfl,.inr ⟨_,rfl⟩,.int _,rfl⟩
   ·rw[if_neg c]
    by_cases c2:b<a
    ·rw[if_pos c2];exact⟨_,_,_,rfl,.inr ⟨_,rfl⟩,.int _,rfl⟩
    ·rw[if_neg c2];exact⟨_,_,_,rfl,.inl rfl,.non,rfl⟩
 obtain⟨v0,b',d0,hv,h0,rd,sh⟩:=hv
 rw[hv]at hp hq
 have rdT:∀{t:Addr},H t=some (.tup [v0,.int b'])->RdD K H (.ref t) (.tuple [d0,.int b']):=fun ht=>RdD.tup (SqT.of ht) rfl fun i x d h1 h2=>by
  match i,h1,h2 with
  |0,h1,h2=>cases h1;cases h2;exact rd
  |1,h1,h2=>cases h1;cases h2;exact .int _
  |i+2,h1,h2=>cases h1
 refine⟨_,rfl,_,_,_,_,_,rfl,TyOf.tup hp,Or.inl ⟨_,rfl,rfl⟩,kit_tt K,_,rfl,iteF ?_⟩
 refine⟨_,rfl,p,_,rfl,.inr (SqT.of hp),rfl,_,rfl,xU rfl ?_⟩
 refine⟨_,rfl,_,rfl,_,rdT hp,rdT hq,sh,_,rfl,iteF ?_⟩
 refine⟨_,rfl,p,rfl,⟨_,SqT.of hp⟩,Mf (K:=K) (xs:=[v0,.int b']) (fun i σ H2=>∃ v,σ = [some (.ref p),some (.ref q),v]/\H2=H) ⟨_,rfl,rfl⟩ (fun i σ H2 _ ⟨_,_,z⟩=>by rw[z];exact SqT.of hp) ?_ ?_⟩
 ·rintro i x σ H2 hx ⟨v,rfl,rfl⟩
  have hx2:x=.non∨∃ a',x=.int a':=by
   match i,hx with
   |0,hx=>cases hx;exact h0
   |1,hx=>cases hx;exact .inr ⟨_,rfl⟩
   |i+2,hx=>cases hx
  rcases hx2 with rfl | ⟨a',rfl⟩
  ·exact⟨_,rfl,rfl,_,rfl,iteF (iteF ⟨_,rfl,rfl⟩)⟩
  ·refine⟨_,rfl,rfl,_,rfl,iteT ?_⟩
   refine⟨_,rfl,_,_,_,_,_,rfl,TyOf.int _,Or.inl ⟨_,rfl,rfl⟩,kit_ii K,_,rfl,iteF ?_⟩
   exact⟨_,rfl,_,_,_,_,_,rfl,TyOf.int _,Or.inl ⟨_,rfl,rfl⟩,kit_ib K,_,rfl,iteF ⟨_,rfl,rfl⟩⟩
 rintro σ H2 ⟨v,rfl,rfl⟩
 exact kk _ fun _ _ z=>z
end
end K8
namespace K8
open PySem L2
local macro_rules | `(tactic| walk_at "cc") => `(tactic| first | exact ⟨by decide, by decide⟩ | (show (0 : Int) < _; decide) | (show (0 : Int) < _; omega) | (show (0 : Int) ≤ _; omega) | exact ⟨by decide, by decide, by decide⟩ | exact ⟨by omega, by omega, by decide⟩ | exact Or.inl ⟨by decide, by decide⟩ | exact Or.inl ⟨by omega, by omega⟩)
local macro_rules | `(tactic| walk_at "rd") => `(tactic| repeat (first | refine ⟨_, rfl, ?_⟩ | refine ⟨_, _, rfl, rfl, ?_⟩ | refine ⟨rfl, ?_⟩ | (refine ⟨?cc, ?_⟩; (case cc => walk_at "cc"))))
theorem at_prv{xs:List V}{n i:Nat}{v:V}(hl:xs.length=n)(hi:i<n)(h:xs[prv n i]?=some v):atI xs ((i:Int)-1)=some v:=by
 by_cases c:i=0
 ·subst c
  have e:prv n 0=n-1:=rfl
  rw[e]at h
  unfold atI ixN
  rw[if_neg (by omega),if_pos (by omega)]
  show xs[(((0:Nat):Int)-1+(xs.length:Int)).toNat]?=some v
  rw[show(((0:Nat):Int)-1+(xs.length:Int)).toNat=n-1 by omega]
  exact h
 ·have e:prv n i=i-1:=if_neg c
  rw[e]at h
  rw[show(i:Int)-1=((i-1:Nat):Int) by omega]
  exact aJ h
theorem IW{ks:Kn}{n i:Nat}:(((Na (i+1)).filter (oddK ks n)).length:Int)=(((Na i).filter (oddK ks n)).length:Int)+(if oddK ks n i=true then 1 else 0):=by
 rw[O3,List.filter_append,MX]
 by_cases c:oddK ks n i=true
 ·rw[if_pos c,Qw c];simp
 ·rw[if_neg c,Qx c];simp
noncomputable def Cc(K:MQ)(TT:Addr):Sp:=fun vs H Q _=>∃(a:Addr)(ns:List Int),vs = [.ref a]/\SqL K H a (ns.map V.int)/\ns.length<=63/\Tb KF.lqF KF.lpF TT H/\∀ H',Q (.bl true) H'
section
variable{P:Program}{w:World}{K:MQ}{mg:Str->Option Value}{base:Heap}
theorem gQ:av ["script","kinds","web","costs","odd_ones","k","ways","which","found","pair"] ["script"] (ah tW):=⟨rfl,rfl,rfl,by decide +kernel,rfl,by decide +kernel,by decide +kernel⟩
theorem ok_law{TR TT f fC fK fW fT fD fP PL PS WC:Addr}{fd dC dK dW dT dD dP:FuncData} (F:Fun K "law" "law" tW f fd) (T:Txt mg) (G_law_cell:Cal P w K mg base 1 "_law_cell" ["script","k"] (Cd K) fC dC) (G_law_kinds:Cal P w K mg base 2 "_law_kinds" ["script"] (zb K) fK dK) (G_law_web:Cal P w K mg base 7 "_law_web" ["kinds","cell"] (EV PL PS WC) fW dW) (G_law_told:Cal P w K mg base 17 "_law_told" ["web","which"] (EK TR TT PL PS WC) fT dT) (G_law_due:Cal P w K mg base 1 "_law_due" ["costs","which"] (KZ K) fD dD) (G_law_pair:Cal P w K mg base 1 "_law_pair" ["found","due"] EO fP dP):FnOk P w K mg base CX0 18 f fd ["script"] (Cc K TT):=by
 refine F.ok gQ (fun vs H Q E h=>?_) (fun cdv A outer s H vs Q E hr h=>?_)
 ·obtain⟨a,ns,rfl,_⟩:=h
  rfl
 obtain⟨a,ns,rfl,hS,h63,tb,kk⟩:=h
 refine⟨_,(af (ar (i:=1) gQ.nd rfl (Or.inl rfl) (az G_law_kinds.ok (hr.mono (by decide)) rfl G_law_kinds.mg G_law_kinds.kp G_law_kinds.bn .nil aR (ae (pv 0) aj)))
   (af (ar (i:=2) gQ.nd rfl (Or.inl rfl) (az G_law_web.ok (hr.mono (by decide)) rfl G_law_web.mg G_law_web.kp G_law_web.bn .nil aR (ae (pv 1) (ae (az G_law_cell.ok (hr.mono (by decide)) rfl G_law_cell.mg G_law_cell.kp G_law_cell.bn .nil aR (ae (pv 0) (ae ai aj))) aj))))
   (af (ar (i:=3) gQ.nd rfl (Or.inl rfl) (dm (ae ai (ae ai aj))))
   (af (ar (i:=4) gQ.nd rfl (Or.inl rfl) ai)
   (af (cD PassesOwn.never rfl (bD rfl T.n_range (ae (aM aF (by rfl) T.n_len cN (ae (pv 1) aj)) aj)) (aL (i:=5) gQ.nd rfl (Or.inl rfl)) (af (Lf (pv 3) (aB jx ai (aD aS (aD aA (pv 1) (pv 5) (fun _ _=>rfl)) ai (fun _ _=>rfl))) Jz (aD aS (aD aA (pv 1) (pv 5) (fun _ _=>rfl)) ai (fun _ _=>rfl)) ip_add nN)
   (ak (ar (i:=4) gQ.nd rfl (Or.inl rfl) (aB dZ (pv 4) (kH yx (by rfl) T.n_int HA (ae (uv nh (aD aS (aD aA (pv 1) (pv 5) (fun _ _=>rfl)) ai (fun _ _=>rfl)) (aD aS (aD aA (pv 1) (aB jx (pv 5) ai) (fun _ _=>rfl)) ai (fun _ _=>rfl)) (aI _)) aj)))))))
   (af (ar (i:=6) gQ.nd rfl (Or.inl rfl) (dm (ae ai (ae ai aj))))
   (af (bL (IB oM oM ai (pv 4) ai) (ak (ar (i:=6) gQ.nd rfl (Or.inl rfl) (dm (ae (aB cj (aB dY (az G_law_cell.ok (hr.mono (by decide)) rfl G_law_cell.mg G_law_cell.kp G_law_cell.bn .nil aR (ae (pv 0) (ae ai aj))) ai) ai) aj)))) aP)
   (af (cD PassesOwn.never rfl (bo (pv 6)) (aL (i:=7) gQ.nd rfl (Or.inl rfl)) (af (ar (i:=8) gQ.nd rfl (Or.inl rfl) (az G_law_told.ok (hr.mono (by decide)) rfl G_law_told.mg G_law_told.kp G_law_told.bn .nil aR (ae (pv 2) (ae (pv 7) aj))))
   (ak (bL (aC C9 (pv 4) ai (aI _)) (ak (bL (aC nh (pv 8) Fx (aI _)) (ak (aE qY)) aP)) (ak (bL (PW.pt (zF (wQ (rV (aM oi (by rfl) T.n_isinstance dB (ae (pv 8) (ae (uw (v:=.ty "list") rfl T.n_list qo rfl) aj))))) (rT (aC nh (aM aF (by rfl) T.n_len cN (ae (pv 8) aj)) (aM aF (by rfl) T.n_len cN (ae (pv 1) aj)) (aI _))))) (ak (aE qY)) (ak (cD PassesOwn.never rfl (bo (pv 8)) (aL (i:=9) gQ.nd rfl (Or.inl rfl)) (ak (bL (wQ (rV (az G_law_pair.ok (hr.mono (by decide)) rfl G_law_pair.mg G_law_pair.kp G_law_pair.bn .nil aR (ae (pv 9) (ae (az G_law_due.ok (hr.mono (by decide)) rfl G_law_due.mg G_law_due.kp G_law_due.bn .nil aR (ae (pv 3) (ae (pv 7) aj))) aj))))) (ak (aE qY)) aP))))))))))
   (ak (aE qY)))))))))),?_⟩
 refine⟨_,rfl,a,ns,rfl,hS,h63,fun pk ws ks H1 s1 hpk tk k4 k14 kb=>?_⟩
 refine⟨_,rfl,_,rfl,a,1,ns,rfl,s1.seq hS,pk,_,ws,ks,rfl,hpk,tk,k4,k14,fun p es ts rs H2 s2 wf fe el ft g=>?_⟩
 have hwl:ws.length=ks.length:=tk.1
 have s02:=s1.trans s2
 have tk2:=tk.mono s2
 have kin:∀ k∈ks,k.1=0∨k.1=1:=fun k hk=>by
  obtain⟨i,hi⟩:=Ot hk
  exact(tk.2 i k hi).1
 have kb3:∀ k∈ks,0<=k.2/\k.2<=10^(30:Int).toNat:=fun k hk=>by
  obtain⟨i,hi⟩:=Ot hk
  exact⟨(tk.2 i k hi).2.1,kb k hk⟩
 have rg:rgh ks es.length rs=((Na es.length).filter (oddK ks es.length)).length:=by
  obtain⟨dx,fs,q1,xs,hp,wg,_⟩:=id wf
  exact Mh fe ft wg.part
 refine⟨(by show 2<=sizeLine;decide),fun qc hqc=>?_⟩
 have s3:=aq hqc (.lst [.int 0,.int 0])
 refine⟨_,rfl,pk,ws,rfl,.inl (SqL.of (s3 _ _ (s2 _ _ hpk))),_,rfl,by omega +splitDisjunctions,by omega +splitDisjunctions,kS (n:=(ws.length:Int).toNat) (fun i σ H3=>∃ v5,σ = [some (.ref a),some (.ref pk),some (.ref p),some (.ref qc),some (.int (((Na i).filter (oddK ks es.length)).length:Int)),v5,none,none,none,none]/\Same H2 H3/\H3 qc=some (.lst [.int (cF ks false i),.int (cF ks true i)])) ⟨_,rfl,s3,ag⟩ ?_ ?_⟩
 ·rintro i σ H3 hi ⟨v5,rfl,s3',hq3⟩
  rw[Ng,hwl]at hi
  have e0:(0:Int)+(i:Int)=(i:Int):=OJ _
  rw[e0]
  obtain⟨k,hk⟩:∃ k,ks[i]?=some k:=⟨_,MN hi⟩
  have pl:=kE hi
  obtain⟨k',hk'⟩:∃ k',ks[prv ks.length i]?=some k':=⟨_,MN pl⟩
  obtain⟨k1,k2,pk1,y1,y2⟩:=(tk2.mono s3').2 i k hk
  obtain⟨k1',_,pk2,y1',y2'⟩:=(tk2.mono s3').2 _ k' hk'
  have hpk3:=s3' _ _ (s2 _ _ hpk)
  have pb:=t5 hk
  have sk:=EJ hk
  refine⟨_,rfl,_,rfl,_,rfl,pk,ws,_,_,rfl,rfl,SqL.of hpk3,aJ y1,pk1,_,0,_,rfl,rfl,SqT.of y2,at0,_,_,rfl,rfl,?_⟩
  obtain⟨j,x,hj,hx,jl,hset⟩:∃(j:Nat)(x:Int),1-k.1=(j:Int)/\[V.int (cF ks false i),V.int (cF ks true i)][j]?=some (.int x)/\j<2/\[V.int (cF ks false i),V.int (cF ks true i)].set j (.int (x+k.2)) = [.int (cF ks false (i+1)),.int (cF ks true (i+1))]:=by
   have c0:∀ x,cF ks x (i+1)=if(x ^^ aO ks i)=true then cF ks x i+stK ks i else cF ks x i:=fun _=>rfl
   rcases k1 with z | z
   ·refine⟨1,cF ks true i,by omega +splitDisjunctions,rfl,by decide,?_⟩
    rw[c0,c0,pb,sk,z]
    rfl
   ·refine⟨0,cF ks false i,by omega +splitDisjunctions,rfl,by decide,?_⟩
    rw[c0,c0,pb,sk,z]
    rfl
  have a1 : [V.int (cF ks false i),V.int (cF ks true i)][(1-k.1).toNat]?=some (.int x):=by rw[hj,Ng];exact hx
  have a2:ixN [V.int (cF ks false i),V.int (cF ks true i)].length (1-k.1)=some j:=by rw[hj];exact pD jl
  refine⟨qc,_,_,_,rfl,rfl,SqL.of hq3,by omega +splitDisjunctions,a1,?_⟩
  refine⟨_,rfl,_,rfl,pk,ws,_,_,rfl,rfl,SqL.of hpk3,aJ y1,pk1,_,1,_,rfl,rfl,SqT.of y2,at1,_,_,rfl,rfl,qc,_,_,j,rfl,rfl,hq3,a2,?_⟩
  have s4:=aW s3' hqc (.lst ([V.int (cF ks false i),V.int (cF ks true i)].set j (.int (x+k.2))))
  have g4:(upd H3 qc (.lst ([V.int (cF ks false i),V.int (cF ks true i)].set j (.int (x+k.2))))) qc=_:=ag
  obtain⟨_,_,pk3,z1,z2⟩:=(tk2.mono s4).2 i k hk
  obtain⟨_,_,pk4,z1',z2'⟩:=(tk2.mono s4).2 _ k' hk'
  have hpk4:=s4 _ _ (s2 _ _ hpk)
  have ho:(if oddK ks es.length i=true then 1 else 0:Int)=if(!decide (V.int k.1=V.int k'.1))=true then 1 else 0:=by
   unfold oddK
   rw[el,pb,t5 hk']
   rcases k1 with z | z<;>rcases k1' with z' | z'<;>rw[z,z']<;>rfl
  refine⟨_,rfl,_,rfl,_,rfl,pk,ws,_,_,rfl,rfl,SqL.of hpk4,aJ z1,pk3,_,0,_,rfl,rfl,SqT.of z2,at0,_,rfl,_,rfl,_,_,rfl,rfl,pk,ws,_,_,rfl,rfl,SqL.of hpk4,at_prv hwl hi z1',pk4,_,0,_,rfl,rfl,SqT.of z2',at0,rfl,.inr ⟨_,rfl,_,_,rfl,rfl,?_⟩⟩
  exact⟨_,by rw[IW,ho];rfl,s4,by rw[g4,hset]⟩
 rintro σ H3 ⟨v5,rfl,s3',hq3⟩
 rw[Ng,hwl,← el]at hq3
 rw[Ng,hwl,← el,← rg]
 have tb3:=KF.tb_same tb (s02.trans s3')
 have wo3:B5 TT PL PS WC H3 p 2 es ks rs:=⟨ts,_,wf.mono s3' (fun _ z=>z),g,el.symm,kin,kb3,by omega +splitDisjunctions,by omega +splitDisjunctions,tb3⟩
 refine⟨(by show 2<=sizeLine;decide),fun qw hqw=>?_⟩
 have sx:=aq hqw (.lst [V.int 0,V.int 1])
 obtain⟨wl,hwl',hw1,wl2⟩:∃ wl:List Nat,[V.int 0,V.int 1]=wl.map iV/\(∀ x∈wl,x<=1)/\wl.length<=2:=⟨[0,1],rfl,by decide,by decide⟩
 have hw:(upd H3 qw (.lst [V.int 0,V.int 1])) qw=some (.lst (wl.map iV)):=by rw[ag,hwl']
 refine⟨_,rfl,_,_,rfl,rfl,_,rfl,ite2 (fun _=>⟨_,_,rfl,rfl,_,rfl,ite2 (fun _=>⟨_,rfl,a,0,ns,rfl,((s02.trans s3').trans sx).seq hS,_,_,rfl,rfl,⟨by decide,by decide⟩,_,_,rfl,rfl,(by decide:(0:Int)<2),(by show 1<=sizeLine;decide),fun qv hqv=>?_⟩) (fun _=>?_)⟩) (fun _=>⟨_,rfl,iteF ?_⟩)⟩
 obtain⟨u,hu,u1⟩:∃ u:Nat,jt ns 0/1120%2=(u:Int)/\u<=1:=⟨(jt ns 0/1120%2).toNat,by omega +splitDisjunctions,by omega +splitDisjunctions⟩
 have hw:(upd (upd H3 qw (.lst [V.int 0,V.int 1])) qv (.lst [V.int (jt ns 0/1120%2)])) qv=some (.lst ([u].map iV)):=by rw[ag,hu];rfl
 have sx:=sx.trans (aq hqv (.lst [V.int (jt ns 0/1120%2)]))
 have hw1:∀ x∈[u],x<=1:=fun x hx=>by rw[Nx.mp hx];exact u1
 have wl2 : [u].length<=2:=Ov 1
 generalize [u]=wl at hw hw1 wl2
 generalize qv=qw at hw sx hqv ⊢
 all_goals
  have wlm:(wl.map iV).length=wl.length:=M7 _
  refine⟨_,rfl,qw,rfl,⟨_,SqL.of hw⟩,cG (K:=K) (xs:=wl.map iV) (fun i σ H5=>∃ v7 v8 v9,σ = [some (.ref a),some (.ref pk),some (.ref p),some (.ref qc),some (.int ((rgh ks es.length rs:Nat):Int)),v5,some (.ref qw),v7,v8,v9]/\KF.SmT H3 H5/\Tb KF.lqF KF.lpF TT H5/\H5 qw=some (.lst (wl.map iV))) ⟨_,_,_,rfl,.of sx,KF.tb_same tb3 sx,hw⟩ (fun i σ H5 _ ⟨_,_,_,_,_,_,z⟩=>SqL.of z) ?_ ?_⟩
  ·rintro i x σ H5 hx ⟨v7,v8,v9,rfl,sm5,tb5,hw5⟩
   obtain⟨wh,rfl,wh1⟩:∃ wh:Nat,x=iV wh/\wh<=1:=by
    rw[Nq]at hx
    obtain⟨y,hy,rfl⟩:=NI.mp hx
    exact⟨y,rfl,hw1 y (MP hy)⟩
   have wo5:B5 TT PL PS WC H5 p 2 es ks rs:=by
    obtain⟨ts,S,wf,g,kl,kin,kb,few,e0,_⟩:=wo3
    exact⟨ts,S,wf.smT sm5,g,kl,kin,kb,few,e0,tb5⟩
   refine⟨_,rfl,_,rfl,wh,p,2,es,ks,rs,rfl,wh1,wo5,fun z H6 sm6 tb6=>?_,fun z q zs H6 sm6 tb6 hq wa sa=>?_⟩
   ·refine⟨_,rfl,_,_,rfl,rfl,_,rfl,?_⟩
    rw[decide_eq_true (show(12:Int)<((rgh ks es.length rs:Nat):Int) by omega +splitDisjunctions)]
    exact iteT ⟨_,rfl,rfl,_,rfl,xU rfl ⟨_,_,_,rfl,sm5.trans sm6,tb6,sm6.lst hw5⟩⟩
   ·refine⟨_,rfl,_,_,rfl,rfl,_,rfl,?_⟩
    rw[decide_eq_false (show ¬ (12:Int)<((rgh ks es.length rs:Nat):Int) by omega +splitDisjunctions)]
    have zl:zs.length=es.length:=by
     by_cases c:wh=0
     ·exact(wa c).1
     ·exact(sa (by omega +splitDisjunctions)).1
    have hpk6:=sm6.lst (sm5.lst (s3' _ _ (s2 _ _ hpk)))
    have hqc6:=sm6.lst (sm5.lst hq3)
    refine iteF ⟨_,rfl,_,_,_,_,_,rfl,TyOf.lst hq,Or.inl ⟨_,rfl,rfl⟩,kit_ll K,_,rfl,iteF ?_⟩
    refine⟨_,rfl,q,zs,rfl,.inl (SqL.of hq),_,rfl,pk,ws,rfl,.inl (SqL.of hpk6),rfl,_,rfl,xU (by rw[zl,el,hwl]) ?_⟩
    have each:∀ t,t<es.length->∃ r,zs[t]?=some (.ref r)/\H6 r=some (.tup (dueV wh (cF ks false es.length) (cF ks true es.length))):=fun t ht=>by
     by_cases c:wh=0
     ·obtain⟨r,v0,v1,a1,a2,w0,w1⟩:=(wa c).2 t ht
      refine⟨r,a1,?_⟩
      rw[← vj fe ht w0,← vj fe ht w1,show dueV wh v0 v1 = [.int v0,.int v1] from if_pos c]
      exact a2
     ·obtain⟨r,v0,v1,a1,a2,w0,w1⟩:=(sa (by omega +splitDisjunctions)).2 t ht
      refine⟨r,a1,?_⟩
      rw[← vj fe ht w0,← vj fe ht w1,show dueV wh v0 v1=setV v0 v1 from if_neg c]
      exact a2
    refine⟨_,rfl,q,rfl,⟨_,SqL.of hq⟩,cG (K:=K) (xs:=zs) (fun i σ H7=>∃ v9,σ = [some (.ref a),some (.ref pk),some (.ref p),some (.ref qc),some (.int ((rgh ks es.length rs:Nat):Int)),v5,some (.ref qw),some (iV wh),some (.ref q),v9]/\Same H6 H7) ⟨_,rfl,fun _ _ z=>z⟩ (fun i σ H7 _ ⟨_,_,z⟩=>SqL.of (z _ _ hq)) ?_ ?_⟩
    ·rintro j y σ H7 hy ⟨v9',rfl,s7⟩
     obtain⟨r,a1,a2⟩:=each j (by rw[← zl];exact(MO.mp hy).1)
     rw[hy]at a1
     cases a1
     refine⟨_,rfl,_,rfl,_,rfl,wh,qc,_,_,rfl,wh1,SqL.of (s7 _ _ hqc6),fun t ht=>?_⟩
     have st:=aq ht (.tup (dueV wh (cF ks false es.length) (cF ks true es.length)))
     exact⟨wh,r,t,_,_,rfl,st _ _ (s7 _ _ a2),ag,fun H8 s8=>⟨_,rfl,iteF ⟨_,rfl,s7.trans (st.trans s8)⟩⟩⟩
    rintro σ H7 ⟨v9',rfl,s7⟩
    exact⟨_,_,_,rfl,(sm5.trans sm6).trans (.of s7),KF.tb_same tb6 s7,s7 _ _ (sm6.lst hw5)⟩
  rintro σ H5 ⟨v7,v8,v9,rfl,sm5,tb5,hw5⟩
  exact kk _
end
end K8
namespace K8
open PySem L2
open KF (gd cP g8 f9 jH oB oA zB bf bX aU bW gc)
theorem Il{K:MQ}{x:Str}{f c T:Addr}{o1 o3:Value}{o2 o4:Option Addr}{o5 o6:Array (Option Value)}{fd:FuncData}{vs:Array Value}(a:M6 K mainGlobals x=some (some (.ref f)))(l:K.lookup f=some ⟨o1,o2,.func fd,o5⟩)(e:fd.code=.ref c)(lc:K.lookup c=some ⟨o3,o4,.fields vs,o6⟩)(v:vs[11]?=some (.ref T)):OT K x=some (c,T):=by
 unfold OT
 rw[a]
 simp only[l,e,lc,v]
theorem all_mk{l:Qh}{w:World}{K:MQ}{h:Heap}{mg:Str->Option Value}{fa bc a9 a8 cV Cu Cr JC iF iE n9 jj vm nY vk c7 gG cJ gD n0 nZ n8 eR ji jh bp fL bH eh Ct kX jq eP gC jf dz c6 cH cn Cq eQ dA c8 gH kW jg jo gE kY gF jk kZ jn Mi:Addr}{cT TT:Addr}{oT:Value}{dT:Option Addr}{vT:Array Value}{sT:Array (Option Value)}(X:K.In h)(G:h.Ns mainGlobals mg) (hfa:mg "law" = some (.ref fa))
  {LF MG LC ME od_odd an_odd Dg Em Df El FW HM Af BR IY JU FR HI IX JT oQ qx xj yO nj nK xf yL FU HK FT HJ FV HL uD vU Ae BQ Ad BP uG vY Al BX uF vX xm yQ LD MF Dh Eo Ak BW uB vR xc yK Ab BN qZ rK oP qu ni nJ uE vV LB MD uC vS q8 rL oR qy xk yP De Ek Ac BO Aj BV xh yM Di Ep xi yN Ag BS Dj Er Ai BU od_law Ku:Option Addr} {K6 K4 sl_odd CP CO E4 zj Ir EZ Iq ot wD m7 wA E2 E1 E3 tO zi zg tR zr tQ wG K5 CQ zp tK wy ze qT oq m6 tP K3 tL qU ow wF CN zf zo wB CS wC zk CU zm sl_law:Array (Option Value)} {LK Ma Mp Lj Ht Mv LI L8 Mn Lh Hq Mt oc_odd kV_odd dc_odd pm_odd Ko ct_odd Dn DL DW C4 sv D3 Dm DJ DV C3 sq D2 F1 GB Hc Ft yv Hl Aq AW Bg zP pZ Bs I8 Js JG ID vH JJ FX Gx G6 Fo yq Hh IZ Jr JF IC CB JI oU pB pM oG iI pP xt xP yd wX mO yk nu nA nF ng gU nI xo xM ya wU mK yh FZ Gz G8 Fq yt Hj FY Gy G7 Fp yr Hi F0 GA G9 Fs yu Hk uJ u6 vq ud lu vC Ap AV Bf zO pY Br Ao AU Be zN pX Bq uN vd vx ug lA vF Aw A3 Bl zU qf Bx uM vc vw uf ly vE xw xR yf wZ mQ yn LJ L9 Mo Li Hs Mu Dp DM DX C5 sC D4 Av A0 Bk zT qe Bw uH uZ vo ua lh vA xn xK x9 wR mJ yg Am AR Bc zL pV Bo ra rq rC qW jA rE oS pA pL oF iH pO nt nz nE m9 gR nH uL u9 vt ue lx vD LH L7 Mm Lg Ho Ms uI u3 vp uc lj vB rb rA rD qX jB rF oW pC pN oH iJ pQ xu xQ ye wY mP ym Dk DI DU C2 so D1 An AS Bd zM pW Bp Au AZ Bj zS qd Bv xq xN yb wV mL yi Dq DN DY C6 sE D5 xr xO yc wW mM yj Ar AX Bh zQ qa Bt Dr DO DZ C7 sG D6 As AY Bi zR qb Bu oc_law Kd Kk J2 Hr Kl:Value}
  {ti_most ti_modd:Tok}
  (ko:M6 K mainGlobals "TooRough" = some (some (.ref bc)))
  (B0:M6 K mainGlobals "Pull" = some (some (.ref a9)))
  (BZ:M6 K mainGlobals "Push" = some (some (.ref a8)))
  (HS:M6 K mainGlobals "Web" = some (some (.ref cV)))
  (ic:Nr K (.ref a9) "__init__" = some (some (.ref bp)))
  (ib:Nr K (.ref a9) "wish" = some (some (.ref fL)))
  (eY:Nr K (.ref a9) "signed" = some (some (.ref bH)))
  (ia:Nr K (.ref a8) "__init__" = some (some (.ref bp)))
  (h9:Nr K (.ref a8) "wish" = some (some (.ref eh)))
  (eX:Nr K (.ref a8) "signed" = some (some (.ref bH)))
  (jP:Nr K (.ref cV) "__init__" = some (some (.ref cn)))
  (HR:M6 K mainGlobals "bits" = some (some (.ref Cu)))
  (Gs:K.lookup Cu=some ⟨LK,LF,.func (Nf "bits" "bits" (aw oB) (au oB) (ah oB) .none Ma Mp Lj MG Ht Mv),K6⟩)
  (Hy:M8 K Ht "bits" = true)
  (Co:M0 K (.ref Cu)=true)
  (HP:M6 K mainGlobals "ones" = some (some (.ref Cr)))
  (Gk:K.lookup Cr=some ⟨LI,LC,.func (Nf "ones" "ones" (aw oA) (au oA) (ah oA) .none L8 Mn Lh ME Hq Mt),K4⟩)
  (Hw:M8 K Hq "ones" = true)
  (Cn:M0 K (.ref Cr)=true)
  (MI:M6 K mainGlobals "odd" = some (some (.ref JC)))
  (L3:K.lookup JC=some ⟨oc_odd,od_odd,.func (Nf "odd" "odd" (aw zB) (au zB) (ah zB) .none kV_odd dc_odd pm_odd an_odd Ko ct_odd),sl_odd⟩)
  (Mw:M8 K Ko "odd" = true)
  (Jq:M0 K (.ref JC)=true)
  (qB:M6 K mainGlobals "mask_of" = some (some (.ref iF)))
  (pf:K.lookup iF=some ⟨Dn,Dg,.func (Nf "mask_of" "mask_of" (aw cC) (au cC) (ah cC) .none DL DW C4 Em sv D3),CP⟩)
  (qj:M8 K sv "mask_of" = true)
  (iA:M0 K (.ref iF)=true)
  (qA:M6 K mainGlobals "reached" = some (some (.ref iE)))
  (pd:K.lookup iE=some ⟨Dm,Df,.func (Nf "reached" "reached" (aw cA) (au cA) (ah cA) .none DJ DV C3 El sq D2),CO⟩)
  (qi:M8 K sq "reached" = true)
  (iz:M0 K (.ref iE)=true)
  (wm:M6 K mainGlobals "beyond" = some (some (.ref n9)))
  (uW:K.lookup n9=some ⟨F1,FW,.func (Nf "beyond" "beyond" (aw gd) (au gd) (ah gd) .none GB Hc Ft HM yv Hl),E4⟩)
  (vM:M8 K yv "beyond" = true)
  (nV:M0 K (.ref n9)=true)
  (mz:M6 K mainGlobals "links_at" = some (some (.ref jj)))
  (lM:K.lookup jj=some ⟨Aq,Af,.func (Nf "links_at" "links_at" (aw cP) (au cP) (ah cP) .none AW Bg zP BR pZ Bs),zj⟩)
  (l7:M8 K pZ "links_at" = true)
  (i9:M0 K (.ref jj)=true)
  (qF:M6 K mainGlobals "fares" = some (some (.ref vm)))
  (uV:K.lookup vm=some ⟨I8,IY,.func (Nf "fares" "fares" (aw g8) (au g8) (ah g8) .none Js JG ID JU vH JJ),Ir⟩)
  (BC:M8 K vH "fares" = true)
  (uY:M0 K (.ref vm)=true)
  (vZ:M6 K mainGlobals "row_to" = some (some (.ref nY)))
  (uR:K.lookup nY=some ⟨FX,FR,.func (Nf "row_to" "row_to" (aw f9) (au f9) (ah f9) .none Gx G6 Fo HI yq Hh),EZ⟩)
  (vI:M8 K yq "row_to" = true)
  (nO:M0 K (.ref nY)=true)
  (BY:M6 K mainGlobals "whole" = some (some (.ref vk)))
  (AN:K.lookup vk=some ⟨IZ,IX,.func (Nf "whole" "whole" (aw jH) (au jH) (ah jH) .none Jr JF IC JT CB JI),Iq⟩)
  (BB:M8 K CB "whole" = true)
  (uX:M0 K (.ref vk)=true)
  (fB:M6 K mainGlobals "refuse_marks" = some (some (.ref c7)))
  (fk:K.lookup c7=some ⟨oU,oQ,.func (Nf "refuse_marks" "refuse_marks" (aw bf) (au bf) (ah bf) .none pB pM oG qx iI pP),ot⟩)
  (fy:M8 K iI "refuse_marks" = true)
  (cY:M0 K (.ref c7)=true)
  (ki:M6 K mainGlobals "chosen_of" = some (some (.ref gG)))
  (jU:K.lookup gG=some ⟨xt,xj,.func (Nf "chosen_of" "chosen_of" (aw bX) (au bX) (ah bX) .none xP yd wX yO mO yk),wD⟩)
  (j9:M8 K mO "chosen_of" = true)
  (gy:M0 K (.ref gG)=true)
  (eG:M6 K mainGlobals "laid_in_pairs" = some (some (.ref cJ)))
  (d8:K.lookup cJ=some ⟨nu,nj,.func (Nf "laid_in_pairs" "laid_in_pairs" (aw aU) (au aU) (ah aU) .none nA nF ng nK gU nI),m7⟩)
  (eE:M8 K gU "laid_in_pairs" = true)
  (bG:M0 K (.ref cJ)=true)
  (ke:M6 K mainGlobals "new_table" = some (some (.ref gD)))
  (jR:K.lookup gD=some ⟨xo,xf,.func (Nf "new_table" "new_table" (aw bW) (au bW) (ah bW) .none xM ya wU yL mK yh),wA⟩)
  (j6:M8 K mK "new_table" = true)
  (gu:M0 K (.ref gD)=true)
  (we:M6 K mainGlobals "paired" = some (some (.ref n0)))
  (uT:K.lookup n0=some ⟨FZ,FU,.func (Nf "paired" "paired" (aw gc) (au gc) (ah gc) .none Gz G8 Fq HK yt Hj),E2⟩)
  (vK:M8 K yt "paired" = true)
  (nQ:M0 K (.ref n0)=true)
  (wc:M6 K mainGlobals "pushes" = some (some (.ref nZ)))
  (uS:K.lookup nZ=some ⟨FY,FT,.func (Nf "pushes" "pushes" (aw iZ) (au iZ) (ah iZ) .none Gy G7 Fp HJ yr Hi),E1⟩)
  (vJ:M8 K yr "pushes" = true)
  (nP:M0 K (.ref nZ)=true)
  (wj:M6 K mainGlobals "odd_at" = some (some (.ref n8)))
  (uU:K.lookup n8=some ⟨F0,FV,.func (Nf "odd_at" "odd_at" (aw i0) (au i0) (ah i0) .none GA G9 Fs HL yu Hk),E3⟩)
  (vL:M8 K yu "odd_at" = true)
  (nU:M0 K (.ref n8)=true)
  (iU:M6 K mainGlobals "odd_rounds" = some (some (.ref eR)))
  (ir:K.lookup eR=some ⟨uJ,uD,.func (Nf "odd_rounds" "odd_rounds" (aw b8) (au b8) (ah b8) .none u6 vq ud vU lu vC),tO⟩)
  (iN:M8 K lu "odd_rounds" = true)
  (eK:M0 K (.ref eR)=true)
  (my:M6 K mainGlobals "links_of" = some (some (.ref ji)))
  (lL:K.lookup ji=some ⟨Ap,Ae,.func (Nf "links_of" "links_of" (aw dJ) (au dJ) (ah dJ) .none AV Bf zO BQ pY Br),zi⟩)
  (l4:M8 K pY "links_of" = true)
  (i8:M0 K (.ref ji)=true)
  (mw:M6 K mainGlobals "marks_of" = some (some (.ref jh)))
  (lK:K.lookup jh=some ⟨Ao,Ad,.func (Nf "marks_of" "marks_of" (aw dI) (au dI) (ah dI) .none AU Be zN BP pX Bq),zg⟩)
  (lZ:M8 K pX "marks_of" = true)
  (i7:M0 K (.ref jh)=true)
  (iy:K.lookup bp=some ⟨uN,uG,.func (Nf "__init__" "Tie.__init__" (aw cg) (au cg) (ah cg) .none vd vx ug vY lA vF),tR⟩)
  (iQ:M8 K lA "Tie.__init__" = true)
  (iC:M0 K (.ref bp)=true)
  (eO:O1 K (.ref bp)=true)
  (lS:K.lookup fL=some ⟨Aw,Al,.func (Nf "wish" "Tie.wish" (aw dS) (au dS) (ah dS) .none A3 Bl zU BX qf Bx),zr⟩)
  (mq:M8 K qf "Tie.wish" = true)
  (je:M0 K (.ref fL)=true)
  (lT:O1 K (.ref fL)=true)
  (iw:K.lookup bH=some ⟨uM,uF,.func (Nf "signed" "Tie.signed" (aw cf) (au cf) (ah cf) .none vc vw uf vX ly vE),tQ⟩)
  (iP:M8 K ly "Tie.signed" = true)
  (dh:M0 K (.ref bH)=true)
  (eM:O1 K (.ref bH)=true)
  (jW:K.lookup eh=some ⟨xw,xm,.func (Nf "wish" "Push.wish" (aw cU) (au cU) (ah cU) .none xR yf wZ yQ mQ yn),wG⟩)
  (kc:M8 K mQ "Push.wish" = true)
  (gA:M0 K (.ref eh)=true)
  (jX:O1 K (.ref eh)=true)
  (HQ:M6 K mainGlobals "head" = some (some (.ref Ct)))
  (Gn:K.lookup Ct=some ⟨LJ,LD,.func (Nf "head" "head" (aw rS) (au rS) (ah rS) .none L9 Mo Li MF Hs Mu),K5⟩)
  (Hx:M8 K Hs "head" = true)
  (k_head:M0 K (.ref Ct)=true)
  (qC:M6 K mainGlobals "leaving" = some (some (.ref kX)))
  (ph:K.lookup kX=some ⟨Dp,Dh,.func (Nf "leaving" "leaving" (aw fG) (au fG) (ah fG) .none DM DX C5 Eo sC D4),CQ⟩)
  (qk:M8 K sC "leaving" = true)
  (kP:M0 K (.ref kX)=true)
  (mE:M6 K mainGlobals "follower" = some (some (.ref jq)))
  (lR:K.lookup jq=some ⟨Av,Ak,.func (Nf "follower" "follower" (aw dQ) (au dQ) (ah dQ) .none A0 Bk zT BW qe Bw),zp⟩)
  (ml:M8 K qe "follower" = true)
  (jd:M0 K (.ref jq)=true)
  (iS:M6 K mainGlobals "round_from" = some (some (.ref eP)))
  (ip:K.lookup eP=some ⟨uH,uB,.func (Nf "round_from" "round_from" (aw bZ) (au bZ) (ah bZ) .none uZ vo ua vR lh vA),tK⟩)
  (iL:M8 K lh "round_from" = true)
  (eI:M0 K (.ref eP)=true)
  (kd:M6 K mainGlobals "rounds_of" = some (some (.ref gC)))
  (jQ:K.lookup gC=some ⟨xn,xc,.func (Nf "rounds_of" "rounds_of" (aw cO) (au cO) (ah cO) .none xK x9 wR yK mJ yg),wy⟩)
  (j4:M8 K mJ "rounds_of" = true)
  (gs:M0 K (.ref gC)=true)
  (mr:M6 K mainGlobals "sides_of" = some (some (.ref jf)))
  (lH:K.lookup jf=some ⟨Am,Ab,.func (Nf "sides_of" "sides_of" (aw dG) (au dG) (ah dG) .none AR Bc zL BN pV Bo),ze⟩)
  (lX:M8 K pV "sides_of" = true)
  (i5:M0 K (.ref jf)=true)
  (gN:M6 K mainGlobals "refuse_ends" = some (some (.ref dz)))
  (gn:K.lookup dz=some ⟨ra,qZ,.func (Nf "refuse_ends" "refuse_ends" (aw bJ) (au bJ) (ah bJ) .none rq rC qW rK jA rE),qT⟩)
  (gL:M8 K jA "refuse_ends" = true)
  (dv:M0 K (.ref dz)=true)
  (fA:M6 K mainGlobals "refuse_turns" = some (some (.ref c6)))
  (fj:K.lookup c6=some ⟨oS,oP,.func (Nf "refuse_turns" "refuse_turns" (aw bw) (au bw) (ah bw) .none pA pL oF qu iH pO),oq⟩)
  (fx:M8 K iH "refuse_turns" = true)
  (cX:M0 K (.ref c6)=true)
  (eF:M6 K mainGlobals "refuse_parted" = some (some (.ref cH)))
  (d7:K.lookup cH=some ⟨nt,ni,.func (Nf "refuse_parted" "refuse_parted" (aw bj) (au bj) (ah bj) .none nz nE m9 nJ gR nH),m6⟩)
  (eB:M8 K gR "refuse_parted" = true)
  (cE:M0 K (.ref cH)=true)
  (iu:K.lookup cn=some ⟨uL,uE,.func (Nf "__init__" "Web.__init__" (aw b9) (au b9) (ah b9) .none u9 vt ue vV lx vD),tP⟩)
  (iO:M8 K lx "Web.__init__" = true)
  (iB:M0 K (.ref cn)=true)
  (iD:O1 K (.ref cn)=true)
  (HN:M6 K mainGlobals "roof" = some (some (.ref Cq)))
  (Gj:K.lookup Cq=some ⟨LH,LB,.func (Nf "roof" "roof" (aw rR) (au rR) (ah rR) .none L7 Mm Lg MD Ho Ms),K3⟩)
  (Hv:M8 K Ho "roof" = true)
  (Cm:M0 K (.ref Cq)=true)
  (iT:M6 K mainGlobals "paid_alike" = some (some (.ref eQ)))
  (iq:K.lookup eQ=some ⟨uI,uC,.func (Nf "paid_alike" "paid_alike" (aw b7) (au b7) (ah b7) .none u3 vp uc vS lj vB),tL⟩)
  (iM:M8 K lj "paid_alike" = true)
  (eJ:M0 K (.ref eQ)=true)
  (gO:M6 K mainGlobals "paid_unlike" = some (some (.ref dA)))
  (gp:K.lookup dA=some ⟨rb,q8,.func (Nf "paid_unlike" "paid_unlike" (aw bK) (au bK) (ah bK) .none rA rD qX rL jB rF),qU⟩)
  (gM:M8 K jB "paid_unlike" = true)
  (dw:M0 K (.ref dA)=true)
  (fE:M6 K mainGlobals "both_ways_of" = some (some (.ref c8)))
  (fq:K.lookup c8=some ⟨oW,oR,.func (Nf "both_ways_of" "both_ways_of" (aw bx) (au bx) (ah bx) .none pC pN oH qy iJ pQ),ow⟩)
  (fz:M8 K iJ "both_ways_of" = true)
  (cZ:M0 K (.ref c8)=true)
  (kj:M6 K mainGlobals "both_ways" = some (some (.ref gH)))
  (jV:K.lookup gH=some ⟨xu,xk,.func (Nf "both_ways" "both_ways" (aw cS) (au cS) (ah cS) .none xQ ye wY yP mP ym),wF⟩)
  (ka:M8 K mP "both_ways" = true)
  (gz:M0 K (.ref gH)=true)
  (qz:M6 K mainGlobals "setting" = some (some (.ref kW)))
  (o9:K.lookup kW=some ⟨Dk,De,.func (Nf "setting" "setting" (aw fF) (au fF) (ah fF) .none DI DU C2 Ek so D1),CN⟩)
  (qg:M8 K so "setting" = true)
  (kN:M0 K (.ref kW)=true)
  (mv:M6 K mainGlobals "set_ties" = some (some (.ref jg)))
  (lJ:K.lookup jg=some ⟨An,Ac,.func (Nf "set_ties" "set_ties" (aw dH) (au dH) (ah dH) .none AS Bd zM BO pW Bp),zf⟩)
  (lY:M8 K pW "set_ties" = true)
  (i6:M0 K (.ref jg)=true)
  (mD:M6 K mainGlobals "_law_cell" = some (some (.ref jo)))
  (lQ:K.lookup jo=some ⟨Au,Aj,.func (Nf "_law_cell" "_law_cell" (aw dO) (au dO) (ah dO) .none AZ Bj zS BV qd Bv),zo⟩)
  (mh:M8 K qd "_law_cell" = true)
  (jc:M0 K (.ref jo)=true)
  (kf:M6 K mainGlobals "_law_kinds" = some (some (.ref gE)))
  (jS:K.lookup gE=some ⟨xq,xh,.func (Nf "_law_kinds" "_law_kinds" (aw cQ) (au cQ) (ah cQ) .none xN yb wV yM mL yi),wB⟩)
  (j7:M8 K mL "_law_kinds" = true)
  (gv:M0 K (.ref gE)=true)
  (qD:M6 K mainGlobals "_law_web" = some (some (.ref kY)))
  (pj:K.lookup kY=some ⟨Dq,Di,.func (Nf "_law_web" "_law_web" (aw fH) (au fH) (ah fH) .none DN DY C6 Ep sE D5),CS⟩)
  (ql:M8 K sE "_law_web" = true)
  (kQ:M0 K (.ref kY)=true)
  (kh:M6 K mainGlobals "_law_asked" = some (some (.ref gF)))
  (jT:K.lookup gF=some ⟨xr,xi,.func (Nf "_law_asked" "_law_asked" (aw cR) (au cR) (ah cR) .none xO yc wW yN mM yj),wC⟩)
  (j8:M8 K mM "_law_asked" = true)
  (gw:M0 K (.ref gF)=true)
  (mB:M6 K mainGlobals "_law_told" = some (some (.ref jk)))
  (lN:K.lookup jk=some ⟨Ar,Ag,.func (Nf "_law_told" "_law_told" (aw dM) (au dM) (ah dM) .none AX Bh zQ BS qa Bt),zk⟩)
  (l8:M8 K qa "_law_told" = true)
  (ja:M0 K (.ref jk)=true)
  (qE:M6 K mainGlobals "_law_due" = some (some (.ref kZ)))
  (pq:K.lookup kZ=some ⟨Dr,Dj,.func (Nf "_law_due" "_law_due" (aw fJ) (au fJ) (ah fJ) .none DO DZ C7 Er sG D6),CU⟩)
  (qm:M8 K sG "_law_due" = true)
  (kR:M0 K (.ref kZ)=true)
  (mC:M6 K mainGlobals "_law_pair" = some (some (.ref jn)))
  (lP:K.lookup jn=some ⟨As,Ai,.func (Nf "_law_pair" "_law_pair" (aw dN) (au dN) (ah dN) .none AY Bi zR BU qb Bu),zm⟩)
  (ma:M8 K qb "_law_pair" = true)
  (jb:M0 K (.ref jn)=true)
  (JV:M6 K mainGlobals "law" = some (some (.ref Mi)))
  (L4:K.lookup Mi=some ⟨oc_law,od_law,.func (Nf "law" "law" (aw tW) (au tW) (ah tW) .none Kd Kk J2 Ku Hr Kl),sl_law⟩)
  (Mx:M8 K Hr "law" = true)
  (L6:M0 K (.ref Mi)=true)
  (fO:Qv K bc veM "ValueError.__new__" = true)
  (bN:Pf K bc (.ref bc)=some true)
  (zX:OK K a9 Str.empty=true)
  (A6:OU K a9=true)
  (zK:O7 K a9=true)
  (zA:Nr K (.ref a9) "__setattr__" = some (some (.builtin "object.__setattr__")))
  (AA:Pj K a9=true)
  (AQ:M0 K (.ref a9)=true)
  (jO:Nr K (.ref a9) "one" = some none)
  (jN:Nr K (.ref a9) "two" = some none)
  (dj:Nr K (.ref a9) "strength" = some none)
  (zW:OK K a8 Str.empty=true)
  (A5:OU K a8=true)
  (zJ:O7 K a8=true)
  (zy:Nr K (.ref a8) "__setattr__" = some (some (.builtin "object.__setattr__")))
  (Az:Pj K a8=true)
  (AO:M0 K (.ref a8)=true)
  (jM:Nr K (.ref a8) "one" = some none)
  (jL:Nr K (.ref a8) "two" = some none)
  (di:Nr K (.ref a8) "strength" = some none)
  (Fw:OK K cV Str.empty=true)
  (GO:OU K cV=true)
  (Fn:O7 K cV=true)
  (Fb:Nr K (.ref cV) "__setattr__" = some (some (.builtin "object.__setattr__")))
  (F4:Pj K cV=true)
  (Gw:M0 K (.ref cV)=true)
  (jK:Nr K (.ref cV) "many" = some none)
  (jJ:Nr K (.ref cV) "ties" = some none)
  (hX:Nr K (.ref cV) "turns" = some none)
  (gj:Nr K (.ref cV) "rounds" = some none)
  (h7:Nr K (.ref cV) "sides" = some none)
  (gi_most:M6 K mainGlobals "MOST_MARKS" = some (some (.int 14 ti_most)))
  (gi_modd:M6 K mainGlobals "MOST_ODD" = some (some (.int 12 ti_modd)))
  (KH:M6 K mainGlobals "len" = some none)
  (KI:M6 K mainGlobals "int" = some none)
  (Ex:M6 K mainGlobals "bool" = some none)
  (Eu:M6 K mainGlobals "list" = some none)
  (yV:M6 K mainGlobals "tuple" = some none)
  (yW:M6 K mainGlobals "range" = some none)
  (jF:M6 K mainGlobals "enumerate" = some none)
  (gY:M6 K mainGlobals "isinstance" = some none)
  (KD:M6 K mainGlobals "min" = some none)
  (KC:M6 K mainGlobals "sum" = some none)
  (sX:M6 K mainGlobals "sorted" = some none)
  (KG:M6 K mainGlobals "max" = some none)
  (KA:M6 K mainGlobals "zip" = some none)
  (KJ:M6 K mainGlobals "abs" = some none)
  (Ew:M6 K mainGlobals "dict" = some none)
  (lD:M6 K mainGlobals "reversed" = some none)
  (tbc:vH=.ref cT) (tbl:K.lookup cT=some ⟨oT,dT,.fields vT,sT⟩) (tbv:vT[11]?=some (.ref TT)) (tbn:K.lookup TT=none)
  : ∃ fd:FuncData,(∀(s:Shared)(v:Value),BindsTo s fd ⟨[v],[]⟩ [("script",v)])/\∃ c T,OT K "fares" = some (c,T)/\K.lookup T=none/\∀ base:Heap,K.In base->base.Ns mainGlobals mg->OL base c T->Bm mg base->FnOk l.prog w K mg base CX0 18 fa fd ["script"] (Cc K T):=by
 have tbi:=Il qF uV tbc tbl tbv
 have e:=hfa.symm.trans (Nd X G JV)
 cases e
 have Kz:=aK (st:=oB) Gs Hy Co
 have b_bits:=Kz.binds (ps:=["mask"]) fun _ _ _ _ _ _ us hl=>by obtain⟨x0,rfl⟩:=gW hl;rfl
 have Kx:=aK (st:=oA) Gk Hw Cn
 have b_ones:=Kx.binds (ps:=["mask"]) fun _ _ _ _ _ _ us hl=>by obtain⟨x0,rfl⟩:=gW hl;rfl
 have F_odd:=aK (st:=zB) L3 Mw Jq
 have b_odd:=F_odd.binds (ps:=["mask"]) fun _ _ _ _ _ _ us hl=>by obtain⟨x0,rfl⟩:=gW hl;rfl
 have qM:=aK (st:=cC) pf qj iA
 have yI:=qM.binds (ps:=["places"]) fun _ _ _ _ _ _ us hl=>by obtain⟨x0,rfl⟩:=gW hl;rfl
 have qK:=aK (st:=cA) pd qi iz
 have yF:=qK.binds (ps:=["start","pairs"]) fun _ _ _ _ _ _ us hl=>by obtain⟨x0,x1,rfl⟩:=gm hl;rfl
 have CH:=aK (st:=gd) uW vM nV
 have JS:=CH.binds (ps:=["link","room"]) fun _ _ _ _ _ _ us hl=>by obtain⟨x0,x1,rfl⟩:=gm hl;rfl
 have sP:=aK (st:=cP) lM l7 i9
 have Ee:=sP.binds (ps:=["many","links"]) fun _ _ _ _ _ _ us hl=>by obtain⟨x0,x1,rfl⟩:=gm hl;rfl
 have Ic:=aK (st:=g8) uV BC uY
 have MB:=Ic.binds (ps:=["many","links","start"]) fun _ _ _ _ _ _ us hl=>by obtain⟨x0,x1,x2,rfl⟩:=o7 hl;rfl
 have CC:=aK (st:=f9) uR vI nO
 have JO:=CC.binds (ps:=["links","via","room"]) fun _ _ _ _ _ _ us hl=>by obtain⟨x0,x1,x2,rfl⟩:=o7 hl;rfl
 have Ib:=aK (st:=jH) AN BB uX
 have MA:=Ib.binds (ps:=["many","links"]) fun _ _ _ _ _ _ us hl=>by obtain⟨x0,x1,rfl⟩:=gm hl;rfl
 have jD:=aK (st:=bf) fk fy cY
 have rH:=jD.binds (ps:=["many","links","marks"]) fun _ _ _ _ _ _ us hl=>by obtain⟨x0,x1,x2,rfl⟩:=o7 hl;rfl
 have qP:=aK (st:=bX) jU j9 gy
 have BK:=qP.binds (ps:=["entries","numbers"]) fun _ _ _ _ _ _ us hl=>by obtain⟨x0,x1,rfl⟩:=gm hl;rfl
 have iX:=aK (st:=aU) d8 eE bG
 have iR:=iX.binds (ps:=["between","chosen","table"]) fun _ _ _ _ _ _ us hl=>by obtain⟨x0,x1,x2,rfl⟩:=o7 hl;rfl
 have qL:=aK (st:=bW) jR j6 gu
 have BH:=qL.binds (ps:=[]) fun _ _ _ _ _ _ us hl=>by cases len_0 hl;rfl
 have CF:=aK (st:=gc) uT vK nQ
 have JQ:=CF.binds (ps:=["many","links","marks"]) fun _ _ _ _ _ _ us hl=>by obtain⟨x0,x1,x2,rfl⟩:=o7 hl;rfl
 have CD:=aK (st:=iZ) uS vJ nP
 have JP:=CD.binds (ps:=["web"]) fun _ _ _ _ _ _ us hl=>by obtain⟨x0,rfl⟩:=gW hl;rfl
 have CG:=aK (st:=i0) uU vL nU
 have JR:=CG.binds (ps:=["web","ties","number"]) fun _ _ _ _ _ _ us hl=>by obtain⟨x0,x1,x2,rfl⟩:=o7 hl;rfl
 have mX:=aK (st:=b8) ir iN eK
 have yH:=mX.binds (ps:=["web"]) fun _ _ _ _ _ _ us hl=>by obtain⟨x0,rfl⟩:=gW hl;rfl
 have sO:=aK (st:=dJ) lL l4 i8
 have Ed:=sO.binds (ps:=["web"]) fun _ _ _ _ _ _ us hl=>by obtain⟨x0,rfl⟩:=gW hl;rfl
 have sN:=aK (st:=dI) lK lZ i7
 have Ec:=sN.binds (ps:=["web"]) fun _ _ _ _ _ _ us hl=>by obtain⟨x0,rfl⟩:=gW hl;rfl
 have mZ:=aK (st:=cg) iy iQ iC
 have mT:=mZ.binds (ps:=["self","one","two","strength"]) fun _ _ _ _ _ _ us hl=>by obtain⟨x0,x1,x2,x3,rfl⟩:=LY hl;rfl
 have sW:=aK (st:=dS) lS mq je
 have Ej:=sW.binds (ps:=["self"]) fun _ _ _ _ _ _ us hl=>by obtain⟨x0,rfl⟩:=gW hl;rfl
 have iY:=aK (st:=cf) iw iP dh
 have mS:=iY.binds (ps:=["self"]) fun _ _ _ _ _ _ us hl=>by obtain⟨x0,rfl⟩:=gW hl;rfl
 have qR:=aK (st:=cU) jW kc gA
 have BM:=qR.binds (ps:=["self"]) fun _ _ _ _ _ _ us hl=>by obtain⟨x0,rfl⟩:=gW hl;rfl
 have Ky:=aK (st:=rS) Gn Hx k_head
 have b_head:=Ky.binds (ps:=["ties","dart"]) fun _ _ _ _ _ _ us hl=>by obtain⟨x0,x1,rfl⟩:=gm hl;rfl
 have yS:=aK (st:=fG) ph qk kP
 have HE:=yS.binds (ps:=["ties","number","place"]) fun _ _ _ _ _ _ us hl=>by obtain⟨x0,x1,x2,rfl⟩:=o7 hl;rfl
 have sV:=aK (st:=dQ) lR ml jd
 have Ei:=sV.binds (ps:=["ties","turns","dart"]) fun _ _ _ _ _ _ us hl=>by obtain⟨x0,x1,x2,rfl⟩:=o7 hl;rfl
 have mU:=aK (st:=bZ) ip iL eI
 have yE:=mU.binds (ps:=["ties","turns","first"]) fun _ _ _ _ _ _ us hl=>by obtain⟨x0,x1,x2,rfl⟩:=o7 hl;rfl
 have qJ:=aK (st:=cO) jQ j4 gs
 have BG:=qJ.binds (ps:=["ties","turns"]) fun _ _ _ _ _ _ us hl=>by obtain⟨x0,x1,rfl⟩:=gm hl;rfl
 have sJ:=aK (st:=dG) lH lX i5
 have Ea:=sJ.binds (ps:=["ties","rounds"]) fun _ _ _ _ _ _ us hl=>by obtain⟨x0,x1,rfl⟩:=gm hl;rfl
 have lB:=aK (st:=bJ) gn gL dv
 have vP:=lB.binds (ps:=["many","ties"]) fun _ _ _ _ _ _ us hl=>by obtain⟨x0,x1,rfl⟩:=gm hl;rfl
 have jC:=aK (st:=bw) fj fx cX
 have rG:=jC.binds (ps:=["many","ties","turns"]) fun _ _ _ _ _ _ us hl=>by obtain⟨x0,x1,x2,rfl⟩:=o7 hl;rfl
 have iW:=aK (st:=bj) d7 eB cE
 have qq:=iW.binds (ps:=["many","ties"]) fun _ _ _ _ _ _ us hl=>by obtain⟨x0,x1,rfl⟩:=gm hl;rfl
 have mY:=aK (st:=b9) iu iO iB
 have yJ:=mY.binds (ps:=["self","many","ties","turns"]) fun _ _ _ _ _ _ us hl=>by obtain⟨x0,x1,x2,x3,rfl⟩:=LY hl;rfl
 have Kw:=aK (st:=rR) Gj Hv Cm
 have b_roof:=Kw.binds (ps:=["web","number"]) fun _ _ _ _ _ _ us hl=>by obtain⟨x0,x1,rfl⟩:=gm hl;rfl
 have mV:=aK (st:=b7) iq iM eJ
 have yG:=mV.binds (ps:=["pull"]) fun _ _ _ _ _ _ us hl=>by obtain⟨x0,rfl⟩:=gW hl;rfl
 have lC:=aK (st:=bK) gp gM dw
 have vQ:=lC.binds (ps:=["pull"]) fun _ _ _ _ _ _ us hl=>by obtain⟨x0,rfl⟩:=gW hl;rfl
 have jE:=aK (st:=bx) fq fz cZ
 have rJ:=jE.binds (ps:=["web","number"]) fun _ _ _ _ _ _ us hl=>by obtain⟨x0,x1,rfl⟩:=gm hl;rfl
 have qQ:=aK (st:=cS) jV ka gz
 have BL:=qQ.binds (ps:=["web"]) fun _ _ _ _ _ _ us hl=>by obtain⟨x0,rfl⟩:=gW hl;rfl
 have yR:=aK (st:=fF) o9 qg kN
 have HD:=yR.binds (ps:=["pair"]) fun _ _ _ _ _ _ us hl=>by obtain⟨x0,rfl⟩:=gW hl;rfl
 have sM:=aK (st:=dH) lJ lY i6
 have Eb:=sM.binds (ps:=["web"]) fun _ _ _ _ _ _ us hl=>by obtain⟨x0,rfl⟩:=gW hl;rfl
 have sU:=aK (st:=dO) lQ mh jc
 have Eh:=sU.binds (ps:=["script","k"]) fun _ _ _ _ _ _ us hl=>by obtain⟨x0,x1,rfl⟩:=gm hl;rfl
 have qN:=aK (st:=cQ) jS j7 gv
 have BI:=qN.binds (ps:=["script"]) fun _ _ _ _ _ _ us hl=>by obtain⟨x0,rfl⟩:=gW hl;rfl
 have yT:=aK (st:=fH) pj ql kQ
 have HF:=yT.binds (ps:=["kinds","cell"]) fun _ _ _ _ _ _ us hl=>by obtain⟨x0,x1,rfl⟩:=gm hl;rfl
 have qO:=aK (st:=cR) jT j8 gw
 have BJ:=qO.binds (ps:=["web","which"]) fun _ _ _ _ _ _ us hl=>by obtain⟨x0,x1,rfl⟩:=gm hl;rfl
 have sQ:=aK (st:=dM) lN l8 ja
 have Ef:=sQ.binds (ps:=["web","which"]) fun _ _ _ _ _ _ us hl=>by obtain⟨x0,x1,rfl⟩:=gm hl;rfl
 have yU:=aK (st:=fJ) pq qm kR
 have HG:=yU.binds (ps:=["costs","which"]) fun _ _ _ _ _ _ us hl=>by obtain⟨x0,x1,rfl⟩:=gm hl;rfl
 have sR:=aK (st:=dN) lP ma jb
 have Eg:=sR.binds (ps:=["found","due"]) fun _ _ _ _ _ _ us hl=>by obtain⟨x0,x1,rfl⟩:=gm hl;rfl
 have F_law:=aK (st:=tW) L4 Mx L6
 refine⟨Nf "law" "law" (aw tW) (au tW) (ah tW) .none Kd Kk J2 Ku Hr Kl,fun s v=>.of_eq rfl,cT,TT,tbi,tbn,fun base _ _ hcd hbm=>?_⟩
 have m_bits:=Nd X G HR
 have m_ones:=Nd X G HP
 have m_odd:=Nd X G MI
 have xH:=Nd X G qB
 have xE:=Nd X G qA
 have Jm:=Nd X G wm
 have DA:=Nd X G mz
 have LW:=Nd X G qF
 have Ji:=Nd X G vZ
 have LV:=Nd X G BY
 have rh:=Nd X G fB
 have AI:=Nd X G ki
 have ig:=Nd X G eG
 have AF:=Nd X G ke
 have Jk:=Nd X G we
 have Jj:=Nd X G wc
 have Jl:=Nd X G wj
 have xG:=Nd X G iU
 have Dz:=Nd X G my
 have Dy:=Nd X G mw
 have m_head:=Nd X G HQ
 have F8:=Nd X G qC
 have DE:=Nd X G mE
 have xD:=Nd X G iS
 have AE:=Nd X G kd
 have Dw:=Nd X G mr
 have uP:=Nd X G gN
 have rf:=Nd X G fA
 have oY:=Nd X G eF
 have m_roof:=Nd X G HN
 have xF:=Nd X G iT
 have uQ:=Nd X G gO
 have rj:=Nd X G fE
 have AJ:=Nd X G kj
 have F7:=Nd X G qz
 have Dx:=Nd X G mv
 have DD:=Nd X G mD
 have AG:=Nd X G kf
 have F9:=Nd X G qD
 have AH:=Nd X G kh
 have DB:=Nd X G mB
 have Gb:=Nd X G qE
 have DC:=Nd X G mC
 have m_law:=Nd X G JV
 have DF:=Nd X G ko
 have m_Pull:=Nd X G B0
 have m_Push:=Nd X G BZ
 have m_Web:=Nd X G HS
 have most:=Nd X G gi_most
 have modd:=Nd X G gi_modd
 have n_len:=NJ X G KH
 have n_int:=NJ X G KI
 have n_bool:=NJ X G Ex
 have n_list:=NJ X G Eu
 have n_tuple:=NJ X G yV
 have n_range:=NJ X G yW
 have n_enumerate:=NJ X G jF
 have n_isinstance:=NJ X G gY
 have n_min:=NJ X G KD
 have n_sum:=NJ X G KC
 have n_sorted:=NJ X G sX
 have n_max:=NJ X G KG
 have n_zip:=NJ X G KA
 have n_abs:=NJ X G KJ
 have n_dict:=NJ X G Ew
 have n_reversed:=NJ X G lD
 have TL:CT K a9:=⟨⟨zX,A6,zK,zA⟩,jO,jN,dj⟩
 have TS:CT K a8:=⟨⟨zW,A5,zJ,zy⟩,jM,jL,di⟩
 have cw:CW K cV:=⟨⟨Fw,GO,Fn,Fb⟩,jK,jJ,hX,gj,h7⟩
 have T:Txt mg:=⟨n_len,n_int,n_bool,n_list,n_tuple,n_range,n_enumerate,n_isinstance,n_min,n_sum,n_sorted⟩
 have GI:FnOk l.prog w K mg base CX0 1 bp _ _ (rP K):=Lu mZ
 have ML:Mak l.prog w K mg base 1 "Pull" _ (rP K) a9 bp _:=⟨⟨AA,ic,eO,AQ⟩,GI,mT,m_Pull⟩
 have MS:Mak l.prog w K mg base 1 "Push" _ (rP K) a8 bp _:=⟨⟨Az,ia,eO,AO⟩,GI,mT,m_Push⟩
 have Gh:Cal l.prog w K mg base 1 "head" _ (ET K) Ct _:=⟨Lv Ky,b_head,m_head,k_head⟩
 have Gl:Cal l.prog w K mg base 1 "leaving" _ (ES K) kX _:=⟨Dd yS,HE,F8,kP⟩
 have Gf:Cal l.prog w K mg base 2 "follower" _ (KY K) jq _:=⟨Aa sV T Gh Gl,Ei,DE,jd⟩
 have Gr:Cal l.prog w K mg base 3 "round_from" _ (EU K) eP _:=⟨Lx mU Gf,yE,xD,eI⟩
 have GR:Cal l.prog w K mg base 4 "rounds_of" _ (tH K) gC _:=⟨FP qJ T Gr,BG,AE,gs⟩
 have GS:Cal l.prog w K mg base 1 "sides_of" _ (yY K) jf _:=⟨IK sJ T,Ea,Dw,i5⟩
 have wL:Met l.prog w K mg base 1 a9 "wish" _ (ku false) fL _:=⟨⟨ib,lT,je⟩,II sW,Ej⟩
 have wS:Met l.prog w K mg base 1 a8 "wish" _ (ku true) eh _:=⟨⟨h9,jX,gA⟩,IH qR,BM⟩
 have Gm:Cal l.prog w K mg base 1 "mask_of" _ (spMask K) iF _:=⟨ok_mask qM,yI,xH,iA⟩
 have Gp:Cal l.prog w K mg base 2 "pushes" _ (EN a9 a8 cV) nZ _:=⟨Lq CD T cw TL TS Gm wL wS,JP,Jj,nP⟩
 have Go:Cal l.prog w K mg base 1 "odd_at" _ (y8 a9 a8 cV) n8 _:=⟨IP CG T cw,JR,Jl,nU⟩
 have Gq:Cal l.prog w K mg base 3 "odd_rounds" _ (ER a9 a8 cV) eR _:=⟨Ls mX T cw Gm Gp Go,yH,xG,eK⟩
 have Ga:Cal l.prog w K mg base 1 "reached" _ (spReach K) iE _:=⟨ok_reached qK,yF,xE,iz⟩
 have R1:Cal l.prog w K mg base 1 "refuse_ends" _ (y7 K) dz _:=⟨IM lB,vP,uP,dv⟩
 have R2:Cal l.prog w K mg base 1 "refuse_turns" _ (tI K) c6 _:=⟨FO jC T,rG,rf,cX⟩
 have R3:Cal l.prog w K mg base 2 "refuse_parted" _ (yZ K) cH _:=⟨IL iW Ga,qq,oY,cE⟩
 have WI:FnOk l.prog w K mg base CX0 5 cn _ _ (tG K):=IJ mY T R1 R2 R3 GR GS
 have MW:Mak l.prog w K mg base 5 "Web" _ (tG K) cV cn _:=⟨⟨F4,jP,iD,Gw⟩,WI,yJ,m_Web⟩
 have Gc:Cal l.prog w K mg base 1 "_law_cell" _ (Cd K) jo _:=⟨Ly sU T,Eh,DD,jc⟩
 have kT:KF.Txt mg:=⟨n_len,n_int,n_bool,n_list,n_tuple,n_range,n_min,n_abs,n_enumerate,n_isinstance⟩
 have kA1:Cal l.prog w K mg base 1 "beyond" _ KF.spBey n9 _:=⟨KF.ok_bey CH,JS,Jm,nV⟩
 have kA2:Cal l.prog w K mg base 1 "links_at" _ KF.spAt jj _:=⟨KF.ok_at sP kT,Ee,DA,i9⟩
 have kA3:Cal l.prog w K mg base 2 "fares" _ (KF.spFares TT) vm _:=⟨KF.ok_fares Ic kT tbi qF hcd hbm kA2 kA1,MB,LW,uY⟩
 have kA4:Cal l.prog w K mg base 1 "reached" _ KF.spReach iE _:=⟨KF.ok_reached qK,yF,xE,iz⟩
 have kA5:Cal l.prog w K mg base 2 "whole" _ KF.spWhl vk _:=⟨KF.ok_whl Ib kA4,MA,LV,uX⟩
 have kA6:Cal l.prog w K mg base 2 "row_to" _ KF.spRow nY _:=⟨KF.ok_row CC ⟨n_list,n_reversed⟩ kA1,JO,Ji,nO⟩
 have kA7:Cal l.prog w K mg base 1 "bits" _ KF.spBits Cu _:=⟨KF.ok_bits Kz,b_bits,m_bits,Co⟩
 have kA8:Cal l.prog w K mg base 2 "ones" _ KF.spOnes Cr _:=⟨KF.ok_ones Kx kT kA7,b_ones,m_ones,Cn⟩
 have kA9:Cal l.prog w K mg base 3 "odd" _ KF.spOdd JC _:=⟨KF.ok_odd F_odd kA8,b_odd,m_odd,Jq⟩
 have kC1:Cal l.prog w K mg base 1 "mask_of" _ (KF.spMask K) iF _:=⟨KF.ok_mask qM,yI,xH,iA⟩
 have kC2:Cal l.prog w K mg base 4 "refuse_marks" _ KF.spRef c7 _:=⟨KF.ok_ref jD ⟨⟨_,most⟩⟩ kA9 kA5 kA8,rH,rh,cY⟩
 have kC3:Cal l.prog w K mg base 1 "chosen_of" _ KF.spChosen gG _:=⟨KF.ok_chosen qP,BK,AI,gy⟩
 have kC4:Cal l.prog w K mg base 1 "new_table" _ KF.spTable gD _:=⟨KF.ok_table qL,BH,AF,gu⟩
 have kC5:∀(D:Nat->Nat->Int)(m:Nat),(∀ a b,D a b=D b a)->Cal l.prog w K mg base 10 "laid_in_pairs" _ (KF.spLaid D m 8) cJ _:=fun D m sy=>⟨KF.ok_laid sy iX kT kA7 iR ig bG 8,iR,ig,bG⟩
 have kC6:Cal l.prog w K mg base 11 "paired" _ (KF.spPaired TT) n0 _:=⟨KF.ok_paired CF kT kC2 kA7 kA3 kC3 kC4 kC5 kC1 kA6,JQ,Jk,nQ⟩
 have TZ:TxtZ mg:={ T with n_zip:=n_zip }
 have Kli:Cal l.prog w K mg base 1 "links_of" _ (za a9 a8 cV) ji _:=⟨IS sO TZ cw TL TS,Ed,Dz,i8⟩
 have sL:Met l.prog w K mg base 2 a9 "signed" _ (ky a9 false) bH _:=⟨⟨eY,eM,dh⟩,w9 iY TL wL,mS⟩
 have sS:Met l.prog w K mg base 2 a8 "signed" _ (ky a8 true) bH _:=⟨⟨eX,eM,dh⟩,w9 iY TS wS,mS⟩
 have B3:Cal l.prog w K mg base 1 "setting" _ oo kW _:=⟨Dc yR,HD,F7,kN⟩
 have TO:TxtO mg bc:={ T with n_zip:=n_zip,modd:=⟨_,modd⟩,n_max:=n_max,g_TooRough:=DF }
 have Kpa:Cal l.prog w K mg base 1 "paid_alike" _ (rO (-1)) eQ _:=⟨ok_pa mV TO,yG,xF,eJ⟩
 have Kpu:Cal l.prog w K mg base 1 "paid_unlike" _ (rO 1) dA _:=⟨ok_pu lC TO,vQ,uQ,dw⟩
 have Kma:CalD l.prog w K mg base 4 "marks_of" _ (y9 bc a9 a8 cV) jh _:=⟨IQ sN TO fO Gq kA8,Ec,Dy,i7⟩
 have Kro:CalD l.prog w K mg base 12 "roof" _ (EM bc TT a9 a8 cV) Cq _:=⟨Lp Kw TO cw TL TS Kma Kli kC6 wL wS,b_roof,m_roof,Cm⟩
 have B1:CalD l.prog w K mg base 13 "both_ways_of" _ (EW bc TT a9 a8 cV) c8 _:=⟨Lz jE cw TL TS Kro Kpa Kpu sL sS,rJ,rj,cZ⟩
 have B2:CalD l.prog w K mg base 14 "both_ways" _ (spBW bc TT a9 a8 cV) gH _:=⟨ok_bw qQ T cw B1,BL,AJ,gz⟩
 have B4:CalD l.prog w K mg base 15 "set_ties" _ (EL bc TT a9 a8 cV) jg _:=⟨Lo sM B2 B3,Eb,Dx,i6⟩
 have TV:TxtV mg:={ T with n_reversed:=n_reversed }
 have N1:Cal l.prog w K mg base 2 "_law_kinds" _ (zb K) gE _:=⟨IU qN T Gc,BI,AG,gv⟩
 have N2:Cal l.prog w K mg base 7 "_law_web" _ (EV a9 a8 cV) kY _:=⟨Lw yT TV ML MS TL TS MW cw,HF,F9,kQ⟩
 have N3:CalD l.prog w K mg base 16 "_law_asked" _ (zc bc TT a9 a8 cV) gF _:=⟨IV qO B2 B4,BJ,AH,gw⟩
 have N4:Cal l.prog w K mg base 17 "_law_told" _ (EK bc TT a9 a8 cV) jk _:=⟨Ln sQ TO fO (fun c hc=>by rw[hc];exact bN) N3,Ef,DB,ja⟩
 have N5:Cal l.prog w K mg base 1 "_law_due" _ (KZ K) kZ _:=⟨ok_due yU,HG,Gb,kR⟩
 have N6:Cal l.prog w K mg base 1 "_law_pair" _ EO jn _:=⟨Lr sR T,Eg,DC,jb⟩
 exact ok_law F_law T Gc N1 N2 N4 N5 N6
theorem walk{l:Qh}{q:Program}{loose:List Str}{XP:(Str->Option Value)->Heap->Prop}{YP:World->Heap->Prop}{d:DefRec}{K:Params->MQ}(hn:l.most=some 63)(hdf:d.params.defaults = [])
  (hY:∀(w:World)(h:Heap),YP w h->(K w.params).In h) (hrec:((PyProof.Rows.recsOf q).find? (fun e=>e.name == ("fares" : Str))).isSome=true)
  (F:∀(w:World)(mg:Str->Option Value)(fa:Addr)(h:Heap),(K w.params).In h->h.Ns mainGlobals mg->mg d.name=some (.ref fa) ->
   ∃ fd:FuncData,(∀(s:Shared)(u:Value),BindsTo s fd ⟨[u],[]⟩ [("script",u)])/\∃ c T,OT (K w.params) "fares" = some (c,T)/\(K w.params).lookup T=none/\∀ base:Heap,(K w.params).In base->base.Ns mainGlobals mg->OL base c T->Bm mg base->FnOk l.prog w (K w.params) mg base CX0 18 fa fd ["script"] (Cc (K w.params) T)) :
  PySem.W.WalkO q loose XP YP l.row.toRowW d [] (fun f vs=>PySem.call f vs) :=
 L2.walk_ofT (n:=63) (k:=18) (x:="script") (CX:=CX0) (sp:=fun K T=>Cc K T) hn (by decide) hdf ⟨rfl,by decide,by decide⟩ hY (Option.some_get hrec).symm F (fun _ _ _ a ns hl hT hS=>⟨a,ns,rfl,hS,hl,.inl hT,fun _=>rfl⟩) fun _ _ _ _ z=>z
end K8
def PySem.W.Fast.tw14051894717831605056:Nat:=0
def PySem.W.Fast.tw10140695349989261665:Nat:=0
def PySem.W.Fast.tw14571472040292278628:Nat:=0
def PySem.W.Fast.tw5596848432394532324:Nat:=0
def PySem.W.Fast.tw556474901119514469:Nat:=0
def PySem.W.Fast.tw4198928085417077191:Nat:=0
def PySem.W.Fast.tw3181959825737460264:Nat:=0
def PySem.W.Fast.tw10822694693401251306:Nat:=0
def PySem.W.Fast.tw1796998950174758091:Nat:=0
def PySem.W.Fast.tw9874900074639022508:Nat:=0
def PySem.W.Fast.tw15668932207800937645:Nat:=0
def PySem.W.Fast.tw11812652191665703153:Nat:=0
def PySem.W.Fast.tw16171616180737710132:Nat:=0
def PySem.W.Fast.tw16905179614157433847:Nat:=0
def PySem.W.Fast.tw10558213367281855064:Nat:=0
def PySem.W.Fast.tw14156813421813851736:Nat:=0
def PySem.W.Fast.tw9440264414653884121:Nat:=0
def PySem.W.Fast.tw16332417684932356953:Nat:=0
def PySem.W.Fast.tw17281795144271026077:Nat:=0
namespace PySem.W.Fast
def tw891990895931041824:=0
def tw15933456353682219040:=0
def tw10960448234160492608:=0
def tw5231729608819186784:=0
def tw4545263150170227808:=0
def tw10208166074813872256:=0
def tw12487590512061541568:=0
def tw7931268166388214048:=0
def tw4487608574696753568:=0
def tw14751509005087645120:=0
def tw1391582348135204416:=0
def tw9829356684430712384:=0
def tw2977237914064275008:=0
def tw13846649718955192960:=0
def tw3138629076338213536:=0
def tw14726853366258287264:=0
def tw11473251445408075456:=0
def tw8574517669540243200:=0
def tw6791614574870400800:=0
def tw3630646102058316640:=0
def tw12669436309415959424:=0
def tw9285154017898491872:=0
def tw5508025365076541473:=0
def tw9355587569297821729:=0
def tw16321775439568470145:=0
def tw1346669271836396673:=0
def tw12902089241202649249:=0
def tw17264035070895622369:=0
def tw12905895487254018305:=0
def tw11288624133819620641:=0
def tw5678010024953701665:=0
def tw7289140601532658049:=0
def tw17260139906704776673:=0
def tw1923945339212091873:=0
def tw17379437216088264225:=0
def tw12657294970321663745:=0
def tw13151634604125731617:=0
def tw16920259505992817441:=0
def tw1920401610817270657:=0
def tw218443895213217697:=0
def tw12703621605475816385:=0
def tw13874061289801762785:=0
def tw14423949991844258850:=0
def tw16713067824208376866:=0
def tw9579497496841861314:=0
def tw15047204325410732258:=0
def tw693226817759848930:=0
def tw7500094769530076642:=0
def tw767225116773756482:=0
def tw17474879392653488898:=0
def tw12544135431469118242:=0
def tw9714976219985078082:=0
def tw6879599929499023234:=0
def tw12157001566584879203:=0
def tw5250122730184600675:=0
def tw13351189388192801923:=0
def tw11168786726261274819:=0
def tw2617688065220850147:=0
def tw14359743943033342595:=0
def tw15293061535519538851:=0
def tw5462226394236885763:=0
def tw15732314639736291107:=0
def tw2119229157517305667:=0
def tw9163472399521123267:=0
def tw10358188634736442307:=0
def tw8671896861637542148:=0
def tw158533649233837444:=0
def tw14470998169241019812:=0
def tw16603821590391990724:=0
def tw12562858005062889028:=0
def tw410235382778122852:=0
def tw417636938132856516:=0
def tw4867461140480929700:=0
def tw5063782917977732036:=0
def tw17217834692791315428:=0
def tw16009151452922082373:=0
def tw12096264594360304837:=0
def tw14788866535179825381:=0
def tw13571924253404366117:=0
def tw14370394600582596965:=0
def tw11865339339852960101:=0
def tw13323634836277865893:=0
def tw15613849263398419941:=0
def tw12745090856073011781:=0
def tw16170675988251041541:=0
def tw5910039328444352357:=0
def tw15355327042410047333:=0
def tw17007143280656579493:=0
def tw17104192780115875781:=0
def tw11185448147759907781:=0
def tw5853010140596542470:=0
def tw4994321954735054918:=0
def tw6359292516650341446:=0
def tw16210694269108180102:=0
def tw12077100203727600838:=0
def tw10867732536689610982:=0
def tw11654467061092520198:=0
def tw4176918533546602854:=0
def tw10282506286146958694:=0
def tw479439629407322502:=0
def tw15385414819926241798:=0
def tw10675514831148421702:=0
def tw3509033924778545766:=0
def tw12986224224711203462:=0
def tw7159933813660535430:=0
def tw6209876354398479046:=0
def tw8059089283282782982:=0
def tw11677231508653765446:=0
def tw17651064687980451654:=0
def tw10510478564322763718:=0
def tw4372400040451379174:=0
def tw17877992689185755175:=0
def tw555996023070211175:=0
def tw4481577634037476455:=0
def tw16769690019489322119:=0
def tw14429475752726110343:=0
def tw13760446793129712903:=0
def tw3443039488799867143:=0
def tw12364091378265530791:=0
def tw9623741532280503751:=0
def tw18180255617376512455:=0
def tw15691626790298233319:=0
def tw9989582324551812615:=0
def tw4727229379015537287:=0
def tw9179137165467524775:=0
def tw600075582766958247:=0
def tw16963572962242962119:=0
def tw3942059982080462663:=0
def tw4360523665056041831:=0
def tw5523342775888213927:=0
def tw8090121736225642536:=0
def tw15132164474713737352:=0
def tw10614668508680657032:=0
def tw5797578379154984136:=0
def tw7553954483271535912:=0
def tw2568902270568684840:=0
def tw10897831622858785160:=0
def tw3626290896133044680:=0
def tw4403293366063344104:=0
def tw4916756432160826920:=0
def tw2312716265475319336:=0
def tw3860642848800079496:=0
def tw10372346245832643304:=0
def tw13073620973086523208:=0
def tw9788614299893310344:=0
def tw8681904418034314281:=0
def tw17065747911391669353:=0
def tw2275075512174682249:=0
def tw14329664354126945481:=0
def tw11811710201959814473:=0
def tw7367972670356851017:=0
def tw1983508069020781929:=0
def tw3937282178431260009:=0
def tw5925573937315431881:=0
def tw3316592122613524969:=0
def tw15556100850257572329:=0
def tw2673097734637124329:=0
def tw9709727560976103177:=0
def tw9262695896410626921:=0
def tw10707915200094476169:=0
def tw16511738928578185097:=0
def tw2227870188650635241:=0
def tw10722456932654987241:=0
def tw8265494353284529129:=0
def tw7204421269390076010:=0
def tw1723587242287001770:=0
def tw7309526707363267818:=0
def tw11594256688010252554:=0
def tw17696307317877571946:=0
def tw16841398312030004586:=0
def tw14815499958371805610:=0
def tw9562353211453027850:=0
def tw394119103705244202:=0
def tw3135473886341545610:=0
def tw5996414137797373578:=0
def tw1722021324703974122:=0
def tw5972500329984601866:=0
def tw13042173105364905770:=0
def tw4028655125379887914:=0
def tw4142673824079585066:=0
def tw14319504320357081930:=0
def tw8794833438908740458:=0
def tw4134759137059850122:=0
def tw3394558467720266698:=0
def tw789243081554090027:=0
def tw6641478856161610859:=0
def tw6779877152227952811:=0
def tw1289409999926316203:=0
def tw11674901219660216555:=0
def tw12837626341225672011:=0
def tw7748942921898796395:=0
def tw5824309795682160075:=0
def tw18409464979032882699:=0
def tw17009937552314726955:=0
def tw14952313053215304267:=0
def tw10452934642909700683:=0
def tw9541485614489739915:=0
def tw14701183582328338155:=0
def tw720253614960832235:=0
def tw9277996953443166987:=0
def tw10284981518870801227:=0
def tw12966485542559299435:=0
def tw7480888373124757419:=0
def tw8090170623689612235:=0
def tw13940218633083314188:=0
def tw15891604577285616780:=0
def tw14964127136130384108:=0
def tw238050868973742508:=0
def tw6197615382355260844:=0
def tw4484249195297042860:=0
def tw7209739711966963148:=0
def tw6655462573204734412:=0
def tw12092256520770402828:=0
def tw5725799087278160492:=0
def tw2119456637849317996:=0
def tw571525879890706060:=0
def tw9934570397492342444:=0
def tw12044623648237209324:=0
def tw12352446952758886188:=0
def tw7442671761141678892:=0
def tw3165046085203850028:=0
def tw15387425172747448172:=0
def tw10060007102289493900:=0
def tw3629752625260925868:=0
def tw1895750933889201068:=0
def tw6068074381268285388:=0
def tw2153995487547878413:=0
def tw11685702818625133613:=0
def tw4204935578326433901:=0
def tw6057319072206015661:=0
def tw7408138302511718605:=0
def tw7538266511641016557:=0
def tw12009085042598584589:=0
def tw3972070522623299885:=0
def tw12130971020550708557:=0
def tw18375699255065636173:=0
def tw52145090440617421:=0
def tw16804704376573500941:=0
def tw1815207712255260205:=0
def tw6348996167611816493:=0
def tw7643280279721800365:=0
def tw15479066665496927917:=0
def tw11219226983953627949:=0
def tw2526318337181352781:=0
def tw15339956506768918349:=0
def tw4029755474769741677:=0
def tw1328648416363083661:=0
def tw8871547822659995597:=0
def tw15703639622051974125:=0
def tw16036093033273758766:=0
def tw12061808740581778638:=0
def tw3008384807790556526:=0
def tw10932849953471730094:=0
def tw6893592721282376142:=0
def tw16325526575987700206:=0
def tw3957798752748168718:=0
def tw80431553824528142:=0
def tw10483062573745369902:=0
def tw14507680761600728878:=0
def tw13148026296391652238:=0
def tw699678436205983694:=0
def tw10135537523905449966:=0
def tw15587462099390866447:=0
def tw3698904222082430031:=0
def tw10053508177540350031:=0
def tw3052826160984339823:=0
def tw9844445153253020015:=0
def tw10898770562712774095:=0
def tw6453473899110163919:=0
def tw16823436223571456463:=0
def tw3516097888894349903:=0
def tw1480742650141500015:=0
def tw16719020652855864015:=0
def tw13842094391688670927:=0
def tw4635499801831955311:=0
def tw15504999905540247439:=0
def tw9311543204603200431:=0
def tw5465776197801284559:=0
def tw15419666491939634192:=0
def tw14506772227521866800:=0
def tw5905111647457811504:=0
def tw12491759220344581200:=0
def tw14502798410565873808:=0
def tw14428352279321435312:=0
def tw2034240959412925648:=0
def tw4155008011800842480:=0
def tw14117210467714301168:=0
def tw13160823786699851024:=0
def tw13060115288670887312:=0
def tw12618206648692341264:=0
def tw5194797924240043536:=0
def tw7250852631053701680:=0
def tw11420267407955786320:=0
def tw10283146606974243472:=0
def tw5756684114499826352:=0
def tw7327051929703650160:=0
def tw3290041022436265936:=0
def tw5154183766913549296:=0
def tw6594819688641669169:=0
def tw5239315015842890833:=0
def tw16244630171427517553:=0
def tw6505318764709801073:=0
def tw15610651698732526737:=0
def tw2783007919724141745:=0
def tw16739413380308172049:=0
def tw7271934603638647089:=0
def tw14228220343966719281:=0
def tw11706557919078136273:=0
def tw4546221023402751537:=0
def tw3665325303574972049:=0
def tw14909022585933659857:=0
def tw7760413914701167345:=0
def tw7889472481566848849:=0
def tw3171774391742483377:=0
def tw2060184177530434481:=0
def tw15457424443890250705:=0
def tw7391915352810286033:=0
def tw9632659769391284209:=0
def tw13589126342371443730:=0
def tw12567579842289830994:=0
def tw15286986206033143986:=0
def tw7432500348086941874:=0
def tw17776566424435373266:=0
def tw12957032817866910994:=0
def tw7307152257700506930:=0
def tw2239180113270058674:=0
def tw11789615464284556178:=0
def tw4683046902243461074:=0
def tw3065894578608955378:=0
def tw1583808479992732691:=0
def tw16629040641343248435:=0
def tw7777718931416273971:=0
def tw11593232679422375027:=0
def tw3657780260632119475:=0
def tw5731979481630703059:=0
def tw523386256865098323:=0
def tw17958873950675023475:=0
def tw10717183335129443955:=0
def tw12644088692408548979:=0
def tw14586679226674834067:=0
def tw18433333480274467507:=0
def tw7748027156599952051:=0
def tw843252511742786387:=0
def tw11286352772703310739:=0
def tw13786786129527551891:=0
def tw7651119544277628148:=0
def tw3066442015932142836:=0
def tw14516446284054902100:=0
def tw695142302194988500:=0
def tw7730222659281094164:=0
def tw2636684367228109364:=0
def tw16134317339936959028:=0
def tw11806537412791081812:=0
def tw17941695339308942196:=0
def tw2587749499867508596:=0
def tw13414233885908655988:=0
def tw140503959202867124:=0
def tw8623083474129759285:=0
def tw1668554245476512885:=0
def tw15604916640064197909:=0
def tw13837861424640196917:=0
def tw13659763940620985685:=0
def tw1072126560848917877:=0
def tw530410890937887285:=0
def tw4433741383200717397:=0
def tw12790842117639259765:=0
def tw11712345111083818645:=0
def tw8179260427773290133:=0
def tw10838537567048102773:=0
def tw687496830170243989:=0
def tw8037367462965223574:=0
def tw15148438920592899254:=0
def tw11114943858878215382:=0
def tw12130261314861342966:=0
def tw3004784458385622262:=0
def tw17436959978622204182:=0
def tw4120152797658897686:=0
def tw1202947299664067894:=0
def tw3417277870461791574:=0
def tw9284500768072501654:=0
def tw2692935417417952790:=0
def tw7565207684678250006:=0
def tw8130683613386684982:=0
def tw8498233067056287414:=0
def tw3178261214275199702:=0
def tw16660861171904107286:=0
def tw15267440869337525110:=0
def tw6060763567836127222:=0
def tw11792475559035424823:=0
def tw4210176294323863703:=0
def tw7310085520779881655:=0
def tw6868115554676380183:=0
def tw16850829850697907895:=0
def tw12973465993879708343:=0
def tw3042907124733754135:=0
def tw5365345218522337175:=0
def tw8351678063550922679:=0
def tw2409586068293495832:=0
def tw1516032441238438936:=0
def tw18069782791414861976:=0
def tw11105831551898374296:=0
def tw8791785376577873048:=0
def tw2259593505360309432:=0
def tw2289098396303329560:=0
def tw12301468648542606616:=0
def tw16195694822869909784:=0
def tw10614614097833741752:=0
def tw6818007680220646904:=0
def tw7322397602658702872:=0
def tw11344734616121752184:=0
def tw3736097363946986104:=0
def tw12694807145564625560:=0
def tw18297671131318220504:=0
def tw17733556736485425880:=0
def tw16074444370514666200:=0
def tw17030495518248765240:=0
def tw7153577738186372952:=0
def tw3594970903077107576:=0
def tw6858005525416116088:=0
def tw8597290377048948632:=0
def tw8521946504645904312:=0
def tw1246657811734764472:=0
def tw6030925264732447672:=0
def tw13436003865290756088:=0
def tw10118317200975428600:=0
def tw9279337680867123225:=0
def tw358035127881728057:=0
def tw7831012490079849561:=0
def tw14542612938893942873:=0
def tw7165295485984009369:=0
def tw6599966522962547993:=0
def tw12863182961519462713:=0
def tw5060489623568983385:=0
def tw11892574108869089721:=0
def tw10259695647096068569:=0
def tw11423208585009093113:=0
def tw4012133897192641049:=0
def tw948521086415295033:=0
def tw12994290613498236537:=0
def tw6885259944187129529:=0
def tw10309607319763291865:=0
def tw1685502464709047065:=0
def tw15065096230512299897:=0
def tw1468411405819102105:=0
def tw7247554138528592922:=0
def tw15160130108719014106:=0
def tw6217717988235273530:=0
def tw7689714734071030170:=0
def tw558076874993197562:=0
def tw8344555763723765402:=0
def tw8923317933923383962:=0
def tw5582920717777029786:=0
def tw6981856304791070490:=0
def tw6903598228559221562:=0
def tw7704696818277916602:=0
def tw14237910743467946938:=0
def tw16787508550865496091:=0
def tw2944019079810569307:=0
def tw5528423374523360411:=0
def tw10393687668736927931:=0
def tw15032006267139594523:=0
def tw3977032591811520795:=0
def tw14916728649605775707:=0
def tw12406507884340952475:=0
def tw7721101913824837115:=0
def tw5160986045329264283:=0
def tw16648267750381660859:=0
def tw16076142882562026171:=0
def tw15272179235094638331:=0
def tw4440900134041710363:=0
def tw13237096812497667067:=0
def tw5147293230157295611:=0
def tw16304342560951263260:=0
def tw219447999671897116:=0
def tw3050694561602395196:=0
def tw17647226238984518748:=0
def tw6904860216079167900:=0
def tw15806248592889034268:=0
def tw9336460126638947868:=0
def tw10348214801636397788:=0
def tw16826907984224473884:=0
def tw15185539319010665340:=0
def tw7170471799908444221:=0
def tw5826857447897904253:=0
def tw11139712174550662365:=0
def tw16114543403854059869:=0
def tw11669977232520342941:=0
def tw16085291625551521213:=0
def tw12017273413334999517:=0
def tw14383466041363747293:=0
def tw7176219389838781917:=0
def tw18009436038339631677:=0
def tw10604849905092381245:=0
def tw11762768964381240893:=0
def tw5465977150522187357:=0
def tw15246156002248034909:=0
def tw6779006163252386461:=0
def tw18162062569041821341:=0
def tw11571097282894316221:=0
def tw17419759006975517437:=0
def tw4363737854927303485:=0
def tw532825553078352926:=0
def tw17984531414948669534:=0
def tw12329611853992906910:=0
def tw9351659078524970174:=0
def tw13746530289041733886:=0
def tw1382612110511456510:=0
def tw10450673133696806270:=0
def tw8653180804383962590:=0
def tw2926665165430898206:=0
def tw10560557446121098878:=0
def tw11901308730686476958:=0
def tw16809741132561236638:=0
def tw3521721000158674750:=0
def tw3972089133155737470:=0
def tw11096740306465297374:=0
def tw2339428466953834462:=0
def tw690655783569224735:=0
def tw7836024296342107199:=0
def tw7073293058459682879:=0
def tw2886152140049341631:=0
def tw13800858023897890079:=0
def tw6721026961112345919:=0
def tw7572868637977697599:=0
def tw15943991482305685919:=0
def tw10549859544875563423:=0
def tw13233363343946067391:=0
def tw16355565441791048191:=0
def tw18303547504902601279:=0
def tw9163877141096144447:=0
def tw8067193969620235871:=0
def tw4136634932205686527:=0
def tw12464592765279826879:=0
def tw3214163528661006335:=0
def tw1220479492308186111:=0
def tw2668688012231610986:=0
end PySem.W.Fast
open PySem PySem.W PyProof.Rows
set_option maxRecDepth 100000 in
set_option maxHeartbeats 0 in
theorem PySem.Challenge.cw_spinfloor_k78_both_ways_of_fans_holds : PySem.Challenge.rw_spinfloor_k78_both_ways_of_fans.Holds := by
 w_on;o_law;k_head;(case hw=>w_witness2)
 k_fill
 refine K8.walk (l:=PySem.Challenge.rw_spinfloor_k78_both_ways_of_fans) rfl rfl (fun w h Y=>PySem.W.km_in_of Y) ?R ?F
 (case R=>kernel_rfl)
 case F =>
  intro w mg fa h KX G hmg
  refine' K8.all_mk KX G hmg ?ko ?B0 ?BZ ?HS ?ic ?ib ?eY ?ia ?h9 ?eX ?jP ?HR ?Gs ?Hy ?Co ?HP ?Gk ?Hw ?Cn ?MI ?L3 ?Mw ?Jq ?qB ?pf ?qj ?iA ?qA ?pd ?qi ?iz ?wm ?uW ?vM ?nV ?mz ?lM ?l7 ?i9 ?qF ?uV ?BC ?uY ?vZ ?uR ?vI ?nO ?BY ?AN ?BB ?uX ?fB ?fk ?fy ?cY ?ki ?jU ?j9 ?gy ?eG ?d8 ?eE ?bG ?ke ?jR ?j6 ?gu ?we ?uT ?vK ?nQ ?wc ?uS ?vJ ?nP ?wj ?uU ?vL ?nU ?iU ?ir ?iN ?eK ?my ?lL ?l4 ?i8 ?mw ?lK ?lZ ?i7 ?iy ?iQ ?iC ?eO ?lS ?mq ?je ?lT ?iw ?iP ?dh ?eM ?jW ?kc ?gA ?jX ?HQ ?Gn ?Hx ?k_head ?qC ?ph ?qk ?kP ?mE ?lR ?ml ?jd ?iS ?ip ?iL ?eI ?kd ?jQ ?j4 ?gs ?mr ?lH ?lX ?i5 ?gN ?gn ?gL ?dv ?fA ?fj ?fx ?cX ?eF ?d7 ?eB ?cE ?iu ?iO ?iB ?iD ?HN ?Gj ?Hv ?Cm ?iT ?iq ?iM ?eJ ?gO ?gp ?gM ?dw ?fE ?fq ?fz ?cZ ?kj ?jV ?ka ?gz ?qz ?o9 ?qg ?kN ?mv ?lJ ?lY ?i6 ?mD ?lQ ?mh ?jc ?kf ?jS ?j7 ?gv ?qD ?pj ?ql ?kQ ?kh ?jT ?j8 ?gw ?mB ?lN ?l8 ?ja ?qE ?pq ?qm ?kR ?mC ?lP ?ma ?jb ?JV ?L4 ?Mx ?L6 ?fO ?bN ?zX ?A6 ?zK ?zA ?AA ?AQ ?jO ?jN ?dj ?zW ?A5 ?zJ ?zy ?Az ?AO ?jM ?jL ?di ?Fw ?GO ?Fn ?Fb ?F4 ?Gw ?jK ?jJ ?hX ?gj ?h7 ?gi_most ?gi_modd ?KH ?KI ?Ex ?Eu ?yV ?yW ?jF ?gY ?KD ?KC ?sX ?KG ?KA ?KJ ?Ew ?lD ?tbc ?tbl ?tbv ?tbn
  (case ko=>k_is)
  (case B0=>k_is)
  (case BZ=>k_is)
  (case HS=>k_is)
  (case ic=>k_is)
  (case ib=>k_is)
  (case eY=>k_is)
  (case ia=>k_is)
  (case h9=>k_is)
  (case eX=>k_is)
  (case jP=>k_is)
  (case HR=>k_is)
  (case Gs=>k_is)
  (case Hy=>k_is)
  (case Co=>k_is)
  (case HP=>k_is)
  (case Gk=>k_is)
  (case Hw=>k_is)
  (case Cn=>k_is)
  (case MI=>k_is)
  (case L3=>k_is)
  (case Mw=>k_is)
  (case Jq=>k_is)
  (case qB=>k_is)
  (case pf=>k_is)
  (case qj=>k_is)
  (case iA=>k_is)
  (case qA=>k_is)
  (case pd=>k_is)
  (case qi=>k_is)
  (case iz=>k_is)
  (case wm=>k_is)
  (case uW=>k_is)
  (case vM=>k_is)
  (case nV=>k_is)
  (case mz=>k_is)
  (case lM=>k_is)
  (case l7=>k_is)
  (case i9=>k_is)
  (case qF=>k_is)
  (case uV=>k_is)
  (case BC=>k_is)
  (case uY=>k_is)
  (case vZ=>k_is)
  (case uR=>k_is)
  (case vI=>k_is)
  (case nO=>k_is)
  (case BY=>k_is)
  (case AN=>k_is)
  (case BB=>k_is)
  (case uX=>k_is)
  (case fB=>k_is)
  (case fk=>k_is)
  (case fy=>k_is)
  (case cY=>k_is)
  (case ki=>k_is)
  (case jU=>k_is)
  (case j9=>k_is)
  (case gy=>k_is)
  (case eG=>k_is)
  (case d8=>k_is)
  (case eE=>k_is)
  (case bG=>k_is)
  (case ke=>k_is)
  (case jR=>k_is)
  (case j6=>k_is)
  (case gu=>k_is)
  (case we=>k_is)
  (case uT=>k_is)
  (case vK=>k_is)
  (case nQ=>k_is)
  (case wc=>k_is)
  (case uS=>k_is)
  (case vJ=>k_is)
  (case nP=>k_is)
  (case wj=>k_is)
  (case uU=>k_is)
  (case vL=>k_is)
  (case nU=>k_is)
  (case iU=>k_is)
  (case ir=>k_is)
  (case iN=>k_is)
  (case eK=>k_is)
  (case my=>k_is)
  (case lL=>k_is)
  (case l4=>k_is)
  (case i8=>k_is)
  (case mw=>k_is)
  (case lK=>k_is)
  (case lZ=>k_is)
  (case i7=>k_is)
  (case iy=>k_is)
  (case iQ=>k_is)
  (case iC=>k_is)
  (case eO=>k_is)
  (case lS=>k_is)
  (case mq=>k_is)
  (case je=>k_is)
  (case lT=>k_is)
  (case iw=>k_is)
  (case iP=>k_is)
  (case dh=>k_is)
  (case eM=>k_is)
  (case jW=>k_is)
  (case kc=>k_is)
  (case gA=>k_is)
  (case jX=>k_is)
  (case HQ=>k_is)
  (case Gn=>k_is)
  (case Hx=>k_is)
  (case k_head=>k_is)
  (case qC=>k_is)
  (case ph=>k_is)
  (case qk=>k_is)
  (case kP=>k_is)
  (case mE=>k_is)
  (case lR=>k_is)
  (case ml=>k_is)
  (case jd=>k_is)
  (case iS=>k_is)
  (case ip=>k_is)
  (case iL=>k_is)
  (case eI=>k_is)
  (case kd=>k_is)
  (case jQ=>k_is)
  (case j4=>k_is)
  (case gs=>k_is)
  (case mr=>k_is)
  (case lH=>k_is)
  (case lX=>k_is)
  (case i5=>k_is)
  (case gN=>k_is)
  (case gn=>k_is)
  (case gL=>k_is)
  (case dv=>k_is)
  (case fA=>k_is)
  (case fj=>k_is)
  (case fx=>k_is)
  (case cX=>k_is)
  (case eF=>k_is)
  (case d7=>k_is)
  (case eB=>k_is)
  (case cE=>k_is)
  (case iu=>k_is)
  (case iO=>k_is)
  (case iB=>k_is)
  (case iD=>k_is)
  (case HN=>k_is)
  (case Gj=>k_is)
  (case Hv=>k_is)
  (case Cm=>k_is)
  (case iT=>k_is)
  (case iq=>k_is)
  (case iM=>k_is)
  (case eJ=>k_is)
  (case gO=>k_is)
  (case gp=>k_is)
  (case gM=>k_is)
  (case dw=>k_is)
  (case fE=>k_is)
  (case fq=>k_is)
  (case fz=>k_is)
  (case cZ=>k_is)
  (case kj=>k_is)
  (case jV=>k_is)
  (case ka=>k_is)
  (case gz=>k_is)
  (case qz=>k_is)
  (case o9=>k_is)
  (case qg=>k_is)
  (case kN=>k_is)
  (case mv=>k_is)
  (case lJ=>k_is)
  (case lY=>k_is)
  (case i6=>k_is)
  (case mD=>k_is)
  (case lQ=>k_is)
  (case mh=>k_is)
  (case jc=>k_is)
  (case kf=>k_is)
  (case jS=>k_is)
  (case j7=>k_is)
  (case gv=>k_is)
  (case qD=>k_is)
  (case pj=>k_is)
  (case ql=>k_is)
  (case kQ=>k_is)
  (case kh=>k_is)
  (case jT=>k_is)
  (case j8=>k_is)
  (case gw=>k_is)
  (case mB=>k_is)
  (case lN=>k_is)
  (case l8=>k_is)
  (case ja=>k_is)
  (case qE=>k_is)
  (case pq=>k_is)
  (case qm=>k_is)
  (case kR=>k_is)
  (case mC=>k_is)
  (case lP=>k_is)
  (case ma=>k_is)
  (case jb=>k_is)
  (case JV=>k_is)
  (case L4=>k_is)
  (case Mx=>k_is)
  (case L6=>k_is)
  (case fO=>k_exc)
  (case bN=>k_is)
  (case zX=>k_is)
  (case A6=>k_is)
  (case zK=>k_is)
  (case zA=>k_is)
  (case AA=>k_is)
  (case AQ=>k_is)
  (case jO=>k_is)
  (case jN=>k_is)
  (case dj=>k_is)
  (case zW=>k_is)
  (case A5=>k_is)
  (case zJ=>k_is)
  (case zy=>k_is)
  (case Az=>k_is)
  (case AO=>k_is)
  (case jM=>k_is)
  (case jL=>k_is)
  (case di=>k_is)
  (case Fw=>k_is)
  (case GO=>k_is)
  (case Fn=>k_is)
  (case Fb=>k_is)
  (case F4=>k_is)
  (case Gw=>k_is)
  (case jK=>k_is)
  (case jJ=>k_is)
  (case hX=>k_is)
  (case gj=>k_is)
  (case h7=>k_is)
  (case gi_most=>k_is)
  (case gi_modd=>k_is)
  (case KH=>k_is)
  (case KI=>k_is)
  (case Ex=>k_is)
  (case Eu=>k_is)
  (case yV=>k_is)
  (case yW=>k_is)
  (case jF=>k_is)
  (case gY=>k_is)
  (case KD=>k_is)
  (case KC=>k_is)
  (case sX=>k_is)
  (case KG=>k_is)
  (case KA=>k_is)
  (case KJ=>k_is)
  (case Ew=>k_is)
  (case lD=>k_is)
  (case tbc=>rfl)
  (case tbl=>k_is)
  (case tbv=>rfl)
  (case tbn=>kernel_rfl)
