import PyProof.Rows.All
import Wide.All
import OpenK.AllK
import Wide.FinOn
import Lean
import PyProof.EqAt
import PyProof.EqKinds
import PyProof.TupleCall
import PySem.Challenge.RW_spinfloor_k71_whole_worths_turned
open Array renaming toList_append → Nj, length_toList → Nz, getElem?_toList → N1, perm_iff_toList_perm → Oh, toList_push → Ov, toList_reverse → OM, toList_extract → Pc, toList_setIfInBounds → Qq, getElem?_eq_some_iff → Qr, getElem?_eq_getElem → Qy, size_setIfInBounds → QB
open Array.Perm renaming refl → Qo
open Bool renaming false_ne_true → MQ, false_eq_true → NG, and_eq_true_iff → Oq, true_and → OJ, false_and → OR, not_eq_true' → O7, or_false → Pe, eq_iff_iff → PZ, and_false → Qx
open Int renaming toNat_natCast → Nc, zero_add → NO, add_zero → NP, le_refl → N3, le_of_lt → Ob, emod_lt_of_pos → Oc, emod_nonneg → Og, toNat_of_nonneg → Ph, natCast_nonneg → Pk, le_trans → Pl, fdiv_eq_ediv_of_nonneg → Qp
open List renaming getElem?_eq_some_iff → Mw, getElem?_eq_getElem → Mx, mem_of_getElem? → My, length_append → MA, getElem?_append_right → MB, length_map → MD, getElem?_map → ME, getElem?_append_left → MF, mem_cons → MG, mem_append → MH, length_singleton → MJ, mem_append_right → MK, mem_cons_of_mem → MO, mem_map → MR, nodup_cons → MU, mem_cons_self → MV, nodup_append → MZ, take_add_one → M1, mem_singleton → M4, size_toArray → M6, map_append → M8, take_append_drop → M9, range → Na, length_cons → Nb, length_take → Nf, mem_append_left → Ng, map_cons → Nh, take_length → Ni, take_of_length_le → Nl, append_assoc → Nm, getElem?_set → Nr, length_set → Nt, length_drop → Nu, flatten_cons → Nx, mem_range → Ny, pairwise_append → NB, not_mem_nil → NC, mem_iff_getElem? → NF, mem_flatten → NI, getD_eq_getElem?_getD → NJ, mem_of_mem_take → NL, mem_of_mem_drop → NM, getElem?_of_mem → NN, flatten_append → NW, pairwise_map → NY, map_map → NZ, length_range → N0, getElem_mem → N4, perm_ext_iff_of_nodup → N5, getElem?_set_self → N6, pairwise_iff_getElem → N8, perm_append_comm → N9, pairwise_cons → Oj, getElem?_take → Ol, drop_eq_getElem_cons → Om, getElem?_set_ne → Oo, ext_getElem? → Ou, getElem?_replicate → Ox, nodup_range → Oz, any_eq_true → OA, getElem?_drop → OB, lookup → OE, length_nil → OF, getElem?_eq_none → OG, replicate → ON, nodup_nil → OO, extract_eq_drop_take → OP, drop_drop → OQ, map_congr_left → OT, getElem?_range → OU, pairwise_singleton → OX, mem_filter → OY, length_eq_zero_iff → OZ, find?_cons → O0, append_of_mem → O1, append_nil → O2, Pairwise → O3, length_pos_of_mem → O5, drop_take → O9, take_append_of_le_length → Pb, take_add → Pd, take_take → Po, drop_zero → Pp, idxOf_lt_length_iff → Pu, getElem_take → Pw, getElem?_inj → Px, flatMap_cons → Py, any_cons → PH, drop_eq_nil_of_le → PJ, sum_append → PR, set_append_right → PU, of_mem_zip → PV, nil_append → PX, getElem?_reverse → PY, filterMap_cons → P5, mem_filterMap → P6, map_drop → P7, getElem_drop → P9, map_nil → Qd, zipIdx_cons → Qe, drop_append → Qf, dropLast_concat_getLast → Qh, length → Qm, idxOf_lt_length_of_mem → Qn, take_zero → Qu, mem_or_eq_of_mem_set → Qv, getElem?_zip_eq_some → Qw, sum_cons → QE, map_take → QF
open List.Pairwise renaming imp_of_mem → Pz, nil → Qa
open List.Perm renaming refl → NS, append_left → Oa
open Nat renaming le_refl → MC, ne_of_lt → M3, sub_self → M7, lt_of_lt_of_le → Nk, testBit_two_pow → Nq, le_trans → Nw, zero_le → NA, le_of_lt → ND, lt_irrefl → NH, ne_of_gt → NK, testBit_or → NQ, eq_of_testBit_eq → NR, zero_testBit → NT, lt_succ_self → NU, lt_succ_of_lt → NX, testBit_and → Oe, min_eq_left → Of, mod_eq_of_lt → Oi, not_lt_zero → OD, le_succ_of_le → OI, pow_le_pow_right → OL, le_succ → OS, testBit_lt_two_pow → O4, le_add_right → Pa, testBit_xor → Pg, two_pow_pos → PN, mod_self → PQ, or_zero → P4, and_zero → Qc, testBit_two_pow_sub_one → Qk, testBit → Ql
open Nat.succ renaming inj → Qb
open Option renaming map_eq_some_iff → M0, map_some → PM, isSome_iff_exists → QA
open Option.some renaming inj → MN
open PySem renaming Spec → MX, mem_of_lookup → NV
open PySem.F renaming plainAttrs_list → M5, type_list_append → Nn, slot_list_append → Np, plainAttrs_dict → Od, slot_dict_items → Ow, type_list_index → OV, slot_list_index → OW, type_list_insert → Pq, slot_list_insert → Pt, type_dict_items → PF, slot_dict_get → PK, slot_dict_setdefault → Qg, plain_extend_loop → Qs, args_dict_items_1 → Qt, entry_dict_items → Qz, plain_list_iadd → QC, args_dict_get_3 → QD
open PySem.W renaming Frag → Mz, keepIn → MI, nsIn → MM, codeIn → MP, fnOf → MT, mg_of → MY, findIn → Nd, mg_none_of → Nv, kia_one → N2, emptyDict → N7, instObj → Ot, plainGet → Oy, isFn → OC, hasDictIn → OH, plainOver → O6, kitOne → O8, makesIn → Pf, callWith_K → Pj, mroIn → PB, excIn → PD, lookIn → P0, plainGet_of → P1, hideAll_get → P2, methodObj → P8, takerIn → Qi, OpenLaw → Qj
set_option Elab.async false
set_option linter.all false
set_option maxRecDepth 100000
local macro_rules | `(tactic| omega) => `(tactic| first | assumption | lia | omega +splitDisjunctions)
namespace L2
open PySem PySem.Spec PyProof.Rows
abbrev Key:=Sum Int Str
def yv:Key->Value->Bool
 |.inl k,v=>Value.isInt k v
 |.inr x,v=>Value.isStrOf x v
def keyH(w:World):Key->Int
 |.inl k=>hashInt k
 |.inr x=>hashStr w x
theorem ba:∀{k:Key}{v:Value},yv k v=true->(∃ i t,k=Sum.inl i/\v=Value.int i t)∨(∃ x t,k=Sum.inr x/\v=Value.str x t)
 |.inl i,v,h=>by
  obtain⟨t,e⟩:=Value.isInt_shape (k:=i) (v:=v) h;exact .inl ⟨i,t,rfl,e⟩
 |.inr x,v,h=>by
  obtain⟨t,e⟩:=Value.isStrOf_shape (x:=x) (v:=v) h;exact .inr ⟨x,t,rfl,e⟩
theorem GW(i:Int)(t:Tok):yv (.inl i) (.int i t)=true:=by simp[yv,Value.isInt]
theorem GV(x:Str)(t:Tok):yv (.inr x) (.str x t)=true:=by simp[yv,Value.isStrOf]
theorem key_ll(a b:Int):decide ((Sum.inl a:Key)=Sum.inl b)=(a == b):=by
 by_cases e:a=b
 ·subst e;simp
 ·have h:¬ (Sum.inl a:Key)=Sum.inl b:=fun q=>e (Sum.inl.inj q)
  rw[decide_eq_false h];exact(beq_eq_false_iff_ne.mpr e).symm
theorem key_rr(a b:Str):decide ((Sum.inr a:Key)=Sum.inr b)=decide (a=b):=by
 by_cases e:a=b
 ·subst e;simp
 ·have h:¬ (Sum.inr a:Key)=Sum.inr b:=fun q=>e (Sum.inr.inj q)
  rw[decide_eq_false h,decide_eq_false e]
theorem key_lr(a:Int)(b:Str):decide ((Sum.inl a:Key)=Sum.inr b)=false:=decide_eq_false (fun q=>nomatch q)
theorem key_rl(a:Str)(b:Int):decide ((Sum.inr a:Key)=Sum.inl b)=false:=decide_eq_false (fun q=>nomatch q)
def bB(prog:Program)(w:World):PySem.KeyKind prog w Key where
 is:=yv
 hash:=keyH w
 inj:=fun v a b ha hb=>by
  rcases ba ha with⟨i,t,rfl,rfl⟩ | ⟨x,t,rfl,rfl⟩
  ·rcases ba hb with⟨j,u,rfl,e⟩ | ⟨y,u,rfl,e⟩
   ·injection e with e1 _;rw[e1]
   ·exact nomatch e
  ·rcases ba hb with⟨j,u,rfl,e⟩ | ⟨y,u,rfl,e⟩
   ·exact nomatch e
   ·injection e with e1 _;rw[e1]
 byValue:=fun k v h=>by
  rcases ba h with⟨i,t,rfl,rfl⟩ | ⟨x,t,rfl,rfl⟩<;>rfl
 pyHash:=fun hv h=>by
  rcases ba hv with⟨i,t,rfl,rfl⟩ | ⟨x,t,rfl,rfl⟩
  ·exact wpAny_pyHash_int h
  ·exact wpAny_pyHash_str h
 eqBool:=fun hu hv h=>by
  rcases ba hu with⟨i,t,rfl,rfl⟩ | ⟨x,t,rfl,rfl⟩
  ·rcases ba hv with⟨j,u,rfl,rfl⟩ | ⟨y,u,rfl,rfl⟩
   ·rw[key_ll]at h;exact wpAny_eqBool_int h
   ·rw[key_lr]at h;exact SeqAt.EqAt.int_str i t y u _ _ _ _ h
  ·rcases ba hv with⟨j,u,rfl,rfl⟩ | ⟨y,u,rfl,rfl⟩
   ·rw[key_rl]at h;exact SeqAt.EqAt.str_int x t j u _ _ _ _ h
   ·rw[key_rr]at h;exact wpAny_eqBool_str h
 «strs»:=fun k x t v h=>by
  rcases ba h with⟨i,u,rfl,e⟩ | ⟨y,u,rfl,e⟩
  ·exact nomatch e
  ·injection e with e1 _;subst e1
   cases v<;>rfl
theorem Bs(prog:Program)(w:World)(i:Int)(t:Tok):(bB prog w).is (.inl i) (.int i t)=true:=GW i t
theorem Br(prog:Program)(w:World)(x:Str)(t:Tok):(bB prog w).is (.inr x) (.str x t)=true:=GV x t
end L2
namespace L2
open PySem PySem.Spec PyProof.Rows
inductive V where
 |non | bl (b:Bool) | int (i:Int) | str (x:Str) | byt (b:Array UInt8) | flt (b:UInt64) | ref (a:Addr) | ty (n:String)
 deriving DecidableEq
def RelV:V->Value->Prop
 |.non,u=>u=Value.none
 |.bl b,u=>u=Value.bool b
 |.int i,u=>∃ t,u=Value.int i t
 |.str x,u=>∃ t,u=Value.str x t
 |.byt b,u=>∃ t,u=Value.bytes b t
 |.flt b,u=>∃ t,u=Value.float b t
 |.ref a,u=>u=Value.ref a
 |.ty n,u=>u=Value.type n
abbrev Vals:List V->List Value->Prop:=Paired RelV
theorem Vals.length{xs:List V}{us:List Value}(r:Vals xs us):xs.length=us.length:=Paired.length r
theorem Vals.get:∀{xs:List V}{us:List Value}{i:Nat}{x:V},Vals xs us->xs[i]?=some x->∃ u,us[i]?=some u/\RelV x u
 |_,_,_,_,.nil,e=>by simp at e
 |_,_,0,_,.cons r _,e=>by simp at e;subst e;exact⟨_,rfl,r⟩
 |_,_,i+1,x,.cons _ t,e=>by
  obtain⟨u,h1,h2⟩:=Vals.get (i:=i) (x:=x) t (by simpa using e)
  exact⟨u,by simpa using h1,h2⟩
theorem Vals.set{x:V}{u:Value}(r:RelV x u):∀{xs:List V}{us:List Value}(i:Nat),Vals xs us->Vals (xs.set i x) (us.set i u)
 |_,_,_,.nil=>.nil
 |_,_,0,.cons _ t=>.cons r t
 |_,_,i+1,.cons q t=>.cons q (Vals.set r i t)
theorem Vals.append:∀{xs ys:List V}{us ws:List Value},Vals xs us->Vals ys ws->Vals (xs++ys) (us++ws)
 |_,_,_,_,.nil,s=>s
 |_,_,_,_,.cons r t,s=>.cons r (Vals.append t s)
theorem Vals.take:∀{xs:List V}{us:List Value}(n:Nat),Vals xs us->Vals (xs.take n) (us.take n)
 |_,_,0,_=>.nil
 |_,_,_+1,.nil=>.nil
 |_,_,n+1,.cons r t=>.cons r (Vals.take n t)
theorem Vals.drop:∀{xs:List V}{us:List Value}(n:Nat),Vals xs us->Vals (xs.drop n) (us.drop n)
 |_,_,0,r=>r
 |_,_,_+1,.nil=>.nil
 |_,_,n+1,.cons _ t=>Vals.drop n t
def RelO:Option V->Option Value->Prop
 |some v,some u=>RelV v u
 |none,none=>True
 |_,_=>False
def KV{κ:Type}:List (κ×V)->List (κ×Value)->Prop:=Paired fun(p:κ×V) (q:κ×Value)=>p.1=q.1/\RelV p.2 q.2
def kV:Key->V
 |.inl i=>.int i
 |.inr x=>.str x
inductive HO where
  |lst (xs:List V)
  |tup (xs:List V)
  |dK (kvs:List (Key×V)) | dT (kvs:List (List Key×V))
  |set (S:Int->Bool) (n:Nat)
  |ins (C dx:Addr) (fs:List (Str×V))
  |own (x:Addr)
  |xd (fs:List (Str×V))
  |met (f x:Addr)
  |rng (lo hi:Int)
  |frz (o:Obj) (u:HO)
  |tbl (ps:Array Value)
  |ext (φ:Heap->Prop)
abbrev Hp:=Addr->Option HO
def upd(H:Hp)(a:Addr)(o:HO):Hp:=fun b=>if b=a then some o else H b
theorem ae{H:Hp}{a:Addr}{o:HO}:upd H a o a=some o:=by unfold upd;rw[if_pos rfl]
theorem aq{H:Hp}{a b:Addr}{o:HO}(h:b≠a):upd H a o b=H b:=by unfold upd;rw[if_neg h]
theorem Ej{H:Hp}{a b:Addr}{o u:HO}(h:H a=some o)(h':H b=some u)(d:o≠u):a≠b:=by
 intro e;subst e;rw[h]at h';exact d (MN h')
theorem aw{H:Hp}{a b:Addr}{o:HO}(h:H a=some o)(h':H b=none):a≠b:=by
 intro e;subst e;rw[h]at h';cases h'
section
variable(P:Program)(w:World)
def bh(H:Hp)(h:Heap)(a:Addr):HO->Prop
 |.lst xs=>xs.length<=sizeLine/\∃(its:List Value)(n:Nat),Vals xs its/\h.get? a=some { cls:=.type "list",data:=.seq its.toArray n }
 |.tup xs=>xs.length<=sizeLine/\∃ its:List Value,Vals xs its/\IsTup h a its.toArray
 |.dK kvs=>kvs.length<=sizeLine/\(a == sysModules)=false/\∃ vs,KV kvs vs/\h.DictOf (bB P w) a vs
 |.dT kvs=>kvs.length<=sizeLine/\(a == sysModules)=false/\∃ xs:List (List Key×Addr×Value),
   Paired (fun(p:List Key×V) (q:List Key×Addr×Value)=>p.1=q.1/\H q.2.1=some (.tup (p.1.map kV))/\RelV p.2 q.2.2) kvs xs /\
   ∃ o es ep,h.get? a=some o/\o.ExactDict/\o.data=.dict es ep/\es.toList=xs.map (entryOfKey (tupleKind (bB P w)))/\(xs.map (·.1)).Nodup
 |.set S n=>h.SetOf (intKind P w) a S n
 |.ins C dx fs=>H dx=some (.own a)/\fs.length<=1000/\dx≠a/\h.get? a=some (Ot C dx) /\
   ∃ mA,h.Ns1 dx mA/\(∀ f,RelO (fs.lookup f) (mA f))/\PySem.Within mA (fs.map (·.1))
 |.own _=>∃ o,h.get? a=some o
 |.xd fs=>∃ mA,h.Ns1 a mA/\∀ f,RelO (fs.lookup f) (mA f)
 |.rng lo hi=>∃ t u v,h.get? a=some { cls:=.type "range",data:=.fields #[.int lo t,.int hi u,.int 1 v] }
 |.frz o u=>h.get? a=some o/\bh H h a u
 |.tbl ps=>h.get? a=some { cls:=.none,data:=.fields ps }
 |.met f x=>h.get? a=some (P8 (.ref f) (.ref x))
 |.ext φ=>φ h/\(∃ o,h.get? a=some o)/\∀ h1 h2:Heap,φ h1->(∀ o,h1.get? a=some o->h2.get? a=some o)->φ h2
def HOk(H:Hp)(h:Heap):Prop:=∀ a o,H a=some o->bh P w H h a o
end
section
variable{P:Program}{w:World}{H H':Hp}{h h':Heap}{a:Addr}{o:HO}
theorem bh.lt(x:bh P w H h a o):a<h.objs.size:=by
 cases o with
 |lst xs=>obtain⟨_,_,_,_,e⟩:=x;exact Heap.lt_size e
 |tup xs=>obtain⟨_,_,_,p⟩:=x;exact p.lt
 |dK kvs=>obtain⟨_,_,_,_,o,_,_,e,_⟩:=x;exact Heap.lt_size e
 |dT kvs=>obtain⟨_,_,_,_,o,_,_,e,_⟩:=x;exact Heap.lt_size e
 |set S n=>obtain⟨o,_,_,_,e,_⟩:=x;exact Heap.lt_size e
 |ins C dx fs=>obtain⟨_,_,_,e,_⟩:=x;exact Heap.lt_size e
 |own y=>obtain⟨_,e⟩:=x;exact Heap.lt_size e
 |xd fs=>obtain⟨_,⟨_,_,_,e,_⟩,_⟩:=x;exact Heap.lt_size e
 |rng lo hi=>obtain⟨_,_,_,e⟩:=x;exact Heap.lt_size e
 |frz ob u=>obtain⟨e,_⟩:=x;exact Heap.lt_size e
 |tbl ps=>exact Heap.lt_size (show h.get? a=some _ from x)
 |met f y=>exact Heap.lt_size (show h.get? a=some _ from x)
 |ext φ=>obtain⟨_,⟨_,e⟩,_⟩:=x;exact Heap.lt_size e
theorem Paired.mapP{α β:Type}{F G:α->β->Prop}:∀{l₁:List α}{l₂:List β},Paired F l₁ l₂->(∀ a b,F a b->G a b)->Paired G l₁ l₂
 |_,_,.nil,_=>.nil
 |_,_,.cons r t,f=>.cons (f _ _ r) (Paired.mapP t f)
theorem bh.stay(x:bh P w H h a o)(k:∀ b u,(b=a∨H b=some (.own a))->h.get? b=some u->h'.get? b=some u)
  (ho:∀ b,H b=some (.own a)->H' b=some (.own a)) (ht:∀ b xs,H b=some (.tup xs)->H' b=some (.tup xs)):bh P w H' h' a o:=by
 induction o with
 |lst xs=>obtain⟨z,its,n,r,e⟩:=x;exact⟨z,its,n,r,k _ _ (.inl rfl) e⟩
 |tup xs=>obtain⟨z,its,r,ob,e,c⟩:=x;exact⟨z,its,r,ob,k _ _ (.inl rfl) e,c⟩
 |dK kvs=>obtain⟨z,y,vs,r,ob,es,ep,e,c⟩:=x;exact⟨z,y,vs,r,ob,es,ep,k _ _ (.inl rfl) e,c⟩
 |dT kvs =>
  obtain⟨z,y,xs,r,ob,es,ep,e,c⟩:=x;exact⟨z,y,xs,Paired.mapP r fun p q z=>⟨z.1,ht _ _ z.2.1,z.2.2⟩,ob,es,ep,k _ _ (.inl rfl) e,c⟩
 |set S n=>obtain⟨ob,es,ep,t,e,c⟩:=x;exact⟨ob,es,ep,t,k _ _ (.inl rfl) e,c⟩
 |ins C dx fs =>
  obtain⟨d,z,ne,e,mA,⟨od,es,ep,e2,c⟩,r⟩:=x;exact⟨ho _ d,z,ne,k _ _ (.inl rfl) e,mA,⟨od,es,ep,k _ _ (.inr d) e2,c⟩,r⟩
 |own y=>obtain⟨ob,e⟩:=x;exact⟨ob,k _ _ (.inl rfl) e⟩
 |xd fs=>obtain⟨mA,⟨od,es,ep,e,c⟩,r⟩:=x;exact⟨mA,⟨od,es,ep,k _ _ (.inl rfl) e,c⟩,r⟩
 |rng lo hi=>obtain⟨t,u,v,e⟩:=x;exact⟨t,u,v,k _ _ (.inl rfl) e⟩
 |frz ob u ih=>obtain⟨e,q⟩:=x;exact⟨k _ _ (.inl rfl) e,ih q⟩
 |tbl ps =>
  have e:h.get? a=some { cls:=.none,data:=.fields ps }:=x;show h'.get? a=some { cls:=.none,data:=.fields ps };exact k a _ (.inl rfl) e
 |met f y =>
  have e:h.get? a=some (P8 (.ref f) (.ref y)):=x;show h'.get? a=some (P8 (.ref f) (.ref y));exact k a _ (.inl rfl) e
 |ext φ=>obtain⟨p,⟨o,e⟩,st⟩:=x;exact⟨st _ _ p fun o q=>k _ _ (.inl rfl) q,⟨o,k _ _ (.inl rfl) e⟩,st⟩
theorem HOk.lt(x:HOk P w H h)(e:H a=some o):a<h.objs.size:=(x a o e).lt
theorem HOk.fresh(x:HOk P w H h)(e:h.objs.size<=a):H a=none:=by
 cases q:H a with
 |none=>rfl
 |some u=>exact absurd (Nk (x.lt q) e) (NH _)
theorem HOk.kept(x:HOk P w H h)(k:∀ b u,h.get? b=some u->h'.get? b=some u):HOk P w H h':=fun a o e =>
 (x a o e).stay (fun b u _ q=>k b u q) (fun _ q=>q) fun _ _ q=>q
theorem HOk.laid(x:HOk P w H h)(k:∀ b u,h.get? b=some u->h'.get? b=some u)(hp:h.objs.size<=a)(new:bh P w (upd H a o) h' a o):HOk P w (upd H a o) h':=fun b u e=>by
 have hn:=x.fresh hp;by_cases hb:b=a
 ·subst hb;rw[ae]at e;cases e;exact new
 ·rw[aq hb]at e;exact(x b u e).stay (fun c v _ q=>k c v q) (fun c q=>by rw[aq (aw q hn)];exact q) fun c xs q=>by rw[aq (aw q hn)];exact q
end
def Rd(H:Hp)(a:Addr)(u:HO):Prop:=H a=some u∨∃ o,H a=some (.frz o u)
theorem Rd.ok{P:Program}{w:World}{H:Hp}{h:Heap}{a:Addr}{u:HO}(r:Rd H a u)(x:HOk P w H h):bh P w H h a u:=by
 rcases r with r | ⟨o,r⟩
 ·exact x a u r
 ·obtain⟨_,q⟩:=x a _ r;exact q
def Mut:Option HO->Prop
 |some (.lst _)=>True
 |some (.dK _)=>True
 |some (.dT _)=>True
 |some (.set _ _)=>True
 |some (.ins _ _ _)=>True
 |some (.ext _)=>True
 |_=>False
section
variable{P:Program}{w:World}{H:Hp}{h h':Heap}{x e:Addr}{o':HO}
theorem HOk.write(ok:HOk P w H h)(mu:Mut (H x))(he:e=x∨H e=some (.own x))(k:∀ b u,b≠e->h.get? b=some u->h'.get? b=some u)(heo:∃ u,h'.get? e=some u)
  (new:bh P w (upd H x o') h' x o'):HOk P w (upd H x o') h':=fun b u q=>by
 have nown:∀ c y,H c=some (.own y)->c≠x:=fun c y r z=>by subst z;rw[r]at mu;exact mu
 have ntup:∀ c xs,H c=some (.tup xs)->c≠x:=fun c xs r z=>by subst z;rw[r]at mu;exact mu
 by_cases hb:b=x
 ·subst hb;rw[ae]at q;cases q;exact new
 ·rw[aq hb]at q;by_cases hbe:b=e
  ·have q':H b=some (.own x):=by
    rcases he with z | z
    ·exact absurd (hbe.trans z) hb
    ·rw[hbe];exact z
   rw[q]at q';cases q';obtain⟨v,hv⟩:=heo;exact⟨v,by rw[hbe];exact hv⟩
  ·refine(ok b u q).stay (fun c v hc r=>k c v ?_ r) (fun c r=>by rw[aq (nown c b r)];exact r) fun c xs r=>by rw[aq (ntup c xs r)];exact r
   rcases hc with rfl | hc
   ·exact hbe
   ·rintro rfl;rcases he with z | z
    ·exact nown c b hc z
    ·rw[hc]at z;cases z;exact hb rfl
end
structure Un(fs ex:List Addr)(H H':Hp)(h h':Heap):Prop where
 keep:∀ b o,h.get? b=some o->H b=none->b∉fs->b∉ex->h'.get? b=some o
 slot:∀ b o,h.get? b=some o->H b=none->b∈fs->b∉ex->∃ sl,h'.get? b=some { o with slots:=sl }
 free:∀ b o,h.get? b=some o->H b=none->b∉ex->H' b=none
 there:∀ b o,h.get? b=some o->b∉ex->∃ o',h'.get? b=some o'
 tups:∀ b xs,H b=some (.tup xs)->H' b=some (.tup xs)
 frzs:∀ b o u,H b=some (.frz o u)->H' b=some (.frz o u)
 tbls:∀ b ps,H b=some (.tbl ps)->∃ more,H' b=some (.tbl (ps++more))
section
variable{fs fs' ex ex':List Addr}{H H1 H2:Hp}{h h1 h2 h':Heap}{a x e:Addr}{o:HO}
theorem Un.any(u:Un fs ex H H1 h h1){b:Addr}{ob:Obj}(q:h.get? b=some ob)(n:H b=none)(hx:b∉ex):∃ sl,h1.get? b=some { ob with slots:=sl }:=by
 by_cases hb:b∈fs
 ·exact u.slot b ob q n hb hx
 ·exact⟨ob.slots,u.keep b ob q n hb hx⟩
theorem Un.kept(k:∀ b u,h.get? b=some u->h'.get? b=some u):Un fs ex H H h h' :=
 ⟨fun b ob q _ _ _=>k b ob q,fun b ob q _ _ _=>⟨ob.slots,k b ob q⟩,fun _ _ _ n _=>n,fun b ob q _=>⟨ob,k b ob q⟩,fun _ _ q=>q,fun _ _ _ q=>q,fun _ ps q=>⟨#[],by rw[q];simp⟩⟩
theorem Un.refl:Un fs ex H H h h:=Un.kept fun _ _ q=>q
theorem Un.laid(k:∀ b u,h.get? b=some u->h'.get? b=some u)(hp:h.objs.size<=a)(hn:H a=none):Un fs ex H (upd H a o) h h' where
 keep:=fun b u q _ _ _=>k b u q
 slot:=fun b u q _ _ _=>⟨u.slots,k b u q⟩
 free:=fun b u q n _=>by rw[aq (M3 (Nk (Heap.lt_size q) hp))];exact n
 there:=fun b u q _=>⟨u,k b u q⟩
 tups:=fun b xs q=>by rw[aq (aw q hn)];exact q
 frzs:=fun b u xs q=>by rw[aq (aw q hn)];exact q
 tbls:=fun b ps q=>⟨#[],by rw[aq (aw q hn),q];simp⟩
theorem Un.write(mu:Mut (H x))(he:e=x∨H e=some (.own x))(k:∀ b u,b≠e->h.get? b=some u->h'.get? b=some u)(heo:∃ u,h'.get? e=some u):Un fs ex H (upd H x o) h h':=by
 have hx:∀ b,H b=none->b≠x:=fun b n z=>by subst z;rw[n]at mu;exact mu
 have hb:∀ b,H b=none->b≠e:=fun b n z=>by
  subst z;rcases he with r | r
  ·exact hx b n r
  ·rw[n]at r;cases r
 have hm:∀ b u,H b=some u->¬ Mut (some u)->b≠x:=fun b u q nm z=>by subst z;rw[q]at mu;exact nm mu
 refine⟨fun b u q n _ _=>k b u (hb b n) q,fun b u q n _ _=>⟨u.slots,k b u (hb b n) q⟩,fun b u q n _=>by rw[aq (hx b n)];exact n,fun b u q _=>?_,
  fun b xs q=>by rw[aq (hm b _ q fun z=>z)];exact q,fun b u xs q=>by rw[aq (hm b _ q fun z=>z)];exact q,fun b ps q=>⟨#[],by rw[aq (hm b _ q fun z=>z),q];simp⟩⟩
 by_cases hbe:b=e
 ·subst hbe;exact heo
 ·exact⟨u,k b u hbe q⟩
end
def trk(h:Heap)(H:Hp):List Addr:=(Na h.objs.size).filter fun a=>(H a).isSome
def hidT(h:Heap)(H:Hp):Heap:=PySem.W.hideAll h (trk h H)
theorem Hj(h:Heap)(H:Hp):(hidT h H).objs.size=h.objs.size:=PySem.W.hideAll_size _ _
theorem JG{h:Heap}{H:Hp}{b:Addr}{o:Obj}(e:h.get? b=some o)(n:H b=none):(hidT h H).get? b=some o :=
 P2 _ e fun hm=>by
  have q:(H b).isSome=true:=(OY.mp hm).2;rw[n]at q;simp at q
theorem LB{h:Heap}{H:Hp}{b:Addr}{o:Obj}(e:(hidT h H).get? b=some o):h.get? b=some o/\H b=none:=by
 have e':h.get? b=some o:=PySem.W.of_hideAll (trk h H) e;refine⟨e',?_⟩
 cases q:H b with
 |none=>rfl
 |some x =>
  have hm:b∈trk h H:=OY.mpr ⟨Ny.mpr (Heap.lt_size e'),by simp[q]⟩
  have z:(hidT h H).get? b=none:=PySem.W.hideAll_none (trk h H) hm;rw[z]at e;cases e
end L2
namespace L2
open PySem PySem.Spec PyProof.Rows
structure Mod(K:Mz)(mg:Str->Option Value)(base:Heap):Prop where
 kin:K.In base
 glob:base.Ns mainGlobals mg
 blt:∃ mb,base.Ns builtinsNs mb/\∀ x:Str,x≠"__name__"->mb x=bootBuiltins x
 nolimit:base.NoLimit
structure Cx where
 prog:Program
 w:World
 K:Mz
 mg:Str->Option Value
 base:Heap
 A:Around
 N:List Str
 s₀:Shared
 H₀:Hp
 env:Env
 outer:List Env
 stack:List Env
 ex:List Addr
 fn:Str->Bool
 calm:Bool
 pn:List (Addr×Obj)
 xe:Value->Shared->Prop
def frs(l:List Env):List Addr:=l.filterMap (·.frame)
abbrev Cx.fs(X:Cx):List Addr:=frs X.outer
def Vis(sc:Scope)(x:Str):Prop:=sc.names.lookup x=some .local∨sc.names.lookup x=some .cell∨sc.names.lookup x=some .free
def Loc(sc:Scope)(x:Str):Prop:=sc.names.lookup x=some .local∨sc.names.lookup x=some .cell
def Look(env:Env)(h:Heap)(m:Str->Option Value)(x:Str)(u:Value):Prop :=
 (env.kindOf x=some .local/\m x=some u)∨((env.kindOf x=some .cell∨env.kindOf x=some .free)/\∃ c,env.cells.lookup x=some c/\h.IsCell c (some u))
structure Cx.Ok(X:Cx):Prop where
 mod:Mod X.K X.mg X.base
 kind:X.env.scope.kind=.function
 glob:X.env.globals=mainGlobals
 blt:X.env.builtins=builtinsNs
 above:X.s₀.heap.objs.size<=X.env.locals
 inj:∀ x y c,X.env.cells.lookup x=some c->X.env.cells.lookup y=some c->x=y
 has:∀ x,(X.env.kindOf x=some .cell∨X.env.kindOf x=some .free)->∃ c,X.env.cells.lookup x=some c
 cab:∀ x c,X.fn x=true->X.env.cells.lookup x=some c->X.s₀.heap.objs.size<=c
 hd:X.calm=true->X.A.handled=none
 frames:X.A.frames=some X.stack
 stk:X.stack=X.outer∨(X.stack=X.env::X.outer/\X.env.frame=some X.env.locals)
 exf:∀ b∈X.ex,b≠X.env.locals/\∀ x c,X.env.cells.lookup x=some c->c≠b
 bs:∀ b o,X.base.get? b=some o->X.s₀.heap.get? b=some o/\X.H₀ b=none
 bsz:X.base.objs.size<=X.s₀.heap.objs.size
 noex:∀ b o,X.base.get? b=some o->b∉X.ex
 exfs:∀ b∈X.ex,b∉X.fs
 funs:X.s₀.heap.FunFrames X.base X.outer
 frf:∀ b∈X.fs,X.H₀ b=none
structure Inv(X:Cx)(pins:List (Addr×Obj))(σ:List (Option V))(H:Hp)(s:Shared):Prop where
 ok:X.Ok
 os:s.os=X.s₀.os
 bare:AllBare s.gens
 base:Un X.fs X.ex X.H₀ H X.s₀.heap s.heap
 loc:∃ m,s.heap.Ns X.env.locals m/\∀(i:Nat)(x:Str)(v:V),X.N[i]?=some x->σ[i]?=some (some v)->Vis X.env.scope x->∃ u,RelV v u/\Look X.env s.heap m x u
 cell:∀ x c,X.env.cells.lookup x=some c->∃ v,s.heap.IsCell c v
 free:H X.env.locals=none
 freeC:∀ x c,X.env.cells.lookup x=some c->H c=none
 pin:∀ p∈X.pn++pins,s.heap.get? p.1=some p.2/\H p.1=none/\p.1≠X.env.locals/\p.1∉X.fs/\∀ v,p.2.data≠.cell v
 hok:HOk X.prog X.w H s.heap
 len:σ.length=X.N.length
section
variable{X:Cx}{pins:List (Addr×Obj)}{σ:List (Option V)}{H H':Hp}{s:Shared}{h':Heap}
theorem Cx.Ok.nofr(ok:X.Ok){b:Addr}{o:Obj}(e:X.base.get? b=some o):b∉X.fs:=fun hb=>by
 have:=(ok.funs.mem hb).1;rw[e]at this;cases this
theorem Inv.bs(I:Inv X pins σ H s):∀ b o,X.base.get? b=some o->s.heap.get? b=some o/\H b=none:=fun b o e =>
 ⟨I.base.keep b o (I.ok.bs b o e).1 (I.ok.bs b o e).2 (I.ok.nofr e) (I.ok.noex b o e),I.base.free b o (I.ok.bs b o e).1 (I.ok.bs b o e).2 (I.ok.noex b o e)⟩
theorem Inv.bk(I:Inv X pins σ H s):∀ b o,X.base.get? b=some o->s.heap.get? b=some o:=fun b o e=>(I.bs b o e).1
theorem Inv.mod(I:Inv X pins σ H s):Mod X.K X.mg X.base:=I.ok.mod
theorem Inv.kIn(I:Inv X pins σ H s):X.K.In s.heap:=I.ok.mod.kin.keeps I.bk
theorem Inv.lt(I:Inv X pins σ H s):X.env.locals<s.heap.objs.size:=let ⟨_,hn,_⟩:=I.loc;hn.lt
theorem Inv.sz(I:Inv X pins σ H s):X.s₀.heap.objs.size<=s.heap.objs.size:=Nw I.ok.above (ND I.lt)
theorem Inv.nofs(I:Inv X pins σ H s){a:Addr}(h:s.heap.objs.size<=a):a∉X.fs:=fun hb=>by
 obtain⟨_,o,ho,_⟩:=I.ok.funs.mem hb;exact absurd (Nk (Heap.lt_size ho) (Nw I.sz h)) (NH _)
theorem Inv.cne(I:Inv X pins σ H s):∀ x c,X.env.cells.lookup x=some c->c≠X.env.locals:=fun x c e z=>by
 obtain⟨v,o,ho,hd⟩:=I.cell x c e;obtain⟨m,⟨o',es,ep,ho',hd',_⟩,_⟩:=I.loc;rw[z,ho']at ho;cases ho;rw[hd']at hd;cases hd
theorem Inv.funs(I:Inv X pins σ H s):s.heap.FunFrames X.base X.outer:=by
 have all:∀(l:List Env),(∀ b∈frs l,b∈X.fs)->X.s₀.heap.FunFrames X.base l->s.heap.FunFrames X.base l:=by
  intro l;induction l with
  |nil=>intro _ _;trivial
  |cons env r ih =>
   intro hs hl;obtain⟨hk,⟨L,o,hf,hn,ho,hd⟩,hr⟩:=hl;have hL:L∈X.fs:=hs L (by unfold frs;rw[P5,hf];exact MV)
   obtain⟨sl,e⟩:=I.base.slot L o ho (I.ok.frf L hL) hL fun z=>I.ok.exfs L z hL;exact⟨hk,⟨L,_,hf,hn,e,hd⟩,ih (fun b hb=>hs b (by unfold frs;rw[P5,hf];exact MO _ hb)) hr⟩
 exact all X.outer (fun _ hb=>hb) I.ok.funs
theorem Inv.stack(I:Inv X pins σ H s):s.heap.FunFrames X.base X.stack:=by
 rcases I.ok.stk with e | ⟨e,hf⟩
 ·rw[e];exact I.funs
 ·rw[e];obtain⟨m,hn,_⟩:=I.loc;refine .cons (by rw[I.ok.kind];decide) hf hn ?_ I.funs
  exact Heap.get?_none_of_le (Nw I.ok.bsz I.ok.above)
theorem Inv.stkSub(I:Inv X pins σ H s):∀ b∈frs X.stack,b∈X.env.locals::X.fs:=fun b hb=>by
 rcases I.ok.stk with e | ⟨e,hf⟩
 ·rw[e]at hb;exact MO _ hb
 ·rw[e]at hb;unfold frs at hb;rw[P5,hf]at hb;exact hb
theorem Inv.stkFree(I:Inv X pins σ H s):∀ b∈frs X.stack,H b=none:=fun b hb=>by
 rcases MG.mp (I.stkSub b hb)with e | hb
 ·rw[e];exact I.free
 ·obtain⟨_,o,ho,_⟩:=I.ok.funs.mem hb;exact I.base.free b o ho (I.ok.frf b hb) fun z=>I.ok.exfs b z hb
theorem Inv.step{g':Array GenState}{t':Nat}{d':Drawn}{ch:List Addr}(I:Inv X pins σ H s)
  (hch:∀ b∈ch,(b∈X.ex∨X.s₀.heap.objs.size<=b)/\b≠X.env.locals/\(∀ x c,X.env.cells.lookup x=some c->c≠b)/\∀ p∈X.pn++pins,p.1≠b)
  (keep:∀ b o,b≠X.env.locals->b∉X.fs->b∉ch->s.heap.get? b=some o->H b=none->h'.get? b=some o)
  (slot:∀ b o,b≠X.env.locals->b∈X.fs->b∉ch->s.heap.get? b=some o->H b=none->∃ sl,h'.get? b=some { o with slots:=sl }) (free:∀ b o,b∉ch->s.heap.get? b=some o->H b=none->H' b=none)
  (there:∀ b o,b∉ch->s.heap.get? b=some o->∃ o',h'.get? b=some o')
  (tups:∀ b xs,H b=some (.tup xs)->H' b=some (.tup xs)) (frzs:∀ b o u,H b=some (.frz o u)->H' b=some (.frz o u)) (tbls:∀ b ps,H b=some (.tbl ps)->∃ more,H' b=some (.tbl (ps++more)))
  (ns:∀ m,s.heap.Ns X.env.locals m->h'.Ns X.env.locals m) (hok:HOk X.prog X.w H' h') (hg:AllBare g') :
  Inv X pins σ H' { s with heap:=h',gens:=g',drawn:=d',toks:=t' }:=by
 have neL:∀ b o,X.s₀.heap.get? b=some o->b≠X.env.locals:=fun b o e=>M3 (Nk (Heap.lt_size e) I.ok.above);have neC:∀ b o,X.s₀.heap.get? b=some o->b∉X.ex->b∉ch:=fun b o e hx hb=>by
  rcases(hch b hb).1 with z | z
  ·exact hx z
  ·exact absurd (Nk (Heap.lt_size e) z) (NH _)
 have cellK:∀ x c,X.env.cells.lookup x=some c->∀ v,s.heap.IsCell c v->h'.IsCell c v:=fun x c e v ⟨o,ho,hd⟩=>by
  have nch:c∉ch:=fun z=>(hch c z).2.2.1 x c e rfl;by_cases hc:c∈X.fs
  ·obtain⟨sl,q⟩:=slot c o (I.cne x c e) hc nch ho (I.freeC x c e);exact⟨_,q,hd⟩
  ·exact⟨o,keep c o (I.cne x c e) hc nch ho (I.freeC x c e),hd⟩
 refine⟨I.ok,I.os,hg,⟨fun b o e n hb hx=>?_,fun b o e n hb hx=>?_,fun b o e n hx=>?_,fun b o e hx=>?_,fun b xs e=>tups b xs (I.base.tups b xs e),fun b o xs e=>frzs b o xs (I.base.frzs b o xs e),fun b ps e=>?_⟩,?_,fun x c e=>?_,?_,fun x c e=>?_,fun p hp=>?_,hok,I.len⟩
 ·exact keep b o (neL b o e) hb (neC b o e hx) (I.base.keep b o e n hb hx) (I.base.free b o e n hx)
 ·obtain⟨sl,e1⟩:=I.base.slot b o e n hb hx;obtain⟨sl',e2⟩:=slot b _ (neL b o e) hb (neC b o e hx) e1 (I.base.free b o e n hx);exact⟨sl',e2⟩
 ·obtain⟨o',e1⟩:=I.base.there b o e hx;exact free b o' (neC b o e hx) e1 (I.base.free b o e n hx)
 ·obtain⟨o',e1⟩:=I.base.there b o e hx;exact there b o' (neC b o e hx) e1
 ·obtain⟨m1,e1⟩:=I.base.tbls b ps e;obtain⟨m2,e2⟩:=tbls b _ e1;exact⟨m1++m2,by rw[e2,Array.append_assoc]⟩
 ·obtain⟨m,hn,hl⟩:=I.loc;refine⟨m,ns m hn,fun i x v e1 e2 e3=>?_⟩;obtain⟨u,r,l⟩:=hl i x v e1 e2 e3;refine⟨u,r,?_⟩;rcases l with l | ⟨k,c,e,z⟩
  ·exact .inl l
  ·exact .inr ⟨k,c,e,cellK x c e _ z⟩
 ·obtain⟨v,z⟩:=I.cell x c e;exact⟨v,cellK x c e v z⟩
 ·obtain⟨m,⟨o,_,_,ho,_⟩,_⟩:=I.loc;exact free _ o (fun z=>(hch _ z).2.1 rfl) ho I.free
 ·obtain⟨v,o,ho,hd⟩:=I.cell x c e;exact free c o (fun z=>(hch c z).2.2.1 x c e rfl) ho (I.freeC x c e)
 ·obtain⟨e,n,ne,nf,d⟩:=I.pin p hp;have nch:p.1∉ch:=fun z=>(hch p.1 z).2.2.2 p hp rfl;exact⟨keep p.1 p.2 ne nf nch e n,free p.1 p.2 nch e n,ne,nf,d⟩
theorem Inv.un{t':Nat}(I:Inv X pins σ H s)(u:Un X.fs [] H H' s.heap h')(hok:HOk X.prog X.w H' h'):Inv X pins σ H' { s with heap:=h',toks:=t' }:=by
 obtain⟨m,⟨o,es,ep,ho,r⟩,_⟩:=id I.loc;obtain⟨sl,hL⟩:=u.any ho I.free (by simp)
 exact I.step (g':=s.gens) (d':=s.drawn) (ch:=[]) (fun _ z=>nomatch z) (fun b o _ hb _ e n=>u.keep b o e n hb (by simp)) (fun b o _ hb _ e n=>u.slot b o e n hb (by simp)) (fun b o _ e n=>u.free b o e n (by simp)) (fun b o _ e=>u.there b o e (by simp)) u.tups u.frzs u.tbls (fun m' hm=>by
  obtain⟨o',es',ep',ho',r'⟩:=hm;rw[ho]at ho';cases ho'
  exact⟨_,es',ep',hL,r'⟩) hok I.bare
theorem Inv.call{g':Array GenState}{t':Nat}{d':Drawn}{ch:List Addr}(I:Inv X pins σ H s)(u:Un (frs X.stack) ch H H' s.heap h')(hok:HOk X.prog X.w H' h')(hg:AllBare g')
  (hch:∀ b∈ch,(b∈X.ex∨X.s₀.heap.objs.size<=b)/\b≠X.env.locals/\(∀ x c,X.env.cells.lookup x=some c->c≠b)/\∀ p∈X.pn++pins,p.1≠b) :
  Inv X pins σ H' { s with heap:=h',gens:=g',drawn:=d',toks:=t' }:=by
 obtain⟨m,⟨o,es,ep,ho,r⟩,_⟩:=id I.loc;obtain⟨sl,hL⟩:=u.any ho I.free fun z=>(hch _ z).2.1 rfl
 exact I.step (ch:=ch) hch (fun b o hL hb hc e n=>u.keep b o e n (fun z=>(MG.mp (I.stkSub b z)).elim hL hb) hc) (fun b o _ _ hc e n=>u.any e n hc) (fun b o hc e n=>u.free b o e n hc) (fun b o hc e=>u.there b o e hc) u.tups u.frzs u.tbls (fun m' hm=>by
  obtain⟨o',es',ep',ho',r'⟩:=hm;rw[ho]at ho';cases ho'
  exact⟨_,es',ep',hL,r'⟩) hok hg
theorem Inv.turned{t':Nat}{it:Addr}(I:Inv X pins σ H s)(k:∀ b o,b≠it->s.heap.get? b=some o->h'.get? b=some o)(hn:H it=none)(hL:it≠X.env.locals)
  (h1:it∈X.ex∨X.s₀.heap.objs.size<=it) (h2:∀ x c,X.env.cells.lookup x=some c->c≠it) (h3:∀ p∈X.pn++pins,p.1≠it):Inv X pins σ H { s with heap:=h',toks:=t' }:=by
 have nit:∀ b u,H b=some u->b≠it:=fun b u e z=>by rw[z,hn]at e;cases e
 refine I.step (g':=s.gens) (d':=s.drawn) (ch:=[it]) (fun b hb=>?_) (fun b o _ _ hc e _=>k b o (fun z=>hc (by simp[z])) e) (fun b o _ _ hc e _=>⟨o.slots,k b o (fun z=>hc (by simp[z])) e⟩) (fun _ _ _ _ n=>n)
  (fun b o hc e=>⟨o,k b o (fun z=>hc (by simp[z])) e⟩) (fun _ _ e=>e) (fun _ _ _ e=>e) (fun b ps e=>⟨#[],by rw[e];simp⟩) (fun m hm=>?_) (fun b u e=>?_) I.bare
 ·have e:b=it:=by simpa using hb
  subst e;exact⟨h1,hL,h2,h3⟩
 ·obtain⟨o,es,ep,ho,r⟩:=hm;exact⟨o,es,ep,k _ o (Ne.symm hL) ho,r⟩
 ·refine(I.hok b u e).stay (fun c v hc q=>k c v ?_ q) (fun _ q=>q) fun _ _ q=>q;rcases hc with z | z
  ·rw[z];exact nit b u e
  ·exact nit c _ z
theorem Inv.tok(I:Inv X pins σ H s)(t:Nat):Inv X pins σ H { s with toks:=t }:=I.un (h':=s.heap) (t':=t) Un.refl I.hok
theorem Inv.kept{t':Nat}(I:Inv X pins σ H s)(k:∀ b u,s.heap.get? b=some u->h'.get? b=some u):Inv X pins σ H { s with heap:=h',toks:=t' }:=I.un (Un.kept k) (I.hok.kept k)
theorem Inv.laid{a:Addr}{o:HO}{t':Nat}(I:Inv X pins σ H s)(k:∀ b u,s.heap.get? b=some u->h'.get? b=some u)(hp:s.heap.objs.size<=a)(new:bh X.prog X.w (upd H a o) h' a o) :
  Inv X pins σ (upd H a o) { s with heap:=h',toks:=t' }:=I.un (Un.laid k hp (I.hok.fresh hp)) (I.hok.laid k hp new)
theorem Inv.write{x e:Addr}{o:HO}{t':Nat}(I:Inv X pins σ H s)(mu:Mut (H x))(he:e=x∨H e=some (.own x))(k:∀ b u,b≠e->s.heap.get? b=some u->h'.get? b=some u)(heo:∃ u,h'.get? e=some u)
  (new:bh X.prog X.w (upd H x o) h' x o):Inv X pins σ (upd H x o) { s with heap:=h',toks:=t' }:=I.un (Un.write mu he k heo) (I.hok.write mu he k heo new)
theorem Inv.weak{σ':List (Option V)}(I:Inv X pins σ H s)(hl:σ'.length=σ.length)(w:∀ (i:Nat) v,σ'[i]?=some (some v)->σ[i]?=some (some v)):Inv X pins σ' H s :=
 ⟨I.ok,I.os,I.bare,I.base,let ⟨m,hn,hl'⟩:=I.loc;⟨m,hn,fun i x v e1 e2 e3=>hl' i x v e1 (w i v e2) e3⟩,I.cell,I.free,I.freeC,I.pin,I.hok,hl.trans I.len⟩
theorem Inv.pins_of{pins':List (Addr×Obj)}(I:Inv X pins σ H s)(h:∀ p∈pins',s.heap.get? p.1=some p.2/\H p.1=none/\p.1≠X.env.locals/\p.1∉X.fs/\∀ v,p.2.data≠.cell v):Inv X pins' σ H s :=
 ⟨I.ok,I.os,I.bare,I.base,I.loc,I.cell,I.free,I.freeC,fun p hp=>(MH.mp hp).elim (fun z=>I.pin p (Ng _ z)) (h p),I.hok,I.len⟩
theorem Df{N:List Str}(hN:N.Nodup){i j:Nat}{x:Str}(a:N[i]?=some x)(b:N[j]?=some x):i=j:=by
 obtain⟨h1,e1⟩:=Mw.mp a;obtain⟨h2,e2⟩:=Mw.mp b;exact(List.getElem_inj hN).mp (e1.trans e2.symm)
theorem Fx{M:Model}{A:Around}{E:Value->Shared->Prop}{i:Nat}{x:Str}{v:V}{u:Value}{Q:Unit->Shared->Prop}(I:Inv X pins σ H s)(hN:X.N.Nodup)(hi:X.N[i]?=some x)(hx:Loc X.env.scope x)(r:RelV v u)
  (h:∀ s',Inv X pins (σ.set i (some v)) H s'->(∃ a,Heap.SameBut a s.heap s'.heap/\(a=X.env.locals∨X.env.cells.lookup x=some a))->Q () s') (hf:X.fn x=true∨X.env.scope.names.lookup x=some .local:=by first | exact .inl rfl | exact .inr rfl | assumption):wpAny M A (storeName X.env x u) Q E s:=by
 obtain⟨m,hn,hl⟩:=id I.loc;have hcls:(X.env.scope.kind == .class||(X.env.scope.kind == .module&&X.env.locals != X.env.globals))=false:=by rw[I.ok.kind];rfl
 have hiσ:i<σ.length:=by rw[I.len];exact(Mw.mp hi).1
 have cne:=I.cne;have tracked:∀{a:Addr}{h':Heap},(∃ o,s.heap.get? a=some o/\H a=none)->Heap.SameBut a s.heap h'->HOk X.prog X.w H h':=fun{a h'} ha hs b ob e=>by
  obtain⟨_,_,hfree⟩:=ha;refine(I.hok b ob e).stay (fun c w' hc q=>(hs.2 c ?_).trans q) (fun _ q=>q) fun _ _ q=>q;rintro rfl;rcases hc with rfl | hc
  ·rw[hfree]at e;cases e
  ·rw[hfree]at hc;cases hc
 rcases hx with hk | hk
 ·refine wpAny_storeName_local hk hn (fun h' hn' hs=>?_) hcls;obtain⟨oL,_,_,hoL,_⟩:=id hn;refine h _ ⟨I.ok,I.os,I.bare,⟨fun b o e n hb hx=>?_,fun b o e n hb hx=>?_,I.base.free,fun b o e hx=>?_,I.base.tups,I.base.frzs,I.base.tbls⟩,⟨_,hn',fun j y v' e1 e2 e3=>?_⟩,fun y c e=>?_,I.free,I.freeC,fun p hp=>?_,tracked ⟨oL,hoL,I.free⟩ hs,by simpa using I.len⟩ ⟨_,hs,.inl rfl⟩
  ·exact(hs.2 b (M3 (Nk (Heap.lt_size e) I.ok.above))).trans (I.base.keep b o e n hb hx)
  ·obtain⟨sl,e1⟩:=I.base.slot b o e n hb hx;exact⟨sl,(hs.2 b (M3 (Nk (Heap.lt_size e) I.ok.above))).trans e1⟩
  ·obtain⟨o',e1⟩:=I.base.there b o e hx;exact⟨o',(hs.2 b (M3 (Nk (Heap.lt_size e) I.ok.above))).trans e1⟩
  ·by_cases hj:j=i
   ·subst hj;rw[hi]at e1;cases e1;rw[N6 hiσ]at e2
    cases e2
    exact⟨u,r,.inl ⟨hk,by simp⟩⟩
   ·rw[Oo (Ne.symm hj)]at e2;obtain⟨u',r',q⟩:=hl j y v' e1 e2 e3;refine⟨u',r',?_⟩;rcases q with⟨k,e⟩ | ⟨k,c,e,z⟩
    ·refine .inl ⟨k,?_⟩;have:y≠x:=fun e=>hj (Df hN e1 (e▸hi));simp[this,e]
    ·exact .inr ⟨k,c,e,z.sameBut hs (cne y c e)⟩
  ·obtain⟨w',z⟩:=I.cell y c e;exact⟨w',z.sameBut hs (cne y c e)⟩
  ·obtain⟨e,n,ne,nf,d⟩:=I.pin p hp;exact⟨(hs.2 p.1 ne).trans e,n,ne,nf,d⟩
 ·have hfn:X.fn x=true:=by
   rcases hf with z | z
   ·exact z
   ·rw[z]at hk;cases hk
  obtain⟨c,hc⟩:=I.ok.has x (.inl hk);obtain⟨w',z⟩:=I.cell x c hc;refine wpAny_storeName_cell I.ok.kind hk hc z (fun h' hc' hs=>?_);obtain⟨oc,hoc,hocd⟩:=id z;refine h { s with heap:=h' } ⟨I.ok,I.os,I.bare,⟨fun b o e n hb hx=>?_,fun b o e n hb hx=>?_,I.base.free,fun b o e hx=>?_,I.base.tups,I.base.frzs,I.base.tbls⟩,⟨m,hn.sameBut hs (Ne.symm (cne x c hc)),fun j y v' e1 e2 e3=>?_⟩,fun y c' e=>?_,I.free,I.freeC,fun p hp=>?_,tracked ⟨oc,hoc,I.freeC x c hc⟩ hs,by simpa using I.len⟩ ⟨c,hs,.inr hc⟩
  ·exact(hs.2 b (M3 (Nk (Heap.lt_size e) (I.ok.cab x c hfn hc)))).trans (I.base.keep b o e n hb hx)
  ·obtain⟨sl,e1⟩:=I.base.slot b o e n hb hx;exact⟨sl,(hs.2 b (M3 (Nk (Heap.lt_size e) (I.ok.cab x c hfn hc)))).trans e1⟩
  ·obtain⟨o',e1⟩:=I.base.there b o e hx;exact⟨o',(hs.2 b (M3 (Nk (Heap.lt_size e) (I.ok.cab x c hfn hc)))).trans e1⟩
  ·by_cases hj:j=i
   ·subst hj;rw[hi]at e1;cases e1;rw[N6 hiσ]at e2
    cases e2
    exact⟨u,r,.inr ⟨.inl hk,c,hc,hc'⟩⟩
   ·rw[Oo (Ne.symm hj)]at e2;obtain⟨u',r',q⟩:=hl j y v' e1 e2 e3;refine⟨u',r',?_⟩;rcases q with q | ⟨k,c',e,z'⟩
    ·exact .inl q
    ·refine .inr ⟨k,c',e,z'.sameBut hs ?_⟩;rintro rfl;exact hj (Df hN e1 (I.ok.inj _ _ _ e hc▸hi))
  ·by_cases hcc:c'=c
   ·subst hcc;exact⟨_,hc'⟩
   ·obtain⟨w2,z2⟩:=I.cell y c' e;exact⟨w2,z2.sameBut hs hcc⟩
  ·obtain⟨e,n,ne,nf,d⟩:=I.pin p hp;refine⟨(hs.2 p.1 ?_).trans e,n,ne,nf,d⟩;intro q;rw[q,hoc]at e;have q':oc=p.2:=MN e;exact d w' (by rw[← q'];exact hocd)
theorem ue{M:Model}{A:Around}{E:Value->Shared->Prop}{i:Nat}{x:Str}{v:V}{u:Value}{Q:Unit->Shared->Prop}(I:Inv X pins σ H s)(hN:X.N.Nodup)(hi:X.N[i]?=some x)(hx:Loc X.env.scope x)(r:RelV v u)
  (h:∀ s',Inv X pins (σ.set i (some v)) H s'->Q () s') (hf:X.fn x=true∨X.env.scope.names.lookup x=some .local:=by first | exact .inl rfl | exact .inr rfl | assumption):wpAny M A (storeName X.env x u) Q E s :=
 Fx I hN hi hx r (fun s' I' _=>h s' I') hf
theorem Inv.call'{s':Shared}{ch:List Addr}(I:Inv X pins σ H s)(ho:s'.os=s.os)(u:Un (frs X.stack) ch H H' s.heap s'.heap)(hok:HOk X.prog X.w H' s'.heap)(hg:AllBare s'.gens)
  (hch:∀ b∈ch,(b∈X.ex∨X.s₀.heap.objs.size<=b)/\b≠X.env.locals/\(∀ x c,X.env.cells.lookup x=some c->c≠b)/\∀ p∈X.pn++pins,p.1≠b):Inv X pins σ H' s':=by
 obtain⟨h',g',d',t',o'⟩:=s';have e:o'=s.os:=ho;subst e;exact I.call (g':=g') (t':=t') (d':=d') u hok hg hch
end
abbrev XK:=Value->Option Addr->Hp->Prop
abbrev St:=List (Option V)
abbrev VK:=V->Hp->Prop
abbrev TE:=St->Hp->VK->Prop
abbrev TT:=St->Hp->(Bool->Hp->Prop)->Prop
abbrev TA:=St->Hp->(List V->Hp->Prop)->Prop
structure Ends where
 nx:St->Hp->Prop
 rt:VK
 bk:St->Hp->Prop:=fun _ _=>False
 ct:St->Hp->Prop:=fun _ _=>False
abbrev TS:=Ends->St->Hp->Prop
def EP(X:Cx)(pins:List (Addr×Obj))(σ:St)(Q:VK)(u:Value)(s':Shared):Prop:=∃ v H',Inv X pins σ H' s'/\RelV v u/\Q v H'
def TP(X:Cx)(pins:List (Addr×Obj))(σ:St)(Q:Bool->Hp->Prop)(b:Bool)(s':Shared):Prop:=∃ H',Inv X pins σ H' s'/\Q b H'
def AP(X:Cx)(pins:List (Addr×Obj))(σ:St)(Q:List V->Hp->Prop)(us:List Value)(s':Shared):Prop:=∃ vs H',Inv X pins σ H' s'/\Vals vs us/\Q vs H'
def SP(X:Cx)(pins:List (Addr×Obj))(D:Ends)(f:Flow)(s':Shared):Prop :=
 match f with
 |.next=>∃ σ' H',Inv X pins σ' H' s'/\D.nx σ' H'
 |.brk=>∃ σ' H',Inv X pins σ' H' s'/\D.bk σ' H'
 |.cont=>∃ σ' H',Inv X pins σ' H' s'/\D.ct σ' H'
 |.ret u=>∃ v σ' H',Inv X pins σ' H' s'/\RelV v u/\D.rt v H'
def PE(X:Cx)(e:Expr)(t:TE):Prop :=
 ∀(pins:List (Addr×Obj))(s:Shared)(σ:St)(H:Hp)(Q:VK),Inv X pins σ H s->t σ H Q->wpAny (model X.prog X.w) X.A (eval e X.env) (EP X pins σ Q) X.xe s
def PT(X:Cx)(e:Expr)(t:TT):Prop :=
 ∀(pins:List (Addr×Obj))(s:Shared)(σ:St)(H:Hp)(Q:Bool->Hp->Prop),Inv X pins σ H s->t σ H Q->wpAny (model X.prog X.w) X.A (isTrue e X.env (eval e X.env)) (TP X pins σ Q) X.xe s
def PW(X:Cx)(e:Expr)(t:TT):Prop :=
 ∀(whole:Sem Value)(pins:List (Addr×Obj))(s:Shared)(σ:St)(H:Hp)(Q:Bool->Hp->Prop),Inv X pins σ H s->t σ H Q->wpAny (model X.prog X.w) X.A (isTrue e X.env whole) (TP X pins σ Q) X.xe s
theorem PW.pt{X:Cx}{e:Expr}{t:TT}(h:PW X e t):PT X e t:=h _
def PA(X:Cx)(es:List Expr)(t:TA):Prop :=
 ∀(pos:Pos)(pins:List (Addr×Obj))(s:Shared)(σ:St)(H:Hp)(Q:List V->Hp->Prop),Inv X pins σ H s->t σ H Q->wpAny (model X.prog X.w) X.A (spliced (backTo pos (starEach es X.env))) (AP X pins σ Q) X.xe s
def PS(X:Cx)(st:Stmt)(t:TS):Prop :=
 ∀(pins:List (Addr×Obj))(s:Shared)(σ:St)(H:Hp)(D:Ends),Inv X pins σ H s->t D σ H->wpAny (model X.prog X.w) X.A (exec st X.env) (SP X pins D) X.xe s
def PSs(X:Cx)(st:List Stmt)(t:TS):Prop :=
 ∀(pins:List (Addr×Obj))(s:Shared)(σ:St)(H:Hp)(D:Ends),Inv X pins σ H s->t D σ H->wpAny (model X.prog X.w) X.A (execs st X.env) (SP X pins D) X.xe s
theorem thn{α:Type}{t:Sem α}{Q Q':α->Shared->Prop}{M:Model}{A:Around}{E:Value->Shared->Prop}{s:Shared}(h:wpAny M A t Q E s)(hQ:∀ a s,Q a s->Q' a s):wpAny M A t Q' E s:=wpAny_mono h hQ fun _ _ x=>x
end L2
namespace L2
open PySem PySem.Spec PyProof.Rows
section
variable{X:Cx}
def tVar(i:Nat):TE:=fun σ H Q=>∃ v,σ[i]?=some (some v)/\Q v H
def tC(v:V):TE:=fun _ H Q=>Q v H
theorem pe_var{i:Nat}{x:Str}{pos:Pos}(hN:X.N[i]?=some x)(hv:Vis X.env.scope x) (hd:(x == ("__debug__" : Str))=false:=by decide) (hcd:(x == ("__classdict__" : Str))=false:=by decide):PE X (.Name x pos) (tVar i):=by
 intro pins s σ H Q I h;obtain⟨v,e,h⟩:=h;obtain⟨m,hn,hl⟩:=I.loc;obtain⟨u,r,l⟩:=hl i x v hN e hv;have fin:EP X pins σ Q u s:=⟨v,H,I,r,h⟩;rcases l with⟨hk,hm⟩ | ⟨hk,c,hc,hcell⟩
 ·exact wpAny_Name (wpAny_loadName_local I.ok.kind hk hn hm fin) hd
 ·rcases hk with hk | hk
  ·exact wpAny_Name (wpAny_loadName_cell I.ok.kind hk hc hcell fin) hd
  ·exact wpAny_Name (wpAny_loadName_free I.ok.kind hk hc hcell fin hcd) hd
theorem ai{i j pos}:PE X (.Constant (.int i) j pos) (tC (.int i)):=fun _ _ _ H _ I h=>wpAny_Constant_int ⟨.int i,H,I.tok _,⟨_,rfl⟩,h⟩
theorem sh{b j pos}:PE X (.Constant (.bool b) j pos) (tC (.bl b)):=fun _ _ _ H _ I h=>Constant_bool ⟨.bl b,H,I,rfl,h⟩
theorem pe_non{j pos}:PE X (.Constant .none j pos) (tC .non):=fun _ _ _ H _ I h=>Constant_none ⟨.non,H,I,rfl,h⟩
theorem Ke{x j pos}:PE X (.Constant (.str x) j pos) (tC (.str x)):=fun _ _ _ H _ I h=>Calls.Constant_str ⟨.str x,H,I.tok _,⟨_,rfl⟩,h⟩
def Gl(X:Cx)(x:Str):Prop:=X.env.kindOf x=some .globalImplicit
theorem qy{E:Value->Shared->Prop}{pins:List (Addr×Obj)}{s:Shared}{σ:St}{H:Hp}{x:Str}{u:Value}{pos:Pos}{Q:Value->Shared->Prop}(I:Inv X pins σ H s)(hg:Gl X x)(hm:X.mg x=some u)(h:Q u s)
  (hd:(x == ("__debug__" : Str))=false:=by decide):wpAny (model X.prog X.w) X.A (eval (.Name x pos) X.env) Q E s :=
 Calls.Name_function_global I.ok.kind hg (Calls.loadGlobal_global (by rw[I.ok.glob];exact I.mod.glob.keeps I.bk) hm h) hd
theorem jZ{E:Value->Shared->Prop}{pins:List (Addr×Obj)}{s:Shared}{σ:St}{H:Hp}{x:Str}{u:Value}{pos:Pos}{Q:Value->Shared->Prop}(I:Inv X pins σ H s)(hg:Gl X x)(hm:X.mg x=none)(hv:bootBuiltins x=some u)(h:Q u s)
  (hn:x≠"__name__":=by decide) (hd:(x == ("__debug__" : Str))=false:=by decide):wpAny (model X.prog X.w) X.A (eval (.Name x pos) X.env) Q E s:=by
 obtain⟨mb,h1,h2⟩:=I.mod.blt;exact Calls.Name_function_global I.ok.kind hg (Calls.loadGlobal_builtin (by rw[I.ok.glob];exact I.mod.glob.keeps I.bk) hm (by rw[I.ok.blt];exact h1.keeps I.bk) ((h2 x hn).trans hv) h) hd
theorem Lo{x:Str}{v:V}{u:Value}{pos:Pos}(hg:Gl X x)(hm:X.mg x=some u)(r:RelV v u) (hd:(x == ("__debug__" : Str))=false:=by decide):PE X (.Name x pos) (tC v) :=
 fun _ _ _ H _ I h=>qy I hg hm ⟨v,H,I,r,h⟩ hd
theorem u6{x:Str}{v:V}{u:Value}{pos:Pos}(hg:Gl X x)(hm:X.mg x=none)(hv:bootBuiltins x=some u)(r:RelV v u) (hn:x≠"__name__":=by decide) (hd:(x == ("__debug__" : Str))=false:=by decide):PE X (.Name x pos) (tC v) :=
 fun _ _ _ H _ I h=>jZ I hg hm hv ⟨v,H,I,r,h⟩ hn hd
variable{a b:Expr}{ta tb:TE}{pos:Pos}
def PC(X:Cx)(op:CmpOp)(a b:Expr)(t:TE):Prop :=
 ∀(pins:List (Addr×Obj))(s:Shared)(σ:St)(H:Hp)(Q:VK),Inv X pins σ H s->t σ H Q ->
  wpAny (model X.prog X.w) X.A (eval a X.env) (fun v s₁=>wpAny (model X.prog X.w) X.A (eval b X.env) (fun u s₂=>wpAny (model X.prog X.w) X.A (compareOp op v u) (EP X pins σ Q) X.xe s₂) X.xe s₁) X.xe s
def tB(t:TE):TT:=fun σ H Q=>t σ H fun x H1=>∃ c,x=.bl c/\Q c H1
theorem pt_cmp{op:CmpOp}{t:TE}(h:PC X op a b t)(h1:behindInMarks op b=false:=by first | exact nobehind _ (by decide) (by decide) | rfl):PT X (.Compare a [op] [b] pos) (tB t):=by
 intro pins s σ H Q I hw;refine wpAny_isTrue_Compare1 (thn (h pins s σ H _ I hw) fun v s1 h1=>thn h1 fun u s2 h2=>thn h2 fun c s3 ⟨x,H1,I1,r1,q1⟩=>?_) h1;obtain⟨d,rfl,q⟩:=q1
 cases r1
 exact wpAny_truthy_bool ⟨H1,I1,q⟩
theorem nI{e:Expr}{t:TE}(h:PE X e t)(he:∀ whole,isTrue e X.env whole=(do let v ← whole;standAt e.pos;holding [v] (truthy v)):=by intro _;rfl):PT X e (tB t):=by
 intro pins s σ H Q I hw;refine isTrue_plain (thn (h pins s σ H _ I hw) fun v s1 ⟨x,H1,I1,r1,q1⟩=>?_) (he _);obtain⟨d,rfl,q⟩:=q1
 cases r1
 exact wpAny_truthy_bool ⟨H1,I1,q⟩
variable{tA tB':TT}{rest:List Expr}
def tOr(t u:TT):TT:=fun σ H Q=>t σ H fun c H1=>if c=true then Q true H1 else u σ H1 Q
def tNot(t:TT):TT:=fun σ H Q=>t σ H fun c H1=>Q (!c) H1
theorem nH(ha:PT X a tA):PW X (.BoolOp .Or [a] pos) tA:=by
 intro wh pins s σ H Q I h;refine isTrue_or (thn (ha pins s σ H Q I h) fun c s1 e=>?_)
 cases c with
 |false=>exact isTrue_or_nil e
 |true=>exact e
theorem rZ(ha:PT X a tA)(hb:PW X (.BoolOp .Or (b::rest) pos) tB'):PW X (.BoolOp .Or (a::b::rest) pos) (tOr tA tB'):=by
 intro wh pins s σ H Q I h;refine isTrue_or (thn (ha pins s σ H _ I h) fun c s1 ⟨H1,I1,q1⟩=>?_)
 cases c with
 |true=>exact⟨H1,I1,q1⟩
 |false=>exact hb wh pins s1 σ H1 Q I1 q1
theorem pT(ha:PT X a tA):PT X (.UnaryOp .Not a pos) (tNot tA):=by
 intro pins s σ H Q I h;exact isTrue_not (ha pins s σ H (fun c H1=>Q (!c) H1) I h)
def tAndV(ta tb:TE):TE:=fun σ H Q=>ta σ H fun x H1=>∃ c,x=.bl c/\if c=true then tb σ H1 Q else Q (.bl false) H1
def tNotV(ta:TE):TE:=fun σ H Q=>ta σ H fun x H1=>∃ c,x=.bl c/\Q (.bl (!c)) H1
theorem Kf{op}{t:TE}(h:PE X a t):PE X (.BoolOp op [a] pos) t:=fun pins s σ H Q I hw=>BoolOp_one (h pins s σ H Q I hw)
theorem Kg(ha:PE X a ta)(hb:PE X (.BoolOp .And (b::rest) pos) tb):PE X (.BoolOp .And (a::b::rest) pos) (tAndV ta tb):=by
 intro pins s σ H Q I h;refine BoolOp_and (thn (ha pins s σ H _ I h) fun v s1 ⟨x,H1,I1,r1,q1⟩=>?_);obtain⟨c,rfl,q1⟩:=q1
 cases r1
 refine wpAny_truthy_bool ?_
 cases c with
 |true=>exact hb pins s1 σ H1 Q I1 q1
 |false=>exact⟨.bl false,H1,I1,rfl,q1⟩
theorem pe_not(ha:PE X a ta):PE X (.UnaryOp .Not a pos) (tNotV ta):=by
 intro pins s σ H Q I h;refine UnaryOp_ (thn (ha pins s σ H _ I h) fun v s1 ⟨x,H1,I1,r1,q1⟩=>?_);obtain⟨c,rfl,q1⟩:=q1
 cases r1
 exact not_of (wpAny_truthy_bool ⟨.bl (!c),H1,I1,rfl,q1⟩)
def tIf(t:TT)(ta tb:TE):TE:=fun σ H Q=>t σ H fun c H1=>if c=true then ta σ H1 Q else tb σ H1 Q
theorem uX{c:Expr}(hc:PT X c tA)(ha:PE X a ta)(hb:PE X b tb):PE X (.IfExp c a b pos) (tIf tA ta tb):=by
 intro pins s σ H Q I h;refine wpAny_IfExp (thn (hc pins s σ H _ I h) fun d s1 ⟨H1,I1,q1⟩=>?_)
 cases d with
 |true=>exact ha pins s1 σ H1 Q I1 q1
 |false=>exact hb pins s1 σ H1 Q I1 q1
end
end L2
namespace L2
open PySem PySem.Spec PyProof.Rows
def SqL(K:Mz)(H:Hp)(a:Addr)(xs:List V):Prop :=
 Rd H a (.lst xs) ∨
  ∃(o:Obj)(its:Array Value)(n:Nat),K.lookup a=some o/\o.cls=.type "list"/\o.dict=none/\o.data=.seq its n/\its.size<=sizeLine/\Vals xs its.toList
def SqT(K:Mz)(H:Hp)(a:Addr)(xs:List V):Prop :=
 Rd H a (.tup xs) ∨
  ∃(o:Obj)(its:Array Value)(n:Nat),K.lookup a=some o/\o.cls=.type "tuple"/\o.data=.seq its n/\its.size<=sizeLine/\Vals xs its.toList
def absV:Value->Option V
 |.none=>some .non
 |.bool b=>some (.bl b)
 |.int i _=>some (.int i)
 |.str x _=>some (.str x)
 |.bytes b _=>some (.byt b)
 |.float b _=>some (.flt b)
 |.ref a=>some (.ref a)
 |.type n=>some (.ty n)
 |_=>none
theorem RelV.abs{x:V}{u:Value}(r:RelV x u):absV u=some x:=by
 cases x with
 |non=>cases r;rfl
 |bl _=>cases r;rfl
 |int _=>obtain⟨t,rfl⟩:=r;rfl
 |str _=>obtain⟨t,rfl⟩:=r;rfl
 |byt _=>obtain⟨t,rfl⟩:=r;rfl
 |flt _=>obtain⟨t,rfl⟩:=r;rfl
 |ref _=>cases r;rfl
 |ty _=>cases r;rfl
theorem RelV.inj{x y:V}{u:Value}(r:RelV x u)(q:RelV y u):x=y:=MN (r.abs.symm.trans q.abs)
theorem Vals.inj:∀{xs ys:List V}{us:List Value},Vals xs us->Vals ys us->xs=ys
 |_,_,_,.nil,.nil=>rfl
 |_,_,_,.cons r t,.cons r' t'=>by rw[r.inj r',Vals.inj t t']
section
variable{X:Cx}{pins:List (Addr×Obj)}{σ:St}{H:Hp}{s:Shared}{a:Addr}{xs ys:List V}
theorem SqL.of{K:Mz}(h:H a=some (.lst xs)):SqL K H a xs:=.inl (.inl h)
theorem SqT.of{K:Mz}(h:H a=some (.tup xs)):SqT K H a xs:=.inl (.inl h)
theorem Inv.list(I:Inv X pins σ H s)(h:SqL X.K H a xs):∃ its:List Value,Vals xs its/\PlainL s.heap a its.toArray/\xs.length<=sizeLine:=by
 rcases h with h | ⟨o,its,n,hk,hc,hd,hs,hz,r⟩
 ·obtain⟨z,its,n,r,e⟩:=h.ok I.hok;exact⟨its,r,⟨_,n,e,rfl,rfl,rfl⟩,z⟩
 ·refine⟨its.toList,r,⟨o,n,I.kIn a o hk,hc,hd,by simpa using hs⟩,?_⟩
  have e:=r.length;simp only[Nz]at e;omega
theorem Inv.tuple(I:Inv X pins σ H s)(h:SqT X.K H a xs):∃ its:List Value,Vals xs its/\IsTup s.heap a its.toArray/\xs.length<=sizeLine:=by
 rcases h with h | ⟨o,its,n,hk,hc,hs,hz,r⟩
 ·obtain⟨z,its,r,p⟩:=h.ok I.hok;exact⟨its,r,p,z⟩
 ·refine⟨its.toList,r,⟨o,I.kIn a o hk,hc,n,by simpa using hs⟩,?_⟩
  have e:=r.length;simp only[Nz]at e;omega
theorem Inv.list_inj(I:Inv X pins σ H s)(h:SqL X.K H a xs)(h':SqL X.K H a ys):xs=ys:=by
 obtain⟨its,r,⟨o,n,e,_,_,d⟩,_⟩:=I.list h;obtain⟨its',r',⟨o',n',e',_,_,d'⟩,_⟩:=I.list h';rw[e]at e';cases e';rw[d]at d';injection d' with d1 _;have:its=its':=by simpa using congrArg Array.toList d1
 subst this;exact r.inj r'
end
abbrev Cx.wish(X:Cx)(E:Value->Shared->Prop):Cx:={ X with xe:=E }
abbrev Cx.nox(X:Cx):Cx:=X.wish fun _ _=>False
theorem Cx.Ok.wish{X:Cx}(ok:X.Ok)(E:Value->Shared->Prop):(X.wish E).Ok :=
 ⟨ok.mod,ok.kind,ok.glob,ok.blt,ok.above,ok.inj,ok.has,ok.cab,ok.hd,ok.frames,ok.stk,ok.exf,ok.bs,ok.bsz,ok.noex,ok.exfs,ok.funs,ok.frf⟩
theorem Cx.Ok.unwish{X:Cx}{E:Value->Shared->Prop}(ok:(X.wish E).Ok):X.Ok :=
 ⟨ok.mod,ok.kind,ok.glob,ok.blt,ok.above,ok.inj,ok.has,ok.cab,ok.hd,ok.frames,ok.stk,ok.exf,ok.bs,ok.bsz,ok.noex,ok.exfs,ok.funs,ok.frf⟩
section
variable{X:Cx}{pins:List (Addr×Obj)}{σ:St}{H:Hp}{s:Shared}{E:Value->Shared->Prop}
theorem Inv.wish(I:Inv X pins σ H s)(E:Value->Shared->Prop):Inv (X.wish E) pins σ H s:=⟨I.ok.wish E,I.os,I.bare,I.base,I.loc,I.cell,I.free,I.freeC,I.pin,I.hok,I.len⟩
theorem Inv.unwish(I:Inv (X.wish E) pins σ H s):Inv X pins σ H s:=⟨I.ok.unwish,I.os,I.bare,I.base,I.loc,I.cell,I.free,I.freeC,I.pin,I.hok,I.len⟩
theorem SP.unwish{D:Ends}{f:Flow}{s':Shared}(h:SP (X.wish E) pins D f s'):SP X pins D f s':=by
 cases f with
 |next=>obtain⟨σ',H',I,q⟩:=h;exact⟨σ',H',I.unwish,q⟩
 |brk=>obtain⟨σ',H',I,q⟩:=h;exact⟨σ',H',I.unwish,q⟩
 |cont=>obtain⟨σ',H',I,q⟩:=h;exact⟨σ',H',I.unwish,q⟩
 |ret u=>obtain⟨v,σ',H',I,r,q⟩:=h;exact⟨v,σ',H',I.unwish,r,q⟩
theorem PSs.nox{st:List Stmt}{t:TS}(h:PSs X.nox st t):PSs X st t:=fun pins s σ H D I hw =>
 wpAny_mono (h pins s σ H D (I.wish _) hw) (fun _ _ q=>q.unwish) fun _ _ z=>False.elim z
end
section
variable{X:Cx}{st:Stmt}{rest:List Stmt}{t u:TS}{e:Expr}{te:TE}{pos:Pos}
def tNext:TS:=fun D σ H=>D.nx σ H
def tSeq(t u:TS):TS:=fun D σ H=>t { D with nx:=u D } σ H
theorem aZ:PSs X [] tNext:=fun _ _ σ H _ I h=>wpAny_execs_nil ⟨σ,H,I,h⟩
theorem ag(h1:PS X st t)(h2:PSs X rest u):PSs X (st::rest) (tSeq t u):=by
 intro pins s σ H D I h;refine wpAny_execs_cons (thn (h1 pins s σ H { D with nx:=u D } I h) fun f s1 q=>?_)
 cases f with
 |next =>
  obtain⟨σ',H',I',q⟩:=q;exact h2 pins s1 σ' H' D I' q
 |ret v=>exact q
 |brk=>exact q
 |cont=>exact q
theorem ao(h1:PS X st t):PSs X [st] t:=by
 intro pins s σ H D I h;refine wpAny_execs_cons (thn (h1 pins s σ H D I h) fun f s1 q=>?_)
 cases f with
 |next=>exact wpAny_execs_nil q
 |ret v=>exact q
 |brk=>exact q
 |cont=>exact q
theorem Inv.quiet{pins:List (Addr×Obj)}{σ:St}{H:Hp}{s:Shared}(I:Inv X pins σ H s):interactive X.env=false:=by simp[interactive,I.ok.kind]
def tDrop(te:TE):TS:=fun D σ H=>te σ H fun _ H1=>D.nx σ H1
theorem bt(he:PE X e te)(hs:swapsWith e none pos.line X.env=pure false:=by rfl):PS X (.Expr e pos) (tDrop te):=by
 intro pins s σ H D I h;exact wpAny_Expr_any (thn (he pins s σ H _ I h) fun v s1 ⟨x,H1,I1,r1,q1⟩=>⟨σ,H1,I1,q1⟩) I.quiet hs
def tRet(te:TE):TS:=fun D σ H=>te σ H D.rt
theorem aN(he:PE X e te):PS X (.Return (some e) pos) (tRet te):=by
 intro pins s σ H D I h;exact wpAny_Return_some (thn (he pins s σ H _ I h) fun v s1 ⟨x,H1,I1,r1,q1⟩=>⟨x,σ,H1,I1,r1,q1⟩)
def tIfS(c:TT)(t u:TS):TS:=fun D σ H=>c σ H fun b H1=>if b=true then t D σ H1 else u D σ H1
theorem c7{c:Expr}{a b:List Stmt}{tc:TT}(hc:PT X c tc)(ha:PSs X a t)(hb:PSs X b u):PS X (.If c a b pos) (tIfS tc t u):=by
 intro pins s σ H D I h;refine wpAny_If (thn (hc pins s σ H _ I h) fun d s1 ⟨H1,I1,q1⟩=>?_)
 cases d with
 |true=>exact ha pins s1 σ H1 D I1 q1
 |false=>exact hb pins s1 σ H1 D I1 q1
def tNever:TS:=fun _ _ _=>False
theorem gF:PS X st tNever:=fun _ _ _ _ _ _ h=>h.elim
end
abbrev TG:=V->St->Hp->(St->Hp->Prop)->Prop
abbrev TGs:=List V->St->Hp->(St->Hp->Prop)->Prop
def PG(X:Cx)(target:Expr)(t:TG):Prop :=
 ∀(pins:List (Addr×Obj))(s:Shared)(σ:St)(H:Hp)(v:V)(u:Value)(Q:St->Hp->Prop),Inv X pins σ H s->RelV v u->t v σ H Q ->
  wpAny (model X.prog X.w) X.A (assign target X.env u) (fun _ s'=>∃ σ' H',Inv X pins σ' H' s'/\Q σ' H') X.xe s
def PGs(X:Cx)(ts:List Expr)(t:TGs):Prop :=
 ∀(pins:List (Addr×Obj))(s:Shared)(σ:St)(H:Hp)(vs:List V)(us:List Value)(Q:St->Hp->Prop),Inv X pins σ H s->Vals vs us->t vs σ H Q ->
  wpAny (model X.prog X.w) X.A (assignInOrder ((assignEach ts X.env).map (·.2)) us) (fun _ s'=>∃ σ' H',Inv X pins σ' H' s'/\Q σ' H') X.xe s
abbrev TSet:=V->V->V->Hp->(Hp->Prop)->Prop
def PSet(X:Cx)(t:TSet):Prop :=
 ∀(pins:List (Addr×Obj))(s:Shared)(σ:St)(H:Hp)(o i v:V)(ov iv u:Value)(Q:Hp->Prop),Inv X pins σ H s->RelV o ov->RelV i iv->RelV v u->t o i v H Q ->
  wpAny (model X.prog X.w) X.A (setItem ov iv u) (fun _ s'=>∃ H',Inv X pins σ H' s'/\Q H') X.xe s
section
variable{X:Cx}{pos:Pos}
def Hn(i:Nat):TG:=fun v σ H Q=>Q (σ.set i (some v)) H
theorem aK{i:Nat}{x:Str}(hN:X.N.Nodup)(hi:X.N[i]?=some x)(hx:Loc X.env.scope x)(hf:X.fn x=true∨X.env.scope.names.lookup x=some .local:=by first | exact .inl rfl | exact .inr rfl | assumption):PG X (.Name x pos) (Hn i):=by
 intro pins s σ H v u Q I r h;exact wpAny_assign_Name (ue I hN hi hx r (fun s' I'=>⟨_,H,I',h⟩) hf)
def gNil:TGs:=fun vs σ H Q=>vs = []/\Q σ H
def gCons(t:TG)(u:TGs):TGs:=fun vs σ H Q=>∃ v r,vs=v::r/\t v σ H fun σ' H'=>u r σ' H' Q
theorem iC:PGs X [] gNil:=by
 intro pins s σ H vs us Q I r h;obtain⟨e,h⟩:=h;subst e
 cases r
 exact assignInOrder_nil ⟨σ,H,I,h⟩
theorem bq{e:Expr}{es:List Expr}{t:TG}{u:TGs}(h1:PG X e t)(h2:PGs X es u)
  (hs:(assignEach (e::es) X.env).map (·.2)=assign e X.env::(assignEach es X.env).map (·.2):=by rfl):PGs X (e::es) (gCons t u):=by
 intro pins s σ H vs us Q I r h;obtain⟨v,vr,e1,h⟩:=h;subst e1
 cases r with
 |cons r rr =>
  rw[hs];refine assignInOrder_cons (thn (h1 pins s σ H _ _ _ I r h) fun _ s1 ⟨σ1,H1,I1,q1⟩=>?_);exact h2 pins s1 σ1 H1 _ _ Q I1 rr q1
def gTup(K:Mz)(n:Nat)(t:TGs):TG:=fun v σ H Q=>∃ a xs,v=.ref a/\SqT K H a xs/\xs.length=n/\t xs σ H Q
theorem nK{es:List Expr}{k:Nat}{t:TGs}{n:Nat}(hc:X.calm=true)(h:PGs X es t)
  (hn:(assignEach es X.env).length=n:=by rfl) (hst:(assignEach es X.env).findIdx? (·.1)=none:=by rfl):PG X (.Tuple es k pos) (gTup X.K n t):=by
 intro pins s σ H v u Q I r hw;obtain⟨a,xs,e1,hq,hl,hw⟩:=hw;subst e1
 cases r
 obtain⟨its,rv,ht,hz⟩:=I.tuple hq;refine assign_Tuple_tuple (I.ok.hd hc) ht (by simp[hn,← hl,rv.length]) hst fun h' hx=>?_
 have I1:Inv X pins σ H { s with heap:=h' }:=I.kept (t':=s.toks) fun b o e=>hx b o (M3 (Heap.lt_size e)) e;exact h pins _ σ H xs _ Q I1 (by simpa using rv) hw
def gSub(to ti:TE)(t:TSet):TG:=fun v σ H Q=>to σ H fun o H1=>ti σ H1 fun i H2=>t o i v H2 fun H3=>Q σ H3
theorem F2{o i:Expr}{to ti:TE}{t:TSet}(ho:PE X o to)(hi:PE X i ti)(hs:PSet X t)
  (ha:∀ v,assign (.Subscript o i pos) X.env v=(do
   let ov ← holding [v] (eval o X.env)
   let iv ← holding [v,ov] (eval i X.env)
   standAt pos
   holding [v,ov,iv] (setItem ov iv v)
   release [v,ov,iv] []):=by intro _;rfl):PG X (.Subscript o i pos) (gSub to ti t):=by
 intro pins s σ H v u Q I r h;rw[ha];refine wpAny_bind (wpAny_holding (thn (ho pins s σ H _ I h) fun ov s1 ⟨x,H1,I1,r1,q1⟩=>?_));refine wpAny_bind (wpAny_holding (thn (hi pins s1 σ H1 _ I1 q1) fun iv s2 ⟨y,H2,I2,r2,q2⟩=>?_));refine wpAny_bind (wpAny_standAt (wpAny_bind (wpAny_holding (thn (hs pins s2 σ H2 x y v ov iv u _ I2 r1 r2 r q2) fun _ s3 ⟨H3,I3,q3⟩=>?_))));exact wpAny_release ⟨σ,H3,I3,q3⟩
def tAsg(te:TE)(g:TG):TS:=fun D σ H=>te σ H fun x H1=>g x σ H1 D.nx
theorem FT{tg e:Expr}{te:TE}{g:TG}(he:PE X e te)(hg:PG X tg g)(hs:swapsWithSole [tg] e pos.line X.env=pure false:=by rfl)(hw:swappedStores [tg] e X.env=pure none:=by rfl)
  (h1:(assignEach [tg] X.env).map (·.2) = [assign tg X.env]:=by rfl):PS X (.Assign [tg] e pos) (tAsg te g):=by
 intro pins s σ H D I h;refine wpAny_Assign_stores (thn (he pins s σ H _ I h) fun v s1 ⟨x,H1,I1,r1,q1⟩=>?_) hs hw;rw[h1];exact thn (hg pins s1 σ H1 x v _ I1 r1 q1) fun _ s2 q=>q
theorem au{i:Nat}{x:Str}{e:Expr}{te:TE}{pos':Pos}(hN:X.N.Nodup)(hi:X.N[i]?=some x)(hx:Loc X.env.scope x)(he:PE X e te)(hs:swapsWith e (some (.Name x pos')) pos.line X.env=pure false:=by rfl)(hf:X.fn x=true∨X.env.scope.names.lookup x=some .local:=by first | exact .inl rfl | exact .inr rfl | assumption) :
  PS X (.Assign [.Name x pos'] e pos) (tAsg te (Hn i)):=by
 intro pins s σ H D I h;refine wpAny_Assign_Name (thn (he pins s σ H _ I h) fun v s1 ⟨y,H1,I1,r1,q1⟩=>?_) hs;exact ue I1 hN hi hx r1 (fun s2 I2=>⟨_,H1,I2,q1⟩) hf
end
section
variable{X:Cx}{pos:Pos}
def JZ(c:TT)(tb:TS):TS:=fun D σ H=>∃ W:Nat->St->Hp->Prop,(∃ m,W m σ H)/\∀ m σ H,W m σ H ->
 c σ H fun b H1=>if b=true then ∃ N:St->Hp->Prop,(∀ σ' H',N σ' H'->∃ m',m'<m/\W m' σ' H')/\tb { D with nx:=N,ct:=N,bk:=D.nx } σ H1 else D.nx σ H1
theorem uK{c:Expr}{body:List Stmt}{tc:TT}{tb:TS}(hp:PassesOwn (model X.prog X.w) X.A X.env X.xe)(hc:PT X c tc)(hb:PSs X body tb):PS X (.While c body [] pos) (JZ tc tb):=by
 intro pins s σ H D I h;obtain⟨W,⟨m0,w0⟩,turn⟩:=h;refine wpAny_While (codeAny_whileLoop (fun n s'=>∃ σ' H',Inv X pins σ' H' s'/\W n σ' H') ?_ m0 ⟨σ,H,I,w0⟩);rintro n s1 ⟨σ1,H1,I1,w1⟩;refine wpAny_passesOwn hp (thn (hc pins s1 σ1 H1 _ I1 (turn n σ1 H1 w1)) fun b s2 ⟨H2,I2,q2⟩=>?_)
 cases b with
 |true =>
  obtain⟨N,hN,q2⟩:=q2;rw[if_pos rfl];refine wpAny_passesOwn hp (thn (hb pins s2 σ1 H2 _ I2 q2) fun f s3 q3=>?_)
  cases f with
  |next =>
   obtain⟨σ3,H3,I3,n3⟩:=q3;obtain⟨m',hm,w3⟩:=hN σ3 H3 n3;exact⟨m',hm,σ3,H3,I3,w3⟩
  |cont =>
   obtain⟨σ3,H3,I3,n3⟩:=q3;obtain⟨m',hm,w3⟩:=hN σ3 H3 n3;exact⟨m',hm,σ3,H3,I3,w3⟩
  |brk=>exact q3
  |ret v=>exact q3
 |false =>
  rw[if_neg MQ];exact wpAny_execs_nil ⟨σ1,H2,I2,q2⟩
end
structure It where
 go:Nat->Hp->Prop
 yld:Nat->Hp->V->Hp->Prop
 stop:Nat->Hp->Prop
def FpOk(X:Cx)(pins:List (Addr×Obj))(H:Hp)(b:Addr):Prop :=
 H b=none/\b≠X.env.locals/\b∉X.fs/\(b∈X.ex∨X.s₀.heap.objs.size<=b)/\(∀ x c,X.env.cells.lookup x=some c->c≠b)/\∀ p∈X.pn++pins,p.1≠b
theorem Inv.fpOk{X:Cx}{pins:List (Addr×Obj)}{σ:St}{H H':Hp}{s:Shared}{b:Addr}(I:Inv X pins σ H s)(hb:s.heap.objs.size<=b)(hn:H' b=none):FpOk X pins H' b:=by
 refine⟨hn,NK (Nk I.lt hb),I.nofs hb,.inr (Nw I.sz hb),fun x c e z=>?_,fun p hp z=>?_⟩
 ·obtain⟨v,q⟩:=I.cell x c e;exact absurd (Nk q.lt (by rw[z];exact hb)) (NH _)
 ·exact absurd (Nk (Heap.lt_size (I.pin p hp).1) (by rw[z];exact hb)) (NH _)
structure Turn(P:Program)(w:World)(K:Mz)(tg:Expr)(J:It)(fp:List Addr)(it:Addr)(tn:Nat->Heap->Prop):Prop where
 mem:it∈fp
 obj:∀ i h,tn i h->∀ b∈fp,∃ o,h.get? b=some o/\∀ v,o.data≠.cell v
 keep:∀ i h h',tn i h->(∀ b∈fp,∀ o,h.get? b=some o->h'.get? b=some o)->tn i h'
 item:∀(X:Cx),X.prog=P->X.w=w->X.K=K->X.calm=true->∀(i:Nat)(pins:List (Addr×Obj))(s:Shared)(σ:St)(H:Hp)(E:Value->Shared->Prop),Inv X pins σ H s->(∀ b∈fp,FpOk X pins H b)->tn i s.heap->J.go i H ->
  wpAny (model P w) X.A (pyNext (.ref it)) (fun r s1=>∃ u,r=some u /\
   wpAny (model P w) X.A (letOwnedTupleGo tg (.ref it) u) (fun _ s2=>∃ x H',Inv X pins σ H' s2/\RelV x u/\J.yld i H x H'/\tn (i+1) s2.heap/\∀ b∈fp,H' b=none) E s1) E s
 done:∀(X:Cx),X.prog=P->X.w=w->X.K=K->X.calm=true->∀(i:Nat)(pins:List (Addr×Obj))(s:Shared)(σ:St)(H:Hp)(E:Value->Shared->Prop),Inv X pins σ H s->(∀ b∈fp,FpOk X pins H b)->tn i s.heap->J.stop i H ->
  wpAny (model P w) X.A (pyNext (.ref it)) (fun r s1=>r=none/\Inv X pins σ H s1) E s
 self:∀(A:Around)(i:Nat)(s:Shared)(Q:Value->Shared->Prop)(E:Value->Shared->Prop),tn i s.heap->Q (.ref it) s->wpAny (model P w) A (pyIter (.ref it)) Q E s
abbrev TI:=St->Hp->(It->Hp->Prop)->Prop
def PIE(X:Cx)(pins:List (Addr×Obj))(σ:St)(tg:Expr)(R:It->Hp->Prop)(itv:Value)(s2:Shared):Prop :=
 ∃(it:Addr)(fp:List Addr)(tn:Nat->Heap->Prop)(J:It)(H':Hp),itv=.ref it/\Inv X pins σ H' s2/\Turn X.prog X.w X.K tg J fp it tn/\tn 0 s2.heap/\(∀ b∈fp,FpOk X pins H' b)/\R J H'
def PI(X:Cx)(tg iter:Expr)(wi:TI):Prop :=
 ∀(pins:List (Addr×Obj))(s:Shared)(σ:St)(H:Hp)(R:It->Hp->Prop),Inv X pins σ H s->wi σ H R ->
  wpAny (model X.prog X.w) X.A (eval iter X.env) (fun v s1=>wpAny (model X.prog X.w) X.A (pyIter v) (PIE X pins σ tg R) X.xe s1) X.xe s
theorem JH{M:Model}{A:Around}{E:Value->Shared->Prop}{s:Shared}{tg:Expr}{it:Addr}{u:Value}{o:Obj}{n:String}{vs:Array Value}{Q:Unit->Shared->Prop}(ho:s.heap.get? it=some o)(hc:o.cls=.type n)(hd:o.data=.fields vs)
  (hn : ["enumerate","zip","dict_itemiterator","dict_reverseitemiterator","odict_iterator","itertools.zip_longest","itertools.pairwise"].contains n=false) (hQ:Q () s):wpAny M A (letOwnedTupleGo tg (.ref it) u) Q E s:=by
 unfold letOwnedTupleGo
 cases tg<;>first
  |exact wpAny_pure hQ
  | (cases u<;>first
    |exact wpAny_pure hQ
    | (refine wpAny_bind (wpAny_load ho ?_)
       rw[hc,hd]
       show wpAny M A (if(["enumerate","zip","dict_itemiterator","dict_reverseitemiterator","odict_iterator","itertools.zip_longest","itertools.pairwise"].contains n&&vs[0]? == some (rawInt _))=true then _ else _) Q E s
       rw[if_neg (by intro h;rw[hn,OR]at h;cases h)]
       exact wpAny_pure hQ))
def Itl(K:Mz)(a:Addr):It :=
 ⟨fun i H=>∃ xs x,SqL K H a xs/\xs[i]?=some x,fun i H x H'=>H'=H/\∀ xs,SqL K H a xs->xs[i]?=some x,fun i H=>∃ xs,SqL K H a xs/\xs.length<=i⟩
def Itr(lo:Int)(n:Nat):It:=⟨fun i _=>i<n,fun i H x H'=>H'=H/\x=.int (lo+i),fun i _=>n<=i⟩
theorem Fp{P:Program}{w:World}{K:Mz}{tg:Expr}(a it:Addr):Turn P w K tg (Itl K a) [it] it (fun i h=>h.IsListIter it a i) where
 mem:=by simp
 obj:=fun i h st b hb=>by
  have e:b=it:=by simpa using hb
  subst e;obtain⟨o,e,c,d⟩:=st;exact⟨o,e,fun v z=>by rw[d]at z;cases z⟩
 keep:=fun i h h' st k=>st.at fun o e=>k it (by simp) o e
 item:=by
  intro X hP hw hK hc i pins s σ H E I hf st hg;subst hP hw hK;obtain⟨xs,x,hq,hx⟩:=hg;obtain⟨its,rv,p,hz⟩:=I.list hq;obtain⟨u,hu,ru⟩:=rv.get hx;obtain⟨f0,f1,f2,f3,f4,f5⟩:=hf it (by simp)
  refine wpAny_pyNext_list_item st p.isList (x:=u) (by simpa using hu) fun h' st' sb=>?_
  have I1:Inv X pins σ H { s with heap:=h' }:=I.turned (t':=s.toks) (fun b o hb e=>(sb.2 b hb).trans e) f0 f1 f3 f4 f5;obtain⟨o,e,c,d⟩:=id st';exact⟨u,rfl,JH (s:={ s with heap:=h' }) e c d (by decide) ⟨x,H,I1,ru,⟨rfl,fun ys hy=>by rw[I.list_inj hy hq];exact hx⟩,st',fun b hb=>(hf b hb).1⟩⟩
 done:=by
  intro X hP hw hK hc i pins s σ H E I hf st hg;subst hP hw hK;obtain⟨xs,hq,hx⟩:=hg;obtain⟨its,rv,p,hz⟩:=I.list hq;obtain⟨f0,f1,f2,f3,f4,f5⟩:=hf it (by simp)
  have hl:=rv.length;exact wpAny_pyNext_list_end (I.ok.hd hc) st p.isList (by simp;omega) fun h' eb=>⟨rfl,I.turned (t':=s.toks) (fun b o hb e=>eb b o hb e) f0 f1 f3 f4 f5⟩
 self:=fun _ _ _ _ _ st h=>wpAny_pyIter_listiter st h
theorem DM{P:Program}{w:World}{K:Mz}{tg:Expr}(it:Addr)(lo:Int)(n:Nat):Turn P w K tg (Itr lo n) [it] it (fun i h=>IsRangeIter h it (lo+(i:Nat)*1) ((n:Int)-(i:Nat)) 1) where
 mem:=by simp
 obj:=fun i h st b hb=>by
  have e:b=it:=by simpa using hb
  subst e
  exact⟨_,st,fun v z=>by
   have z':Data.fields _=Data.cell v:=z
   cases z'⟩
 keep:=fun i h h' st k=>k it (by simp) _ st
 item:=by
  intro X hP hw hK hc i pins s σ H E I hf st hg;subst hP hw hK;obtain⟨f0,f1,f2,f3,f4,f5⟩:=hf it (by simp)
  have W:=Walks.range (prog:=X.prog) (w:=X.w) (I.ok.hd hc) it lo 1 n;refine W.item i s _ _ hg st fun v h' tk hv st' kk=>?_;obtain⟨t,rfl⟩:=hv;have I1:Inv X pins σ H { s with heap:=h',toks:=tk }:=I.turned (fun b o hb e=>kk b o (by simpa using hb) e) f0 f1 f3 f4 f5
  refine⟨_,rfl,JH (s:={ s with heap:=h',toks:=tk }) (n:="range_iterator") st' rfl rfl (by decide) ⟨.int (lo+i),H,I1,⟨t,?_⟩,⟨rfl,rfl⟩,st',fun b hb=>(hf b hb).1⟩⟩
  rw[Int.mul_one]
 done:=by
  intro X hP hw hK hc i pins s σ H E I hf st hg;subst hP hw hK;obtain⟨f0,f1,f2,f3,f4,f5⟩:=hf it (by simp)
  exact wpAny_pyNext_range_end (I.ok.hd hc) st (by have:n<=i:=hg;omega) fun h' eb=>⟨rfl,I.turned (t':=s.toks) (fun b o hb e=>eb b o hb e) f0 f1 f3 f4 f5⟩
 self:=fun _ _ _ _ _ st h=>wpAny_pyIter_rangeiter st h
end L2
namespace L2
open PySem PySem.Spec PyProof.Rows
section
variable{X:Cx}{tg:Expr}
def iList(K:Mz)(tl:TE):TI:=fun σ H R=>tl σ H fun x H1=>∃ a,x=.ref a/\(∃ xs,SqL K H1 a xs)/\R (Itl K a) H1
theorem aX{l:Expr}{tl:TE}(hl:PE X l tl):PI X tg l (iList X.K tl):=by
 intro pins s σ H R I h;refine thn (hl pins s σ H _ I h) fun v s1 ⟨x,H1,I1,r1,q1⟩=>?_;obtain⟨a,e,⟨xs,hq⟩,q⟩:=q1;subst e
 cases r1
 obtain⟨its,rv,p,hz⟩:=I1.list hq;refine wpAny_pyIter_list p.isList ?_;refine⟨s1.heap.objs.size,[s1.heap.objs.size],_,_,H1,rfl,I1.kept (t':=s1.toks) fun b o e=>Heap.get?_push_of_some _ e,Fp a _,⟨_,Heap.get?_push_size _ rfl,rfl,rfl⟩,fun b hb=>?_,q⟩;have e:b=s1.heap.objs.size:=by simpa using hb
 subst e;exact I1.fpOk (MC _) (I1.hok.fresh (MC _))
theorem IX{pins:List (Addr×Obj)}{σ:St}{H:Hp}{s:Shared}{R:It->Hp->Prop}{E:Value->Shared->Prop}{lo hi:Int}{t u v:Tok}{tk:Nat}(I:Inv X pins σ H s)(h1 : -(2^62)<=lo)(h2:lo<2^62)(h3 : -(2^62)<=hi)(h4:hi<2^62)
  (q:R (Itr lo (hi-lo).toNat) H):wpAny (model X.prog X.w) X.A (pyIter (.ref s.heap.objs.size)) (PIE X pins σ tg R) E { s with heap:=s.heap.push { cls:=.type "range",data:=.fields #[.int lo t,.int hi u,.int 1 v] },toks:=tk }:=by
 refine wpAny_pyIter_range (IsRange.new ..) (small_one h1 h2 h3 h4) ?_;have I1:Inv X pins σ H { s with heap:=s.heap.push { cls:=.type "range",data:=.fields #[.int lo t,.int hi u,.int 1 v] },toks:=tk }:=I.kept fun b o e=>Heap.get?_push_of_some _ e
 refine⟨(s.heap.push { cls:=.type "range",data:=.fields #[.int lo t,.int hi u,.int 1 v] }).objs.size,[(s.heap.push { cls:=.type "range",data:=.fields #[.int lo t,.int hi u,.int 1 v] }).objs.size],_,_,H,rfl,
  I1.kept (t':=tk) fun b o e=>Heap.get?_push_of_some _ e,DM _ lo (hi-lo).toNat,?_,fun b hb=>?_,q⟩
 ·have e1:lo+((0:Nat):Int)*1=lo:=by simp
  have e2:(((hi-lo).toNat:Nat):Int)-((0:Nat):Int)=Builtin.Range.rangeSize lo hi 1:=by rw[rangeSize_one];split<;>omega +splitDisjunctions
  show IsRangeIter _ _ (lo+((0:Nat):Int)*1) ((((hi-lo).toNat:Nat):Int)-((0:Nat):Int)) 1;rw[e1,e2];exact Heap.get?_push_size _ rfl
 ·have e:b=(s.heap.push { cls:=.type "range",data:=.fields #[.int lo t,.int hi u,.int 1 v] }).objs.size:=by simpa using hb
  subst e;exact I1.fpOk (MC _) (I1.hok.fresh (MC _))
def iRng1(ta:TA):TI:=fun σ H R=>ta σ H fun vs H1=>∃ j:Int,vs = [.int j]/\-(2^62)<=j/\j<2^62/\R (Itr 0 j.toNat) H1
theorem b4{a:Expr}{ta:TA}{p pos:Pos} (hg:Gl X "range") (hm:X.mg "range" = none) (ha:PA X [a] ta) (hs:starEach [a] X.env = [(false,eval a X.env)]:=by rfl):PI X tg (.Call (.Name "range" p) [a] [] pos) (iRng1 ta):=by
 intro pins s σ H R I h;refine Call_ (jZ I hg hm boot_range (PyProof.Rows.callWith_type1 (thn (ha pos pins s σ H _ I h) fun us s1 ⟨vs,H1,I1,r1,q1⟩=>?_) hs rfl));obtain⟨j,e,q1,q2,q⟩:=q1;subst e
 cases r1 with
 |cons r rr =>
  cases rr
  obtain⟨t,rfl⟩:=r;exact call_range_1 (IX I1 (by omega) (by omega) q1 q2 (by simpa using q))
def tFor(wi:TI)(g:TG)(tb:TS):TS:=fun D σ H=>wi σ H fun J H1=>∃ W:Nat->Nat->St->Hp->Prop,(∃ m,W 0 m σ H1)/\∀ i m σ H,W i m σ H ->
 (J.stop i H/\D.nx σ H)∨(J.go i H/\∃ N:St->Hp->Prop,(∀ σ' H',N σ' H'->∃ m',m'<m/\W (i+1) m' σ' H')/\∀ x H',J.yld i H x H'->g x σ H' fun σ2 H2=>tb { D with nx:=N,ct:=N,bk:=D.nx } σ2 H2)
def sY(fp:List Addr)(h:Heap):List (Addr×Obj):=fp.filterMap fun b=>(h.get? b).map fun o=>(b,o)
theorem c9{fp:List Addr}{h:Heap}{b:Addr}{o:Obj}(hb:b∈fp)(e:h.get? b=some o):(b,o)∈sY fp h:=P6.mpr ⟨b,hb,by rw[e];rfl⟩
theorem Gn{fp:List Addr}{h:Heap}{p:Addr×Obj}(hp:p∈sY fp h):p.1∈fp/\h.get? p.1=some p.2:=by
 obtain⟨b,hb,e⟩:=P6.mp hp
 cases q:h.get? b with
 |none=>rw[q]at e;cases e
 |some o =>
  rw[q]at e;have e':(b,o)=p:=MN e;subst e';exact⟨hb,q⟩
theorem Inv.pinned{pins:List (Addr×Obj)}{σ:St}{H:Hp}{s:Shared}{fp:List Addr}(I:Inv X pins σ H s)(hf:∀ b∈fp,FpOk X pins H b)(ho:∀ b∈fp,∃ o,s.heap.get? b=some o/\∀ v,o.data≠.cell v):Inv X (pins++sY fp s.heap) σ H s :=
 I.pins_of fun p hp=>(MH.mp hp).elim (fun z=>I.pin p (MK _ z)) fun z=>by
  obtain⟨hb,e⟩:=Gn z;obtain⟨f0,f1,f2,_⟩:=hf p.1 hb;obtain⟨o,e',d⟩:=ho p.1 hb;rw[e]at e';cases e';exact⟨e,f0,f1,f2,d⟩
theorem Inv.unpinned{pins pl:List (Addr×Obj)}{σ:St}{H:Hp}{s:Shared}(I:Inv X (pins++pl) σ H s):Inv X pins σ H s:=I.pins_of fun p hp=>I.pin p (MK _ (Ng _ hp))
theorem bP{iter:Expr}{body:List Stmt}{wi:TI}{g:TG}{tb:TS}{pos:Pos}(hp:PassesOwn (model X.prog X.w) X.A X.env X.xe)(hc:X.calm=true)(hi:PI X tg iter wi)(hg:PG X tg g)(hb:PSs X body tb)
  (hs:∀ x,foldedSetIterable iter X.env x=pure x:=by intro _;rfl):PS X (.For tg iter body [] pos) (tFor wi g tb):=by
 intro pins s σ H D I h;refine wpAny_For (thn (hi pins s σ H _ I h) fun v s1 h1=>thn h1 fun itv s2 h2=>?_) hs;obtain⟨it,fp,tn,J,H2,e,I2,T,st2,f2,W,⟨m0,w0⟩,turn⟩:=h2;subst e;have stat:∀{H':Hp},(∀ b∈fp,H' b=none)->∀ b∈fp,FpOk X pins H' b:=fun hn b hb=>⟨hn b hb,(f2 b hb).2⟩;refine codeAny_forLoop_any (fun n s'=>∃ i σ' H',Inv X pins σ' H' s'/\tn i s'.heap/\(∀ b∈fp,H' b=none)/\W i n σ' H') ?_ m0 ⟨0,σ,H2,I2,st2,fun b hb=>(f2 b hb).1,w0⟩;rintro n s3 ⟨i,σ3,H3,I3,st3,fr3,w3⟩;rcases turn i n σ3 H3 w3 with⟨stop,qn⟩ | ⟨go,N,hN,step⟩
 ·refine wpAny_passesOwn hp (thn (T.done X rfl rfl rfl hc i pins s3 σ3 H3 X.xe I3 (stat fr3) st3 stop) fun r s4 ⟨hr,I4⟩=>?_);subst hr;exact wpAny_execs_nil ⟨σ3,H3,I4,qn⟩
 ·refine wpAny_passesOwn hp (thn (T.item X rfl rfl rfl hc i pins s3 σ3 H3 X.xe I3 (stat fr3) st3 go) fun r s4 ⟨u,hr,h4⟩=>?_);subst hr;refine wpAny_passesOwn hp (thn h4 fun _ s5 ⟨x,H5,I5,r5,y5,st5,fr5⟩=>?_);have I5':=I5.pinned (stat fr5) (T.obj _ _ st5);refine wpAny_passesOwn hp (thn (hg _ s5 σ3 H5 x u _ I5' r5 (step x H5 y5)) fun _ s6 ⟨σ6,H6,I6,q6⟩=>?_);refine wpAny_passesOwn hp (thn (hb _ s6 σ6 H6 _ I6 q6) fun f s7 q7=>?_);have again:∀{σ7:St}{H7:Hp},Inv X (pins++sY fp s5.heap) σ7 H7 s7->N σ7 H7->∃ m,m<n/\∃ i σ' H',Inv X pins σ' H' s7/\tn i s7.heap/\(∀ b∈fp,H' b=none)/\W i m σ' H':=fun{σ7 H7} I7 n7=>by
   obtain⟨m',hm,w7⟩:=hN σ7 H7 n7;refine⟨m',hm,i+1,σ7,H7,I7.unpinned,T.keep _ _ _ st5 fun b hb o e=>(I7.pin (b,o) (MK _ (MK _ (c9 hb e)))).1,fun b hb=>?_,w7⟩;obtain⟨o,e,d⟩:=T.obj _ _ st5 b hb;exact(I7.pin (b,o) (MK _ (MK _ (c9 hb e)))).2.1
  cases f with
  |next=>obtain⟨σ7,H7,I7,n7⟩:=q7;exact again I7 n7
  |cont=>obtain⟨σ7,H7,I7,n7⟩:=q7;exact again I7 n7
  |brk=>obtain⟨σ7,H7,I7,q7⟩:=q7;exact⟨σ7,H7,I7.unpinned,q7⟩
  |ret v=>obtain⟨x7,σ7,H7,I7,r7,q7⟩:=q7;exact⟨x7,σ7,H7,I7.unpinned,r7,q7⟩
end
theorem b6{K:Mz}{a:Addr}{xs:List V}{g:TG}{tb:TS}{D:Ends}{σ:St}{H:Hp}(Pv:Nat->St->Hp->Prop)(h0:Pv 0 σ H)(hl:∀ i σ H,i<=xs.length->Pv i σ H->SqL K H a xs)
  (hs:∀ i x σ H,xs[i]?=some x->Pv i σ H->g x σ H fun σ2 H2=>tb { D with nx:=Pv (i+1),ct:=Pv (i+1),bk:=D.nx } σ2 H2) (hd:∀ σ H,Pv xs.length σ H->D.nx σ H) :
  ∃ W:Nat->Nat->St->Hp->Prop,(∃ m,W 0 m σ H)/\∀ i m σ H,W i m σ H ->
   ((Itl K a).stop i H/\D.nx σ H)∨((Itl K a).go i H/\∃ N:St->Hp->Prop,(∀ σ' H',N σ' H'->∃ m',m'<m/\W (i+1) m' σ' H')/\∀ x H',(Itl K a).yld i H x H'->g x σ H' fun σ2 H2=>tb { D with nx:=N,ct:=N,bk:=D.nx } σ2 H2):=by
 refine⟨fun i m σ H=>m=xs.length-i/\i<=xs.length/\Pv i σ H,⟨xs.length,by simp,NA _,h0⟩,?_⟩
 rintro i m σ H ⟨rfl,hi,p⟩;have q:=hl i σ H hi p;by_cases hlt:i<xs.length
 ·refine .inr ⟨⟨xs,xs[i],q,by simp[hlt]⟩,Pv (i+1),fun σ' H' p'=>⟨xs.length-(i+1),by omega,rfl,hlt,p'⟩,fun x H' y=>?_⟩
  obtain⟨e,y⟩:=y;subst e;exact hs i x σ _ (y xs q) p
 ·have e:i=xs.length:=by omega
  subst e;exact .inl ⟨⟨xs,q,MC _⟩,hd σ H p⟩
theorem dv{lo:Int}{n:Nat}{g:TG}{tb:TS}{D:Ends}{σ:St}{H:Hp}(Pv:Nat->St->Hp->Prop)(h0:Pv 0 σ H)
  (hs:∀ i σ H,i<n->Pv i σ H->g (.int (lo+i)) σ H fun σ2 H2=>tb { D with nx:=Pv (i+1),ct:=Pv (i+1),bk:=D.nx } σ2 H2) (hd:∀ σ H,Pv n σ H->D.nx σ H) :
  ∃ W:Nat->Nat->St->Hp->Prop,(∃ m,W 0 m σ H)/\∀ i m σ H,W i m σ H ->
   ((Itr lo n).stop i H/\D.nx σ H)∨((Itr lo n).go i H/\∃ N:St->Hp->Prop,(∀ σ' H',N σ' H'->∃ m',m'<m/\W (i+1) m' σ' H')/\∀ x H',(Itr lo n).yld i H x H'->g x σ H' fun σ2 H2=>tb { D with nx:=N,ct:=N,bk:=D.nx } σ2 H2):=by
 refine⟨fun i m σ H=>m=n-i/\i<=n/\Pv i σ H,⟨n,by simp,NA _,h0⟩,?_⟩
 rintro i m σ H ⟨rfl,hi,p⟩;by_cases hlt:i<n
 ·refine .inr ⟨hlt,Pv (i+1),fun σ' H' p'=>⟨n-(i+1),by omega,rfl,hlt,p'⟩,fun x H' y=>?_⟩
  obtain⟨e,y⟩:=y;subst e y;exact hs i σ _ hlt p
 ·have e:i=n:=by omega
  subst e;exact .inl ⟨MC _,hd σ H p⟩
theorem tW{c:TT}{tb:TS}{D:Ends}{σ:St}{H:Hp}(Pv:St->Hp->Prop)(μ:St->Hp->Nat)(h0:Pv σ H)
  (hs:∀ σ H,Pv σ H->c σ H fun b H1=>if b=true then tb { D with nx:=fun σ' H'=>Pv σ' H'/\μ σ' H'<μ σ H,ct:=fun σ' H'=>Pv σ' H'/\μ σ' H'<μ σ H,bk:=D.nx } σ H1 else D.nx σ H1)
  (mono:∀ σ H Q Q',(∀ b H1,Q b H1->Q' b H1)->c σ H Q->c σ H Q'):JZ c tb D σ H:=by
 refine⟨fun m σ H=>m=μ σ H/\Pv σ H,⟨_,rfl,h0⟩,?_⟩;rintro m σ H ⟨rfl,p⟩;refine mono σ H _ _ (fun b H1 q=>?_) (hs σ H p)
 cases b with
 |true=>exact⟨_,fun σ' H' ⟨p',l⟩=>⟨_,l,rfl,p'⟩,q⟩
 |false=>exact q
end L2
namespace L2
open PySem PySem.Spec PyProof.Rows
abbrev R2:=V->V->Hp->VK->Prop
def OpR(X:Cx)(f:Value->Value->Sem Value)(r:R2):Prop :=
 ∀(pins:List (Addr×Obj))(s:Shared)(σ:St)(H:Hp)(x y:V)(v u:Value)(Q:VK),Inv X pins σ H s->RelV x v->RelV y u->r x y H Q ->
  wpAny (model X.prog X.w) X.A (f v u) (EP X pins σ Q) X.xe s
def UnR(X:Cx)(f:Value->Sem Value)(r:V->Hp->VK->Prop):Prop :=
 ∀(pins:List (Addr×Obj))(s:Shared)(σ:St)(H:Hp)(x:V)(v:Value)(Q:VK),Inv X pins σ H s->RelV x v->r x H Q ->
  wpAny (model X.prog X.w) X.A (f v) (EP X pins σ Q) X.xe s
def nG(X:Cx)(f:Value)(r:List V->Hp->VK->Prop):Prop :=
 ∀(pins:List (Addr×Obj))(s:Shared)(σ:St)(H:Hp)(xs:List V)(us:List Value)(Q:VK),Inv X pins σ H s->Vals xs us->r xs H Q ->
  wpAny (model X.prog X.w) X.A (call f us) (EP X pins σ Q) X.xe s
def tOp(r:R2)(ta tb:TE):TE:=fun σ H Q=>ta σ H fun x H1=>tb σ H1 fun y H2=>r x y H2 Q
def tUn(r:V->Hp->VK->Prop)(ta:TE):TE:=fun σ H Q=>ta σ H fun x H1=>r x H1 Q
def rI(C:Int->Int->Prop)(g:Int->Int->V):R2:=fun x y H Q=>∃ i j,x=.int i/\y=.int j/\C i j/\Q (g i j) H
def rI0(g:Int->Int->V):R2:=fun x y H Q=>∃ i j,x=.int i/\y=.int j/\Q (g i j) H
def rU(g:Int->V):V->Hp->VK->Prop:=fun x H Q=>∃ i,x=.int i/\Q (g i) H
section
variable{X:Cx}{a b c:Expr}{ta tb tc:TE}{pos:Pos}
theorem binT(ha:PE X a ta)(hb:PE X b tb){pins:List (Addr×Obj)}{s:Shared}{σ:St}{H:Hp}{R:V->V->Hp->Prop}(I:Inv X pins σ H s)
  (h:ta σ H fun x H1=>tb σ H1 fun y H2=>R x y H2) {Q:Value->Shared->Prop} {f:Value->Value->Sem Value}
  (hf:∀ v u s2 x y H2,Inv X pins σ H2 s2->RelV x v->RelV y u->R x y H2->wpAny (model X.prog X.w) X.A (f v u) Q X.xe s2) :
  wpAny (model X.prog X.w) X.A (eval a X.env) (fun v s₁=>wpAny (model X.prog X.w) X.A (eval b X.env) (fun u s₂=>wpAny (model X.prog X.w) X.A (f v u) Q X.xe s₂) X.xe s₁) X.xe s:=by
 refine thn (ha pins s σ H _ I h) fun v s1 ⟨x,H1,I1,r1,q1⟩=>?_;refine thn (hb pins s1 σ H1 _ I1 q1) fun u s2 ⟨y,H2,I2,r2,q2⟩=>?_;exact hf v u s2 x y H2 I2 r1 r2 q2
theorem av{op:Operator}{r:R2}(ho:OpR X (binaryOp op) r)(ha:PE X a ta)(hb:PE X b tb):PE X (.BinOp a op b pos) (tOp r ta tb):=by
 intro pins s σ H Q I h;exact wpAny_BinOp (binT ha hb I h fun v u s2 x y H2 I2 rx ry q=>ho pins s2 σ H2 x y v u Q I2 rx ry q)
theorem pe_un{op:UnaryOp}{r:V->Hp->VK->Prop}(ho:UnR X (unaryOp op) r)(ha:PE X a ta):PE X (.UnaryOp op a pos) (tUn r ta):=by
 intro pins s σ H Q I h;exact UnaryOp_ (thn (ha pins s σ H _ I h) fun v s1 ⟨x,H1,I1,r1,q1⟩=>ho pins s1 σ H1 x v Q I1 r1 q1)
theorem opI{f:Value->Value->Sem Value}{C:Int->Int->Prop}{g:Int->Int->Int}
  (rule:∀(i j:Int)(t u:Tok)(s:Shared)(Q:Value->Shared->Prop)(E:Value->Shared->Prop),C i j->Q (.int (g i j) s.toks) { s with toks:=s.toks+1 }->wpAny (model X.prog X.w) X.A (f (.int i t) (.int j u)) Q E s) :
  OpR X f (rI C fun i j=>.int (g i j)):=by
 intro pins s σ H x y v u Q I rx ry h;obtain⟨i,j,rfl,rfl,hc,q⟩:=h;obtain⟨t,rfl⟩:=rx;obtain⟨t',rfl⟩:=ry;exact rule i j t t' s _ _ hc ⟨.int (g i j),H,I.tok _,⟨_,rfl⟩,q⟩
theorem opI0{f:Value->Value->Sem Value}{g:Int->Int->Int}
  (rule:∀(i j:Int)(t u:Tok)(s:Shared)(Q:Value->Shared->Prop)(E:Value->Shared->Prop),Q (.int (g i j) s.toks) { s with toks:=s.toks+1 }->wpAny (model X.prog X.w) X.A (f (.int i t) (.int j u)) Q E s) :
  OpR X f (rI0 fun i j=>.int (g i j)):=by
 intro pins s σ H x y v u Q I rx ry h;obtain⟨i,j,rfl,rfl,q⟩:=h;obtain⟨t,rfl⟩:=rx;obtain⟨t',rfl⟩:=ry;exact rule i j t t' s _ _ ⟨.int (g i j),H,I.tok _,⟨_,rfl⟩,q⟩
theorem opB0{f:Value->Value->Sem Value}{g:Int->Int->Bool}
  (rule:∀(i j:Int)(t u:Tok)(s:Shared)(Q:Value->Shared->Prop)(E:Value->Shared->Prop),Q (.bool (g i j)) s->wpAny (model X.prog X.w) X.A (f (.int i t) (.int j u)) Q E s) :
  OpR X f (rI0 fun i j=>.bl (g i j)):=by
 intro pins s σ H x y v u Q I rx ry h;obtain⟨i,j,rfl,rfl,q⟩:=h;obtain⟨t,rfl⟩:=rx;obtain⟨t',rfl⟩:=ry;exact rule i j t t' s _ _ ⟨.bl (g i j),H,I,rfl,q⟩
def CDiv(i j:Int):Prop:=0<j/\j<1073741824
def CPow(i j:Int):Prop:=0<=j/\j<=1000000/\i.natAbs<2^64
def CMul(i j:Int):Prop:=(-(2^64)<i/\i<2^64)∨(-(2^64)<j/\j<2^64)
theorem CMul.ok{i j:Int}(h:CMul i j):IntMulOk i j:=by
 rcases h with⟨h1,h2⟩ | ⟨h1,h2⟩
 ·exact .of_left (intBits_le_64 h1 h2)
 ·exact .of_right (intBits_le_64 h1 h2)
theorem DL(k:Nat):(0:Int)<=2^k:=by
 rw[two_pow_cast];exact Pk _
theorem bJ:OpR X (binaryOp .Add) (rI0 fun i j=>.int (i+j)):=opI0 fun _ _ _ _ _ _ _ q=>add_int q
theorem pZ:OpR X (binaryOp .Sub) (rI0 fun i j=>.int (i-j)):=opI0 fun _ _ _ _ _ _ _ q=>sub_int q
theorem dI:OpR X (binaryOp .Mult) (rI CMul fun i j=>.int (i*j)):=opI fun _ _ _ _ _ _ _ hc q=>mul_int q hc.ok
theorem dw:OpR X (binaryOp .FloorDiv) (rI CDiv fun i j=>.int (i/j)):=opI fun i j _ _ _ _ _ hc q=>by
 have h1:(0:Int)<j:=hc.1;have h2:j<1073741824:=hc.2;exact floordiv_int (by omega) (by rw[Qp i (by omega)];exact q) (.inl (PyProof.noPylong_small (by omega)))
theorem bI:OpR X (binaryOp .Mod) (rI (fun _ j=>0<j) fun i j=>.int (i%j)):=opI fun i j _ _ _ _ _ hc q=>by
 have h1:(0:Int)<j:=hc;exact mod_int' (by omega) (by rw[Int.fmod_eq_emod_of_nonneg i (by omega)];exact q)
theorem op_pow:OpR X (binaryOp .Pow) (rI CPow fun i j=>.int (i^j.toNat)):=opI fun _ _ _ _ _ _ _ hc q=>pow_int_small hc.1 hc.2.1 hc.2.2 q
theorem fx:OpR X (binaryOp .LShift) (rI CPow fun i j=>.int (i*2^j.toNat)):=opI fun _ _ _ _ _ _ _ hc q=>lshift_int_small hc.1 hc.2.1 hc.2.2 q
theorem qc:OpR X (binaryOp .RShift) (rI (fun _ j=>0<=j) fun i j=>.int (i/2^j.toNat)):=opI fun i j _ _ _ _ _ hc q =>
 rshift_int hc (by rw[Qp i (DL _)];exact q)
theorem sZ:OpR X (binaryOp .BitAnd) (rI0 fun i j=>.int (Builtin.bitAnd i j)):=opI0 fun _ _ _ _ _ _ _ q=>and_int q
theorem AW:OpR X (binaryOp .BitOr) (rI0 fun i j=>.int (Builtin.bitOr i j)):=opI0 fun _ _ _ _ _ _ _ q=>or_int q
theorem op_xor:OpR X (binaryOp .BitXor) (rI0 fun i j=>.int (Builtin.bitXor i j)):=opI0 fun _ _ _ _ _ _ _ q=>xor_int q
theorem unI{f:Value->Sem Value}{g:Int->Int}
  (rule:∀(i:Int)(t:Tok)(s:Shared)(Q:Value->Shared->Prop)(E:Value->Shared->Prop),Q (.int (g i) s.toks) { s with toks:=s.toks+1 }->wpAny (model X.prog X.w) X.A (f (.int i t)) Q E s) :
  UnR X f (rU fun i=>.int (g i)):=by
 intro pins s σ H x v Q I rx h;obtain⟨i,rfl,q⟩:=h;obtain⟨t,rfl⟩:=rx;exact rule i t s _ _ ⟨.int (g i),H,I.tok _,⟨_,rfl⟩,q⟩
theorem un_neg:UnR X (unaryOp .USub) (rU fun i=>.int (-i)):=unI fun _ _ _ _ _ q=>neg_int q
end
def scal:V->V->Bool
 |.non,.non=>true | .non,.int _=>true | .int _,.non=>true | .non,.bl _=>true | .bl _,.non=>true | .non,.str _=>true | .str _,.non=>true
 |.int _,.int _=>true | .bl _,.bl _=>true | .str _,.str _=>true | .byt _,.byt _=>true
 |.int _,.str _=>true | .str _,.int _=>true | .bl _,.str _=>true | .str _,.bl _=>true
 |_,_=>false
def rEq:R2:=fun x y H Q=>scal x y=true/\Q (.bl (decide (x=y))) H
def rNe:R2:=fun x y H Q=>scal x y=true/\Q (.bl (!decide (x=y))) H
theorem Hz{i j:Int}:decide (V.int i=V.int j)=(i == j):=by
 rw[PZ];simp
theorem Kp{i j:Bool}:decide (V.bl i=V.bl j)=(i == j):=by
 rw[PZ];simp
theorem Hy{i j:Str}:decide (V.str i=V.str j)=(i == j):=by
 rw[PZ];simp
theorem HD{i j:Array UInt8}:decide (V.byt i=V.byt j)=(i.toList == j.toList):=by
 rw[PZ]
 cases i
 cases j
 simp
section
variable{X:Cx}{a b c:Expr}{ta tb tc:TE}{pos:Pos}
theorem bb{pins:List (Addr×Obj)}{σ:St}{H:Hp}{s:Shared}{Q:VK}{k k':Bool}(I:Inv X pins σ H s)(q:Q (.bl k) H)(e:k=k'):EP X pins σ Q (.bool k') s:=by
 subst e;exact⟨.bl k,H,I,rfl,q⟩
theorem qg:OpR X (compareOp .Eq) rEq:=by
 intro pins s σ H x y v u Q I rx ry h;obtain⟨hs,q⟩:=h
 cases x with
 |non =>
  cases rx
  cases y with
  |non=>cases ry;exact PySem.EqNone.eq_none_none (bb I q (by simp))
  |bl j=>cases ry;exact PySem.EqNone.eq_none_bool (bb I q (by simp))
  |int j=>obtain⟨t',rfl⟩:=ry;exact PySem.EqNone.eq_none_int (bb I q (by simp))
  |str j=>obtain⟨t',rfl⟩:=ry;exact PySem.EqNone.eq_none_str (bb I q (by simp))
  |_=>exact absurd (show false=true from hs) MQ
 |bl i =>
  cases rx
  cases y with
  |non=>cases ry;exact PySem.EqNone.eq_bool_none (bb I q (by simp))
  |bl j=>cases ry;exact eq_bool (bb I q Kp)
  |str j=>obtain⟨t',rfl⟩:=ry;exact PySem.EqMixed.eq_bool_str (bb I q (by simp))
  |_=>exact absurd (show false=true from hs) MQ
 |int i =>
  obtain⟨t,rfl⟩:=rx
  cases y with
  |non=>cases ry;exact PySem.EqNone.eq_int_none (bb I q (by simp))
  |int j=>obtain⟨t',rfl⟩:=ry;exact eq_int (bb I q Hz)
  |str j=>obtain⟨t',rfl⟩:=ry;exact PySem.EqMixed.eq_int_str (bb I q (by simp))
  |_=>exact absurd (show false=true from hs) MQ
 |str i =>
  obtain⟨t,rfl⟩:=rx
  cases y with
  |non=>cases ry;exact PySem.EqNone.eq_str_none (bb I q (by simp))
  |bl j=>cases ry;exact PySem.EqMixed.eq_str_bool (bb I q (by simp))
  |int j=>obtain⟨t',rfl⟩:=ry;exact PySem.EqMixed.eq_str_int (bb I q (by simp))
  |str j=>obtain⟨t',rfl⟩:=ry;exact eq_str (bb I q Hy)
  |_=>exact absurd (show false=true from hs) MQ
 |byt i =>
  obtain⟨t,rfl⟩:=rx
  cases y with
  |byt j=>obtain⟨t',rfl⟩:=ry;exact PySem.W.eq_bytes (bb I q HD)
  |_=>exact absurd (show false=true from hs) MQ
 |_=>cases y<;>exact absurd (show false=true from hs) MQ
theorem qd:OpR X (compareOp .NotEq) rNe:=by
 intro pins s σ H x y v u Q I rx ry h;obtain⟨hs,q⟩:=h
 cases x with
 |non =>
  cases rx
  cases y with
  |non=>cases ry;exact PySem.EqNone.ne_none_none (bb I q (by simp))
  |bl j=>cases ry;exact PySem.EqNone.ne_none_bool (bb I q (by simp))
  |int j=>obtain⟨t',rfl⟩:=ry;exact PySem.EqNone.ne_none_int (bb I q (by simp))
  |str j=>obtain⟨t',rfl⟩:=ry;exact PySem.EqNone.ne_none_str (bb I q (by simp))
  |_=>exact absurd (show false=true from hs) MQ
 |bl i =>
  cases rx
  cases y with
  |non=>cases ry;exact PySem.EqNone.ne_bool_none (bb I q (by simp))
  |bl j=>cases ry;exact ne_bool (bb I q (congrArg not Kp))
  |str j=>obtain⟨t',rfl⟩:=ry;exact PySem.EqMixed.ne_bool_str (bb I q (by simp))
  |_=>exact absurd (show false=true from hs) MQ
 |int i =>
  obtain⟨t,rfl⟩:=rx
  cases y with
  |non=>cases ry;exact PySem.EqNone.ne_int_none (bb I q (by simp))
  |int j=>obtain⟨t',rfl⟩:=ry;exact ne_int (bb I q (congrArg not Hz))
  |str j=>obtain⟨t',rfl⟩:=ry;exact PySem.EqMixed.ne_int_str (bb I q (by simp))
  |_=>exact absurd (show false=true from hs) MQ
 |str i =>
  obtain⟨t,rfl⟩:=rx
  cases y with
  |non=>cases ry;exact PySem.EqNone.ne_str_none (bb I q (by simp))
  |bl j=>cases ry;exact PySem.EqMixed.ne_str_bool (bb I q (by simp))
  |int j=>obtain⟨t',rfl⟩:=ry;exact PySem.EqMixed.ne_str_int (bb I q (by simp))
  |str j=>obtain⟨t',rfl⟩:=ry;exact ne_str (bb I q (congrArg not Hy))
  |_=>exact absurd (show false=true from hs) MQ
 |byt i =>
  obtain⟨t,rfl⟩:=rx
  cases y with
  |byt j=>obtain⟨t',rfl⟩:=ry;exact PySem.W.ne_bytes (bb I q (congrArg not HD))
  |_=>exact absurd (show false=true from hs) MQ
 |_=>cases y<;>exact absurd (show false=true from hs) MQ
theorem F7:OpR X (compareOp .Lt) (rI0 fun i j=>.bl (decide (i<j))):=opB0 fun _ _ _ _ _ _ _ q=>lt_int q
theorem op_le:OpR X (compareOp .LtE) (rI0 fun i j=>.bl (decide (i<=j))):=opB0 fun _ _ _ _ _ _ _ q=>le_int q
theorem op_gt:OpR X (compareOp .Gt) (rI0 fun i j=>.bl (decide (j<i))):=opB0 fun _ _ _ _ _ _ _ q=>gt_int q
theorem op_ge:OpR X (compareOp .GtE) (rI0 fun i j=>.bl (decide (j<=i))):=opB0 fun _ _ _ _ _ _ _ q=>ge_int q
theorem op_isN:OpR X (compareOp .Is) (fun x y H Q=>y=.non/\Q (.bl (decide (x=.non))) H):=by
 intro pins s σ H x y v u Q I rx ry h;obtain⟨rfl,q⟩:=h
 cases ry
 refine is_none_gen (bb I q ?_)
 cases x<;>first
  | (cases rx;rfl)
  | (obtain⟨t,rfl⟩:=rx;rfl)
theorem aV(b:Expr){op:CmpOp}(h:op≠.In:=by decide)(h2:op≠.NotIn:=by decide):behindInMarks op b=false:=by
 have e1:(op == CmpOp.In)=false:=by cases op<;>first | rfl | exact absurd rfl h
 have e2:(op == CmpOp.NotIn)=false:=by cases op<;>first | rfl | exact absurd rfl h2
 cases b<;>simp[behindInMarks,e1,e2]
theorem AV{op:CmpOp}{r:R2}(ho:OpR X (compareOp op) r)(ha:PE X a ta)(hb:PE X b tb)(hm:behindInMarks op b=false):PE X (.Compare a [op] [b] pos) (tOp r ta tb):=by
 intro pins s σ H Q I h;exact wpAny_Compare1 (binT ha hb I h fun v u s2 x y H2 I2 rx ry q=>ho pins s2 σ H2 x y v u Q I2 rx ry q) hm
def tTest(t:TE):TT:=fun σ H Q=>t σ H fun x H'=>∃ k,x=.bl k/\Q k H'
theorem aL{op:CmpOp}{r:R2}(ho:OpR X (compareOp op) r)(ha:PE X a ta)(hb:PE X b tb)(hm:behindInMarks op b=false):PT X (.Compare a [op] [b] pos) (tTest (tOp r ta tb)):=by
 intro pins s σ H Q I h
 refine wpAny_isTrue_Compare1 (thn (ha pins s σ H _ I h) fun v s1 ⟨x,H1,I1,r1,q1⟩=>thn (hb pins s1 σ H1 _ I1 q1) fun u s2 ⟨y,H2,I2,r2,q2⟩ =>
  thn (ho pins s2 σ H2 x y v u _ I2 r1 r2 q2) fun c s3 ⟨z,H3,I3,r3,k,e,q3⟩=>?_) hm
 subst e
 cases r3
 exact wpAny_truthy_bool ⟨H3,I3,q3⟩
theorem yo:(sizeLine:Nat)<2^63:=by rw[sizeLine_eq];decide
theorem tZ{x:V}{us:List Value}(r:Vals [x] us):∃ u,us = [u]/\RelV x u:=by
 cases r with
 |cons r1 r2=>cases r2;exact⟨_,rfl,r1⟩
theorem vals2{x y:V}{us:List Value}(r:Vals [x,y] us):∃ u w',us = [u,w']/\RelV x u/\RelV y w':=by
 cases r with
 |cons r1 r2 =>
  cases r2 with
  |cons r3 r4=>cases r4;exact⟨_,_,rfl,r1,r3⟩
theorem HZ(hc:X.calm=true):nG X (.builtin "min") (fun xs H Q=>∃ i j,xs = [.int i,.int j]/\Q (.int (if j<i then j else i)) H):=by
 intro pins s σ H xs us Q I r h;obtain⟨i,j,rfl,q⟩:=h;obtain⟨u,w',rfl,⟨t,rfl⟩,⟨t',rfl⟩⟩:=vals2 r;refine min_two_ints (I.ok.hd hc) fun h' tk k=>⟨_,H,I.kept k,?_,q⟩;by_cases hj:j<i
 ·rw[if_pos hj,if_pos hj];exact⟨_,rfl⟩
 ·rw[if_neg hj,if_neg hj];exact⟨_,rfl⟩
theorem Ia:nG X (.type "int") (fun xs H Q=>(∃ i,xs = [.int i]/\Q (.int i) H)∨∃ k,xs = [.bl k]/\Q (.int (if k then 1 else 0)) H):=by
 intro pins s σ H xs us Q I r h;rcases h with⟨i,rfl,q⟩ | ⟨k,rfl,q⟩
 ·obtain⟨u,rfl,t,rfl⟩:=tZ r;exact call_int_int ⟨.int i,H,I,⟨_,rfl⟩,q⟩
 ·obtain⟨u,rfl,r1⟩:=tZ r
  cases r1
  exact call_int_bool ⟨.int (if k then 1 else 0),H,I.tok _,⟨_,rfl⟩,q⟩
end
end L2
namespace L2
open PySem PySem.Spec PyProof.Rows
structure ObjM(h:Heap)(x dx C:Addr)(mA:Str->Option Value):Prop where
 obj:h.get? x=some (Ot C dx)
 ns:h.Ns1 dx mA
 ne:dx≠x
theorem GL{h:Heap}{dx:Addr}{mA:Str->Option Value}(n:h.Ns1 dx mA):∃ od,h.get? dx=some od/\∀ name,P0 name od=some (mA name):=by
 obtain⟨o,es,ep,ho,hd,hk,_,hm⟩:=n;refine⟨o,ho,fun name=>?_⟩;have e:=hm name;unfold nsFind findBy at e;rw[← Array.find?_toList]at e;unfold P0;rw[hd];dsimp only;split
 ·rename_i y q;rw[q]at e;exact congrArg some e
 ·rename_i q;rw[q]at e;have a:es.toList.any (·.refKey)=false:=by
   rw[List.any_eq_false];intro y hy;obtain⟨z,t,hkey⟩:=hk y (Array.mem_toList_iff.mp hy);simp[DictEntry.refKey,hkey]
  have a':¬ es.toList.any (·.refKey)=true:=by rw[a];exact MQ
  rw[if_neg a'];exact congrArg some e
theorem ObjM.look{h:Heap}{x dx C:Addr}{mA:Str->Option Value}(I:ObjM h x dx C mA):∃ od,PySem.W.InstAt h x (Ot C dx) C (some od)/\∀ name,P0 name od=some (mA name) :=
 let ⟨od,ho,hl⟩:=GL I.ns
 ⟨od,⟨I.obj,rfl,rfl,ho⟩,hl⟩
section
variable{prog:Program}{w:World}{A:Around}{E:Value->Shared->Prop}{s:Shared}{K:Mz}{x dx C f:Addr}{mA:Str->Option Value}{name:Str}{v:Value}
theorem L0{expr:Bool}{Q:Value->Shared->Prop}(X:K.In s.heap)(I:ObjM s.heap x dx C mA)(hg:Oy K C name=true)(hh:OH K C=true)
  (ha:Nd K (.ref C) name=some none) (hv:mA name=some v) (hv':PySem.W.handedIn v=true) (h:Q v { s with toks:=s.toks+1 }) :
  wpAny (model prog w) A (getAttr (.ref x) name expr) Q E s:=by
 obtain⟨od,J,hl⟩:=I.look;exact PySem.W.get_value X J (P1 hg).1 (PySem.W.findObj_own hh ha rfl (by rw[hl,hv])) hv' h
theorem JI{pl:Sem Bool}{Q:Value×List Value->Shared->Prop}(X:K.In s.heap)(I:ObjM s.heap x dx C mA)(hg:Oy K C name=true)
  (hf:Nd K (.ref C) name=some (some (.ref f))) (ht:OC K (.ref f)=true) (hv:mA name=none) (h:Q (.ref f,[.ref x]) s) :
  wpAny (model prog w) A (getMethod (.ref x) name pl) Q E s:=by
 obtain⟨od,J,hl⟩:=I.look;exact PySem.W.method_fn X J (P1 hg).1 (P1 hg).2 hf (beq_iff_eq.mp ht) (by show(P0 name od).map (·.isSome)=some false;rw[hl,hv];rfl) h
theorem Lb{ns:List Str}{Q:Unit->Shared->Prop}(X:K.In s.heap)(I:ObjM s.heap x dx C mA)
  (hs:Nd K (.ref C) "__setattr__" = some (some (.builtin "object.__setattr__"))) (hp:O6 K C=true) (ht:Qi K C name=some none) (hh:OH K C=true)
  (hw:PySem.Within mA ns) (hsz:ns.length<=sizeLine)
  (h:∀ h',ObjM h' x dx C (fun y=>if y=name then some v else mA y)->Heap.SameBut dx s.heap h'->Q () { s with heap:=h',toks:=s.toks+2 }) :
  wpAny (model prog w) A (setAttr (.ref x) name v) Q E s:=by
 obtain⟨od,J,hl⟩:=I.look;refine PySem.W.set_plain X J hs (PySem.W.osa_open (s:={ s with toks:=s.toks+1 }) (r:=none) X J hp ht fun b=>?_);obtain⟨cd,hc,hd'⟩:=PySem.W.any_some hh;have hx:s.heap.get? x=some ⟨.ref C,some dx,.plain,#[]⟩:=I.obj;refine wpAny_bind (wpAny_pure (wpAny_bind (wpAny_bind (wpAny_loadPart hx (wpAny_bind (PySem.W.Looks.here (s:={ s with toks:=s.toks+1 }) (PySem.W.looks_clsIn X hc) ?_))))));rw[hd'];refine wpAny_pure (a:=some dx) (wpAny_bind (wpAny_pure (wpAny_bind ?_)));refine wpAny_nsSet1 (s:={ s with toks:=s.toks+1 }) I.ns fun h' hn2 hs2=>?_;obtain⟨oD,esD,epD,hoD,hdD,hcD⟩:=hn2.count (PySem.Within.cons name v hw);refine wpAny_bind (wpAny_lookBehind hoD (by rw[hdD];exact pastItsLine_dict (Nw hcD (by rw[Nb];omega))) ?_)
 exact wpAny_pure (h _ ⟨(hs2.2 _ (Ne.symm I.ne)).trans I.obj,hn2,I.ne⟩ hs2)
theorem Jt{R:Result->Shared->Prop}{vs:List Value}{kw:List (Str×Value)}(X:K.In s.heap)(hm:Pf K C=true)
  (hi:Nd K (.ref C) "__init__" = some (some (.ref f))) (hf:PySem.W.typeIn K (.ref f)=some (.type "function"))
  (h:codeAny (model prog w) (A.under (.builtin "type.__call__" ⟨.ref C::vs,kw⟩)) (.call (.ref f) ⟨.ref (s.heap.objs.size+1)::vs,kw⟩) (PySem.W.InitBack (s.heap.objs.size+1) R)
   { s with heap:=(s.heap.push N7).push (Ot C s.heap.objs.size) }) :
  codeAny (model prog w) A (.call (.ref C) ⟨vs,kw⟩) R s:=by
 obtain⟨hh,g,d,t,os⟩:=s;exact PySem.W.make_core (PySem.W.makes_of X hm) (PySem.W.looks_findIn X hi) (fun self=>PySem.W.bind_fn X self hf) (.inl rfl) h
end
def putF(f:Str)(v:V):List (Str×V)->List (Str×V)
 |[]=>[(f,v)]
 | (g,x)::r=>if g=f then(g,v)::r else(g,x)::putF f v r
theorem aC(f g:Str)(v:V):∀ fs:List (Str×V),(putF f v fs).lookup g=if g=f then some v else fs.lookup g
 |[]=>by
  show OE g [(f,v)]=_;by_cases h:g=f
  ·have hb:(g == f)=true:=beq_iff_eq.mpr h
   simp only[OE,hb,if_pos h]
  ·have hb:(g == f)=false:=beq_eq_false_iff_ne.mpr h
   simp only[OE,hb,if_neg h]
 | (k,x)::r=>by
  have ih:=aC f g v r;rw[show putF f v ((k,x)::r)=(if k=f then(k,v)::r else(k,x)::putF f v r) from rfl];by_cases hk:k=f
  ·rw[if_pos hk];by_cases h:g=k
   ·have hb:(g == k)=true:=beq_iff_eq.mpr h
    simp only[OE,hb,if_pos (h.trans hk)]
   ·have hb:(g == k)=false:=beq_eq_false_iff_ne.mpr h
    simp only[OE,hb,if_neg (fun e:g=f=>h (e.trans hk.symm))]
  ·rw[if_neg hk];by_cases h:g=k
   ·have hb:(g == k)=true:=beq_iff_eq.mpr h
    simp only[OE,hb,if_neg (fun e:g=f=>hk (h.symm.trans e))]
   ·have hb:(g == k)=false:=beq_eq_false_iff_ne.mpr h
    simp only[OE,hb];exact ih
theorem qF(f:Str)(v:V):∀ fs:List (Str×V),f∈(putF f v fs).map (·.1)/\∀ g,g∈fs.map (·.1)->g∈(putF f v fs).map (·.1)
 |[]=>⟨by simp[putF],fun g h=>by simp at h⟩
 | (k,x)::r=>by
  obtain⟨i1,i2⟩:=qF f v r;rw[show putF f v ((k,x)::r)=(if k=f then(k,v)::r else(k,x)::putF f v r) from rfl];by_cases hk:k=f
  ·rw[if_pos hk];subst hk;exact⟨by simp,fun g h=>by simpa using h⟩
  ·rw[if_neg hk];refine⟨?_,fun g h=>?_⟩
   ·rw[Nh];exact MO _ i1
   ·rw[Nh]at h ⊢;rcases MG.mp h with e | e
    ·exact MG.mpr (.inl e)
    ·exact MO _ (i2 g e)
theorem qq(f:Str)(v:V):∀ fs:List (Str×V),(putF f v fs).length<=fs.length+1
 |[]=>by simp[putF]
 | (k,x)::r=>by
  have ih:=qq f v r;rw[show putF f v ((k,x)::r)=(if k=f then(k,v)::r else(k,x)::putF f v r) from rfl];by_cases hk:k=f
  ·rw[if_pos hk,Nb,Nb];omega
  ·rw[if_neg hk,Nb,Nb];omega
theorem RelO.some_of{v:V}{o:Option Value}(r:RelO (some v) o):∃ u,o=some u/\RelV v u:=by
 cases o with
 |none=>exact(show False from r).elim
 |some u=>exact⟨u,rfl,r⟩
theorem RelO.none_of{o:Option Value}(r:RelO none o):o=none:=by
 cases o with
 |none=>rfl
 |some u=>exact(show False from r).elim
theorem Hl{v:V}{u:Value}(r:RelV v u):PySem.W.handedIn u=true:=by
 cases v with
 |non=>cases (show u=Value.none from r);rfl
 |bl b=>cases (show u=Value.bool b from r);rfl
 |int i=>obtain⟨t,e⟩:=(show ∃ t,u=Value.int i t from r);cases e;rfl
 |str x=>obtain⟨t,e⟩:=(show ∃ t,u=Value.str x t from r);cases e;rfl
 |byt b=>obtain⟨t,e⟩:=(show ∃ t,u=Value.bytes b t from r);cases e;rfl
 |flt b=>obtain⟨t,e⟩:=(show ∃ t,u=Value.float b t from r);cases e;rfl
 |ref a=>cases (show u=Value.ref a from r);rfl
 |ty n=>cases (show u=Value.type n from r);rfl
section
variable{P:Program}{w:World}{H H':Hp}{h h':Heap}{a C dx:Addr}{fs fs':List (Str×V)}
theorem vV(hok:HOk P w H h)(e:H a=some (.ins C dx fs)):∃ mA,ObjM h a dx C mA/\(∀ f,RelO (fs.lookup f) (mA f))/\PySem.Within mA (fs.map (·.1))/\fs.length<=1000/\H dx=some (.own a):=by
 obtain⟨d,z,ne,ob,mA,n,r,q⟩:=(show bh P w H h a (.ins C dx fs) from hok a _ e);exact⟨mA,⟨ob,n,ne⟩,r,q,z,d⟩
end
structure Cls(K:Mz)(C:Addr):Prop where
 pg:Oy K C Str.empty=true
 hd:OH K C=true
 po:O6 K C=true
 sa:Nd K (.ref C) "__setattr__" = some (some (.builtin "object.__setattr__"))
theorem Cls.get{K:Mz}{C:Addr}(c:Cls K C)(f:Str):Oy K C f=true:=c.pg
def fU(K:Mz)(C:Addr)(f:Str):Prop:=Nd K (.ref C) f=some none
theorem fU.taker{K:Mz}{C:Addr}{f:Str}(n:fU K C f):Qi K C f=some none:=by
 unfold Qi;rw[show Nd K (.ref C) f=some none from n];rfl
structure Meth(K:Mz)(C:Addr)(m:Str)(f:Addr):Prop where
 at_:Nd K (.ref C) m=some (some (.ref f))
 fn:OC K (.ref f)=true
 kp:MI K (.ref f)=true
section
variable{X:Cx}{pins:List (Addr×Obj)}{σ:St}{H:Hp}{s:Shared}{a C dx:Addr}{fs:List (Str×V)}{f:Str}{v:V}{A:Around}{E:Value->Shared->Prop}
theorem EI{b:Bool}{Q:Value->Shared->Prop}(I:Inv X pins σ H s)(e:H a=some (.ins C dx fs))(c:Cls X.K C)(n:fU X.K C f)(l:fs.lookup f=some v)
  (h:∀ u s',Inv X pins σ H s'->RelV v u->Q u s'):wpAny (model X.prog X.w) A (getAttr (.ref a) f b) Q E s:=by
 obtain⟨mA,O,r,_,_,_⟩:=vV I.hok e;obtain⟨u,hu,ru⟩:=RelO.some_of (v:=v) (o:=mA f) (by rw[← l];exact r f)
 exact L0 I.kIn O (c.get f) c.hd n hu (Hl ru) (h u _ (I.tok _) ru)
theorem tm{m:Str}{g:Addr}{pl:Sem Bool}{Q:Value×List Value->Shared->Prop}(I:Inv X pins σ H s)(e:H a=some (.ins C dx fs))(c:Cls X.K C)(k:Meth X.K C m g)(l:fs.lookup m=none)
  (h:Q (.ref g,[.ref a]) s):wpAny (model X.prog X.w) A (getMethod (.ref a) m pl) Q E s:=by
 obtain⟨mA,O,r,_,_,_⟩:=vV I.hok e;have hn:mA m=none:=RelO.none_of (by rw[← l];exact r m)
 exact JI I.kIn O (c.get m) k.at_ k.fn hn h
theorem DS{y:V}{u:Value}{Q:Unit->Shared->Prop}(I:Inv X pins σ H s)(e:H a=some (.ins C dx fs))(c:Cls X.K C)(n:fU X.K C f)(hl:fs.length<1000)(ry:RelV y u)
  (h:∀ s',Inv X pins σ (upd H a (.ins C dx (putF f y fs))) s'->Q () s'):wpAny (model X.prog X.w) A (setAttr (.ref a) f u) Q E s:=by
 obtain⟨mA,O,r,wi,_,ho⟩:=vV I.hok e;have hz:(fs.map (·.1)).length<=sizeLine:=by rw[MD,sizeLine_eq];omega
 refine Lb I.kIn O c.sa c.po n.taker c.hd wi hz fun h' O' sb=>h _ ?_;have hd:∃ o,h'.get? dx=some o:=let ⟨o,_,_,e',_⟩:=O'.ns;⟨o,e'⟩;refine I.write (x:=a) (e:=dx) (by rw[e];exact True.intro) (.inr ho) (fun b q hb z=>(sb.2 b hb).trans z) hd ?_
 refine⟨by rw[aq O.ne];exact ho,?_,O.ne,O'.obj,_,O'.ns,fun g=>?_,fun g hg=>?_⟩
 ·have:=qq f y fs;omega
 ·show RelO ((putF f y fs).lookup g) (if g=f then some u else mA g);rw[aC];by_cases q:g=f
  ·rw[if_pos q,if_pos q];exact ry
  ·rw[if_neg q,if_neg q];exact r g
 ·by_cases q:g=f
  ·rw[q];exact(qF f y fs).1
  ·refine(qF f y fs).2 g (wi g fun z=>hg ?_);show(if g=f then some u else mA g)=none;rw[if_neg q];exact z
theorem Inv.made(I:Inv X pins σ H s):Inv X pins σ (upd (upd H s.heap.objs.size (.own (s.heap.objs.size+1))) (s.heap.objs.size+1) (.ins C s.heap.objs.size []))
  { s with heap:=(s.heap.push N7).push (Ot C s.heap.objs.size) }:=by
 have e1:(s.heap.push N7).get? s.heap.objs.size=some N7:=Heap.get?_push_size s.heap rfl;have e2:((s.heap.push N7).push (Ot C s.heap.objs.size)).get? (s.heap.objs.size+1)=some (Ot C s.heap.objs.size):=by
  have:=Heap.get?_push_size (s.heap.push N7) (o:=Ot C s.heap.objs.size) rfl;rwa[Heap.size_push]at this
 have e3:(s.heap.push N7).Ns s.heap.objs.size (fun _=>none):=⟨N7,#[],_,e1,rfl,(fun e he=>absurd he (by simp)),fun _=>rfl⟩
 have I1:=I.laid (a:=s.heap.objs.size) (o:=.own (s.heap.objs.size+1)) (h':=s.heap.push N7) (t':=s.toks) (fun b u q=>Heap.get?_push_of_some _ q) (MC _) ⟨_,e1⟩;refine I1.laid (a:=s.heap.objs.size+1) (o:=.ins C s.heap.objs.size []) (t':=s.toks) (fun b u q=>Heap.get?_push_of_some _ q) (Nat.le_of_eq (Heap.size_push _ _)) ?_;have ne:s.heap.objs.size≠s.heap.objs.size+1:=M3 (NU _);refine⟨by rw[aq ne,ae],NA _,ne,e2,fun _=>none,(Heap.Ns1.of_empty e3).at fun o q=>Heap.get?_push_of_some _ q,fun _=>True.intro,fun y hy=>absurd rfl hy⟩
theorem Ms{prog:Program}{w:World}{env:Env}{e:Expr}{f:Str}{pos:Pos}{s:Shared}{Q:Value->Shared->Prop}(hb:attributeBase e f env (eval e env)=eval e env)
  (h:wpAny (model prog w) A (eval e env) (fun o s₁=>wpAny (model prog w) A (getAttr o f true) Q E s₁) E s):wpAny (model prog w) A (eval (.Attribute e f pos) env) Q E s :=
 Attribute_any_ h (by rw[arm_eval_Attribute,hb])
end
def tFld(K:Mz)(ta:TE)(f:Str):TE:=fun σ H Q=>ta σ H fun x H1=>∃ a C dx fs v,x=.ref a/\H1 a=some (.ins C dx fs)/\Cls K C/\fU K C f/\fs.lookup f=some v/\Q v H1
def sFld(K:Mz)(ta tv:TE)(f:Str):TS:=fun D σ H=>tv σ H fun y H1=>ta σ H1 fun x H2=>∃ a C dx fs,x=.ref a/\H2 a=some (.ins C dx fs)/\Cls K C/\fU K C f/\fs.length<1000 /\
 D.nx σ (upd H2 a (.ins C dx (putF f y fs)))
section
variable{X:Cx}{o e value:Expr}{f:Str}{pos pos' tpos:Pos}{ta tv:TE}
theorem cJ(he:PE X e ta)(hb:attributeBase e f X.env (eval e X.env)=eval e X.env):PE X (.Attribute e f pos) (tFld X.K ta f):=by
 intro pins s σ H Q I h;refine Ms hb (thn (he pins s σ H _ I h) fun u s1 ⟨x,H1,I1,rx,a,C,dx,fs,v,ex,ea,c,n,l,q⟩=>?_);subst ex;obtain rfl:u=Value.ref a:=rx;exact EI I1 ea c n l fun u' s2 I2 ru=>⟨v,H1,I2,ru,q⟩
theorem nJ(ha:PE X o ta)(hv:PE X value tv)(hs:swapsWith value (some (.Attribute o f pos')) pos.line X.env=pure false):PS X (.Assign [.Attribute o f pos'] value pos) (sFld X.K ta tv f):=by
 intro pins s σ H D I h;refine plainObj_wpAny_Assign_Attribute (thn (hv pins s σ H _ I h) fun u s1 ⟨y,H1,I1,ry,q⟩=>thn (ha pins s1 σ H1 _ I1 q) fun ov s2 ⟨x,H2,I2,rx,a,C,dx,fs,ex,ea,c,n,l,q2⟩=>?_) hs;subst ex;obtain rfl:ov=Value.ref a:=rx;exact DS I2 ea c n l ry fun s3 I3=>⟨σ,_,I3,q2⟩
end
section
variable{X:Cx}{pins:List (Addr×Obj)}{σ:St}{H:Hp}{s:Shared}{A:Around}{E:Value->Shared->Prop}{Q:Value->Shared->Prop}{c:Value}{b:Bool}
inductive TyOf(K:Mz)(H:Hp):V->Value->Prop where
 |non:TyOf K H .non (.type "NoneType")
 |bl (x:Bool):TyOf K H (.bl x) (.type "bool")
 |int (i:Int):TyOf K H (.int i) (.type "int")
 |str (x:Str):TyOf K H (.str x) (.type "str")
 |flt (x:UInt64):TyOf K H (.flt x) (.type "float")
 |lst {a:Addr} {xs:List V} (e:H a=some (.lst xs)):TyOf K H (.ref a) (.type "list")
 |frz {a:Addr} {o:Obj} {xs:List V} (e:H a=some (.frz o (.lst xs))):TyOf K H (.ref a) (.type "list")
 |tup {a:Addr} {xs:List V} (e:H a=some (.tup xs)):TyOf K H (.ref a) (.type "tuple")
 |dK {a:Addr} {kvs:List (Key×V)} (e:H a=some (.dK kvs)):TyOf K H (.ref a) (.type "dict")
 |dT {a:Addr} {kvs:List (List Key×V)} (e:H a=some (.dT kvs)):TyOf K H (.ref a) (.type "dict")
 |ins {a C dx:Addr} {fs:List (Str×V)} (e:H a=some (.ins C dx fs)) (cl:Cls K C) (ha:Nd K (.ref C) "__class__" = some (some (.builtin "object.__class__")))
   (hn:PySem.W.specialIn K (.builtin "object.__class__") "__get__" = some (some (.builtin "getset_descriptor.__get__"))) (htk:PySem.W.takesIn K (.builtin "object.__class__")=some true)
   (hm:PB K C (.type "object")=some true):TyOf K H (.ref a) (.ref C)
theorem G4{x:V}{u t:Value}(I:Inv X pins σ H s)(rx:RelV x u)(ty:TyOf X.K H x t)(e:O8 X.K t c=some b)(h:∀ tk,Q (.bool b) { s with toks:=tk }) :
  wpAny (model X.prog X.w) A (call (.builtin "isinstance") [u,c]) Q E s:=by
 cases ty with
 |non=>cases (show u=Value.none from rx);exact N2 PySem.W.kitx_none I.kIn True.intro e (fun z=>nomatch z) h
 |bl y=>cases (show u=Value.bool y from rx);exact N2 PySem.W.kitx_bool I.kIn True.intro e (fun z=>nomatch z) h
 |int i=>obtain⟨t,q⟩:=(show ∃ t,u=Value.int i t from rx);cases q;exact N2 PySem.W.kitx_int I.kIn True.intro e (fun z=>nomatch z) h
 |str y=>obtain⟨t,q⟩:=(show ∃ t,u=Value.str y t from rx);cases q;exact N2 PySem.W.kitx_str I.kIn True.intro e (fun z=>nomatch z) h
 |flt y=>obtain⟨t,q⟩:=(show ∃ t,u=Value.float y t from rx);cases q;exact N2 PySem.W.kitx_float I.kIn True.intro e (fun z=>nomatch z) h
 | @lst a xs ea =>
  cases (show u=Value.ref a from rx)
  obtain⟨_,_,n,_,h1⟩:=(show bh X.prog X.w H s.heap a (.lst xs) from I.hok a _ ea);exact N2 PySem.W.kitx_list I.kIn ⟨_,h1,rfl⟩ e (fun z=>nomatch z) h
 | @frz a ob xs ea =>
  cases (show u=Value.ref a from rx)
  obtain⟨_,_,_,n,_,h1⟩:=(show bh X.prog X.w H s.heap a (.frz ob (.lst xs)) from I.hok a _ ea);exact N2 PySem.W.kitx_list I.kIn ⟨_,h1,rfl⟩ e (fun z=>nomatch z) h
 | @tup a xs ea =>
  cases (show u=Value.ref a from rx)
  obtain⟨_,_,_,p⟩:=(show bh X.prog X.w H s.heap a (.tup xs) from I.hok a _ ea);obtain⟨o,h1,h2,_⟩:=p;exact N2 PySem.W.kitx_tuple I.kIn ⟨o,h1,h2⟩ e (fun z=>nomatch z) h
 | @dK a kvs ea =>
  cases (show u=Value.ref a from rx)
  obtain⟨_,_,vs,_,p⟩:=(show bh X.prog X.w H s.heap a (.dK kvs) from I.hok a _ ea);obtain⟨o,es,ep,h1,h2,_⟩:=p;exact N2 PySem.W.kitx_dict I.kIn ⟨o,h1,h2.1⟩ e (fun z=>nomatch z) h
 | @dT a kvs ea =>
  cases (show u=Value.ref a from rx)
  obtain⟨_,_,xs,_,o,es,ep,h1,h2,_⟩:=(show bh X.prog X.w H s.heap a (.dT kvs) from I.hok a _ ea);exact N2 PySem.W.kitx_dict I.kIn ⟨o,h1,h2.1⟩ e (fun z=>nomatch z) h
 | @ins a C dx fs ea cl ha hn htk hm =>
  cases (show u=Value.ref a from rx)
  obtain⟨mA,O,_⟩:=vV I.hok ea;obtain⟨od,J,_⟩:=O.look;exact N2 (PySem.W.kitx_own (cl.get _) cl.hd ha hn htk hm) I.kIn J e (fun z=>nomatch z) h
end
end L2
namespace L2
open PySem PySem.Spec PyProof.Rows
structure Room(k:Nat)(A:Around):Prop where
 hd:A.handled=none
 dp:A.depth+3*k+5<recursionLimit
 un:A.units+16*k+200<cLine
theorem Room.mono{j k:Nat}{A:Around}(r:Room k A)(h:j<=k):Room j A:=⟨r.hd,by have:=r.dp;omega,by have:=r.un;omega⟩
theorem Room.deeper{k:Nat}{A:Around}(r:Room (k+1) A)(env:Env):Room k (A.deeper env) :=
 ⟨r.hd,by have:=r.dp;show A.depth+1+3*k+5<_;omega,by have:=r.un;show A.units+3+16*k+200<_;omega⟩
theorem Er{A:Around}{C:Addr}{us:List Value}{kw:List (Str×Value)}:(A.under (.builtin "type.__call__" ⟨.ref C::us,kw⟩)).depth=A.depth+1:=by
 first | rfl | simp[Around.under,Code.weight,Code.isCreation,Code.isGuard,Code.isCaller,Code.frames,Code.isFrame,guardIds]
theorem Ep{A:Around}{C:Addr}{us:List Value}{kw:List (Str×Value)}:(A.under (.builtin "type.__call__" ⟨.ref C::us,kw⟩)).units=A.units+1:=by
 first | rfl | simp[Around.under,Code.cUnits,Code.frames,Code.isFrame]
theorem Room.make{k:Nat}{A:Around}(r:Room (k+1) A)(C:Addr)(us:List Value)(kw:List (Str×Value)):Room k (A.under (.builtin "type.__call__" ⟨.ref C::us,kw⟩)) :=
 ⟨r.hd,by have:=r.dp;rw[Er];omega,by have:=r.un;rw[Ep];omega⟩
theorem Room.depth{k:Nat}{A:Around}(r:Room k A):A.depth<recursionLimit:=by have:=r.dp;omega
theorem Room.units{k:Nat}{A:Around}(r:Room k A):A.units+64<cLine:=by have:=r.un;omega
def tNil:TA:=fun _ H Q=>Q [] H
def tCons(ta:TE)(tr:TA):TA:=fun σ H Q=>ta σ H fun x H1=>tr σ H1 fun xs H2=>Q (x::xs) H2
section
variable{X:Cx}{e:Expr}{es:List Expr}{te:TE}{t:TA}{pos:Pos}
theorem ah:PA X [] tNil:=fun _ _ _ _ H Q I h=>Calls.spliced_nil ⟨[],H,I,.nil,h⟩
theorem aa(ha:PE X e te)(hr:PA X es t)(hs:starEach (e::es) X.env=(false,eval e X.env)::starEach es X.env:=by rfl):PA X (e::es) (tCons te t):=by
 intro pos pins s σ H Q I h;rw[hs];show wpAny _ _ (spliced ((false,eval e X.env)::backTo pos (starEach es X.env))) _ _ s;refine Calls.spliced_cons (thn (ha pins s σ H _ I h) fun u s1 ⟨x,H1,I1,r1,q1⟩=>?_);exact thn (hr pos pins s1 σ H1 _ I1 q1) fun us s2 ⟨xs,H2,I2,r2,q2⟩=>⟨x::xs,H2,I2,.cons r1 r2,q2⟩
def tTup(t:TA):TE:=fun σ H Q=>t σ H fun xs H1=>xs.length<=sizeLine/\∀ p,H1 p=none->Q (.ref p) (upd H1 p (.tup xs))
def tLst(t:TA):TE:=fun σ H Q=>t σ H fun xs H1=>xs.length<=sizeLine/\∀ p,H1 p=none->Q (.ref p) (upd H1 p (.lst xs))
theorem cB{x1}(h:PA X es t):PE X (.Tuple es x1 pos) (tTup t):=by
 intro pins s σ H Q I hq;refine wpAny_Tuple_spliced (thn (h pos pins s σ H _ I hq) fun us s1 ⟨xs,H1,I1,r,z,q⟩=>⟨by rw[← r.length];exact z,?_⟩)
 have hf:H1 s1.heap.objs.size=none:=I1.hok.fresh (MC _);refine⟨.ref s1.heap.objs.size,upd H1 s1.heap.objs.size (.tup xs),I1.laid (t':=s1.toks) (fun b u e=>Heap.get?_push_of_some _ e) (MC _) ?_,rfl,q _ hf⟩;exact⟨z,us,r,⟨_,Heap.get?_push_size _ rfl,rfl,_,rfl⟩⟩
theorem dH(h:PA X es t):PE X (.List es pos) (tLst t):=by
 intro pins s σ H Q I hq;refine wpAny_List_spliced (thn (h pos pins s σ H _ I hq) fun us s1 ⟨xs,H1,I1,r,z,q⟩=>⟨by rw[← r.length];exact z,?_⟩)
 have hf:H1 s1.heap.objs.size=none:=I1.hok.fresh (MC _);refine⟨.ref s1.heap.objs.size,upd H1 s1.heap.objs.size (.lst xs),I1.laid (t':=s1.toks) (fun b u e=>Heap.get?_push_of_some _ e) (MC _) ?_,rfl,q _ hf⟩;exact⟨z,us,0,r,Heap.get?_push_size _ rfl⟩
end
abbrev Sp:=List V->Hp->VK->XK->Prop
abbrev CXT:=List Env->Hp->Shared->XK->Value->Shared->Prop
structure Env0(P:Program)(w:World)(K:Mz)(mg:Str->Option Value)(base:Heap)(A:Around)(outer:List Env)(s:Shared)(H:Hp):Prop where
 frames:A.frames=some outer
 mod:Mod K mg base
 bs:∀ b o,base.get? b=some o->s.heap.get? b=some o/\H b=none
 bsz:base.objs.size<=s.heap.objs.size
 funs:s.heap.FunFrames base outer
 frf:∀ b∈frs outer,H b=none
 hok:HOk P w H s.heap
 bare:AllBare s.gens
def CE(outer:List Env)(P:Program)(w:World)(H:Hp)(s:Shared)(Q:VK)(u:Value)(s':Shared):Prop :=
 ∃ v H',s'.os=s.os/\AllBare s'.gens/\Un (frs outer) [] H H' s.heap s'.heap/\HOk P w H' s'.heap/\RelV v u/\Q v H'
def CR(CX:CXT)(outer:List Env)(P:Program)(w:World)(H:Hp)(s:Shared)(Q:VK)(E:XK)(r:Result)(s':Shared):Prop :=
 match r with
 |.ok (.ret u)=>CE outer P w H s Q u s'
 |.ok _=>False
 |.error e=>CX outer H s E e s'
structure FnOk(P:Program)(w:World)(K:Mz)(mg:Str->Option Value)(base:Heap)(CX:CXT)(k:Nat)(f:Addr)(fd:FuncData)(ps:List Str)(sp:Sp):Prop where
 len:∀ vs H Q E,sp vs H Q E->vs.length=ps.length
 run:∀(A:Around)(outer:List Env)(s:Shared)(H:Hp)(args:Args)(us:List Value)(vs:List V)(Q:VK)(E:XK),Room k A->Env0 P w K mg base A outer s H->BindsTo s fd args (ps.zip us)->Vals vs us->sp vs H Q E ->
  codeAny (model P w) A (.call (.ref f) args) (CR CX outer P w H s Q E) s
theorem Env0.make{P:Program}{w:World}{K:Mz}{mg:Str->Option Value}{base:Heap}{A:Around}{outer:List Env}{s:Shared}{H:Hp}(e:Env0 P w K mg base A outer s H)(C:Addr)(us:List Value)(kw:List (Str×Value)) :
  Env0 P w K mg base (A.under (.builtin "type.__call__" ⟨.ref C::us,kw⟩)) outer s H:=⟨by first | exact e.frames | (simpa[Around.under,Code.envs,Code.isFrame,pushEnvs] using e.frames),e.mod,e.bs,e.bsz,e.funs,e.frf,e.hok,e.bare⟩
section
variable{X:Cx}{pins:List (Addr×Obj)}{σ:St}{H:Hp}{s s':Shared}
theorem Inv.env0(I:Inv X pins σ H s):Env0 X.prog X.w X.K X.mg X.base X.A X.stack s H :=
 ⟨I.ok.frames,I.ok.mod,I.bs,Nw I.ok.bsz I.sz,I.stack,I.stkFree,I.hok,I.bare⟩
theorem Inv.after{Q:VK}{u:Value}(I:Inv X pins σ H s)(h:CE X.stack X.prog X.w H s Q u s'):EP X pins σ Q u s':=by
 obtain⟨v,H',os,bare,un,hok,r,q⟩:=h;obtain⟨hh,g,d,t,os'⟩:=s';obtain rfl:os'=s.os:=os;exact⟨v,H',I.call (h':=hh) (g':=g) (d':=d) (t':=t) (ch:=[]) un hok bare (fun b z=>absurd z (by simp)),r,q⟩
end
def tCall(sp:Sp)(dvs:List V)(E:XK)(t:TA):TE:=fun σ H Q=>t σ H fun vs H1=>sp (vs++dvs) H1 Q E
def tMeth(C:Addr)(m:Str)(sp:Sp)(dvs:List V)(E:XK)(ta:TE)(t:TA):TE:=fun σ H Q=>ta σ H fun x H1=>∃ a dx fs,x=.ref a/\H1 a=some (.ins C dx fs)/\fs.lookup m=none /\
 t σ H1 fun vs H2=>sp (x::(vs++dvs)) H2 Q E
def tMake(C:Addr)(sp:Sp)(dvs:List V)(E:XK)(t:TA):TE:=fun σ H Q=>t σ H fun vs H1=>∀ x dx,H1 x=none->H1 dx=none->dx≠x ->
 sp (.ref x::(vs++dvs)) (upd (upd H1 dx (.own x)) x (.ins C dx [])) (fun v H2=>v=.non/\Q (.ref x) H2) E
def jo(K:Mz)(fd:FuncData)(ps:List Str)(ds:List Value):Prop :=
 ∀(s:Shared)(us:List Value),K.In s.heap->(us++ds).length=ps.length->BindsTo s fd ⟨us,[]⟩ (ps.zip (us++ds))
theorem jo.all{K:Mz}{fd:FuncData}{ps:List Str}(h:∀ us:List Value,us.length=ps.length->bindArgs fd ⟨us,[]⟩=pure (ps.zip us)):jo K fd ps []:=fun s us _ hl=>by
 rw[O2]at hl ⊢;exact .of_eq (h us hl)
def n8(CX:CXT)(X:Cx)(E:XK):Prop:=∀(pins:List (Addr×Obj))(σ:St)(H:Hp)(s:Shared)(e:Value)(s':Shared),Inv X pins σ H s->CX X.stack H s E e s'->X.xe e s'
section
variable{X:Cx}{CX:CXT}{k:Nat}{f C:Addr}{fd:FuncData}{ps:List Str}{sp:Sp}{dvs:List V}{ds:List Value}{E:XK}{x m:Str}{p pos apos:Pos}{e o:Expr}{es:List Expr}{ta:TE}{t:TA}
theorem FO{pins:List (Addr×Obj)}{σ:St}{H:Hp}{s:Shared}{Q:VK}{us:List Value}{vs:List V}(F:FnOk X.prog X.w X.K X.mg X.base CX k f fd ps sp)(hr:Room k X.A)(hb:jo X.K fd ps ds)(hd:Vals dvs ds)(hx:n8 CX X E)
  (I:Inv X pins σ H s) (r:Vals vs us) (h:sp (vs++dvs) H Q E):wpAny (model X.prog X.w) X.A (call (.ref f) us) (EP X pins σ Q) X.xe s:=by
 have r2:Vals (vs++dvs) (us++ds):=r.append hd;have hl:(us++ds).length=ps.length:=by rw[← r2.length];exact F.len _ _ _ _ h
 refine wpAny_call (codeAny_mono (F.run X.A X.stack s H ⟨us,[]⟩ (us++ds) (vs++dvs) Q E hr I.env0 (hb s us I.kIn hl) r2 h) fun r s' hq=>?_)
 cases r with
 |error e=>exact hx pins σ H s e s' I hq
 |ok fl =>
  cases fl with
  |ret u=>exact I.after hq
  |next=>exact False.elim hq
  |brk=>exact False.elim hq
  |cont=>exact False.elim hq
theorem ar(F:FnOk X.prog X.w X.K X.mg X.base CX k f fd ps sp)(hr:Room k X.A)(hg:Gl X x)(hm:X.mg x=some (.ref f))(hk:MI X.K (.ref f)=true)(hb:jo X.K fd ps ds)(hd:Vals dvs ds)(hx:n8 CX X E)
  (ha:PA X (e::es) t) (hdb:(x == ("__debug__" : Str))=false:=by decide) (he:starEach (e::es) X.env=(false,eval e X.env)::starEach es X.env:=by rfl) (hpl:(backTo pos (starEach es X.env)).any (·.1)=false:=by rfl) :
  PE X (.Call (.Name x p) (e::es) [] pos) (tCall sp dvs E t):=by
 intro pins s σ H Q I h;refine wpAny_Call_Name_kw (qy I hg hm ?_ hdb);refine Pj (h₀:=X.base) I.ok.mod.kin hk (thn (ha pos pins s σ H _ I h) fun us s1 ⟨vs,H1,I1,r,q⟩=>⟨I1.kIn,?_⟩) he hpl;exact FO F hr hb hd hx I1 r q
theorem AS{pl:Sem Bool}(he:PE X o ta)(c:Cls X.K C)(hm:Meth X.K C m f)(F:FnOk X.prog X.w X.K X.mg X.base CX k f fd ps sp)(hr:Room k X.A)(hb:jo X.K fd ps ds)(hd:Vals dvs ds)(hx:n8 CX X E)(ha:PA X (e::es) t)
  (hst:starEach (e::es) X.env=(false,eval e X.env)::starEach es X.env:=by rfl) (hpl:(backTo pos (starEach es X.env)).any (·.1)=false:=by rfl)
  (ht:eval (.Call (.Attribute o m apos) (e::es) [] pos) X.env=(do
   let ov ← eval o X.env
   standAt apos.atName
   let (f,first) ← holding [ov] (getMethod ov m pl)
   callWith pos f first (backTo pos (starEach (e::es) X.env)) (backToKw pos (keywordEach [] X.env))):=by rfl) :
  PE X (.Call (.Attribute o m apos) (e::es) [] pos) (tMeth C m sp dvs E ta t):=by
 intro pins s σ H Q I h;refine PySem.W.methodCall_KW (pl:=pl) (thn (he pins s σ H _ I h) fun u s1 ⟨x,H1,I1,rx,a,dx,fs,ex,ea,l,q⟩=>?_) ht;subst ex;obtain rfl:u=Value.ref a:=rx;refine tm I1 ea c hm l ?_;refine Pj (first:=[.ref a]) (h₀:=X.base) I.ok.mod.kin hm.kp (thn (ha pos pins s1 σ H1 _ I1 q) fun us s2 ⟨vs,H2,I2,r,q2⟩=>⟨I2.kIn,?_⟩) hst hpl;exact FO (us:=.ref a::us) (vs:=.ref a::vs) F hr hb hd hx I2 (.cons rfl r) q2
theorem Je{pl:Sem Bool}(he:PE X o ta)(c:Cls X.K C)(hm:Meth X.K C m f)(F:FnOk X.prog X.w X.K X.mg X.base CX k f fd ps sp)(hr:Room k X.A)(hb:jo X.K fd ps ds)(hd:Vals dvs ds)(hx:n8 CX X E)
  (ht:eval (.Call (.Attribute o m apos) [] [] pos) X.env=(do
   let ov ← eval o X.env
   standAt apos.atName
   let (f,first) ← holding [ov] (getMethod ov m pl)
   callWith pos f first (backTo pos (starEach [] X.env)) (backToKw pos (keywordEach [] X.env))):=by rfl) :
  PE X (.Call (.Attribute o m apos) [] [] pos) (tMeth C m sp dvs E ta tNil):=by
 intro pins s σ H Q I h;refine PySem.W.methodCall_KW (pl:=pl) (thn (he pins s σ H _ I h) fun u s1 ⟨x,H1,I1,rx,a,dx,fs,ex,ea,l,q⟩=>?_) ht;subst ex;obtain rfl:u=Value.ref a:=rx;refine tm I1 ea c hm l ?_;exact PySem.W.callWith_K0 (first:=[.ref a]) I1.kIn hm.kp (FO (us:=[.ref a]) (vs:=[.ref a]) F hr hb hd hx I1 (.cons rfl .nil) q)
structure Mk(K:Mz)(C f:Addr):Prop where
 makes:Pf K C=true
 init:Nd K (.ref C) "__init__" = some (some (.ref f))
 fn:OC K (.ref f)=true
 kp:MI K (.ref C)=true
theorem IV{pins:List (Addr×Obj)}{σ:St}{H:Hp}{s:Shared}{Q:VK}{us:List Value}{vs:List V}(M:Mk X.K C f)(F:FnOk X.prog X.w X.K X.mg X.base CX k f fd ps sp)(hr:Room (k+1) X.A)(hb:jo X.K fd ps ds)(hd:Vals dvs ds)
  (hx:n8 CX X E) (I:Inv X pins σ H s) (r:Vals vs us)
  (h:∀ x dx,H x=none->H dx=none->dx≠x->sp (.ref x::(vs++dvs)) (upd (upd H dx (.own x)) x (.ins C dx [])) (fun v H2=>v=.non/\Q (.ref x) H2) E) :
  wpAny (model X.prog X.w) X.A (call (.ref C) us) (EP X pins σ Q) X.xe s:=by
 have hq:=h (s.heap.objs.size+1) s.heap.objs.size (I.hok.fresh (OS _)) (I.hok.fresh (MC _)) (M3 (NU _));have I2:=Inv.made (C:=C) I;have r2:Vals (V.ref (s.heap.objs.size+1)::(vs++dvs)) (Value.ref (s.heap.objs.size+1)::(us++ds)):=.cons rfl (r.append hd);have hl:(Value.ref (s.heap.objs.size+1)::us++ds).length=ps.length:=by
  have e:=r2.length;rw[F.len _ _ _ _ hq]at e;exact e.symm
 refine wpAny_call (Jt (f:=f) I.kIn M.makes M.init (beq_iff_eq.mp M.fn) (codeAny_mono (F.run _ X.stack _ _ ⟨Value.ref (s.heap.objs.size+1)::us,[]⟩ (Value.ref (s.heap.objs.size+1)::(us++ds)) _ _ E (hr.make C us [])
  (I2.env0.make C us []) (hb _ (Value.ref (s.heap.objs.size+1)::us) I2.kIn hl) r2 hq) fun r s' hq'=>?_))
 cases r with
 |error e=>exact hx pins σ _ _ e s' I2 hq'
 |ok fl =>
  cases fl with
  |ret u =>
   obtain⟨v,H',I3,rv,ev,q3⟩:=I2.after hq';subst ev;exact⟨rv,⟨V.ref (s.heap.objs.size+1),H',I3,rfl,q3⟩⟩
  |next=>exact False.elim hq'
  |brk=>exact False.elim hq'
  |cont=>exact False.elim hq'
theorem AU(M:Mk X.K C f)(F:FnOk X.prog X.w X.K X.mg X.base CX k f fd ps sp)(hr:Room (k+1) X.A)(hg:Gl X x)(hm:X.mg x=some (.ref C))(hb:jo X.K fd ps ds)(hd:Vals dvs ds)(hx:n8 CX X E)
  (ha:PA X (e::es) t) (hdb:(x == ("__debug__" : Str))=false:=by decide) (he:starEach (e::es) X.env=(false,eval e X.env)::starEach es X.env:=by rfl) (hpl:(backTo pos (starEach es X.env)).any (·.1)=false:=by rfl) :
  PE X (.Call (.Name x p) (e::es) [] pos) (tMake C sp dvs E t):=by
 intro pins s σ H Q I h;refine wpAny_Call_Name_kw (qy I hg hm ?_ hdb);refine Pj (h₀:=X.base) I.ok.mod.kin M.kp (thn (ha pos pins s σ H _ I h) fun us s1 ⟨vs,H1,I1,r,q⟩=>⟨I1.kIn,?_⟩) he hpl;exact IV M F hr hb hd hx I1 r q
end
section
variable{X:Cx}{CX:CXT}{k:Nat}{f C:Addr}{fd:FuncData}{ps ks:List Str}{sp:Sp}{E:XK}{x m:Str}{p pos apos kpos:Pos}{e o:Expr}{es:List Expr}{kws:List Keyword}{te ta:TE}{t tk:TA}{nm:Option Str}
variable{g:List Value->List Value->List Value}{gV:List V->List V->List V}
end
structure aG(N P:List Str)(sc:Scope):Prop where
 kind:sc.kind=.function
 co:sc.isCoroutine=false
 gen:sc.isGenerator=false
 nd:N.Nodup
 pre:N.take P.length=P
 par:∀ x∈P,sc.names.lookup x=some .local∨sc.names.lookup x=some .cell
 nofree:∀ y∈sc.names,y.2≠.free
theorem zj{kindOf:Str->Option NameKind}{x:Str}:∀{binds:List (Str×Value)}{m:Str->Option Value},(∀ v,(x,v)∉binds)->bindL kindOf binds m x=m x
 |[],_,_=>rfl
 | (n,v)::r,m,h=>by
  unfold bindL;rw[zj fun w hw=>h w (MO _ hw)];split
  ·have:x≠n:=by rintro rfl;exact h v MV
   simp[this]
  ·rfl
theorem zo{kindOf:Str->Option NameKind}{x:Str}:∀{binds:List (Str×Value)}{m:Str->Option Value},(∀ v,(x,v)∉binds)->bindC kindOf binds m x=m x
 |[],_,_=>rfl
 | (n,v)::r,m,h=>by
  unfold bindC;rw[zo fun w hw=>h w (MO _ hw)];split
  ·rfl
  ·have:x≠n:=by rintro rfl;exact h v MV
   simp[this]
theorem zm{kindOf:Str->Option NameKind}{x:Str}{v:Value}:∀{P:List Str}{vs:List Value}{i:Nat}{m:Str->Option Value},P.Nodup->P[i]?=some x->vs[i]?=some v->kindOf x=some .local ->
  bindL kindOf (P.zip vs) m x=some v
 |[],_,_,_,_,h,_,_=>by simp at h
 |_::_,[],_,_,_,_,h,_=>by simp at h
 |p::P,w::vs,0,m,nd,h1,h2,hk=>by
  simp at h1 h2;subst h1;subst h2;show bindL kindOf ((p,w)::P.zip vs) m p=_;unfold bindL;rw[zj fun v hv=>(MU.mp nd).1 (PV hv).1,if_pos hk];simp
 |p::P,w::vs,i+1,m,nd,h1,h2,hk=>by
  show bindL kindOf ((p,w)::P.zip vs) m x=_;unfold bindL;exact zm (i:=i) (MU.mp nd).2 (by simpa using h1) (by simpa using h2) hk
theorem zp{kindOf:Str->Option NameKind}{x:Str}{v:Value}:∀{P:List Str}{vs:List Value}{i:Nat}{m:Str->Option Value},P.Nodup->P[i]?=some x->vs[i]?=some v->kindOf x≠some .local ->
  bindC kindOf (P.zip vs) m x=some v
 |[],_,_,_,_,h,_,_=>by simp at h
 |_::_,[],_,_,_,_,h,_=>by simp at h
 |p::P,w::vs,0,m,nd,h1,h2,hk=>by
  simp at h1 h2;subst h1;subst h2;show bindC kindOf ((p,w)::P.zip vs) m p=_;unfold bindC;rw[zo fun v hv=>(MU.mp nd).1 (PV hv).1,if_neg hk];simp
 |p::P,w::vs,i+1,m,nd,h1,h2,hk=>by
  show bindC kindOf ((p,w)::P.zip vs) m x=_;unfold bindC;exact zp (i:=i) (MU.mp nd).2 (by simpa using h1) (by simpa using h2) hk
def rV(N:List Str)(vs:List V):St:=vs.map some++ON (N.length-vs.length) none
def cxOf(CX:CXT)(P:Program)(w:World)(K:Mz)(mg:Str->Option Value)(base:Heap)(N:List Str)(qual:Str)(scope:Scope)(f:Addr)(cd:Value)(A:Around)(outer:List Env)(s:Shared)(H:Hp)(E:XK):Cx where
 prog:=P
 w:=w
 K:=K
 mg:=mg
 base:=base
 A:=A.deeper (envOfC qual scope s.heap.objs.size f cd)
 N:=N
 s₀:=s
 H₀:=H
 env:=envOfC qual scope s.heap.objs.size f cd
 outer:=outer
 stack:=envOfC qual scope s.heap.objs.size f cd::outer
 ex:=[]
 calm:=true
 fn:=fun _=>true
 pn:=[]
 xe:=fun e s'=>wpAny (model P w) (A.deeper (envOfC qual scope s.heap.objs.size f cd)) (leaving (envOfC qual scope s.heap.objs.size f cd) e) (fun _ s''=>CX outer H s E e s'') (fun e' s''=>CX outer H s E e' s'') s'
theorem DH{sc:Scope}{n:Nat}{x:Str}(h:sc.names.lookup x=some .cell):∃ c,(cellsFrom n sc.names []).lookup x=some c:=by
 have q:=PySem.W.cellsFrom_some sc.names n [] (.inl h);exact QA.mp q
theorem G5{CX:CXT}{P:Program}{w:World}{K:Mz}{mg:Str->Option Value}{base:Heap}{N ps:List Str}{qual:Str}{scope:Scope}{f:Addr}{cd:Value}{A:Around}{outer:List Env}{s s1:Shared}{H:Hp}{E:XK}{us:List Value}{vs:List V}
  (S:aG N ps scope) (hd:A.handled=none) (e0:Env0 P w K mg base A outer s H) (hl:vs.length=ps.length) (r:Vals vs us)
  (x:InCallC s s.heap.objs.size (bindL (envOfC qual scope s.heap.objs.size f cd).kindOf (ps.zip us) fun _=>none) (cellsFrom (s.heap.objs.size+1) scope.names []) (bindC (envOfC qual scope s.heap.objs.size f cd).kindOf (ps.zip us) fun _=>none) s1) :
  Inv (cxOf CX P w K mg base N qual scope f cd A outer s H E) [] (rV N vs) H s1:=by
 have hpl:ps.length<=N.length:=by have:=congrArg Qm S.pre;rw[Nf]at this;omega
 obtain⟨h1,tk,rfl,hk⟩:=x.done;have noA:∀ b:Addr,b∉(cxOf CX P w K mg base N qual scope f cd A outer s H E).ex:=fun b z=>absurd (show b∈([]:List Addr) from z) (by simp)
 refine⟨⟨e0.mod,S.kind,rfl,rfl,MC _,fun y z c h1 h2=>?_,fun y hy=>?_,fun y c _ h=>?_,fun _=>hd,Around.frames_deeper e0.frames,.inr ⟨rfl,rfl⟩,fun b z=>absurd z (noA b),e0.bs,e0.bsz,fun b _ _=>noA b,fun b z=>absurd z (noA b),e0.funs,e0.frf⟩,
  rfl,e0.bare,Un.kept hk,⟨_,x.toInCall.ns,fun i y v h1 h2 h3=>?_⟩,fun y c h=>⟨_,x.cell y c h⟩,e0.hok.fresh (MC _),fun y c h=>?_,fun p hp=>absurd (show p∈([]:List (Addr×Obj)) from hp) (by simp),e0.hok.kept hk,?_⟩
 ·exact name_of_addr x.apart (NV h1) (NV h2)
 ·have hy:scope.names.lookup y=some .cell∨scope.names.lookup y=some .free:=hy
  rcases hy with hy | hy
  ·exact DH hy
  ·exact absurd rfl (S.nofree _ (NV hy))
 ·exact ND (x.above y c (NV h))
 ·have hi:i<vs.length:=by
   unfold rV at h2;by_cases hi:i<vs.length
   ·exact hi
   ·rw[MB (by simpa using hi)]at h2
    rw[Ox]at h2;split at h2<;>cases h2
  have ha:vs[i]?=some v:=by
   unfold rV at h2;rw[MF (by simpa using hi),ME]at h2
   cases e:vs[i]? with
   |none=>rw[e]at h2;cases h2
   |some a=>rw[e]at h2;cases h2;rfl
  obtain⟨u,hu,rv⟩:=r.get ha;have hp:ps[i]?=some y:=by
   rw[← S.pre,List.getElem?_take_of_lt (by omega)];exact h1
  have ndP:ps.Nodup:=by rw[← S.pre];exact S.nd.sublist (List.take_sublist _ _)
  refine⟨u,rv,?_⟩;rcases S.par y (My hp)with k | k
  ·exact .inl ⟨k,zm ndP hp hu k⟩
  ·obtain⟨c,e⟩:=DH (n:=s.heap.objs.size+1) k;refine .inr ⟨.inl k,c,e,?_⟩;have q:=x.cell y c e;rw[zp ndP hp hu (by show scope.names.lookup y≠_;rw[k];decide)]at q
   exact q
 ·exact e0.hok.fresh (ND (x.above y c (NV h)))
 ·unfold rV;show _=N.length;rw[MA,MD,List.length_replicate];omega
theorem Ma{CX:CXT}{P:Program}{w:World}{K:Mz}{mg:Str->Option Value}{base:Heap}{k:Nat}{f:Addr}{name qual:Str}{params:Arguments}{body:List Stmt}{scope:Scope}{dV kV doc pm cdv ct oc:Value}{an od:Option Addr}
  {osl:Array (Option Value)} {N ps:List Str} {sp:Sp} (lk:K.lookup f=some ⟨oc,od,.func (MT name qual params body scope dV kV doc pm an cdv ct),osl⟩) (hcd:MP K cdv qual=true) (S:aG N ps scope)
  (len:∀ vs H Q E,sp vs H Q E->vs.length=ps.length)
  (hbody:∀(A:Around)(outer:List Env)(s:Shared)(H:Hp)(vs:List V)(Q:VK)(E:XK),Room k (A.deeper (envOfC qual scope s.heap.objs.size f cdv))->sp vs H Q E ->
   ∃ t,PSs (cxOf CX P w K mg base N qual scope f cdv A outer s H E) body t/\t { nx:=fun _ H'=>Q .non H',rt:=Q } (rV N vs) H) :
  FnOk P w K mg base CX (k+1) f (MT name qual params body scope dV kV doc pm an cdv ct) ps sp:=by
 refine⟨len,fun A outer s H args us vs Q E hr e0 hb r hsp=>?_⟩;have hl:=len _ _ _ _ hsp;have KX:K.In s.heap:=e0.mod.kin.keeps fun b o e=>(e0.bs b o e).1;have lim:s.heap.NoLimit:=e0.mod.nolimit.keeps fun b o e=>(e0.bs b o e).1;have hkind:∀ y∈ps.zip us,scope.names.lookup y.1=some .local∨(scope.names.lookup y.1=some .cell/\((cellsFrom (s.heap.objs.size+1) scope.names []).lookup y.1).isSome=true):=fun⟨n,v⟩ hy=>by
  rcases S.par n (PV hy).1 with q | q
  ·exact .inl q
  ·exact .inr ⟨q,PySem.W.cellsFrom_some _ _ _ (.inl q)⟩
 refine codeAny_call_function hr.depth (KX _ _ lk) rfl S.co S.gen rfl (PySem.W.codeRec_of KX hcd) (hb _ _ _ _ ?_);refine wpAny_newFunctionEnv_cells S.kind hkind fun env he s1 x=>?_;subst he;refine⟨lim.keeps x.toInCall.keep,codeAny_func ?_⟩;obtain⟨t,ht,hq⟩:=hbody A outer s H vs Q E (hr.deeper _) hsp;have I:Inv (cxOf CX P w K mg base N qual scope f cdv A outer s H E) [] (rV N vs) H s1:=G5 S hr.hd e0 hl r x;refine wpAny_mono (ht [] s1 (rV N vs) H _ I hq) (fun fl s' hs=>?_) fun e s' hs=>hs;have fin:∀{σ':St}{H':Hp}{v:V}{u:Value},Inv (cxOf CX P w K mg base N qual scope f cdv A outer s H E) [] σ' H' s'->RelV v u->Q v H'->CE outer P w H s Q u s' :=
  fun{σ' H' v u} J rv q=>⟨v,H',J.os,J.bare,J.base,J.hok,rv,q⟩
 cases fl with
 |ret u =>
  obtain⟨v,σ',H',J,rv,q⟩:=hs;exact fin J rv q
 |next =>
  obtain⟨σ',H',J,q⟩:=hs;exact fin (v:=V.non) (u:=Value.none) J rfl q
 |brk =>
  obtain⟨_,_,_,q⟩:=hs;exact False.elim q
 |cont =>
  obtain⟨_,_,_,q⟩:=hs;exact False.elim q
end L2
namespace L2
open PySem PySem.Spec PyProof.Rows
section
variable{X:Cx}{x:Str}{p pos:Pos}{e:Expr}{es:List Expr}{t:TA}{id T:String}{r:List V->Hp->VK->Prop}
def tCB(r:List V->Hp->VK->Prop)(t:TA):TE:=fun σ H Q=>t σ H fun vs H1=>r vs H1 Q
theorem aF(hc:nG X (.builtin id) r)(hg:Gl X x)(hm:X.mg x=none)(hv:bootBuiltins x=some (.builtin id))(ha:PA X (e::es) t) (hn:x≠"__name__":=by decide) (hdb:(x == ("__debug__" : Str))=false:=by decide)
  (he:starEach (e::es) X.env=(false,eval e X.env)::starEach es X.env:=by rfl) (hpl:(backTo pos (starEach es X.env)).any (·.1)=false:=by rfl):PE X (.Call (.Name x p) (e::es) [] pos) (tCB r t):=by
 intro pins s σ H Q I h;refine wpAny_Call_Name_kw (jZ I hg hm hv ?_ hn hdb);exact PyProof.Rows.callWith_builtin1 (thn (ha pos pins s σ H _ I h) fun us s1 ⟨vs,H1,I1,r1,q1⟩=>hc pins s1 σ H1 vs us Q I1 r1 q1) he hpl
theorem dq(hc:nG X (.type T) r)(hg:Gl X x)(hm:X.mg x=none)(hv:bootBuiltins x=some (.type T))(ha:PA X (e::es) t) (hn:x≠"__name__":=by decide) (hdb:(x == ("__debug__" : Str))=false:=by decide)
  (he:starEach (e::es) X.env=(false,eval e X.env)::starEach es X.env:=by rfl) (hpl:(backTo pos (starEach es X.env)).any (·.1)=false:=by rfl):PE X (.Call (.Name x p) (e::es) [] pos) (tCB r t):=by
 intro pins s σ H Q I h;refine wpAny_Call_Name_kw (jZ I hg hm hv ?_ hn hdb);exact PyProof.Rows.callWith_type1 (thn (ha pos pins s σ H _ I h) fun us s1 ⟨vs,H1,I1,r1,q1⟩=>hc pins s1 σ H1 vs us Q I1 r1 q1) he hpl
end
end L2
namespace HT
open PySem PyProof.Rows
section
open PySem.SeqAt
open PySem.AutoSeq1 (wpAny_loadPart')
open PySem.MeetsSeq PySem.MeetsSeq2 PySem.MeetsSeq3
end
section
variable{prog:Program}{w:World}{A:Around}{E:Value->Shared->Prop}{s:Shared}
def sIx(n d:Nat):Option Int->Nat
 |none=>d
 |some v=>if v<0 then(v+(n:Int)).toNat else min v.toNat n
theorem sIx_none(n d:Nat):sIx n d none=d:=rfl
theorem sIx_nat(n d k:Nat):sIx n d (some (k:Int))=min k n:=by
 show(if(k:Int)<0 then((k:Int)+(n:Int)).toNat else min (k:Int).toNat n)=min k n;rw[if_neg (by omega),Nc]
end
end HT
namespace L2
open PySem PySem.Spec PyProof.Rows
abbrev TO:=St->Hp->(Option Int->Hp->Prop)->Prop
def PO(X:Cx)(e:Option Expr)(t:TO):Prop :=
 ∀(pins:List (Addr×Obj))(s:Shared)(σ:St)(H:Hp)(Q:Option Int->Hp->Prop),Inv X pins σ H s->t σ H Q ->
  wpAny (model X.prog X.w) X.A (evalPart e X.env) (fun u s'=>∃ o H',Inv X pins σ H' s'/\IsPart u o/\Q o H') X.xe s
def KR:TO:=fun _ H Q=>Q none H
def tPart(t:TE):TO:=fun σ H Q=>t σ H fun x H1=>∃ i,x=.int i/\Q (some i) H1
section
variable{X:Cx}{e:Expr}{te:TE}{lo hi:Option Expr}{tl th:TO}{pos p2:Pos}
theorem AD:PO X none KR:=by
 intro pins s σ H Q I h;rw[evalPart_none];exact wpAny_pure ⟨none,H,I,.none,h⟩
theorem AB(h:PE X e te):PO X (some e) (tPart te):=by
 intro pins s σ H Q I hw;rw[evalPart_some];refine thn (h pins s σ H _ I hw) fun u s1 ⟨x,H1,I1,r1,q1⟩=>?_;obtain⟨i,rfl,q⟩:=q1;obtain⟨t,rfl⟩:=r1;exact⟨some i,H1,I1,.int i t,q⟩
def SlR(X:Cx)(r:V->Option Int->Option Int->Hp->VK->Prop):Prop :=
 ∀(pins:List (Addr×Obj))(s:Shared)(σ:St)(H:Hp)(x:V)(v vl vu:Value)(lo hi:Option Int)(sl:Addr)(Q:VK),Inv X pins σ H s->RelV x v->s.heap.IsSliceOf sl vl vu .none->IsPart vl lo->IsPart vu hi->r x lo hi H Q ->
  ∃ T id,typeLookup (.type T) "__getitem__" = pure (some (.builtin id))/\s.TypeIs v T/\wpAny (model X.prog X.w) X.A (getItem v (.ref sl)) (EP X pins σ Q) X.xe s
def tSl(r:V->Option Int->Option Int->Hp->VK->Prop)(te:TE)(tl th:TO):TE:=fun σ H Q=>te σ H fun x H1=>tl σ H1 fun l H2=>th σ H2 fun u H3=>r x l u H3 Q
theorem uW{r:V->Option Int->Option Int->Hp->VK->Prop}(hr:SlR X r)(he:PE X e te)(hl:PO X lo tl)(hu:PO X hi th):PE X (.Subscript e (.Slice lo hi none p2) pos) (tSl r te tl th):=by
 intro pins s σ H Q I h;refine Subscript_ (thn (he pins s σ H _ I h) fun v s1 ⟨x,H1,I1,r1,q1⟩=>?_);refine wpAny_Slice (thn (hl pins s1 σ H1 _ I1 q1) fun vl s2 ⟨l,H2,I2,pl,q2⟩=>thn (hu pins s2 σ H2 _ I2 q2) fun vu s3 ⟨u,H3,I3,pu,q3⟩=>?_);rw[evalPart_none];refine wpAny_pure ?_;have I4:Inv X pins σ H3 { s3 with heap:=s3.heap.push { cls:=.type "slice",data:=.fields #[vl,vu,.none] } }:=I3.kept (t':=s3.toks) fun b ob q=>Heap.get?_push_of_some _ q;obtain⟨T,id,hT,ht,hg⟩:=hr pins { s3 with heap:=s3.heap.push { cls:=.type "slice",data:=.fields #[vl,vu,.none] } } σ H3 x v vl vu l u s3.heap.objs.size Q I4 r1 (Heap.IsSliceOf.new ..) pl pu q3;show wpAny (model X.prog X.w) X.A (subscriptTail e (.Slice lo hi none p2) v (.ref s3.heap.objs.size)) (EP X pins σ Q) X.xe { s3 with heap:=s3.heap.push { cls:=.type "slice",data:=.fields #[vl,vu,.none] } };exact tail_any (ops:=[.ref s3.heap.objs.size,v]) ht hT hg (by with_unfolding_all rfl)
def cutV(xs:List V)(lo hi:Option Int):List V:=(xs.drop (HT.sIx xs.length 0 lo)).take (HT.sIx xs.length xs.length hi-HT.sIx xs.length 0 lo)
theorem B9(xs:List V)(lo hi:Option Int):(cutV xs lo hi).length<=xs.length:=by
 unfold cutV;rw[Nf,Nu];omega
end
end L2
namespace L2
open PySem PySem.Spec PyProof.Rows
def ixN(n:Nat)(i:Int):Option Nat:=if 0<=i then(if i<n then some i.toNat else none) else if -(n:Int)<=i then some (i+n).toNat else none
def atI{α:Type}(xs:List α)(i:Int):Option α:=(ixN xs.length i).bind fun j=>xs[j]?
theorem G0{n:Nat}{i:Int}{j:Nat}(h:ixN n i=some j):seqIndex? i n=some j/\j<n/\-(n:Int)<=i/\i<n:=by
 unfold ixN at h;by_cases h0:0<=i
 ·rw[if_pos h0]at h;by_cases h1:i<n
  ·rw[if_pos h1]at h;have e:i.toNat=j:=MN h;exact⟨by rw[seqIndex_of h0 h1,e],by omega,by omega,h1⟩
  ·rw[if_neg h1]at h;cases h
 ·rw[if_neg h0]at h;by_cases h1 : -(n:Int)<=i
  ·rw[if_pos h1]at h;have e:(i+n).toNat=j:=MN h;exact⟨by rw[seqIndex_neg (by omega) h1,e],by omega,h1,by omega⟩
  ·rw[if_neg h1]at h;cases h
theorem Ij{α:Type}{xs:List α}{i:Int}{v:α}(h:atI xs i=some v):∃ j,seqIndex? i xs.length=some j/\xs[j]?=some v/\j<xs.length/\-(xs.length:Int)<=i/\i<xs.length:=by
 unfold atI at h
 cases e:ixN xs.length i with
 |none=>rw[e]at h;cases h
 |some j =>
  rw[e]at h;obtain⟨h1,h2,h3,h4⟩:=G0 e;exact⟨j,h1,h,h2,h3,h4⟩
theorem aM{α:Type}{xs:List α}{j:Nat}{v:α}(h:xs[j]?=some v):atI xs (j:Int)=some v:=by
 have hj:j<xs.length:=(Mw.mp h).1;have e:ixN xs.length (j:Int)=some j:=by
  unfold ixN;rw[if_pos (by omega),if_pos (by omega)];simp
 unfold atI;rw[e];exact h
def Mu(b:Expr):Prop:=∀ o i,subscripted b false o i=operate [o,i] (getItem o i)
def IxR(X:Cx)(r:R2):Prop :=
 ∀(value slice:Expr)(pins:List (Addr×Obj))(s:Shared)(σ:St)(H:Hp)(x y:V)(v u:Value)(Q:VK),Inv X pins σ H s->RelV x v->RelV y u->r x y H Q ->
  subscripted slice false v u=operate [v,u] (getItem v u)->wpAny (model X.prog X.w) X.A (subscriptTail value slice v u) (EP X pins σ Q) X.xe s
def MtR(X:Cx)(id:String)(r:V->List V->Hp->VK->Prop):Prop :=
 ∀(pins:List (Addr×Obj))(s:Shared)(σ:St)(H:Hp)(x:V)(xs:List V)(v:Value)(us:List Value)(Q:VK),Inv X pins σ H s->RelV x v->Vals xs us->r x xs H Q ->
  wpAny (model X.prog X.w) X.A (call (.builtin id) (v::us)) (EP X pins σ Q) X.xe s
section
variable{X:Cx}{a b:Expr}{ta tb:TE}{pos:Pos}
theorem aE{r:R2}(hr:IxR X r)(ha:PE X a ta)(hb:PE X b tb)(hs:Mu b):PE X (.Subscript a b pos) (tOp r ta tb):=by
 intro pins s σ H Q I h;exact Subscript_ (binT ha hb I h fun v u s2 x y H2 I2 rx ry q=>hr a b pins s2 σ H2 x y v u Q I2 rx ry q (hs _ _))
def rIxL(K:Mz):R2:=fun x y H Q=>∃ p xs i v,x=.ref p/\y=.int i/\SqL K H p xs/\atI xs i=some v/\Q v H
def rIxT(K:Mz):R2:=fun x y H Q=>∃ p xs i v,x=.ref p/\y=.int i/\SqT K H p xs/\atI xs i=some v/\Q v H
theorem aP:IxR X (rIxL X.K):=by
 intro value slice pins s σ H x y v u Q I rx ry h hs;obtain⟨p,xs,i,z,rfl,rfl,hq,he,q⟩:=h
 cases rx
 obtain⟨t,rfl⟩:=ry;obtain⟨its,r,pl,hz⟩:=I.list hq;obtain⟨j,h1,h2,h3,h4,h5⟩:=Ij he;obtain⟨w,ew,rw'⟩:=r.get h2;have hl:=r.length;have hn:=yo;have fin:EP X pins σ Q w s:=⟨z,H,I,rw',q⟩;by_cases h0:0<=i
 ·have hj:i.toNat=j:=by
   rw[seqIndex_of h0 h5]at h1;exact MN h1
  exact item_listR pl.isList h0 (by omega) (by rw[hj];simpa using ew) fin hs
 ·have hj:(i+(its.toArray.size:Int)).toNat=j:=by
   rw[seqIndex_neg (by omega) h4]at h1
   rw[M6,← hl];exact MN h1
  exact subscriptTail_builtinR (x:=w) pl.isList.typeIs slot_list_getitem.lookup
   (wpAny_getItem_list_neg (Q:=fun r s'=>r=w/\EP X pins σ Q r s') pl.isList (by omega) (by rw[M6]<;>omega) (by omega) (by rw[hj];simpa using ew) ⟨rfl,fin⟩) hs
theorem aH:IxR X (rIxT X.K):=by
 intro value slice pins s σ H x y v u Q I rx ry h hs;obtain⟨p,xs,i,z,rfl,rfl,hq,he,q⟩:=h
 cases rx
 obtain⟨t,rfl⟩:=ry;obtain⟨its,r,pl,hz⟩:=I.tuple hq;obtain⟨j,h1,h2,h3,h4,h5⟩:=Ij he;obtain⟨w,ew,rw'⟩:=r.get h2;have hl:=r.length;have hn:=yo;have fin:EP X pins σ Q w s:=⟨z,H,I,rw',q⟩;exact subscriptTail_builtinR (x:=w) pl.typeIs slot_tuple_getitem.lookup
  (getItem_tuple (j:=j) (Q:=fun r s'=>r=w/\EP X pins σ Q r s') pl (by omega) (by omega) (by rw[M6,← hl];exact h1) (by simpa using ew) ⟨rfl,fin⟩) hs
theorem Eo(its:List Value)(n j:Nat)(u:Value):Obj.mapSeq (·.setIfInBounds j u) { cls:=.type "list",data:=.seq its.toArray n }={ cls:=.type "list",data:=.seq (its.set j u).toArray n }:=by
 simp[Obj.mapSeq]
theorem Inv.lst{pins:List (Addr×Obj)}{σ:St}{H:Hp}{s:Shared}{p:Addr}{xs:List V}(I:Inv X pins σ H s)(h:H p=some (.lst xs)) :
  ∃(its:List Value)(n:Nat),Vals xs its/\s.heap.get? p=some { cls:=.type "list",data:=.seq its.toArray n }/\xs.length<=sizeLine:=by
 obtain⟨z,its,n,r,e⟩:=I.hok p _ h;exact⟨its,n,r,e,z⟩
theorem Inv.lstUpd{pins:List (Addr×Obj)}{σ:St}{H:Hp}{s:Shared}{p:Addr}{xs ys:List V}{its its':List Value}{n n':Nat}{f:Obj->Obj}(I:Inv X pins σ H s)(h:H p=some (.lst xs))
  (ho:s.heap.get? p=some { cls:=.type "list",data:=.seq its.toArray n }) (hf:f { cls:=.type "list",data:=.seq its.toArray n }={ cls:=.type "list",data:=.seq its'.toArray n' }) (r:Vals ys its') (hz:ys.length<=sizeLine) (t:Nat) :
  Inv X pins σ (upd H p (.lst ys)) { s with heap:=s.heap.update p f,toks:=t }:=by
 have e:(s.heap.update p f).get? p=some { cls:=.type "list",data:=.seq its'.toArray n' }:=by
  rw[Heap.get?_update_self f ho (by rw[hf]<;>rfl),hf]
 refine I.write (x:=p) (e:=p) (by rw[h];trivial) (.inl rfl) (fun b u hb q=>(Heap.get?_update_other _ _ (Ne.symm hb)).trans q) ⟨_,e⟩ ?_
 exact⟨hz,its',n',r,e⟩
def rSetL:V->V->V->Hp->(Hp->Prop)->Prop:=fun o i v H Q=>∃ p xs k j,o=.ref p/\i=.int k/\H p=some (.lst xs)/\ixN xs.length k=some j/\Q (upd H p (.lst (xs.set j v)))
theorem uE:PSet X rSetL:=by
 intro pins s σ H o i v ov iv u Q I ro ri rv h;obtain⟨p,xs,k,j,rfl,rfl,hp,hj,q⟩:=h
 cases ro
 obtain⟨t,rfl⟩:=ri;obtain⟨its,n,r,ho,hz⟩:=I.lst hp;obtain⟨h1,h2,h3,h4⟩:=G0 hj;have hl:=r.length;have hn:=yo;have I':Inv X pins σ (upd H p (.lst (xs.set j v))) { s with heap:=s.heap.update p (Obj.mapSeq (·.setIfInBounds j u)) } :=
  I.lstUpd hp ho (Eo its n j u) (r.set rv j) (by rw[Nt];exact hz) s.toks
 by_cases h0:0<=k
 ·have hk:k.toNat=j:=by
   rw[seqIndex_of h0 h4]at h1;exact MN h1
  exact PySem.W.ki_setAt ho h0 (by omega) (by rw[M6,← hl];exact h4) (by rw[hk];exact⟨_,I',q⟩)
 ·have hk:(k+(its.toArray.size:Int)).toNat=j:=by
   rw[seqIndex_neg (by omega) h3]at h1
   rw[M6,← hl];exact MN h1
  exact PySem.W.ki_setBack ho (by omega) (by rw[M6,← hl];exact h3) (by omega) (by rw[hk];exact⟨_,I',q⟩)
theorem xm(lo hi:Option Int)(n:Nat):(sliceBounds lo hi none n).1=((HT.sIx n 0 lo:Nat):Int)/\(sliceBounds lo hi none n).2.1=((HT.sIx n n hi:Nat):Int)/\(sliceBounds lo hi none n).2.2=1:=by
 refine⟨?_,?_,rfl⟩
 ·cases lo with
  |none=>simp[sliceBounds,HT.sIx]
  |some i =>
   simp only[sliceBounds,HT.sIx,Option.getD_none,show(1:Int) > 0 by decide,if_true]
   by_cases h:i<0
   ·simp only[h,if_true]<;>omega
   ·simp only[h,if_false]<;>omega
 ·cases hi with
  |none=>simp[sliceBounds,HT.sIx]
  |some i =>
   simp only[sliceBounds,HT.sIx,Option.getD_none,show(1:Int) > 0 by decide,if_true]
   by_cases h:i<0
   ·simp only[h,if_true]<;>omega
   ·simp only[h,if_false]<;>omega
theorem uu(its:List Value)(lo hi:Option Int):slicePick its.toArray lo hi none=((its.drop (HT.sIx its.length 0 lo)).take (HT.sIx its.length its.length hi-HT.sIx its.length 0 lo)).toArray:=by
 obtain⟨h1,h2,h3⟩:=xm lo hi its.toArray.size;unfold slicePick;rw[h1,h2,h3];simp only[sliceRange_one,pick_run,M6]<;>rfl
def rSlL(K:Mz):V->Option Int->Option Int->Hp->VK->Prop:=fun x lo hi H Q=>∃ a xs,x=.ref a/\SqL K H a xs/\∀ p,H p=none->Q (.ref p) (upd H p (.lst (cutV xs lo hi)))
theorem Ak:SlR X (rSlL X.K):=by
 intro pins s σ H x v vl vu lo hi sl Q I rx hs pl pu h;obtain⟨a,xs,rfl,hx,q⟩:=h
 cases rx
 obtain⟨its,r,ht,hz⟩:=I.list hx;have hlen:=r.length;refine⟨"list",_,slot_list_getitem.lookup,ht.isList.typeIs,?_⟩;refine wpAny_getItem_list_slice ht.isList hs pl pu .none (by simp) ?_ (by rw[M6]<;>omega)
 rw[uu,← hlen];refine⟨.ref s.heap.objs.size,_,I.laid (t':=s.toks) (o:=.lst (cutV xs lo hi)) (fun b ob q=>Heap.get?_push_of_some _ q) (MC _) ?_,rfl,q _ (I.hok.fresh (MC _))⟩;exact⟨Nw (B9 xs lo hi) hz,_,0,(r.drop (HT.sIx xs.length 0 lo)).take (HT.sIx xs.length xs.length hi-HT.sIx xs.length 0 lo),Heap.get?_push_size _ rfl⟩
theorem ay:nG X (.builtin "len") (fun xs H Q=>∃ p ys,xs = [.ref p]/\(SqL X.K H p ys∨SqT X.K H p ys)/\Q (.int ys.length) H):=by
 intro pins s σ H xs us Q I r h;obtain⟨p,ys,rfl,hq,q⟩:=h;obtain⟨u,rfl,rx⟩:=tZ r
 cases rx
 have hn:=yo;rcases hq with hq | hq
 ·obtain⟨its,r',pl,hz⟩:=I.list hq;have hlen:=r'.length;exact Calls.call_len_list pl.isList (by simp only[M6]<;>omega) ⟨.int ys.length,H,I.tok _,⟨s.toks+1,by rw[M6,hlen]⟩,q⟩
 ·obtain⟨its,r',pl,hz⟩:=I.tuple hq;have hlen:=r'.length;exact len_tuple pl (by simp only[M6]<;>omega) ⟨.int ys.length,H,I.tok _,⟨s.toks+1,by rw[M6,hlen]⟩,q⟩
theorem cE:nG X (.type "list") (fun xs H Q=>∃ p ys,xs = [.ref p]/\(SqL X.K H p ys∨SqT X.K H p ys)/\∀ l,H l=none->Q (.ref l) (upd H l (.lst ys))):=by
 intro pins s σ H xs us Q I r h;obtain⟨p,ys,rfl,hq,q⟩:=h;obtain⟨u,rfl,rx⟩:=tZ r
 cases rx
 have fin:∀(its:List Value),Vals ys its->ys.length<=sizeLine->∀(h':Heap)(c':Nat),(∀ b o',s.heap.get? b=some o'->h'.get? b=some o') ->
   h'.get? s.heap.objs.size=some { cls:=.type "list",dict:=none,data:=.seq its.toArray c',slots:=#[] }->EP X pins σ Q (.ref s.heap.objs.size) { s with heap:=h' }:=fun its r' hz h' c' kp e =>
  ⟨.ref s.heap.objs.size,_,I.laid (t':=s.toks) kp (MC _) (show bh X.prog X.w _ h' _ (.lst ys) from⟨hz,its,c',r',e⟩),rfl,q _ (I.hok.fresh (MC _))⟩
 rcases hq with hq | hq
 ·obtain⟨its,r',pl,hz⟩:=I.list hq;have hlen:=r'.length;obtain⟨o,ho,hc,n,hd⟩:=pl.isList;exact call_list_seq p (.inl rfl) ho hc hd (fun h' c' kp e=>fin its r' hz h' c' kp e) (by simp only[M6]<;>omega)
 ·obtain⟨its,r',pl,hz⟩:=I.tuple hq;have hlen:=r'.length;obtain⟨o,ho,hc,n,hd⟩:=pl;exact call_list_seq p (.inr rfl) ho hc hd (fun h' c' kp e=>fin its r' hz h' c' kp e) (by simp only[M6]<;>omega)
def tyV(K:Mz)(T:String)(x:V)(H:Hp):Prop:=match x with
 |.str _=>T = "str"
 |.int _=>T = "int"
 |.ref p=>(T = "list"/\∃ xs,SqL K H p xs)∨(T = "tuple"/\∃ o,K.lookup p=some o/\o.cls=.type "tuple"/\o.dict=none) ∨
   (T = "dict"/\((∃ kvs,H p=some (.dK kvs))∨∃ kvs,H p=some (.dT kvs)))∨(T = "set"/\∃ S n,H p=some (.set S n))
 |_=>False
theorem JY{pins:List (Addr×Obj)}{σ:St}{H:Hp}{s:Shared}{T:String}{x:V}{v:Value}(I:Inv X pins σ H s)(r:RelV x v)(ty:tyV X.K T x H) :
  s.TypeIs v T/\∀ a,v=.ref a->∃ ob,s.heap.get? a=some ob/\ob.dict=none:=by
 cases x with
 |str z =>
  obtain⟨t,rfl⟩:=r
  cases (show T = "str" from ty)
  exact⟨typeIs_str s z t,fun _ e=>nomatch e⟩
 |int i =>
  obtain⟨t,rfl⟩:=r
  cases (show T = "int" from ty)
  exact⟨typeIs_int s i t,fun _ e=>nomatch e⟩
 |ref p =>
  cases r
  rcases ty with⟨rfl,xs,hq⟩ | ⟨rfl,o,hk,hc,hd⟩ | ⟨rfl,hk⟩ | ⟨rfl,S,n,hk⟩
  ·obtain⟨its,_,pl,_⟩:=I.list hq;refine⟨pl.isList.typeIs,fun a e=>?_⟩
   cases e
   obtain⟨o,n,e,c,hd,_⟩:=pl;exact⟨o,e,hd⟩
  ·refine⟨⟨o,I.kIn p o hk,hc⟩,fun a e=>?_⟩
   cases e
   exact⟨o,I.kIn _ o hk,hd⟩
  ·have z:∃ o,s.heap.get? p=some o/\o.ExactDict:=by
    rcases hk with⟨kvs,hk⟩ | ⟨kvs,hk⟩
    ·obtain⟨_,_,_,_,o,_,_,e,ex,_⟩:=I.hok p _ hk;exact⟨o,e,ex⟩
    ·obtain⟨_,_,_,_,o,_,_,e,ex,_⟩:=I.hok p _ hk;exact⟨o,e,ex⟩
   obtain⟨o,e,ex⟩:=z;refine⟨⟨o,e,ex.1⟩,fun a e2=>?_⟩
   cases e2
   exact⟨o,e,ex.2.1⟩
  ·obtain⟨o,_,_,_,e,ex,_⟩:=I.hok p _ hk;refine⟨⟨o,e,ex.1⟩,fun a e2=>?_⟩
   cases e2
   exact⟨o,e,ex.2.1⟩
 |_=>exact False.elim ty
def tBM0(K:Mz)(T:String)(r:V->List V->Hp->VK->Prop)(to:TE):TE:=fun σ H Q=>to σ H fun x H1=>tyV K T x H1/\r x [] H1 Q
def tBM(K:Mz)(T:String)(r:V->List V->Hp->VK->Prop)(to:TE)(t:TA):TE:=fun σ H Q=>to σ H fun x H1=>tyV K T x H1/\t σ H1 fun xs H2=>r x xs H2 Q
variable{o e:Expr}{es:List Expr}{to:TE}{t:TA}{name:Str}{apos cpos:Pos}{T id:String}{r:V->List V->Hp->VK->Prop}
theorem F5(pa:PlainAttrs T)(slot:Slot T name id) (hty:typeOf (.builtin id)=pure (.type "method_descriptor")) (hm:MtR X id r) (ho:PE X o to)
  (hbase:attributeBase o name X.env (eval o X.env)=eval o X.env:=by rfl) (hline:(apos.endLine == cpos.line)=true:=by rfl):PE X (.Call (.Attribute o name apos) [] [] cpos) (tBM0 X.K T r to):=by
 intro pins s σ H Q I h;refine wpAny_Call_method0_late hbase hline (thn (ho pins s σ H _ I h) fun v s1 ⟨x,H1,I1,r1,ty,q1⟩=>?_);obtain⟨h1,h2⟩:=JY I1 r1 ty;exact⟨T,id,pa,slot,hty,h1,h2,Calls.callWith_builtin rfl (PySem.evalArgs_none (hm pins s1 σ H1 x [] v [] Q I1 r1 .nil q1))⟩
theorem fX(pa:PlainAttrs T)(slot:Slot T name id) (hty:typeOf (.builtin id)=pure (.type "method_descriptor")) (hm:MtR X id r) (ho:PE X o to) (ha:PA X (e::es) t)
  (hbase:attributeBase o name X.env (eval o X.env)=eval o X.env:=by rfl)
  (hfew:((backTo cpos (starEach (e::es) X.env)).all (fun x=>!x.1)&&(backToKw cpos (keywordEach [] X.env)).all (fun x=>x.1.isSome)
   && decide ((e::es).length+([]:List Keyword).length+(if([]:List Keyword).isEmpty then 0 else 1)<30))=true:=by rfl)
  (hline:(apos.endLine == cpos.line)=true:=by rfl) (hs:starEach (e::es) X.env=(false,eval e X.env)::starEach es X.env:=by rfl) (hplain:(backTo cpos (starEach es X.env)).any (·.1)=false:=by rfl) :
  PE X (.Call (.Attribute o name apos) (e::es) [] cpos) (tBM X.K T r to t):=by
 intro pins s σ H Q I h;refine wpAny_Call_method_late hbase hfew hline rfl (thn (ho pins s σ H _ I h) fun v s1 ⟨x,H1,I1,r1,ty,q1⟩=>?_);obtain⟨h1,h2⟩:=JY I1 r1 ty;refine⟨T,id,pa,slot,hty,h1,h2,?_⟩;have hA:=ha cpos pins s1 σ H1 _ I1 q1;rw[hs]at hA ⊢;refine Calls.callWith_builtin (by show(false||(backTo cpos (starEach es X.env)).any (·.1))=false;rw[hplain]<;>rfl) (Calls.evalArgs_plain ?_)
 exact thn hA fun us s2 ⟨vs,H2,I2,r2,q2⟩=>hm pins s2 σ H2 x vs v us Q I2 r1 r2 q2
end
end L2
namespace L2
open PySem PySem.Spec PyProof.Rows
def MtM(X:Cx)(id:String)(r:V->List V->Hp->VK->Prop):Prop :=
 ∀(pins:List (Addr×Obj))(s:Shared)(σ:St)(H:Hp)(x:V)(xs:List V)(v:Value)(us:List Value)(Q:VK),Inv X pins σ H s->RelV x v->Vals xs us->r x xs H Q ->
  wpAny (model X.prog X.w) X.A (call (.builtin id) (v::us)) (EP X pins σ Q) X.xe s
theorem Vals.one:∀{x:V}{us:List Value},Vals [x] us->∃ u,us = [u]/\RelV x u
 |_,_,.cons r .nil=>⟨_,rfl,r⟩
theorem Vals.two:∀{x y:V}{us:List Value},Vals [x,y] us->∃ u v,us = [u,v]/\RelV x u/\RelV y v
 |_,_,_,.cons r (.cons q .nil)=>⟨_,_,rfl,r,q⟩
theorem Vals.zero:∀{us:List Value},Vals [] us->us = []
 |_,.nil=>rfl
section
variable{X:Cx}{pins:List (Addr×Obj)}{σ:St}{H:Hp}{s:Shared}{l b:Addr}{xs ys zs:List V}
theorem Inv.lset{its its':List Value}{n:Nat}{f:Array Value->Array Value}{t':Nat}(I:Inv X pins σ H s)(hH:H l=some (.lst xs))
  (e:s.heap.get? l=some { cls:=.type "list",data:=.seq its.toArray n }) (hf:f its.toArray=its'.toArray) (hv:Vals ys its') (hz:ys.length<=sizeLine) :
  Inv X pins σ (upd H l (.lst ys)) { s with heap:=s.heap.update l (Obj.mapSeq f),toks:=t' }:=by
 have q:=PySem.IsL.update e f;rw[hf]at q;refine I.write (x:=l) (e:=l) (by rw[hH];exact trivial) (.inl rfl) (fun b' u hb hu=>(Heap.get?_update_other s.heap (Obj.mapSeq f) (Ne.symm hb)).trans hu) ⟨_,q⟩ ?_
 exact⟨hz,its',_,hv,q⟩
theorem Inv.lnew{its:List Value}{t':Nat}(I:Inv X pins σ H s)(hv:Vals ys its)(hz:ys.length<=sizeLine) :
  Inv X pins σ (upd H s.heap.objs.size (.lst ys)) { s with heap:=s.heap.push { cls:=.type "list",data:=.seq its.toArray },toks:=t' } :=
 I.laid (fun _ _ q=>Heap.get?_push_of_some _ q) (MC _) ⟨hz,its,0,hv,Heap.get?_push_size _ rfl⟩
theorem Inv.fresh(I:Inv X pins σ H s):H s.heap.objs.size=none:=I.hok.fresh (MC _)
theorem Inv.lstM(I:Inv X pins σ H s)(hH:H l=some (.lst xs)):xs.length<=sizeLine/\∃(its:List Value)(n:Nat),Vals xs its/\xs.length=its.length/\s.heap.get? l=some { cls:=.type "list",data:=.seq its.toArray n }:=by
 obtain⟨z,its,n,r,e⟩:=I.hok l _ hH;exact⟨z,its,n,r,r.length,e⟩
end
section
variable{X:Cx}
def Lf:V->List V->Hp->VK->Prop:=fun x vs H Q=>∃ l xs y,x=.ref l/\vs = [y]/\H l=some (.lst xs)/\xs.length<sizeLine/\Q .non (upd H l (.lst (xs++[y])))
theorem br:MtM X "list.append" Lf:=by
 intro pins s σ H x vs v us Q I rx rv h;obtain⟨l,xs,y,rfl,rfl,hH,hz,q⟩:=h
 cases rx
 obtain⟨u,rfl,ru⟩:=rv.one;obtain⟨z,its,n,r,hl,e⟩:=I.lstM hH;refine call_meets F.slot_list_append ⟨_,e,rfl⟩ F.entry_list_append (F.args_list_append_2 _ _) (PySem.list_append l its.toArray n u (by rw[M6];omega)) ⟨e,?_⟩
 refine⟨.non,_,I.lset (its':=its++[u]) hH e (by simp) (r.append (.cons ru .nil)) ?_,rfl,q⟩
 rw[MA,MJ];omega
def rCat:R2:=fun x y H Q=>∃ l b xs zs,x=.ref l/\y=.ref b/\H l=some (.lst xs)/\H b=some (.lst zs)/\xs.length+zs.length<=sizeLine/\∀ p,H p=none->Q (.ref p) (upd H p (.lst (xs++zs)))
theorem op_cat:OpR X (binaryOp .Add) rCat:=by
 intro pins s σ H x y v u Q I rx ry h;obtain⟨l,b,xs,zs,rfl,rfl,hH,hB,hz,q⟩:=h
 cases rx
 cases ry
 obtain⟨z,its,n,r,hl,e⟩:=I.lstM hH;obtain⟨z2,its2,n2,r2,hl2,e2⟩:=I.lstM hB;refine PySem.P.add_list e e2 ?_ (by rw[M6,M6];omega)
 have ea:its.toArray++its2.toArray=(its++its2).toArray:=by simp
 rw[ea];exact⟨.ref _,_,I.lnew (t':=s.toks) (r.append r2) (by rw[MA];omega),rfl,q _ I.fresh⟩
end
section
variable{prog:Program}{w:World}{A:Around}{E:Value->Shared->Prop}{s:Shared}
end
section
variable{X:Cx}
end
end L2
namespace Att
open PySem PySem.W PySem.Calls PyProof.Rows
theorem qI{P:Params}{h:Heap}:∀(ns:List Int)(vs:List Value),WellAll P h vs (ns.map WData.int)->IntsAre vs ns:=by
 intro ns;induction ns with
 |nil =>
  intro vs w;rw[Qd]at w
  cases w
  exact .nil
 |cons n ns ih =>
  intro vs w;rw[Nh]at w
  cases w with
  |cons a b =>
   cases a
   exact .cons _ _ (ih _ b)
theorem FK{l:OpenLaw}{n:Nat}(hn:l.most=some n){P:Params}{h:Heap}{args:List WData}{vals:List Value}
  (hpre:l.row.toRowW.claim.pre args=true) (hwl:WellAll P h vals args) :
  ∃ a vs ns,vals = [Value.ref a]/\args = [WData.list (ns.map WData.int)]/\h.get? a=some { cls:=.type "list",data:=.seq vs.toArray }/\IntsAre vs ns/\ns.length<=n:=by
 have hsh:WShape.hasAll [] args [.list .int]=true:=(pre_splitW hpre).1;have hc:l.pre.holds [] { args:=args }=true:=(pre_splitW hpre).2;obtain⟨d,r,rfl,h1,h2⟩:=hasAllW_cons hsh;obtain rfl:=hasAllW_nil h2;obtain⟨xs,rfl,h3⟩:=hasW_list h1;obtain⟨ns,rfl⟩:=items_int h3;have hlen:ns.length<=n:=by
  unfold OpenLaw.pre at hc;have h4:(WTm.not (.lt (.lit (.int (n:Int))) (.len (.arg 0)))).holds [] { args:=[.list (ns.map .int)] }=true:=by
   have h4:=(holds_andW hc).1;rw[hn]at h4;exact h4
  have h5:=condW_of h4 (w_not (w_lt w_lit (w_len_list (w_arg rfl))));rw[MD]at h5;refine Nat.le_of_not_lt fun q=>?_;have q':(n:Int)<((ns.length:Nat):Int):=by omega
  first
   | (rw[decide_eq_true q']at h5;exact absurd h5 (by decide))
   | (simp at h5;omega)
 cases hwl with
 |cons w1 w2 =>
  cases w2
  cases w1 with
  |list ho hall=>exact⟨_,_,ns,rfl,rfl,ho,qI ns _ hall,hlen⟩
theorem FU(l:OpenLaw)(args:List WData):l.row.toRowW.claim.post args (.bool true) args=true :=
 postW_of (r:=l.row.toRowW) (X:=(true == true))
  (show WShape.has [] (.bool true) .bool=true by first | rfl | decide | simp[WShape.has,WShape.arms,WShape.armsAll])
  (show(WTm.eq .res (.lit (.bool true))).value [] { args:=args,res:=some (.bool true),after:=args }=some (.bool (true == true)) from w_eq_bool (w_res rfl) w_lit) rfl
theorem attach_call{l:OpenLaw}{n:Nat}{q:Program}{loose:List Str}{XP:(Str->Option Value)->Heap->Prop}{YP:World->Heap->Prop}{d:DefRec}
  (hn:l.most=some n) (hdf:d.params.defaults = [])
  (call:∀(w:World)(s₀ s₁:Shared)(mg mb:Str->Option Value)(fa:Addr)(o:Obj)(pm cd doc:Value)(a:Addr)(vs:List Value)(ns:List Int),
   Ground q loose [] XP w s₀ mg mb s₁.heap->YP w s₁.heap ->
   s₁.heap.get? fa=some o->o.data=.func (docDef d.name d.params d.body d.scope pm cd doc)->s₁.heap.CodeRec cd d.name->mg d.name=some (.ref fa) ->
   s₁.heap.get? a=some { cls:=.type "list",data:=.seq vs.toArray }->IntsAre vs ns->ns.length<=n->s₁.gens=#[] ->
   codeAny (model l.prog w) callerA (.call (.ref fa) ⟨[.ref a],[]⟩) (fun r s'=>r=.ok (.ret (.bool true))/\OldK s₁.heap s'.heap/\s'.os=s₁.os/\AllBare s'.gens) s₁) :
  WalkO q loose XP YP l.row.toRowW d [] (fun f vs=>PySem.call f vs):=by
 intro w s₀ s₁ mg mb G Y fa o pm cd doc dV kV ho hd hcd hD hmg hg args vals as hpre hlay hrd hwl hlo;obtain rfl:dV=.none:=Dflts.none hD hdf;obtain rfl:kV=.none:=Dflts.noKw hD;obtain⟨a,vs,ns,rfl,rfl,hobj,hints,hlen⟩:=FK hn hpre hwl;refine enter_call (codeAny_mono (call w s₀ s₁ mg mb fa o pm cd doc a vs ns G Y ho (fd_plain hd) hcd hmg hobj hints hlen hg) fun r s' hq=>?_);obtain⟨rfl,h2,h3,h4⟩:=hq;exact⟨.inl ⟨.bool true,.bool true,[],rfl,fun _=>rfl,.bool true,FU l _,fun _=>⟨Qa,fun _ hm=>(nomatch hm)⟩⟩,h2,h3,h4⟩
section
variable{prog:Program}{w:World}{A:Around}{E:Value->Shared->Prop}{s:Shared}{K:Frag}
end
end Att
namespace L2
open PySem PySem.Spec PyProof.Rows
theorem xh:∀{vs:List Value}{ns:List Int},IntsAre vs ns->Vals (ns.map V.int) vs
 |_,_,.nil=>.nil
 |_,_,.cons n t h=>.cons ⟨t,rfl⟩ (xh h)
def Only(H:Hp):Prop:=∀ b,H b=none∨∃ o xs,H b=some (.frz o (.lst xs))
theorem JC{P:Program}{w:World}{K:Mz}{mg mb:Str->Option Value}{CX:CXT}{k:Nat}{fa a:Addr}{fd:FuncData}{x:Str}{sp:Sp}{s₁:Shared}{vs:List Value}{ns:List Int}
  (KX:K.In s₁.heap) (hns:s₁.heap.Ns mainGlobals mg) (hb:s₁.heap.Ns builtinsNs mb) (hbb:∀ x:Str,x≠"__name__"->mb x=bootBuiltins x) (hlim:s₁.heap.NoLimit) (hg:s₁.gens=#[])
  (ha:s₁.heap.get? a=some { cls:=.type "list",data:=.seq vs.toArray }) (hi:IntsAre vs ns) (hl:ns.length<=sizeLine) (hr:Room k callerA)
  (F:∀ base:Heap,K.In base->base.Ns mainGlobals mg->FnOk P w K mg base CX k fa fd [x] sp) (hbind:∀(s:Shared)(u:Value),BindsTo s fd ⟨[u],[]⟩ [(x,u)])
  (hsp:∀ H:Hp,Only H->SqL K H a (ns.map V.int)->sp [.ref a] H (fun v _=>v=.bl true) fun _ _ _=>False)
  (hCX:∀ H e s',CX [] H s₁ (fun _ _ _=>False) e s'->False) :
  codeAny (model P w) callerA (.call (.ref fa) ⟨[.ref a],[]⟩) (fun r s'=>r=.ok (.ret (.bool true))/\OldK s₁.heap s'.heap/\s'.os=s₁.os/\AllBare s'.gens) s₁:=by
 have rv:=xh hi;have lenV:=hi.length;have core:∀ H:Hp,Only H->SqL K H a (ns.map V.int)->HOk P w H s₁.heap->(∀ b,H b≠none->b=a)->(H a≠none->K.lookup a=none) ->
   codeAny (model P w) callerA (.call (.ref fa) ⟨[.ref a],[]⟩) (fun r s'=>r=.ok (.ret (.bool true))/\OldK s₁.heap s'.heap/\s'.os=s₁.os/\AllBare s'.gens) s₁:=by
  intro H hO hS hok hA hK;have base_of:∀{b:Addr}{o:Obj},s₁.heap.get? b=some o->H b=none->(hidT s₁.heap H).get? b=some o:=fun e n=>JG e n;have noA:∀{b:Addr}{o:Obj}{es:Array DictEntry}{ep:Nat},s₁.heap.get? b=some o->o.data=.dict es ep->H b=none:=fun{b o es ep} e d=>by
   cases q:H b with
   |none=>rfl
   |some u =>
    have e':b=a:=hA b (by rw[q];simp)
    subst e';rw[ha]at e;cases e;have d':Data.seq vs.toArray _=Data.dict es ep:=d
    cases d'
  have nsK:∀{b:Addr}{m:Str->Option Value},s₁.heap.Ns b m->(hidT s₁.heap H).Ns b m:=fun{b m} ⟨o,es,ep,e,d,r⟩=>⟨o,es,ep,base_of e (noA e d),d,r⟩
  have hKb:K.In (hidT s₁.heap H):=fun b o e=>base_of (KX b o e) (by
   cases q:H b with
   |none=>rfl
   |some u =>
    have e':b=a:=hA b (by rw[q];simp)
    subst e'
    rw[hK (by rw[q];simp)]at e;cases e)
  have hM:Mod K mg (hidT s₁.heap H):=⟨hKb,nsK hns,⟨mb,nsK hb,hbb⟩,let ⟨mc,h1,h2⟩:=hlim;⟨mc,nsK h1,h2⟩⟩;have e0:Env0 P w K mg (hidT s₁.heap H) callerA [] s₁ H:=⟨rfl,hM,fun b o e=>LB e,Nat.le_of_eq (Hj _ _),trivial,fun b hb=>absurd (show b∈([]:List Addr) from hb) (by simp),hok,.of_eq hg⟩
  refine codeAny_mono ((F _ hKb (nsK hns)).run callerA [] s₁ H ⟨[.ref a],[]⟩ [.ref a] [.ref a] _ _ hr e0 (hbind s₁ (.ref a)) (.cons rfl .nil) (hsp H hO hS)) fun r s' h=>?_
  cases r with
  |error e=>exact(hCX H e s' h).elim
  |ok fl =>
   cases fl with
   |next=>exact False.elim h
   |brk=>exact False.elim h
   |cont=>exact False.elim h
   |ret u =>
    obtain⟨v,H',os,bare,un,hok',r',q⟩:=h;have q':v=.bl true:=q;subst q';obtain rfl:u=Value.bool true:=r';refine⟨rfl,OldK.of_keep fun b o e=>?_,os,bare⟩
    cases q:H b with
    |none=>exact un.keep b o e q (by intro z;exact absurd (show b∈([]:List Addr) from z) (by simp)) (by simp)
    |some u =>
     rcases hO b with z | ⟨ob,xs,z⟩
     ·rw[q]at z;cases z
     ·have z2:=un.frzs b ob _ z
      obtain⟨e1,_⟩:=hok b _ z;obtain⟨e2,_⟩:=hok' b _ z2;rw[e]at e1;cases e1;exact e2
 cases hk:K.lookup a with
 |some o =>
  have e:=KX a o hk;rw[ha]at e
  cases e
  refine core (fun _=>none) (fun _=>.inl rfl) (.inr ⟨_,vs.toArray,_,hk,rfl,rfl,rfl,by rw[M6,lenV];exact hl,by simpa using rv⟩) (fun b u z=>by have z':(none:Option HO)=some u:=z;cases z') (fun b z=>absurd rfl z) fun z=>absurd rfl z
 |none =>
  refine core (fun b=>if b=a then some (.frz { cls:=.type "list",data:=.seq vs.toArray } (.lst (ns.map V.int))) else none) (fun b=>?_) (.inl (.inr ⟨{ cls:=.type "list",data:=.seq vs.toArray },if_pos rfl⟩)) (fun b u z=>?_) (fun b z=>?_) fun _=>hk
  ·by_cases hb:b=a
   ·exact .inr ⟨_,_,if_pos hb⟩
   ·exact .inl (if_neg hb)
  ·by_cases hb:b=a
   ·have z':=(if_pos hb).symm.trans z
    cases z'
    subst hb;exact⟨ha,by rw[MD];exact hl,vs,_,rv,ha⟩
   ·have z':=(if_neg hb).symm.trans z
    cases z'
  ·by_cases hb:b=a
   ·exact hb
   ·exact absurd (if_neg hb) z
end L2
namespace L2
open PySem PySem.Spec PyProof.Rows
theorem walk_of{l:Qj}{n k:Nat}{q:Program}{loose:List Str}{XP:(Str->Option Value)->Heap->Prop}{YP:World->Heap->Prop}{d:DefRec}{K:Params->Mz}{CX:World->CXT}{sp:World->Sp}{x:Str}
  (hn:l.most=some n) (hn2:n<=sizeLine) (hdf:d.params.defaults = []) (hr:Room k callerA)
  (hY:∀(w:World)(h:Heap),YP w h->(K w.params).In h)
  (F:∀(w:World)(mg:Str->Option Value)(fa:Addr)(h:Heap),(K w.params).In h->h.Ns mainGlobals mg->mg d.name=some (.ref fa) ->
   ∃ fd:FuncData,(∀(s:Shared)(u:Value),BindsTo s fd ⟨[u],[]⟩ [(x,u)]) /\
    ∀ base:Heap,(K w.params).In base->base.Ns mainGlobals mg->FnOk l.prog w (K w.params) mg base (CX w) k fa fd [x] (sp w))
  (hsp:∀(w:World)(H:Hp)(a:Addr)(ns:List Int),ns.length<=n->Only H->SqL (K w.params) H a (ns.map V.int)->sp w [.ref a] H (fun v _=>v=.bl true) fun _ _ _=>False)
  (hCX:∀(w:World)(H:Hp)(s:Shared)(e:Value)(s':Shared),CX w [] H s (fun _ _ _=>False) e s'->False) :
  PySem.W.WalkO q loose XP YP l.row.toRowW d [] (fun f vs=>PySem.call f vs):=by
 refine Att.attach_call hn hdf fun w s₀ s₁ mg mb fa o pm cd doc a vs ns G Y ho hd hcd hmg hobj hints hlen hg=>?_;have KX:=hY w _ Y;obtain⟨fd,hb,hF⟩:=F w mg fa _ KX G.T.g hmg;exact JC KX G.T.g G.T.b G.T.builtins G.T.nolimit hg hobj hints (Nw hlen hn2) hr hF hb (fun H hO hS=>hsp w H a ns hlen hO hS) fun H e s'=>hCX w H s₁ e s'
end L2
namespace L2
open PySem PySem.Spec PyProof.Rows
def mR(s:Stmt)(j:Nat):Stmt:=match s with
 |.ClassDef _ _ _ body _ _ _ _ _ _ _=>body.getD j (.Pass ⟨0,0,0,0⟩)
 |_=>.Pass ⟨0,0,0,0⟩
def aD(s:Stmt):Arguments:=match s with
 |.FunctionDef _ a _ _ _ _ _ _ _ _=>a
 |_=>{ posonlyargs:=[],args:=[],vararg:=none,kwonlyargs:=[],kw_defaults:=[],kwarg:=none,defaults:=[] }
def aB(s:Stmt):List Stmt:=match s with
 |.FunctionDef _ _ b _ _ _ _ _ _ _=>b
 |_=>[]
def aj(s:Stmt):Scope:=match s with
 |.FunctionDef _ _ _ _ _ _ sc _ _ _=>sc
 |_=>{ kind:=.function,names:=[],isGenerator:=false,isCoroutine:=false }
abbrev CX0:CXT:=fun _ _ _ _ _ _=>False
abbrev E0:XK:=fun _ _ _=>False
theorem aR{X:Cx}:n8 CX0 X E0:=fun _ _ _ _ _ _ _ h=>h.elim
structure Fun(K:Mz)(x qual:Str)(st:Stmt)(f:Addr)(fd:FuncData):Prop where
 ex:∃(oc:Value)(od:Option Addr)(kV doc pm:Value)(an:Option Addr)(cdv ct:Value)(osl:Array (Option Value)),
  fd=MT x qual (aD st) (aB st) (aj st) .none kV doc pm an cdv ct/\K.lookup f=some ⟨oc,od,.func fd,osl⟩/\MP K cdv qual=true
 kp:MI K (.ref f)=true
section
variable{P:Program}{w:World}{K:Mz}{mg:Str->Option Value}{base:Heap}
theorem Fun.ok{x qual:Str}{st:Stmt}{f:Addr}{fd:FuncData}{N ps:List Str}{k:Nat}{sp:Sp}(F:Fun K x qual st f fd)(S:aG N ps (aj st))(len:∀ vs H Q E,sp vs H Q E->vs.length=ps.length)
  (hbody:∀(cdv:Value)(A:Around)(outer:List Env)(s:Shared)(H:Hp)(vs:List V)(Q:VK)(E:XK),Room k (A.deeper (envOfC qual (aj st) s.heap.objs.size f cdv))->sp vs H Q E ->
   ∃ t,PSs (cxOf CX0 P w K mg base N qual (aj st) f cdv A outer s H E).nox (aB st) t/\t { nx:=fun _ H'=>Q .non H',rt:=Q } (rV N vs) H):FnOk P w K mg base CX0 (k+1) f fd ps sp:=by
 obtain⟨oc,od,kV,doc,pm,an,cdv,ct,osl,rfl,lk,hcd⟩:=F.ex;refine Ma lk hcd S len fun A outer s H vs Q E hr hsp=>?_;obtain⟨t,h,q⟩:=hbody cdv A outer s H vs Q E hr hsp;exact⟨t,h.nox,q⟩
theorem Fun.binds{x qual:Str}{st:Stmt}{f:Addr}{fd:FuncData}{ps:List Str}(F:Fun K x qual st f fd)
  (h:∀(kV doc pm:Value)(an:Option Addr)(cdv ct:Value)(us:List Value),us.length=ps.length->bindArgs (MT x qual (aD st) (aB st) (aj st) .none kV doc pm an cdv ct) ⟨us,[]⟩=pure (ps.zip us)):jo K fd ps []:=by
 obtain⟨oc,od,kV,doc,pm,an,cdv,ct,osl,rfl,lk,hcd⟩:=F.ex;exact .all (h kV doc pm an cdv ct)
theorem aT{x qual:Str}{st:Stmt}{f:Addr}{oc:Value}{od an:Option Addr}{osl:Array (Option Value)}{kV doc pm cdv ct:Value}(l:K.lookup f=some ⟨oc,od,.func (MT x qual (aD st) (aB st) (aj st) .none kV doc pm an cdv ct),osl⟩)
  (c:MP K cdv qual=true) (k:MI K (.ref f)=true):Fun K x qual st f (MT x qual (aD st) (aB st) (aj st) .none kV doc pm an cdv ct):=⟨⟨oc,od,kV,doc,pm,an,cdv,ct,osl,rfl,l,c⟩,k⟩
end
theorem BR{A:Around}{k:Nat}(hr:Room k A):A.units+1<cLine:=Nat.lt_of_le_of_lt (Nat.add_le_add_left (by decide:1<=64) _) hr.units
theorem ax{n:Nat}(h:n<=1000):n<sizeLine:=Nat.lt_of_le_of_lt h (by decide)
section
variable{X:Cx}
theorem pv(i:Nat){x:Str}{pos:Pos}(hN:X.N[i]?=some x:=by rfl)(hv:Vis X.env.scope x:=by first | exact Or.inl rfl | exact Or.inr (Or.inl rfl) | exact Or.inr (Or.inr rfl)) (hd:(x == ("__debug__" : Str))=false:=by decide)
  (hcd:(x == ("__classdict__" : Str))=false:=by decide):PE X (.Name x pos) (tVar i):=pe_var hN hv hd hcd
end
theorem iteF{A B:Prop}(h:B):if false=true then A else B:=by
 rw[if_neg MQ];exact h
theorem iteT{A B:Prop}(h:A):if true=true then A else B:=by
 rw[if_pos rfl];exact h
theorem ite2{c A B:Prop} [Decidable c] (h1:c->A) (h2:¬ c->B):if c then A else B:=by
 by_cases h:c
 ·rw[if_pos h];exact h1 h
 ·rw[if_neg h];exact h2 h
theorem G1{c A B:Prop} [Decidable c] (hc:c) (h:B):if(!decide c)=true then A else B:=by
 rw[decide_eq_true hc];exact iteF h
def Same(H H':Hp):Prop:=∀ b o,H b=some o->H' b=some o
theorem Same.trans{H H1 H2:Hp}(a:Same H H1)(b:Same H1 H2):Same H H2:=fun c o h=>b c o (a c o h)
theorem Same.seq{K:Mz}{H H':Hp}{a:Addr}{xs:List V}(e:Same H H')(h:SqL K H a xs):SqL K H' a xs:=by
 rcases h with(h | ⟨o,h⟩) | h
 ·exact .inl (.inl (e _ _ h))
 ·exact .inl (.inr ⟨o,e _ _ h⟩)
 ·exact .inr h
end L2
set_option maxRecDepth 100000
set_option maxHeartbeats 4000000
namespace L2
open PySem PySem.Spec PyProof.Rows
end L2
namespace L2
open PySem PySem.Spec PyProof.Rows
section
variable(P:Program)(w:World)
end
section
variable{P:Program}{w:World}{H H':Hp}{h h':Heap}{a:Addr}{o:HO}
end
section
variable{P:Program}{w:World}{H:Hp}{h h':Heap}{x e:Addr}{o':HO}
end
section
variable{fs fs' ex ex':List Addr}{H H1 H2:Hp}{h h1 h2 h':Heap}{a x e:Addr}{o:HO}
end
end L2
namespace L2
open PySem PySem.Spec PyProof.Rows
section
variable{X:Cx}{pins:List (Addr×Obj)}{σ:List (Option V)}{H H':Hp}{s:Shared}{h':Heap}
end
end L2
namespace L2
open PySem PySem.Spec PyProof.Rows
section
variable{X:Cx}
variable{a b:Expr}{ta tb:TE}{pos:Pos}
variable{tA tB':TT}{rest:List Expr}
end
end L2
namespace L2
open PySem PySem.Spec PyProof.Rows
section
variable{X:Cx}{pins:List (Addr×Obj)}{σ:St}{H:Hp}{s:Shared}{a:Addr}{xs ys:List V}
end
section
variable{X:Cx}{pins:List (Addr×Obj)}{σ:St}{H:Hp}{s:Shared}{E:Value->Shared->Prop}
end
section
variable{X:Cx}{st:Stmt}{rest:List Stmt}{t u:TS}{e:Expr}{te:TE}{pos:Pos}
end
section
variable{X:Cx}{pos:Pos}
end
section
variable{X:Cx}{pos:Pos}
end
end L2
namespace L2
open PySem PySem.Spec PyProof.Rows
section
variable{X:Cx}{tg:Expr}
end
end L2
namespace L2
open PySem PySem.Spec PyProof.Rows
section
variable{X:Cx}{a b c:Expr}{ta tb tc:TE}{pos:Pos}
end
section
variable{X:Cx}{a b c:Expr}{ta tb tc:TE}{pos:Pos}
end
end L2
namespace L2
open PySem PySem.Spec PyProof.Rows
section
variable{prog:Program}{w:World}{A:Around}{E:Value->Shared->Prop}{s:Shared}{K:Mz}{x dx C f:Addr}{mA:Str->Option Value}{name:Str}{v:Value}
end
section
variable{P:Program}{w:World}{H H':Hp}{h h':Heap}{a C dx:Addr}{fs fs':List (Str×V)}
end
section
variable{X:Cx}{pins:List (Addr×Obj)}{σ:St}{H:Hp}{s:Shared}{a C dx:Addr}{fs:List (Str×V)}{f:Str}{v:V}{A:Around}{E:Value->Shared->Prop}
end
section
variable{X:Cx}{o e value:Expr}{f:Str}{pos pos' tpos:Pos}{ta tv:TE}
end
section
variable{X:Cx}{pins:List (Addr×Obj)}{σ:St}{H:Hp}{s:Shared}{A:Around}{E:Value->Shared->Prop}{Q:Value->Shared->Prop}{c:Value}{b:Bool}
end
end L2
namespace L2
open PySem PySem.Spec PyProof.Rows
section
variable{X:Cx}{e:Expr}{es:List Expr}{te:TE}{t:TA}{pos:Pos}
end
section
variable{X:Cx}{pins:List (Addr×Obj)}{σ:St}{H:Hp}{s s':Shared}
end
section
variable{X:Cx}{CX:CXT}{k:Nat}{f C:Addr}{fd:FuncData}{ps:List Str}{sp:Sp}{dvs:List V}{ds:List Value}{E:XK}{x m:Str}{p pos apos:Pos}{e o:Expr}{es:List Expr}{ta:TE}{t:TA}
end
section
variable{X:Cx}{CX:CXT}{k:Nat}{f C:Addr}{fd:FuncData}{ps ks:List Str}{sp:Sp}{E:XK}{x m:Str}{p pos apos kpos:Pos}{e o:Expr}{es:List Expr}{kws:List Keyword}{te ta:TE}{t tk:TA}{nm:Option Str}
variable{g:List Value->List Value->List Value}{gV:List V->List V->List V}
end
end L2
namespace L2
open PySem PySem.Spec PyProof.Rows
section
variable{X:Cx}{x:Str}{p pos:Pos}{e:Expr}{es:List Expr}{t:TA}{id T:String}{r:List V->Hp->VK->Prop}
end
end L2
namespace L2
open PySem PySem.Spec PyProof.Rows
section
variable{κ:Type} [DecidableEq κ]
def valV(kvs:List (κ×V))(k:κ):Option V:=(kvs.find? fun kv=>decide (kv.1=k)).map (·.2)
def putK(kvs:List (κ×V))(k:κ)(v:V):List (κ×V) :=
 if(kvs.any fun kv=>decide (kv.1=k))=true then kvs.map (fun kv=>if kv.1=k then(kv.1,v) else kv) else kvs++[(k,v)]
theorem bT{p:κ×V}{r:List (κ×V)}{k:κ}(e:p.1=k):valV (p::r) k=some p.2:=by simp[valV,O0,e]
theorem bV{p:κ×V}{r:List (κ×V)}{k:κ}(e:¬ p.1=k):valV (p::r) k=valV r k:=by simp[valV,O0,e]
theorem jr(k:κ):∀ kvs:List (κ×V),(kvs.any fun kv=>decide (kv.1=k))=(valV kvs k).isSome
 |[]=>rfl
 |p::r=>by
  rw[PH];by_cases e:p.1=k
  ·simp only[bT e,decide_eq_true e,Bool.true_or,Option.isSome_some]
  ·rw[bV e,decide_eq_false e,Bool.false_or];exact jr k r
theorem CV(k j:κ)(y:V):∀ kvs:List (κ×V),valV (kvs.map fun kv=>if kv.1=k then(kv.1,y) else kv) j=(valV kvs j).map fun x=>if j=k then y else x
 |[]=>rfl
 |p::r=>by
  have ih:=CV k j y r;rw[Nh];by_cases h:p.1=k
  ·rw[if_pos h];by_cases e:p.1=j
   ·rw[bT (p:=(p.1,y)) e,bT e,PM,if_pos (e.symm.trans h)]
   ·rw[bV (p:=(p.1,y)) e,bV e,ih]
  ·rw[if_neg h];by_cases e:p.1=j
   ·rw[bT (p:=p) e,bT e,PM,if_neg (fun z=>h (e.trans z))]
   ·rw[bV (p:=p) e,bV e,ih]
theorem xi(k j:κ)(y:V):∀ kvs:List (κ×V),valV kvs k=none->valV (kvs++[(k,y)]) j=if j=k then some y else valV kvs j
 |[],_=>by
  by_cases e:k=j
  ·rw[if_pos e.symm];exact bT (p:=(k,y)) e
  ·rw[if_neg (fun z=>e z.symm)];exact bV (p:=(k,y)) e
 |p::r,hn=>by
  rw[List.cons_append];have hk:¬ p.1=k:=fun z=>by rw[bT z]at hn;cases hn
  rw[bV hk]at hn;have ih:=xi k j y r hn;by_cases e:p.1=j
  ·rw[bT e,bT e,if_neg (fun z=>hk (e.trans z))]
  ·rw[bV e,bV e,ih]
theorem t8(kvs:List (κ×V))(k j:κ)(y:V):valV (putK kvs k y) j=if j=k then some y else valV kvs j:=by
 unfold putK;by_cases a:(kvs.any fun kv=>decide (kv.1=k))=true
 ·rw[if_pos a,CV];rw[jr]at a;by_cases e:j=k
  ·obtain⟨x,hx⟩:=QA.mp a;rw[if_pos e,e,hx,PM,if_pos rfl]
  ·rw[if_neg e]
   cases valV kvs j with
   |none=>rfl
   |some x=>rw[PM,if_neg e]
 ·rw[if_neg a];refine xi k j y kvs ?_;rw[jr]at a
  cases q:valV kvs k with
  |none=>rfl
  |some x=>rw[q]at a;exact(a rfl).elim
theorem df(kvs:List (κ×V))(k:κ)(v:V):(putK kvs k v).length<=kvs.length+1:=by
 unfold putK;split
 ·rw[MD];omega
 ·rw[MA,Nb,OF];omega
theorem ph{kvs:List (κ×V)}{k:κ}(v:V)(h:valV kvs k=none):putK kvs k v=kvs++[(k,v)]:=by
 unfold putK;rw[jr,h];exact if_neg (by decide)
theorem RelO.isSome_eq{o:Option V}{u:Option Value}(r:RelO o u):o.isSome=u.isSome:=by
 cases o with
 |none=>cases u with
  |none=>rfl
  |some _=>exact(show False from r).elim
 |some _=>cases u with
  |none=>exact(show False from r).elim
  |some _=>rfl
theorem RelO.getD{o:Option V}{u:Option Value}{d:V}{d':Value}(r:RelO o u)(rd:RelV d d'):RelV (o.getD d) (u.getD d'):=by
 cases o with
 |none=>cases u with
  |none=>exact rd
  |some _=>exact(show False from r).elim
 |some _=>cases u with
  |none=>exact(show False from r).elim
  |some _=>exact r
theorem KV.val{kvs:List (κ×V)}{vs:List (κ×Value)}(r:KV kvs vs)(k:κ):RelO (valV kvs k) (valueAt vs k):=by
 unfold KV at r;induction r with
 |nil=>exact True.intro
 | @cons p q ps qs h t ih =>
  obtain⟨h1,h2⟩:=h;by_cases e:p.1=k
  ·have e':q.1=k:=h1.symm.trans e
   have b:valueAt (q::qs) k=some q.2:=by simp[valueAt,O0,e']
   rw[bT e,b];exact h2
  ·have e':¬ q.1=k:=fun z=>e (h1.trans z)
   have b:valueAt (q::qs) k=valueAt qs k:=by simp[valueAt,O0,e']
   rw[bV e,b];exact ih
theorem KV.any{kvs:List (κ×V)}{vs:List (κ×Value)}(r:KV kvs vs)(k:κ):(kvs.any fun kv=>decide (kv.1=k))=vs.any fun kv=>decide (kv.1=k):=by
 unfold KV at r;induction r with
 |nil=>rfl
 |cons h t ih=>rw[PH,PH,ih,h.1]
theorem KV.repl{kvs:List (κ×V)}{vs:List (κ×Value)}(r:KV kvs vs)(k:κ){y:V}{u:Value}(ry:RelV y u) :
  KV (kvs.map fun kv=>if kv.1=k then(kv.1,y) else kv) (vs.map fun kv=>if kv.1=k then(kv.1,u) else kv):=by
 unfold KV at r ⊢;induction r with
 |nil=>exact .nil
 | @cons p q ps qs h t ih =>
  rw[Nh,Nh];refine .cons ?_ ih;obtain⟨h1,h2⟩:=h;by_cases e:p.1=k
  ·rw[if_pos e,if_pos (h1.symm.trans e)];exact⟨h1,ry⟩
  ·rw[if_neg e,if_neg (fun z=>e (h1.trans z))];exact⟨h1,h2⟩
theorem KV.put{kvs:List (κ×V)}{vs:List (κ×Value)}(r:KV kvs vs)(k:κ){y:V}{u:Value}(ry:RelV y u):KV (putK kvs k y) (stored vs k u):=by
 unfold putK stored;rw[r.any k];by_cases e:(vs.any fun kv=>decide (kv.1=k))=true
 ·rw[if_pos e,if_pos e];exact r.repl k ry
 ·rw[if_neg e,if_neg e];exact Paired.snoc r ⟨rfl,ry⟩
theorem KV.length{kvs:List (κ×V)}{vs:List (κ×Value)}(r:KV kvs vs):kvs.length=vs.length:=Paired.length r
end
theorem BJ{P:Program}{w:World}{k:Key}{u:Value}(r:RelV (kV k) u):(bB P w).is k u=true:=by
 cases k with
 |inl i=>obtain⟨t,e⟩:=(show ∃ t,u=Value.int i t from r);subst e;exact Bs P w i t
 |inr x=>obtain⟨t,e⟩:=(show ∃ t,u=Value.str x t from r);subst e;exact Br P w x t
theorem yG{P:Program}{w:World}:∀{ks:List Key}{us:List Value},Vals (ks.map kV) us->ItemsAre (bB P w) ks us
 |[],_,r=>by rw[Qd]at r;cases r;exact .nil
 |k::ks,_,r=>by
  rw[Nh]at r
  cases r with
  |cons h t=>exact .cons (BJ h) (yG t)
abbrev KT(H:Hp):List (List Key×V)->List (List Key×Addr×Value)->Prop:=Paired fun p q=>p.1=q.1/\H q.2.1=some (.tup (p.1.map kV))/\RelV p.2 q.2.2
theorem KT.val{H:Hp}{kvs:List (List Key×V)}{xs:List (List Key×Addr×Value)}(r:KT H kvs xs)(k:List Key):RelO (valV kvs k) ((atKey xs k).map (·.2)):=by
 induction r with
 |nil=>exact True.intro
 | @cons p q ps qs h t ih =>
  obtain⟨h1,_,h2⟩:=h;by_cases e:p.1=k
  ·have e':q.1=k:=h1.symm.trans e
   have b:atKey (q::qs) k=some q.2:=by simp[atKey,O0,e']
   rw[bT e,b];exact h2
  ·have e':¬ q.1=k:=fun z=>e (h1.trans z)
   have b:atKey (q::qs) k=atKey qs k:=by simp[atKey,O0,e']
   rw[bV e,b];exact ih
theorem KT.repl{H:Hp}{kvs:List (List Key×V)}{xs:List (List Key×Addr×Value)}(r:KT H kvs xs)(k:List Key){y:V}{u:Value}(ry:RelV y u) :
  KT H (kvs.map fun kv=>if kv.1=k then(kv.1,y) else kv) (xs.map (putAt k u)):=by
 induction r with
 |nil=>exact .nil
 | @cons p q ps qs h t ih =>
  rw[Nh,Nh];refine .cons ?_ ih;obtain⟨h1,h2,h3⟩:=h;unfold putAt;by_cases e:p.1=k
  ·rw[if_pos e,if_pos (h1.symm.trans e)];exact⟨h1,h2,ry⟩
  ·rw[if_neg e,if_neg (fun z=>e (h1.trans z))];exact⟨h1,h2,h3⟩
theorem KT.put{H:Hp}{kvs:List (List Key×V)}{xs:List (List Key×Addr×Value)}(r:KT H kvs xs)(k:List Key){b:Addr}{y:V}{u:Value}(hb:H b=some (.tup (k.map kV)))(ry:RelV y u) :
  KT H (putK kvs k y) (storedH xs k b u):=by
 have e:(kvs.any fun kv=>decide (kv.1=k))=(atKey xs k).isSome:=by
  rw[jr,(r.val k).isSome_eq,Option.isSome_map]
 unfold putK storedH;rw[e];by_cases q:(atKey xs k).isSome=true
 ·rw[if_pos q,if_pos q];exact r.repl k ry
 ·rw[if_neg q,if_neg q];exact Paired.snoc r ⟨rfl,hb,ry⟩
theorem KT.keeps{H H':Hp}{kvs:List (List Key×V)}{xs:List (List Key×Addr×Value)}(r:KT H kvs xs)(ht:∀ b ys,H b=some (.tup ys)->H' b=some (.tup ys)):KT H' kvs xs :=
 Paired.mapP r fun _ _ z=>⟨z.1,ht _ _ z.2.1,z.2.2⟩
section
variable{P:Program}{w:World}{H:Hp}{h:Heap}{a:Addr}
theorem rd_of{u:HO}(ok:HOk P w H h)(e:Rd H a u):bh P w H h a u:=e.ok ok
theorem EK{kvs:List (Key×V)}(ok:HOk P w H h)(e:Rd H a (.dK kvs)):kvs.length<=sizeLine/\(a == sysModules)=false/\∃ vs,KV kvs vs/\h.DictOf (bB P w) a vs :=
 show bh P w H h a (.dK kvs) from rd_of ok e
theorem Mj{kvs:List (Key×V)}(ok:HOk P w H h)(e:H a=some (.dK kvs)):kvs.length<=sizeLine/\(a == sysModules)=false/\∃ vs,KV kvs vs/\h.DictOf (bB P w) a vs:=EK ok (.inl e)
theorem yu{ks:List Key}(ok:HOk P w H h)(e:H a=some (.tup (ks.map kV))):(tupleKind (bB P w)).is h ks a:=by
 obtain⟨_,its,r,o,h1,h2,n,h3⟩:=(show bh P w H h a (.tup (ks.map kV)) from ok a _ e);exact⟨o,its.toArray,n,h1,h2,h3,by simpa using yG r⟩
theorem EJ{kvs:List (List Key×V)}(ok:HOk P w H h)(e:Rd H a (.dT kvs)):kvs.length<=sizeLine/\(a == sysModules)=false /\
  ∃ xs,KT H kvs xs/\h.DictOfH (tupleKind (bB P w)) a xs:=by
 obtain⟨z,y,xs,r,o,es,ep,h1,h2,h3,h4,h5⟩:=(show bh P w H h a (.dT kvs) from rd_of ok e);refine⟨z,y,xs,r,o,es,ep,h1,h2,h3,h4,fun x hx=>?_,h5⟩;have all:∀{l:List (List Key×V)}{m:List (List Key×Addr×Value)},KT H l m->∀ x∈m,(tupleKind (bB P w)).is h x.1 x.2.1:=by
  intro l m q;induction q with
  |nil=>intro x hx;exact nomatch hx
  | @cons p q ps qs hq t ih =>
   intro x hx;rcases MG.mp hx with e | hx
   ·subst e;exact yu ok (by rw[← hq.1];exact hq.2.1)
   ·exact ih x hx
 exact all r x hx
theorem dt_of{kvs:List (List Key×V)}(ok:HOk P w H h)(e:H a=some (.dT kvs)):kvs.length<=sizeLine/\(a == sysModules)=false /\
  ∃ xs,KT H kvs xs/\h.DictOfH (tupleKind (bB P w)) a xs:=EJ ok (.inl e)
end
def DGet(H:Hp)(a:Addr)(y:V)(r:Option V):Prop :=
 (∃ kvs k,Rd H a (.dK kvs)/\y=kV k/\r=valV kvs k)∨∃ kvs k b,Rd H a (.dT kvs)/\y=.ref b/\H b=some (.tup (k.map kV))/\r=valV kvs k
def DPut(H:Hp)(a:Addr)(y v:V)(H':Hp):Prop :=
 (∃ kvs k,H a=some (.dK kvs)/\y=kV k/\kvs.length<sizeLine/\H'=upd H a (.dK (putK kvs k v))) ∨
 ∃ kvs k b,H a=some (.dT kvs)/\y=.ref b/\H b=some (.tup (k.map kV))/\kvs.length<sizeLine/\H'=upd H a (.dT (putK kvs k v))
theorem DGet.k{H:Hp}{a:Addr}{kvs:List (Key×V)}{k:Key}(e:H a=some (.dK kvs)):DGet H a (kV k) (valV kvs k):=.inl ⟨kvs,k,.inl e,rfl,rfl⟩
theorem DPut.k{H:Hp}{a:Addr}{kvs:List (Key×V)}{k:Key}{v:V}(e:H a=some (.dK kvs))(hl:kvs.length<sizeLine):DPut H a (kV k) v (upd H a (.dK (putK kvs k v))):=.inl ⟨kvs,k,e,rfl,hl,rfl⟩
section
variable{X:Cx}{pins:List (Addr×Obj)}{σ:St}{H:Hp}{s:Shared}{a:Addr}{y v:V}{u r:Value}{o:Option V}{A:Around}{E:Value->Shared->Prop}
theorem Inv.big(I:Inv X pins σ H s):sysModules<s.heap.objs.size:=by
 have h:mainGlobals<s.heap.objs.size:=(I.mod.glob.keeps I.bk).lt;exact Nat.lt_trans (by decide) h
theorem HH{Q:Value->Shared->Prop}(hu:A.units+1<cLine)(I:Inv X pins σ H s)(g:DGet H a y (some v))(ry:RelV y u)(h:∀ w' s',Inv X pins σ H s'->RelV v w'->Q w' s') :
  wpAny (model X.prog X.w) A (getItem (.ref a) u) Q E s:=by
 rcases g with⟨kvs,k,e,ey,l⟩ | ⟨kvs,k,b,e,ey,eb,l⟩
 ·subst ey;obtain⟨z,hd,vs,rel,dd⟩:=EK I.hok e;obtain⟨w',hw,rw'⟩:=RelO.some_of (v:=v) (o:=valueAt vs k) (by rw[l];exact rel.val k)
  exact wpAny_getItem_of (BJ ry) dd.mapOf hw (h w' _ (I.tok _) rw')
 ·subst ey
  cases (show u=Value.ref b from ry)
  obtain⟨z,hd,xs,rel,dd⟩:=EJ I.hok e;obtain⟨w',hw,rw'⟩:=RelO.some_of (v:=v) (o:=(atKey xs k).map (·.2)) (by rw[l];exact rel.val k)
  obtain⟨p,hp,hp2⟩:=M0.mp hw;refine wpAny_getItem_heap (tupleKind_room_in1 hu) (yu I.hok eb) dd hp ?_;rw[hp2];exact h w' _ (I.tok _) rw'
theorem Mn{Q:Value->Shared->Prop}(hu:A.units+1<cLine)(I:Inv X pins σ H s)(g:DGet H a y o)(ry:RelV y u)(h:∀ s',Inv X pins σ H s'->Q (.bool (!o.isSome)) s') :
  wpAny (model X.prog X.w) A (compareOp .NotIn u (.ref a)) Q E s:=by
 rcases g with⟨kvs,k,e,ey,l⟩ | ⟨kvs,k,b,e,ey,eb,l⟩
 ·subst ey;obtain⟨z,hd,vs,rel,dd⟩:=EK I.hok e;refine wpAny_notIn_of (BJ ry) hd dd.mapOf ?_;rw[← (rel.val k).isSome_eq,← l];exact h _ (I.tok _)
 ·subst ey
  cases (show u=Value.ref b from ry)
  obtain⟨z,hd,xs,rel,dd⟩:=EJ I.hok e;refine wpAny_notIn_heap (tupleKind_room_in1 hu) (yu I.hok eb) hd dd ?_;have q:=(rel.val k).isSome_eq;rw[Option.isSome_map]at q;rw[← q,← l];exact h _ (I.tok _)
theorem wx{h':Heap}{t':Nat}{ob:HO}(I:Inv X pins σ H s)(mu:Mut (H a))(hs:Heap.SameBut a s.heap h')(he:∃ q,h'.get? a=some q)(new:bh X.prog X.w (upd H a ob) h' a ob) :
  Inv X pins σ (upd H a ob) { s with heap:=h',toks:=t' } :=
 I.write (x:=a) (e:=a) mu (.inl rfl) (fun b q hb z=>(hs.2 b hb).trans z) he new
theorem Hw{P:Program}{w:World}{H':Hp}{h':Heap}{kvs:List (Key×V)}{vs:List (Key×Value)}(z:kvs.length<=sizeLine)(hd:(a == sysModules)=false)(rel:KV kvs vs)(dd:h'.DictOf (bB P w) a vs) :
  bh P w H' h' a (.dK kvs):=⟨z,hd,vs,rel,dd⟩
theorem HG{H':Hp}{Q:Unit->Shared->Prop}(hu:A.units+1<cLine)(I:Inv X pins σ H s)(g:DPut H a y v H')(ry:RelV y u)(rv:RelV v r)(h:∀ s',Inv X pins σ H' s'->Q () s') :
  wpAny (model X.prog X.w) A (setItem (.ref a) u r) Q E s:=by
 rcases g with⟨kvs,k,e,ey,l,eH⟩ | ⟨kvs,k,b,e,ey,eb,l,eH⟩
 ·subst ey eH;obtain⟨z,hd,vs,rel,dd⟩:=Mj I.hok e;have hz:vs.length<=sizeLine:=by rw[← rel.length];exact z
  have hl:(putK kvs k v).length<=sizeLine:=by have:=df kvs k v;omega
  refine wpAny_setItem_pairs (hsz:=hz) (BJ ry) dd fun h' dd' hs=>h _ ?_;have he:∃ q,h'.get? a=some q:=let ⟨q,_,_,hq,_⟩:=dd';⟨q,hq⟩;exact wx I (by rw[e];exact True.intro) hs he (Hw hl hd (rel.put k rv) dd')
 ·subst ey eH
  cases (show u=Value.ref b from ry)
  obtain⟨z,hd,xs,rel,dd⟩:=dt_of I.hok e;have hz:xs.length<=sizeLine:=by rw[← Paired.length rel];exact z
  have hl:(putK kvs k v).length<=sizeLine:=by have:=df kvs k v;omega
  refine wpAny_setItem_heap (hsz:=hz) (tupleKind_room_in1 hu) (yu I.hok eb) dd fun h' dd' hs=>h _ ?_;obtain⟨q,es,ep,hq,h2,h3,h4,_,h5⟩:=dd';refine wx I (by rw[e];exact True.intro) hs ⟨q,hq⟩ ⟨hl,hd,_,(rel.put k eb rv).keeps fun c ys ec=>?_,q,es,ep,hq,h2,h3,h4,h5⟩
  rw[aq (Ej ec e (fun z=>nomatch z))];exact ec
end
section
variable{X:Cx}{pins:List (Addr×Obj)}{σ:St}{H:Hp}{s:Shared}{a:Addr}{kvs:List (Key×V)}{k:Key}{u:Value}{A:Around}{E:Value->Shared->Prop}
end
def NoSl(i:Expr):Prop:=∀ ov iv,subscripted i false ov iv=operate [ov,iv] (getItem ov iv)
theorem KY{prog:Program}{w:World}{A:Around}{E:Value->Shared->Prop}{s:Shared}{env:Env}{value slice:Expr}{pos:Pos}{T id:String}{Q:Value->Shared->Prop}
  (hl:typeLookup (.type T) "__getitem__" = pure (some (.builtin id))) (hs:NoSl slice)
  (h:wpAny (model prog w) A (eval value env) (fun o s₁=>wpAny (model prog w) A (eval slice env) (fun i s₂=>s₂.TypeIs o T/\wpAny (model prog w) A (getItem o i) Q E s₂) E s₁) E s) :
  wpAny (model prog w) A (eval (.Subscript value slice pos) env) Q E s:=by
 refine Subscript_ (wpAny_mono h (fun o s₁ h₁=>wpAny_mono h₁ (fun i s₂ h₂=>?_) fun _ _ x=>x) fun _ _ x=>x);obtain⟨hT,h₂⟩:=h₂;unfold subscriptTail;refine wpAny_bind ?_;rw[getitemInPython_of_ne hT.not_modules];refine wpAny_bind (wpAny_specialOf hT hl ?_);have fin:wpAny (model prog w) A (subscripted slice false o i) (fun r s₃=>wpAny (model prog w) A (letTemporaryGo value o r >>= fun _=>pure r) Q E s₃) E s₂:=by
  rw[hs o i];exact wpAny_operating (wpAny_mono h₂ (fun r s₃ h₃=>wpAny_bind (wpAny_letTemporaryGo (wpAny_pure h₃))) fun _ _ x=>x)
 first
  |exact wpAny_pure (wpAny_bind fin)
  |exact wpAny_bind (wpAny_pure (wpAny_bind fin))
  |exact wpAny_bind fin
theorem BX{X:Cx}{pins:List (Addr×Obj)}{σ:St}{H:Hp}{s:Shared}{a:Addr}{y:V}{o:Option V}(I:Inv X pins σ H s)(g:DGet H a y o):s.TypeIs (.ref a) "dict":=by
 rcases g with⟨kvs,k,e,_,_⟩ | ⟨kvs,k,b,e,_,_,_⟩
 ·obtain⟨_,_,vs,_,dd⟩:=EK I.hok e;exact dd.typeIs
 ·obtain⟨_,_,xs,_,dd⟩:=EJ I.hok e;exact dd.typeIs
def tDGet(td ty:TE):TE:=fun σ H Q=>td σ H fun x H1=>ty σ H1 fun y H2=>∃ a v,x=.ref a/\DGet H2 a y (some v)/\Q v H2
def KU(ty td:TE):TE:=fun σ H Q=>ty σ H fun y H1=>td σ H1 fun x H2=>∃ a o,x=.ref a/\DGet H2 a y o/\Q (.bl (!o.isSome)) H2
def sDPut(td ty tv:TE):TS:=fun D σ H=>tv σ H fun v H1=>td σ H1 fun x H2=>ty σ H2 fun y H3=>∃ a H4,x=.ref a/\DPut H3 a y v H4/\D.nx σ H4
section
variable{X:Cx}{o i e value:Expr}{pos pos' tpos:Pos}{td ty tv:TE}
theorem u4(hu:X.A.units+1<cLine)(ho:PE X o td)(hi:PE X i ty)(hs:NoSl i):PE X (.Subscript o i pos) (tDGet td ty):=by
 intro pins s σ H Q I h;refine KY PySem.F.slot_dict_getitem.lookup hs (thn (ho pins s σ H _ I h) fun u s1 ⟨x,H1,I1,rx,q1⟩=>thn (hi pins s1 σ H1 _ I1 q1) fun iv s2 ⟨y,H2,I2,ry,a,v,ex,g,q2⟩=>?_);subst ex;obtain rfl:u=Value.ref a:=rx;exact⟨BX I2 g,HH hu I2 g ry fun w' s3 I3 rw'=>⟨v,H2,I3,rw',q2⟩⟩
theorem F6(hu:X.A.units+1<cLine)(hi:PE X i ty)(ho:PE X o td):PC X .NotIn i o (KU ty td):=by
 intro pins s σ H Q I h;refine thn (hi pins s σ H _ I h) fun iv s1 ⟨y,H1,I1,ry,q1⟩=>thn (ho pins s1 σ H1 _ I1 q1) fun u s2 ⟨x,H2,I2,rx,a,ov,ex,g,q2⟩=>?_;subst ex;obtain rfl:u=Value.ref a:=rx;exact Mn hu I2 g ry fun s3 I3=>⟨.bl (!ov.isSome),H2,I3,rfl,q2⟩
theorem pV(hu:X.A.units+1<cLine)(ho:PE X o td)(hi:PE X i ty)(hv:PE X value tv)(hs:swapsWith value (some (.Subscript o i pos')) pos.line X.env=pure false) :
  PS X (.Assign [.Subscript o i pos'] value pos) (sDPut td ty tv):=by
 intro pins s σ H D I h;refine wpAny_Assign_Subscript (thn (hv pins s σ H _ I h) fun r s1 ⟨v,H1,I1,rv,q1⟩=>thn (ho pins s1 σ H1 _ I1 q1) fun u s2 ⟨x,H2,I2,rx,q2⟩=>thn (hi pins s2 σ H2 _ I2 q2) fun iv s3 ⟨y,H3,I3,ry,a,H4,ex,g,q3⟩=>?_) hs;subst ex;obtain rfl:u=Value.ref a:=rx;exact HG hu I3 g ry rv fun s4 I4=>⟨σ,H4,I4,q3⟩
end
theorem DD{P:Program}{w:World}{H:Hp}(h:Heap)(hb:sysModules<h.objs.size):bh P w H (h.push { cls:=.type "dict",data:=.dict #[] }) h.objs.size (.dK []) :=
 ⟨NA _,beq_eq_false_iff_ne.mpr (Ne.symm (M3 hb)),[],.nil,Heap.DictOf.new h⟩
def tDNewK:TE:=fun _ H Q=>∀ p,H p=none->Q (.ref p) (upd H p (.dK []))
section
variable{X:Cx}{pos:Pos}
theorem lx:PE X (.Dict [] [] pos) tDNewK:=fun pins s σ H Q I h =>
 wpAny_Dict_empty ⟨.ref s.heap.objs.size,_,I.laid (a:=s.heap.objs.size) (o:=.dK []) (t':=s.toks) (fun _ _ q=>Heap.get?_push_of_some _ q) (MC _) (DD s.heap I.big),rfl,h _ (I.hok.fresh (MC _))⟩
end
def Fv:List (TE×TE)->St->Hp->(List (V×V)->Hp->Prop)->Prop
 |[],_,H,Q=>Q [] H
 | (tk,tv)::r,σ,H,Q=>tk σ H fun x H1=>tv σ H1 fun y H2=>Fv r σ H2 fun ps H3=>Q ((x,y)::ps) H3
abbrev VV:List (V×V)->List (Value×Value)->Prop:=Paired fun p q=>RelV p.1 q.1/\RelV p.2 q.2
def PPs(X:Cx)(pos:Pos)(keys:List (Option Expr))(values:List Expr)(trs:List (TE×TE)):Prop :=
 ∀(pins:List (Addr×Obj))(s:Shared)(σ:St)(H:Hp)(Q:List (V×V)->Hp->Prop),Inv X pins σ H s->Fv trs σ H Q ->
  wpAny (model X.prog X.w) X.A (evalPairs (pairTrees keys values X.env pos)) (fun vs s'=>∃ ps H',Inv X pins σ H' s'/\VV ps vs/\Q ps H') X.xe s
theorem Lj{X:Cx}{pos:Pos}:PPs X pos [] [] []:=fun pins s σ H Q I h=>pairTrees_nil_walk ⟨[],H,I,.nil,h⟩
theorem Jc{X:Cx}{pos:Pos}{k v:Expr}{ks:List (Option Expr)}{vs:List Expr}{tk tv:TE}{trs:List (TE×TE)}(hk:PE X k tk)(hv:PE X v tv)(hr:PPs X pos ks vs trs) :
  PPs X pos (some k::ks) (v::vs) ((tk,tv)::trs):=fun pins s σ H Q I h =>
 pairTrees_cons_walk (thn (hk pins s σ H _ I h) fun u s1 ⟨x,H1,I1,rx,q1⟩=>thn (hv pins s1 σ H1 _ I1 q1) fun w2 s2 ⟨y,H2,I2,ry,q2⟩ =>
  thn (hr pins s2 σ H2 _ I2 q2) fun ws s3 ⟨ps,H3,I3,rel,q3⟩=>⟨(x,y)::ps,H3,I3,.cons ⟨rx,ry⟩ rel,q3⟩)
def ql(kvs more:List (Key×V)):List (Key×V):=more.foldl (fun acc kv=>putK acc kv.1 kv.2) kvs
theorem KV.merge:∀{more:List (Key×V)}{rs:List (Key×Value)}{kvs:List (Key×V)}{vs:List (Key×Value)},KV more rs->KV kvs vs->KV (ql kvs more) (merged vs rs):=by
 intro more rs kvs vs r;unfold KV at r;induction r generalizing kvs vs with
 |nil=>intro q;exact q
 | @cons p q ps qs h t ih =>
  intro r0;have e:KV (putK kvs p.1 p.2) (stored vs q.1 q.2):=by
   have:=r0.put p.1 h.2;rw[← h.1];exact this
  exact ih e
theorem lA:∀(more kvs:List (Key×V)),(ql kvs more).length<=kvs.length+more.length
 |[],kvs=>by show kvs.length<=kvs.length+0;omega
 |p::r,kvs=>by
  have h1:=lA r (putK kvs p.1 p.2);have h2:=df kvs p.1 p.2;show(ql (putK kvs p.1 p.2) r).length<=_;rw[Nb];omega
theorem tG{P:Program}{w:World}:∀{kvs:List (Key×V)}{ws:List (Value×Value)},VV (kvs.map fun kv=>(kV kv.1,kv.2)) ws->∃ rs,Carries (bB P w) ws rs/\KV kvs rs
 |[],_,r=>by rw[Qd]at r;cases r;exact⟨[],True.intro,.nil⟩
 |p::kvs,_,r=>by
  rw[Nh]at r
  cases r with
  | @cons a b as bs h t =>
   obtain⟨rs,c,q⟩:=tG (P:=P) (w:=w) t;obtain⟨b1,b2⟩:=b;exact⟨(p.1,b2)::rs,⟨BJ h.1,rfl,c⟩,.cons ⟨rfl,h.2⟩ q⟩
def rT(trs:List (TE×TE)):TE:=fun σ H Q=>∀ p,H p=none->Fv trs σ (upd H p (.dK [])) fun ps H2=>H2 p=some (.dK [])/\∃ kvs:List (Key×V),ps=kvs.map (fun kv=>(kV kv.1,kv.2))/\kvs.length<=15/\Q (.ref p) (upd H2 p (.dK (ql [] kvs)))
theorem Lp{X:Cx}{pos:Pos}{keys:List (Option Expr)}{values:List Expr}{trs:List (TE×TE)}(h:PPs X pos keys values trs)(hall:keys.all (·.isSome)=true)(hl:keys.length=values.length)(h0:keys≠[])
  (h15:keys.length<=15):PE X (.Dict keys values pos) (rT trs):=by
 intro pins s σ H Q I q;have hn:=I.hok.fresh (MC s.heap.objs.size);have I1:=I.laid (a:=s.heap.objs.size) (o:=.dK []) (h':=s.heap.push { cls:=.type "dict",data:=.dict #[] }) (t':=s.toks) (fun _ _ q=>Heap.get?_push_of_some _ q) (MC _) (DD s.heap I.big);refine wpAny_Dict_walk (knd:=bB X.prog X.w) hall hl h0 h15 (thn (h pins _ σ _ _ I1 (q _ hn)) fun ws s2 ⟨ps,H2,I2,rel,e,kvs,ep,lk,q2⟩=>?_);subst ep;obtain⟨rs,c,rk⟩:=tG (P:=X.prog) (w:=X.w) rel;obtain⟨z,hd,vs0,r0,dd⟩:=Mj I2.hok e
 cases r0
 refine⟨rs,c,dd,fun h' dd' hs=>⟨.ref s.heap.objs.size,_,?_,rfl,q2⟩⟩;have hz:(ql [] kvs).length<=sizeLine:=by
  have h1:=lA kvs [];rw[OF]at h1;rw[sizeLine_eq];omega
 have he:∃ q,h'.get? s.heap.objs.size=some q:=let ⟨q,_,_,hq,_⟩:=dd';⟨q,hq⟩;exact wx I2 (by rw[e];exact True.intro) hs he (Hw hz hd (rk.merge .nil) dd')
structure M2(X:Cx)(o:Expr)(m:Str)(apos:Pos)(e f:Expr)(cpos:Pos):Prop where
 base:attributeBase o m X.env (eval o X.env)=eval o X.env
 few:((backTo cpos (starEach [e,f] X.env)).all (fun x=>!x.1)&&(backToKw cpos (keywordEach [] X.env)).all (fun x=>x.1.isSome)
  && decide (([e,f]:List Expr).length+([]:List Keyword).length+(if([]:List Keyword).isEmpty then 0 else 1)<30))=true
 line:(apos.endLine == cpos.line)=true
 trees:backTo cpos (starEach [e,f] X.env) = [(false,eval e X.env),(false,eval f X.env)]
def IsD(H:Hp)(a:Addr):Prop:=(∃ kvs,Rd H a (.dK kvs))∨∃ kvs,Rd H a (.dT kvs)
theorem Kl{X:Cx}{pins:List (Addr×Obj)}{σ:St}{H:Hp}{s:Shared}{a:Addr}(I:Inv X pins σ H s)(d:IsD H a) :
  s.TypeIs (.ref a) "dict"/\(∀ b,Value.ref a=.ref b->∃ ob,s.heap.get? b=some ob/\ob.dict=none)/\(a == sysModules)=false:=by
 rcases d with⟨kvs,e⟩ | ⟨kvs,e⟩
 ·obtain⟨_,hd,vs,_,dd⟩:=EK I.hok e;refine⟨dd.typeIs,fun b q=>?_,hd⟩
  cases q
  obtain⟨ob,_,_,h1,h2,_⟩:=dd;exact⟨ob,h1,h2.2.1⟩
 ·obtain⟨_,hd,xs,_,dd⟩:=EJ I.hok e;refine⟨dd.typeIs,fun b q=>?_,hd⟩
  cases q
  obtain⟨ob,_,_,h1,h2,_⟩:=dd;exact⟨ob,h1,h2.2.1⟩
section
variable{X:Cx}{pins:List (Addr×Obj)}{σ:St}{H:Hp}{s:Shared}{a:Addr}{y d:V}{u r:Value}{o:Option V}{A:Around}{E:Value->Shared->Prop}
theorem d_get2{Q:Value->Shared->Prop}(hu:A.units+1<cLine)(I:Inv X pins σ H s)(g:DGet H a y o)(ry:RelV y u)(rd:RelV d r)(h:∀ w' s',Inv X pins σ H s'->RelV (o.getD d) w'->Q w' s') :
  wpAny (model X.prog X.w) A (call (.builtin "dict.get") [.ref a,u,r]) Q E s:=by
 rcases g with⟨kvs,k,e,ey,l⟩ | ⟨kvs,k,b,e,ey,eb,l⟩
 ·subst ey;obtain⟨z,hd,vs,rel,dd⟩:=EK I.hok e;refine call_meetsIn PK dd.typeIs PySem.F.entry_dict_get (QD _ _ _) (meets_dict_get_default (bB X.prog X.w) a (BJ ry) hd r) ⟨_,dd.mapOf,h _ _ (I.tok _) ?_⟩;rw[l];exact(rel.val k).getD rd
 ·subst ey
  cases (show u=Value.ref b from ry)
  obtain⟨z,hd,xs,rel,dd⟩:=EJ I.hok e;refine call_meetsIn PK dd.typeIs PySem.F.entry_dict_get (QD _ _ _) (meetsH_dict_get_default (tupleKind (bB X.prog X.w)) a b hd r) ⟨tupleKind_room_in1 hu,k,xs,yu I.hok eb,dd,h _ _ (I.tok _) ?_⟩;rw[l];exact(rel.val k).getD rd
end
def tDGet2(td ty tx:TE):TE:=fun σ H Q=>td σ H fun x H1=>∃ a,x=.ref a/\IsD H1 a/\ty σ H1 fun y H2=>tx σ H2 fun z H3=>∃ o,DGet H3 a y o/\Q (o.getD z) H3
section
variable{X:Cx}{o e f:Expr}{apos cpos:Pos}{td ty tx:TE}
theorem uZ(hu:X.A.units+1<cLine)(ho:PE X o td)(he:PE X e ty)(hf:PE X f tx) (m:M2 X o "get" apos e f cpos):PE X (.Call (.Attribute o "get" apos) [e,f] [] cpos) (tDGet2 td ty tx):=by
 intro pins s σ H Q I h;refine wpAny_Call_method m.base m.few m.line Od PK PySem.F.type_dict_get (thn (ho pins s σ H _ I h) fun u s1 ⟨x,H1,I1,rx,a,ex,d,q1⟩=>?_);subst ex;obtain rfl:u=Value.ref a:=rx;obtain⟨t1,t2,_⟩:=Kl I1 d;refine⟨t1,t2,?_⟩;rw[m.trees]
 refine Calls.callWith_builtin rfl (Calls.evalArgs_plain (Calls.spliced_cons (thn (he pins s1 σ H1 _ I1 q1) fun iv s2 ⟨y,H2,I2,ry,q2⟩ =>
  Calls.spliced_cons (thn (hf pins s2 σ H2 _ I2 q2) fun fv s3 ⟨z,H3,I3,rz,ov,g,q3⟩=>Calls.spliced_nil ?_))))
 exact d_get2 hu I3 g ry rz fun w' s4 I4 rw'=>⟨_,H3,I4,rw',q3⟩
end
section
variable{X:Cx}{pins:List (Addr×Obj)}{σ:St}{H:Hp}{s:Shared}{a:Addr}{kvs:List (Key×V)}{A:Around}{E:Value->Shared->Prop}
end
section
variable{X:Cx}{pins:List (Addr×Obj)}{σ:St}{H:Hp}{s:Shared}{a:Addr}{y:V}{u:Value}{A:Around}{E:Value->Shared->Prop}
end
end L2
namespace Att
open PySem PySem.W PySem.Calls PyProof.Rows
section
variable{prog:Program}{w:World}{A:Around}{E:Value->Shared->Prop}{s:Shared}{K:Frag}
end
end Att
namespace L2
open PySem PySem.Spec PyProof.Rows
end L2
namespace L2
open PySem PySem.Spec PyProof.Rows
end L2
namespace L2
open PySem PySem.Spec PyProof.Rows
section
variable{P:Program}{w:World}{K:Mz}{mg:Str->Option Value}{base:Heap}
end
section
variable{X:Cx}
end
section
variable{κ:Type} [DecidableEq κ]
theorem Iz{kvs:List (κ×V)}{k:κ}(h:valV kvs k=none):¬ k∈kvs.map (·.1):=by
 intro m;obtain⟨p,hp,e⟩:=MR.mp m;have q:(kvs.any fun kv=>decide (kv.1=k))=true:=OA.mpr ⟨p,hp,decide_eq_true e⟩;rw[jr,h]at q;exact absurd q (by simp)
end
end L2
namespace L2
open PySem PySem.Spec PyProof.Rows
def clOf(env:Env)(fr:List (Str×Nat)):List (Str×Addr):=fr.map fun p=>(p.1,(env.cells.lookup p.1).getD 0)
def frOf(fr:List (Str×Nat))(σ:St):St:=fr.map fun p=>(σ[p.2]?).join
def dN(X:Cx)(scope:Scope)(fr:List (Str×Nat))(x:Str)(C:Addr)(ex:List Addr)(s:Shared)(H:Hp):Cx where
 prog:=X.prog
 w:=X.w
 K:=X.K
 mg:=X.mg
 base:=X.base
 A:=X.A
 N:=x::fr.map (·.1)
 s₀:=s
 H₀:=H
 env:=compEnvC scope (clOf X.env fr) C X.env
 outer:=X.stack
 stack:=X.stack
 ex:=ex
 fn:=fun _=>false
 calm:=X.calm
 pn:=[]
 xe:=fun _ _=>False
structure bH(X:Cx)(scope:Scope)(fr:List (Str×Nat))(x:Str):Prop where
 clos:closureFor scope X.env=pure (clOf X.env fr)
 cell:∀ y∈scope.names,y.2≠.cell
 kind:scope.kind=.function
 names:∀ y∈scope.names,y.2=.local->scope.names.lookup y.1=some .local
 xl:scope.names.lookup x=some .local
 nd:(x::fr.map (·.1)).Nodup
 slot:∀ p∈fr,X.N[p.2]?=some p.1/\X.env.kindOf p.1=some .cell
 has:∀ y∈(relabel scope X.env).names,(y.2=.cell∨y.2=.free)->y.1∈fr.map (·.1)
 frk:∀ p∈fr,(relabel scope X.env).names.lookup p.1=some .cell
theorem bH.plain{X:Cx}{scope:Scope}{x:Str}(clos:closureFor scope X.env=pure [])(cell:∀ y∈scope.names,y.2≠.cell)(kind:scope.kind=.function)(names:∀ y∈scope.names,y.2=.local->scope.names.lookup y.1=some .local)
  (hx:scope.names.lookup x=some .local) (nf:∀ y∈scope.names,y.2≠.free):bH X scope [] x where
 clos:=clos
 cell:=cell
 kind:=kind
 names:=names
 xl:=hx
 nd:=by simp
 slot:=fun p hp=>nomatch hp
 has:=fun y hy hk=>by
  obtain⟨⟨n,k⟩,hz,e⟩:=MR.mp (show y∈scope.names.map _ from hy);have h1:=nf _ hz;have h2:=cell _ hz;dsimp only at e h1 h2;have hf:(k == NameKind.free)=false:=by simpa using h1
  rw[hf]at e;simp only[OR,NG,if_false]at e;subst e;exact(hk.elim h2 h1).elim
 frk:=fun p hp=>nomatch hp
theorem bH.one{X:Cx}{scope:Scope}{x y:Str}{j:Nat}(clos:closureFor scope X.env=pure (clOf X.env [(y,j)]))(cell:∀ y∈scope.names,y.2≠.cell)(kind:scope.kind=.function)(names:∀ y∈scope.names,y.2=.local->scope.names.lookup y.1=some .local)
  (hx:scope.names.lookup x=some .local) (nd:([x,y]:List Str).Nodup) (hN:X.N[j]?=some y) (hk:X.env.kindOf y=some .cell) (nf:∀ z∈scope.names,z.2=.free->z.1=y) (hr:(relabel scope X.env).names.lookup y=some .cell):bH X scope [(y,j)] x where
 clos:=clos
 cell:=cell
 kind:=kind
 names:=names
 xl:=hx
 nd:=nd
 slot:=fun p hp=>by
  have e:p=(y,j):=by simpa using hp
  subst e;exact⟨hN,hk⟩
 has:=fun z hz hk=>by
  obtain⟨⟨n,k⟩,hm,e⟩:=MR.mp (show z∈scope.names.map _ from hz);have h2:=cell _ hm;dsimp only at e h2;have hn:z.1=n:=by rw[← e];split<;>rfl
  have hf:k=.free:=by
   by_cases q:k=.free
   ·exact q
   ·have hb:(k == NameKind.free)=false:=by simpa using q
    rw[hb]at e;simp only[OR,NG,if_false]at e;subst e;exact(hk.elim h2 q).elim
  have:=nf _ hm hf;rw[hn];simp[← this]
 frk:=fun p hp=>by
  have e:p=(y,j):=by simpa using hp
  subst e;exact hr
theorem fY{env:Env}:∀{fr:List (Str×Nat)}{y:Str}{c:Addr},(clOf env fr).lookup y=some c->y∈fr.map (·.1)/\c=(env.cells.lookup y).getD 0
 |[],_,_,h=>by cases h
 |p::r,y,c,h=>by
  unfold clOf at h;rw[Nh,List.lookup_cons]at h
  cases e:y == p.1 with
  |true =>
   rw[e]at h;have ey:y=p.1:=eq_of_beq e
   cases h
   exact⟨by rw[ey];exact MV,by rw[ey]⟩
  |false =>
   rw[e]at h;obtain⟨a,b⟩:=fY (env:=env) (fr:=r) h;exact⟨MO _ a,b⟩
theorem bQ{env:Env}:∀{fr:List (Str×Nat)}{y:Str},y∈fr.map (·.1)->(clOf env fr).lookup y=some ((env.cells.lookup y).getD 0)
 |[],_,h=>by cases h
 |p::r,y,h=>by
  unfold clOf;rw[Nh,List.lookup_cons]
  cases e:y == p.1 with
  |true =>
   have ey:y=p.1:=eq_of_beq e;rw[ey]
  |false =>
   have ny:y≠p.1:=fun z=>by rw[z]at e;simp at e
   rcases MG.mp h with z | z
   ·exact absurd z ny
   ·exact bQ (env:=env) (fr:=r) z
section
variable{X:Cx}{pins:List (Addr×Obj)}{σ:St}{H:Hp}{s:Shared}{scope:Scope}{fr:List (Str×Nat)}{x:Str}
theorem bH.cells(O:bH X scope fr x)(I:Inv X pins σ H s){y:Str}{c:Addr}(h:(clOf X.env fr).lookup y=some c):X.env.cells.lookup y=some c:=by
 obtain⟨hm,e⟩:=fY h;obtain⟨p,hp,ep⟩:=MR.mp hm;have k:=(O.slot p hp).2;rw[ep]at k;obtain⟨c',e'⟩:=I.ok.has y (.inl k);rw[e']at e;rw[e',e];rfl
theorem JD{fp:List Addr}(O:bH X scope fr x)(I:Inv X pins σ H s)(hf:∀ b∈fp,FpOk X pins H b)(hfs:∀ b∈fp,b<s.heap.objs.size){g h':Heap}{tk:Nat}(hg:g=s.heap.push (LCg.lst []))
  (hk:∀ b o,g.get? b=some o->h'.get? b=some o) (hC:h'.Ns g.objs.size fun _=>none) :
  Inv (dN X scope fr x g.objs.size (s.heap.objs.size::fp) { s with heap:=g } H) (X.pn++pins++[(s.heap.objs.size,LCg.lst [])]) (none::frOf fr σ) H { s with heap:=h',toks:=tk }:=by
 have hsz:g.objs.size=s.heap.objs.size+1:=by rw[hg,Heap.size_push]
 have kp:∀ b o,s.heap.get? b=some o->g.get? b=some o:=fun b o e=>by rw[hg];exact Heap.get?_push_of_some _ e
 have hk0:∀ b o,s.heap.get? b=some o->h'.get? b=some o:=fun b o e=>hk b o (kp b o e);have hDo:h'.get? s.heap.objs.size=some (LCg.lst []):=hk _ _ (by rw[hg];exact Heap.get?_push_size _ rfl)
 have neC:∀ b,b<s.heap.objs.size->b≠g.objs.size:=fun b e=>by rw[hsz];exact M3 (NX e)
 have hDC:s.heap.objs.size≠g.objs.size:=by rw[hsz];exact M3 (NU _)
 have hfr:H g.objs.size=none:=I.hok.fresh (by rw[hsz];exact OS _)
 have hfD:H s.heap.objs.size=none:=I.hok.fresh (MC _);have cne:∀ y c,X.env.cells.lookup y=some c->c<s.heap.objs.size:=fun y c e=>by
  obtain⟨v,q⟩:=I.cell y c e;exact q.lt
 have nst:∀ b,b≠X.env.locals->b∉X.fs->b∉frs X.stack:=fun b h1 h2 z=>(MG.mp (I.stkSub b z)).elim h1 h2;have nstD:s.heap.objs.size∉frs X.stack:=nst _ (NK I.lt) (I.nofs (MC _));refine⟨⟨I.ok.mod,O.kind,I.ok.glob,I.ok.blt,MC _,?_,?_,fun _ _ z _=>(by cases z),I.ok.hd,I.ok.frames,.inl rfl,?_,?_,?_,?_,?_,?_,I.stkFree⟩,rfl,I.bare,Un.kept hk,?_,?_,hfr,?_,?_,I.hok.kept hk0,?_⟩
 ·intro y z c h1 h2;exact I.ok.inj y z c (O.cells I h1) (O.cells I h2)
 ·intro y hy;have hm:y∈fr.map (·.1):=by
   rcases hy with hy | hy
   ·exact O.has (y,_) (NV hy) (.inl rfl)
   ·exact O.has (y,_) (NV hy) (.inr rfl)
  exact⟨_,bQ hm⟩
 ·intro b hb;rcases MG.mp hb with rfl | hb
  ·exact⟨hDC,fun y c e=>M3 (cne y c (O.cells I e))⟩
  ·exact⟨neC b (hfs b hb),fun y c e=>(hf b hb).2.2.2.2.1 y c (O.cells I e)⟩
 ·intro b o e;exact⟨kp b o (I.bs b o e).1,(I.bs b o e).2⟩
 ·show X.base.objs.size<=g.objs.size;rw[hsz];exact OI (Nw I.ok.bsz I.sz)
 ·intro b o e hb;rcases MG.mp hb with z | hb
  ·have:=Heap.lt_size (I.bs b o e).1
   rw[z]at this;exact NH _ this
  ·rcases(hf b hb).2.2.2.1 with z | z
   ·exact I.ok.noex b o e z
   ·exact absurd (Nk (Heap.lt_size (I.ok.bs b o e).1) z) (NH _)
 ·intro b hb;rcases MG.mp hb with z | hb
  ·rw[z];exact nstD
  ·exact nst b (hf b hb).2.1 (hf b hb).2.2.1
 ·exact(I.kept (h':=g) (t':=s.toks) kp).stack
 ·refine⟨_,hC,fun i y v e1 e2 e3=>?_⟩
  cases i with
  |zero=>cases e2
  |succ k =>
   have e1':(fr.map (·.1))[k]?=some y:=e1;have e2':(frOf fr σ)[k]?=some (some v):=e2;unfold frOf at e2';rw[ME]at e1' e2'
   cases q:fr[k]? with
   |none=>rw[q]at e1';cases e1'
   |some p =>
    rw[q]at e1' e2';have ey:p.1=y:=MN e1';have ev:(σ[p.2]?).join=some v:=MN e2';have hp:p∈fr:=My q;obtain⟨hN,hK⟩:=O.slot p hp;have hkk:=O.frk p hp;rw[ey]at hN hK hkk;have ev':σ[p.2]?=some (some v):=by
     cases q2:σ[p.2]? with
     |none=>rw[q2]at ev;cases ev
     |some w=>rw[q2]at ev;exact congrArg some ev
    obtain⟨m,hn,hl⟩:=I.loc;obtain⟨u,r,l⟩:=hl p.2 y v hN ev' (.inr (.inl hK));refine⟨u,r,?_⟩;rcases l with⟨k1,_⟩ | ⟨_,c,ec,z⟩
    ·rw[hK]at k1;cases k1
    ·have hm:y∈fr.map (·.1):=by rw[← ey];exact MR.mpr ⟨p,hp,rfl⟩
     have el:=bQ (env:=X.env) hm;rw[ec]at el;exact .inr ⟨.inl hkk,c,el,by obtain⟨o,ho,hd⟩:=z;exact⟨o,hk0 _ _ ho,hd⟩⟩
 ·intro y c e;obtain⟨v,o,ho,hd⟩:=I.cell y c (O.cells I e);exact⟨v,o,hk0 _ _ ho,hd⟩
 ·intro y c e;exact I.freeC y c (O.cells I e)
 ·intro p hp;rcases MH.mp hp with hp | hp
  ·cases hp
  ·rcases MH.mp hp with hp | hp
   ·obtain⟨e,n,ne,nf,d⟩:=I.pin p hp;exact⟨hk0 _ _ e,n,neC _ (Heap.lt_size e),nst _ ne nf,d⟩
   ·have ep:p=(s.heap.objs.size,LCg.lst []):=by simpa using hp
    subst ep;exact⟨hDo,hfD,hDC,nstD,fun v z=>by cases z⟩
 ·show(none::frOf fr σ).length=(x::fr.map (·.1)).length;unfold frOf;simp
theorem yH{fp:List Addr}{g:Heap}{s':Shared}{H':Hp}{σ':St}{ys:List V}{us:List Value}(I:Inv X pins σ H s)(hf:∀ b∈fp,FpOk X pins H b)(hg:g=s.heap.push (LCg.lst []))
  (J:Inv (dN X scope fr x g.objs.size (s.heap.objs.size::fp) { s with heap:=g } H) (X.pn++pins++[(s.heap.objs.size,LCg.lst us)]) σ' H' s') (hv:Vals ys us) (hl:ys.length<=sizeLine) :
  Inv X pins σ (upd H' s.heap.objs.size (.lst ys)) s'/\H' s.heap.objs.size=none/\FpOk X pins (upd H' s.heap.objs.size (.lst ys)) g.objs.size/\∃ m,s'.heap.Ns g.objs.size m:=by
 have hsz:g.objs.size=s.heap.objs.size+1:=by rw[hg,Heap.size_push]
 have kp:∀ b o,s.heap.get? b=some o->g.get? b=some o:=fun b o e=>by rw[hg];exact Heap.get?_push_of_some _ e
 obtain⟨eD,nD,_,_,_⟩:=J.pin (s.heap.objs.size,LCg.lst us) (by simp)
 have hDC:g.objs.size≠s.heap.objs.size:=by rw[hsz];exact NK (NU _)
 have nD':∀ b u,H' b=some u->b≠s.heap.objs.size:=fun b u e z=>by rw[z]at e;rw[e]at nD;cases nD
 have hx:∀ b o,s.heap.get? b=some o->b∉fp->b∉s.heap.objs.size::fp:=fun b o e hb z=>by
  rcases MG.mp z with z | z
  ·have:=Heap.lt_size e
   rw[z]at this;exact NH _ this
  ·exact hb z
 have bU:Un (frs X.stack) (s.heap.objs.size::fp) H H' g s'.heap:=J.base;have ltD:∀ b o,s.heap.get? b=some o->b≠s.heap.objs.size:=fun b o e=>M3 (Heap.lt_size e);have un:Un (frs X.stack) fp H (upd H' s.heap.objs.size (.lst ys)) s.heap s'.heap:=by
  refine⟨fun b o e n hb he=>bU.keep b o (kp b o e) n hb (hx b o e he),fun b o e n hb he=>bU.slot b o (kp b o e) n hb (hx b o e he),fun b o e n he=>?_,fun b o e he=>bU.there b o (kp b o e) (hx b o e he),fun b xs e=>?_,fun b o u e=>?_,fun b ps e=>?_⟩
  ·rw[aq (ltD b o e)];exact bU.free b o (kp b o e) n (hx b o e he)
  ·have q:=bU.tups b xs e
   rw[aq (nD' b _ q)];exact q
  ·have q:=bU.frzs b o u e
   rw[aq (nD' b _ q)];exact q
  ·obtain⟨more,q⟩:=bU.tbls b ps e;exact⟨more,by rw[aq (nD' b _ q)];exact q⟩
 have hok:HOk X.prog X.w (upd H' s.heap.objs.size (.lst ys)) s'.heap:=fun b u e=>by
  by_cases hb:b=s.heap.objs.size
  ·rw[hb,ae]at e
   cases e
   rw[hb];exact⟨hl,us,us.length,hv,eD⟩
  ·rw[aq hb]at e;exact(J.hok b u e).stay (fun c v _ q=>q) (fun c q=>by rw[aq (nD' c _ q)];exact q) fun c xs q=>by rw[aq (nD' c _ q)];exact q
 have os:s'.os=s.os:=J.os;refine⟨I.call' os un hok J.bare fun b hb=>⟨(hf b hb).2.2.2.1,(hf b hb).2.1,(hf b hb).2.2.2.2⟩,nD,?_,?_⟩
 ·refine I.fpOk (H':=upd H' s.heap.objs.size (.lst ys)) (b:=g.objs.size) (by rw[hsz];exact OS _) ?_
  rw[aq hDC];exact J.free
 ·obtain⟨m,hn,_⟩:=J.loc;exact⟨m,hn⟩
end
def pM(te:TE)(fv:St)(J:It)(H1:Hp)(QQ:List V->Hp->Prop):Prop :=
 ∃ W:Nat->Nat->List V->Hp->Prop,(∃ m,W 0 m [] H1)/\∀ i m ys H,W i m ys H->ys.length<=sizeLine /\
  ((J.stop i H/\QQ ys H)∨(J.go i H/\∃ N:V->Hp->Prop,(∀ y H2,N y H2->∃ m',m'<m/\W (i+1) m' (ys++[y]) H2)/\∀ x H',J.yld i H x H'->te (some x::fv) H' N))
section
variable{X:Cx}{scope:Scope}{fr:List (Str×Nat)}{x:Str}{elt iter:Expr}{px pos:Pos}{te:TE}{wi:TI}
theorem zc{pins:List (Addr×Obj)}{σ:St}{H:Hp}{s:Shared}{E:Value->Shared->Prop}{it:Addr}{fp:List Addr}{tn:Nat->Heap->Prop}{J:It}{RR:Value->Addr->Result->Shared->Prop}{QQ:List V->Hp->Prop}(hc:X.calm=true)(O:bH X scope fr x)
  (he:∀ C ex s H,PE (dN X scope fr x C ex s H) elt te) (I:Inv X pins σ H s) (T:Turn X.prog X.w X.K (.Name x px) J fp it tn) (st:tn 0 s.heap) (hf:∀ b∈fp,FpOk X pins H b) (hq:pM te (frOf fr σ) J H QQ)
  (fin:∀ D C H4 ys s4 m,Inv X pins σ (upd H4 D (.lst ys)) s4->H4 D=none->FpOk X pins (upd H4 D (.lst ys)) C->s4.heap.Ns C m->QQ ys H4->RR (.ref D) C (.ok .next) s4) :
  wpAny (model X.prog X.w) X.A (newList []) (fun acc s₃=>wpAny (model X.prog X.w) X.A (newFunctionEnv scope X.env.globals (clOf X.env fr) [] X.env.qual none .none (some X.env)) (fun cenv s₄ =>
   codeAny (model X.prog X.w) X.A (.compStart (.ListComp elt [⟨.Name x px,iter,[],0⟩] scope pos) 0 (.ref it) acc { cenv with scope:=relabel scope X.env }) (RR acc cenv.locals) s₄) E s₃) E s:=by
 obtain⟨W,⟨m0,w0⟩,turn⟩:=hq;have hfs:∀ b∈fp,b<s.heap.objs.size:=fun b hb=>by
  obtain⟨o,e,_⟩:=T.obj 0 s.heap st b hb;exact Heap.lt_size e
 refine wpAny_newObj_type (wpAny_newFunctionEnv O.cell (by intro y hy;simp at hy) (fun h₁ hns₁ hsb₁=>?_) O.kind)
 dsimp only at hns₁ hsb₁ ⊢;generalize hH2:s.heap.push { cls:=.type "list",dict:=none,data:=.seq ([]:List Value).toArray }=g at hns₁ hsb₁ ⊢;have hg:g=s.heap.push (LCg.lst []):=hH2.symm;have hsz:g.objs.size=s.heap.objs.size+1:=by rw[hg,Heap.size_push]
 have hk:∀ b o,g.get? b=some o->h₁.get? b=some o:=fun b o e=>hsb₁.extBut b o (M3 (Heap.lt_size e)) (Heap.get?_push_of_some _ e);have kp:∀ b o,s.heap.get? b=some o->h₁.get? b=some o:=fun b o e=>hk b o (by rw[hg];exact Heap.get?_push_of_some _ e)
 have J0:=JD (h':=h₁) (tk:=s.toks+([]:List (Str×Value)).length) O I hf hfs hg hk hns₁;have stat:∀{H':Hp}{us:List Value},(∀ b∈fp,H' b=none)->∀ b∈fp,FpOk (dN X scope fr x g.objs.size (s.heap.objs.size::fp) { s with heap:=g } H) (X.pn++pins++[(s.heap.objs.size,LCg.lst us)]) H' b:=fun{H' us} hn b hb=>by
  obtain⟨_,f1,f2,f3,f4,f5⟩:=hf b hb;refine⟨hn b hb,?_,fun z=>(MG.mp (I.stkSub b z)).elim f1 f2,.inl (MO _ hb),fun y c e=>f4 y c (O.cells I e),fun p hp=>?_⟩
  ·show b≠g.objs.size;rw[hsz];exact M3 (NX (hfs b hb))
  ·rcases MH.mp hp with hp | hp
   ·cases hp
   ·rcases MH.mp hp with hp | hp
    ·exact f5 p hp
    ·have ep:p=(s.heap.objs.size,LCg.lst us):=by simpa using hp
     rw[ep];exact NK (hfs b hb)
 have loop:codeAny (model X.prog X.w) X.A (.compLoop (.ListComp elt [⟨.Name x px,iter,[],0⟩] scope pos) 0 (.ref it) (.ref s.heap.objs.size) (compEnvC scope (clOf X.env fr) g.objs.size X.env))
   (RR (.ref s.heap.objs.size) g.objs.size) { s with heap:=h₁,toks:=s.toks+([]:List (Str×Value)).length }:=by
  refine codeAny_compLoop_tests (fun n s'=>∃ i ys us H',Inv (dN X scope fr x g.objs.size (s.heap.objs.size::fp) { s with heap:=g } H) (X.pn++pins++[(s.heap.objs.size,LCg.lst us)]) (none::frOf fr σ) H' s'/\Vals ys us/\tn i s'.heap/\(∀ b∈fp,H' b=none)/\W i n ys H') ?_ m0
   ⟨0,[],[],H,J0,.nil,T.keep 0 s.heap h₁ st fun b _ o e=>kp b o e,fun b hb=>(hf b hb).1,w0⟩
  rintro n s3 ⟨i,ys,us,H3,J3,hv,st3,fr3,w3⟩;obtain⟨hlen,hh⟩:=turn i n ys H3 w3;have none_err:∀{α:Type}{t:Sem α}{Q:α->Shared->Prop}{E':Value->Shared->Prop}{s:Shared},wpAny (model X.prog X.w) X.A t Q (fun _ _=>False) s->wpAny (model X.prog X.w) X.A t Q E' s:=fun h=>wpAny_mono h (fun _ _ q=>q) fun _ _ z=>z.elim;rcases hh with⟨stop,qn⟩ | ⟨go,N,hN,step⟩
  ·refine none_err (thn (T.done (dN X scope fr x g.objs.size (s.heap.objs.size::fp) { s with heap:=g } H) rfl rfl rfl hc i _ s3 _ H3 _ J3 (stat fr3) st3 stop) fun r s4 ⟨hr,J4⟩=>?_);subst hr;obtain⟨I4,nD,fC,m,hn⟩:=yH I hf hg J4 hv hlen;exact fin _ _ H3 ys s4 m I4 nD fC hn qn
  ·refine none_err (thn (T.item (dN X scope fr x g.objs.size (s.heap.objs.size::fp) { s with heap:=g } H) rfl rfl rfl hc i _ s3 _ H3 _ J3 (stat fr3) st3 go) fun r s4 ⟨u,hr,h4⟩=>?_);subst hr
   have h4':=wpAny_bind (f:=fun _=>assign (.Name x px) (compEnvC scope (clOf X.env fr) g.objs.size X.env) u) (thn h4 (Q':=fun _ s5=>wpAny (model X.prog X.w) X.A (assign (.Name x px) (compEnvC scope (clOf X.env fr) g.objs.size X.env) u) (fun _ s6=>∃(σ6:St)(H6:Hp)(v:V)(s5':Shared)(H5:Hp),Inv (dN X scope fr x g.objs.size (s.heap.objs.size::fp) { s with heap:=g } H) (X.pn++pins++[(s.heap.objs.size,LCg.lst us)]++sY fp s5'.heap) σ6 H6 s6/\σ6=some v::frOf fr σ/\H6=H5/\J.yld i H3 v H5/\tn (i+1) s5'.heap) (fun _ _=>False) s5) fun _ s5 ⟨v,H5,J5,r5,y5,st5,fr5⟩=>by
    have J5':=J5.pinned (stat fr5) (T.obj _ _ st5);have hNd:(dN X scope fr x g.objs.size (s.heap.objs.size::fp) { s with heap:=g } H).N.Nodup:=O.nd;have hxl:(dN X scope fr x g.objs.size (s.heap.objs.size::fp) { s with heap:=g } H).env.scope.names.lookup x=some .local:=lookup_relabel_local O.xl
    exact thn (aK (X:=dN X scope fr x g.objs.size (s.heap.objs.size::fp) { s with heap:=g } H) (i:=0) hNd rfl (.inl hxl) (.inr hxl) _ s5 _ H5 v u (fun σ6 H6=>σ6=some v::frOf fr σ/\H6=H5) J5' r5 ⟨rfl,rfl⟩) fun _ s6 ⟨σ6,H6,J6,e6,e7⟩=>⟨σ6,H6,v,s5,H5,J6,e6,e7,y5,st5⟩)
   refine none_err (thn h4' fun _ s6 ⟨σ6,H6,v,s5,H5,J6,e6,e7,y5,st5⟩=>?_);subst e6 e7;refine wpAny_tests_nil ?_;rw[if_pos rfl];refine none_err (thn (he _ _ _ _ _ s6 _ H6 _ J6 (step v H6 y5)) fun u7 s7 ⟨v7,H7,J7,r7,q7⟩=>?_);obtain⟨m',hm,w7⟩:=hN v7 H7 q7;obtain⟨eD,nD,dC,dF,dd⟩:=J7.pin (s.heap.objs.size,LCg.lst us) (MK _ (Ng _ (MK _ (by simp))))
   have hvl:=hv.length;refine append_at (hsz:=by show us.toArray.size<=sizeLine;rw[M6,← hvl];exact hlen) eD fun h8 hs8 hD8=>?_
   have pinD:∀ p∈X.pn++pins,p.1≠s.heap.objs.size:=fun p hp z=>by
    have:=Heap.lt_size (I.pin p hp).1;rw[z]at this;exact NH _ this
   have J7a:Inv (dN X scope fr x g.objs.size (s.heap.objs.size::fp) { s with heap:=g } H) (X.pn++pins) _ H7 s7:=J7.pins_of fun p hp=>J7.pin p (MK _ (Ng _ (Ng _ hp)))
   have J8:Inv (dN X scope fr x g.objs.size (s.heap.objs.size::fp) { s with heap:=g } H) (X.pn++pins) _ H7 { s7 with heap:=h8 }:=J7a.turned (t':=s7.toks) (fun b o hb e=>(hs8.2 b hb).trans e) nD dC (.inl MV) (fun y c e z=>by
    obtain⟨w',q⟩:=I.cell y c (O.cells I e);have:=q.lt;rw[z]at this
    exact NH _ this) (fun p hp=>(MH.mp hp).elim (fun z=>by cases z) (pinD p))
   have J9:Inv (dN X scope fr x g.objs.size (s.heap.objs.size::fp) { s with heap:=g } H) (X.pn++pins++[(s.heap.objs.size,LCg.lst (us++[u7]))]) _ H7 { s7 with heap:=h8 }:=J8.pins_of fun p hp=>by
    rcases MH.mp hp with hp | hp
    ·exact J8.pin p (MK _ hp)
    ·have ep:p=(s.heap.objs.size,LCg.lst (us++[u7])):=by simpa using hp
     subst ep;exact⟨hD8.trans (congrArg some (LCg.lst_snoc us u7)),nD,dC,dF,fun v z=>by cases z⟩
   have J10:=J9.weak (σ':=none::frOf fr σ) rfl fun i v e=>by
    cases i with
    |zero=>cases e
    |succ k=>exact e
   have pinF:∀ b∈fp,∀ o,s5.heap.get? b=some o->s7.heap.get? b=some o/\H7 b=none:=fun b hb o e=>by
    obtain⟨q1,q2,_⟩:=J7.pin (b,o) (MK _ (MK _ (c9 hb e)));exact⟨q1,q2⟩
   refine⟨m',hm,i+1,ys++[v7],us++[u7],H7,J10,hv.append (.cons r7 .nil),T.keep _ _ _ st5 fun b hb o e=>(hs8.2 b (M3 (hfs b hb))).trans (pinF b hb o e).1,fun b hb=>?_,w7⟩;obtain⟨o,e,_⟩:=T.obj _ _ st5 b hb;exact(pinF b hb o e).2
 exact codeAny_compStart_list loop (T.self X.A 0 _ _ _ (T.keep 0 s.heap h₁ st fun b _ o e=>kp b o e) loop)
def tComp(wi:TI)(te:TE)(fr:List (Str×Nat)):TE:=fun σ H Q=>wi σ H fun J H1=>pM te (frOf fr σ) J H1 fun ys H2=>∀ D,H2 D=none->Q (.ref D) (upd H2 D (.lst ys))
theorem c8(hc:X.calm=true)(O:bH X scope fr x)(hi:PI X (.Name x px) iter wi)(he:∀ C ex s H,PE (dN X scope fr x C ex s H) elt te)(hs:∀ x,foldedSetIterable iter X.env x=pure x:=by intro _;rfl) :
  PE X (.ListComp elt [⟨.Name x px,iter,[],0⟩] scope pos) (tComp wi te fr):=by
 intro pins s σ H Q I h;rw[eval_ListComp];refine wpAny_comprehension_free (use:=none) rfl hs O.clos O.kind O.names (thn (hi pins s σ H _ I h) fun xv s1 h1=>thn h1 fun itv s2 h2=>?_);obtain⟨it,fp,tn,J,H2,e,I2,T,st2,f2,q2⟩:=h2;subst e;refine zc (RR:=fun acc C=>compPost (model X.prog X.w) X.A X.xe none (EP X pins σ Q) acc C) hc O he I2 T st2 f2 q2 ?_;intro D C H4 ys s4 m I4 nD fC hn q4;refine⟨m,hn,fun h' hs'=>?_⟩;obtain⟨g0,g1,g2,g3,g4,g5⟩:=fC;exact⟨.ref D,_,I4.turned (t':=s4.toks) (fun b o hb e=>(hs'.2 b hb).trans e) g0 g1 g3 g4 g5,rfl,q4 D nD⟩
def IJ(i:Nat)(wi:TI)(te:TE)(fr:List (Str×Nat)):TS:=fun D σ H=>wi σ H fun J H1=>pM te (frOf fr σ) J H1 fun ys H2=>∀ a,H2 a=none->D.nx (σ.set i (some (.ref a))) (upd H2 a (.lst ys))
theorem mz{i:Nat}{y:Str}{py spos:Pos}(hc:X.calm=true)(hN:X.N.Nodup)(hi':X.N[i]?=some y)(hy:X.env.scope.names.lookup y=some .local)(O:bH X scope fr x)(hi:PI X (.Name x px) iter wi)(he:∀ C ex s H,PE (dN X scope fr x C ex s H) elt te)
  (hsw:swapsWith (.ListComp elt [⟨.Name x px,iter,[],0⟩] scope pos) (some (.Name y py)) spos.line X.env=pure true:=by rfl) (hs:∀ x,foldedSetIterable iter X.env x=pure x:=by intro _;rfl) :
  PS X (.Assign [.Name y py] (.ListComp elt [⟨.Name x px,iter,[],0⟩] scope pos) spos) (IJ i wi te fr):=by
 intro pins s σ H D I h;rw[exec_Assign_Name_used _ _ _ _ hsw];refine wpAny_bind (wpAny_standAt (wpAny_bind ?_));show wpAny _ X.A (do let _ ← comprehension (.ListComp elt [⟨.Name x px,iter,[],0⟩] scope pos) scope X.env _ (newList []) false (eval iter X.env) (some (assign (.Name y py) X.env))) _ _ s
 refine wpAny_bind (thn (wpAny_comprehension_free (use:=some (assign (.Name y py) X.env)) (Q:=fun _ s'=>SP X pins D .next s') rfl hs O.clos O.kind O.names (thn (hi pins s σ H _ I h) fun xv s1 h1=>thn h1 fun itv s2 h2=>?_)) fun _ s' hq=>wpAny_pure (wpAny_pure hq));obtain⟨it,fp,tn,J,H2,e,I2,T,st2,f2,q2⟩:=h2;subst e;refine zc (RR:=fun acc C=>compPost (model X.prog X.w) X.A X.xe (some (assign (.Name y py) X.env)) (fun _ s'=>SP X pins D .next s') acc C) hc O he I2 T st2 f2 q2 ?_;intro a C H4 ys s4 m I4 nD fC hn q4;obtain⟨g0,g1,g2,g3,g4,g5⟩:=fC;obtain⟨oC,eC,hoC⟩:=LCg.ns_obj hn;have I5:Inv X (pins++[(C,oC)]) σ (upd H4 a (.lst ys)) s4:=I4.pins_of fun p hp=>by
  rcases MH.mp hp with hp | hp
  ·exact I4.pin p (MK _ hp)
  ·have ep:p=(C,oC):=by simpa using hp
   subst ep;obtain⟨es,epp,hd,_⟩:=hoC;exact⟨eC,g0,g1,g2,fun v z=>by rw[hd]at z;cases z⟩
 show wpAny _ X.A (assign (.Name y py) X.env (.ref a)) _ _ _;refine wpAny_assign_Name (ue I5 hN hi' (.inl hy) (v:=.ref a) rfl (fun s6 I6=>?_) (.inr hy));obtain⟨e6,_⟩:=I6.pin (C,oC) (MK _ (MK _ (by simp)))
 refine⟨m,hoC.ns e6,fun h' hs'=>?_⟩;exact⟨_,_,I6.unpinned.turned (t':=s6.toks) (fun b o hb e=>(hs'.2 b hb).trans e) g0 g1 g3 g4 g5,q4 a nD⟩
end
theorem bK{K:Mz}{a:Addr}{xs:List V}{te:TE}{fv:St}{H1:Hp}{QQ:List V->Hp->Prop}(Pv:Nat->List V->Hp->Prop)(hz:xs.length<=sizeLine)(h0:Pv 0 [] H1)(hl:∀ i ys H,i<=xs.length->Pv i ys H->SqL K H a xs)
  (hs:∀ i x ys H,xs[i]?=some x->Pv i ys H->te (some x::fv) H fun y H2=>Pv (i+1) (ys++[y]) H2) (hd:∀ ys H,ys.length=xs.length->Pv xs.length ys H->QQ ys H)
  : pM te fv (Itl K a) H1 QQ:=by
 refine⟨fun i m ys H=>m=xs.length-i/\i<=xs.length/\ys.length=i/\Pv i ys H,⟨xs.length,by simp,NA _,rfl,h0⟩,?_⟩
 rintro i m ys H ⟨rfl,hi,hy,p⟩;have q:=hl i ys H hi p;refine⟨by omega,?_⟩
 by_cases hlt:i<xs.length
 ·refine .inr ⟨⟨xs,xs[i],q,by simp[hlt]⟩,fun y H2=>Pv (i+1) (ys++[y]) H2,fun y H2 p2=>⟨xs.length-(i+1),by omega,rfl,hlt,by rw[MA,hy];rfl,p2⟩,fun x H' y=>?_⟩
  obtain⟨e,y⟩:=y;subst e;exact hs i x ys _ (y xs q) p
 ·have e:i=xs.length:=by omega
  subst e;exact .inl ⟨⟨xs,q,MC _⟩,hd ys H hy p⟩
theorem tq{lo:Int}{n:Nat}{te:TE}{fv:St}{H1:Hp}{QQ:List V->Hp->Prop}(Pv:Nat->List V->Hp->Prop)(hz:n<=sizeLine)(h0:Pv 0 [] H1)
  (hs:∀ i ys H,i<n->Pv i ys H->te (some (.int (lo+i))::fv) H fun y H2=>Pv (i+1) (ys++[y]) H2) (hd:∀ ys H,ys.length=n->Pv n ys H->QQ ys H)
  : pM te fv (Itr lo n) H1 QQ:=by
 refine⟨fun i m ys H=>m=n-i/\i<=n/\ys.length=i/\Pv i ys H,⟨n,by simp,NA _,rfl,h0⟩,?_⟩
 rintro i m ys H ⟨rfl,hi,hy,p⟩;refine⟨by omega,?_⟩
 by_cases hlt:i<n
 ·refine .inr ⟨hlt,fun y H2=>Pv (i+1) (ys++[y]) H2,fun y H2 p2=>⟨n-(i+1),by omega,rfl,hlt,by rw[MA,hy];rfl,p2⟩,fun x H' y=>?_⟩
  obtain⟨e,y⟩:=y;subst e y;exact hs i ys _ hlt p
 ·have e:i=n:=by omega
  subst e;exact .inl ⟨MC _,hd ys H hy p⟩
end L2
namespace L2
open PySem PySem.Spec PyProof.Rows
theorem Ks:bootBuiltins "int" = some (.type "int"):=by decide +kernel
theorem Mr:bootBuiltins "bool" = some (.type "bool"):=by decide +kernel
theorem ic:bootBuiltins "list" = some (.type "list"):=by decide +kernel
theorem JR:bootBuiltins "tuple" = some (.type "tuple"):=by decide +kernel
theorem bL:bootBuiltins "len" = some (.builtin "len"):=by decide +kernel
theorem JS:bootBuiltins "range" = some (.type "range"):=by decide +kernel
theorem dZ:bootBuiltins "isinstance" = some (.builtin "isinstance"):=by decide +kernel
theorem lY:bootBuiltins "sorted" = some (.builtin "sorted"):=by decide +kernel
theorem Cp:bootBuiltins "reversed" = some (.type "reversed"):=by decide +kernel
theorem zh:bootBuiltins "enumerate" = some (.type "enumerate"):=by decide +kernel
structure Cal(P:Program)(w:World)(K:Mz)(mg:Str->Option Value)(base:Heap)(k:Nat)(x:Str)(ps:List Str)(sp:Sp)(f:Addr)(fd:FuncData):Prop where
 ok:FnOk P w K mg base CX0 k f fd ps sp
 bn:jo K fd ps []
 mg:mg x=some (.ref f)
 kp:MI K (.ref f)=true
structure Mak(P:Program)(w:World)(K:Mz)(mg:Str->Option Value)(base:Heap)(k:Nat)(x:Str)(ps:List Str)(sp:Sp)(C f:Addr)(fd:FuncData):Prop where
 mkc:Mk K C f
 ok:FnOk P w K mg base CX0 k f fd ps sp
 bn:jo K fd ps []
 mg:mg x=some (.ref C)
structure Met(P:Program)(w:World)(K:Mz)(mg:Str->Option Value)(base:Heap)(k:Nat)(C:Addr)(m:Str)(ps:List Str)(sp:Sp)(f:Addr)(fd:FuncData):Prop where
 me:Meth K C m f
 ok:FnOk P w K mg base CX0 k f fd ps sp
 bn:jo K fd ps []
theorem pU{X:Cx}{sts:List Stmt}{t t2:TS}(h:PSs X sts t)(i:∀ D σ H,t2 D σ H->t D σ H):PSs X sts t2:=fun pins s σ H D I q=>h pins s σ H D I (i D σ H q)
section
variable{X:Cx}
def rIsi(K:Mz):List V->Hp->VK->Prop:=fun xs H Q=>∃ x c t b u,xs = [x,c]/\TyOf K H x t/\((∃ n,c=.ty n/\u=Value.type n)∨∃ a,c=.ref a/\u=Value.ref a)/\O8 K t u=some b/\Q (.bl b) H
theorem pG:nG X (.builtin "isinstance") (rIsi X.K):=by
 intro pins s σ H xs us Q I r h;obtain⟨x,c,t,b,u,rfl,ty,hu,e,q⟩:=h;obtain⟨v1,v2,rfl,r1,r2⟩:=vals2 r;have e2:v2=u:=by
  rcases hu with⟨n,rfl,rfl⟩ | ⟨a,rfl,rfl⟩
  ·exact r2
  ·exact r2
 subst e2;exact G4 I r1 ty e fun tk=>⟨.bl b,H,I.tok tk,rfl,q⟩
theorem kit_ii(K:Mz):O8 K (.type "int") (.type "int")=some true:=by with_unfolding_all rfl
theorem kit_ib(K:Mz):O8 K (.type "int") (.type "bool")=some false:=by with_unfolding_all rfl
theorem kit_ll(K:Mz):O8 K (.type "list") (.type "list")=some true:=by with_unfolding_all rfl
theorem kit_tt(K:Mz):O8 K (.type "tuple") (.type "tuple")=some true:=by with_unfolding_all rfl
end
inductive RdD(K:Mz)(H:Hp):V->PyData->Prop where
 |non:RdD K H .non .none
 |bl (b:Bool):RdD K H (.bl b) (.bool b)
 |int (i:Int):RdD K H (.int i) (.int i)
 |lst {a:Addr} {xs:List V} {ds:List PyData} (h:SqL K H a xs) (hl:xs.length=ds.length) (r:∀(i:Nat)(x:V)(d:PyData),xs[i]?=some x->ds[i]?=some d->RdD K H x d):RdD K H (.ref a) (.list ds)
 |tup {a:Addr} {xs:List V} {ds:List PyData} (h:SqT K H a xs) (hl:xs.length=ds.length) (r:∀(i:Nat)(x:V)(d:PyData),xs[i]?=some x->ds[i]?=some d->RdD K H x d):RdD K H (.ref a) (.tuple ds)
theorem ka{h:Heap}:∀{xs:List V}{us:List Value}{ds:List PyData},Vals xs us->xs.length=ds.length->(∀(i:Nat) x d,xs[i]?=some x->ds[i]?=some d->∀ u,RelV x u->∃ as,Reads h u d as)->∃ as,ReadsAll h us ds as
 |_,_,[],.nil,_,_=>⟨_,.nil⟩
 |_,_,_::_,.nil,e,_=>by cases e
 |_,_,[],.cons _ _,e,_=>by cases e
 |_,_,d::ds,.cons r rr,e,k=>by
  obtain⟨a1,q1⟩:=k 0 _ d rfl rfl _ r;obtain⟨a2,q2⟩:=ka rr (Qb e) fun i x d' e1 e2=>k (i+1) x d' e1 e2;exact⟨_,.cons q1 q2⟩
section
variable{X:Cx}
theorem RdD.reads{pins:List (Addr×Obj)}{σ:St}{H:Hp}{s:Shared}(I:Inv X pins σ H s){x:V}{d:PyData}(r:RdD X.K H x d):∀ u,RelV x u->∃ as,Reads s.heap u d as:=by
 induction r with
 |non=>intro u hu;cases hu;exact⟨_,.none⟩
 |bl b=>intro u hu;cases hu;exact⟨_,.bool b⟩
 |int i=>intro u hu;obtain⟨t,rfl⟩:=hu;exact⟨_,.int i t⟩
 |lst h hl r ih =>
  intro u hu
  cases hu
  obtain⟨its,rv,p,_⟩:=I.list h;obtain⟨as,q⟩:=ka (h:=s.heap) rv hl ih;obtain⟨o,n,e,c,_,d⟩:=p;exact⟨_,.list e c d (by simpa using q)⟩
 |tup h hl r ih =>
  intro u hu
  cases hu
  obtain⟨its,rv,p,_⟩:=I.tuple h;obtain⟨as,q⟩:=ka (h:=s.heap) rv hl ih;obtain⟨o,e,c,n,d⟩:=p;exact⟨_,.tuple e c d (by simpa using q)⟩
def rSame(b:Bool)(K:Mz):R2:=fun x y H Q=>∃ d,RdD K H x d/\RdD K H y d/\SeqAt.shaped d=true/\Q (.bl b) H
theorem op_eqD(hu:X.A.units+64<cLine):OpR X (compareOp .Eq) (rSame true X.K):=by
 intro pins s σ H x y v u Q I rx ry h;obtain⟨d,r1,r2,hs,q⟩:=h;obtain⟨as,q1⟩:=r1.reads I v rx;obtain⟨bs,q2⟩:=r2.reads I u ry;refine eq_dataH q1 q2 hs hs hu ?_;rw[SeqAt.eqv_refl d (SeqAt.canLay_of_shaped hs)];exact⟨.bl true,H,I,rfl,q⟩
theorem C7(hu:X.A.units+64<cLine):OpR X (compareOp .NotEq) (rSame false X.K):=by
 intro pins s σ H x y v u Q I rx ry h;obtain⟨d,r1,r2,hs,q⟩:=h;obtain⟨as,q1⟩:=r1.reads I v rx;obtain⟨bs,q2⟩:=r2.reads I u ry;refine ne_dataH q1 q2 hs hs hu ?_;rw[SeqAt.eqv_refl d (SeqAt.canLay_of_shaped hs)];exact⟨.bl false,H,I,rfl,q⟩
end
def Itr3(lo c:Int)(n:Nat):It:=⟨fun i _=>i<n,fun i H x H'=>H'=H/\x=.int (lo+i*c),fun i _=>n<=i⟩
theorem z0{P:Program}{w:World}{K:Mz}{tg:Expr}(it:Addr)(lo c:Int)(n:Nat):Turn P w K tg (Itr3 lo c n) [it] it (fun i h=>IsRangeIter h it (lo+(i:Nat)*c) ((n:Int)-(i:Nat)) c) where
 mem:=by simp
 obj:=fun i h st b hb=>by
  have e:b=it:=by simpa using hb
  subst e
  exact⟨_,st,fun v z=>by
   have z':Data.fields _=Data.cell v:=z
   cases z'⟩
 keep:=fun i h h' st k=>k it (by simp) _ st
 item:=by
  intro X hP hw hK hc i pins s σ H E I hf st hg;subst hP hw hK;obtain⟨f0,f1,f2,f3,f4,f5⟩:=hf it (by simp)
  have W:=Walks.range (prog:=X.prog) (w:=X.w) (I.ok.hd hc) it lo c n;refine W.item i s _ _ hg st fun v h' tk hv st' kk=>?_;obtain⟨t,rfl⟩:=hv;have I1:Inv X pins σ H { s with heap:=h',toks:=tk }:=I.turned (fun b o hb e=>kk b o (by simpa using hb) e) f0 f1 f3 f4 f5
  exact⟨_,rfl,JH (s:={ s with heap:=h',toks:=tk }) (n:="range_iterator") st' rfl rfl (by decide) ⟨.int (lo+i*c),H,I1,⟨t,rfl⟩,⟨rfl,rfl⟩,st',fun b hb=>(hf b hb).1⟩⟩
 done:=by
  intro X hP hw hK hc i pins s σ H E I hf st hg;subst hP hw hK;obtain⟨f0,f1,f2,f3,f4,f5⟩:=hf it (by simp)
  exact wpAny_pyNext_range_end (I.ok.hd hc) st (by have:n<=i:=hg;omega) fun h' eb=>⟨rfl,I.turned (t':=s.toks) (fun b o hb e=>eb b o hb e) f0 f1 f3 f4 f5⟩
 self:=fun _ _ _ _ _ st h=>wpAny_pyIter_rangeiter st h
section
variable{X:Cx}{tg:Expr}
end
end L2
namespace L2
open PySem PySem.Spec PyProof.Rows
section
variable{P:Program}{w:World}{H:Hp}{h:Heap}{a:Addr}{o:HO}
theorem bh.get(x:bh P w H h a o):∃ ob,h.get? a=some ob:=by
 cases o with
 |lst xs=>obtain⟨_,_,_,_,e⟩:=x;exact⟨_,e⟩
 |tup xs=>obtain⟨_,_,_,ob,e,_⟩:=x;exact⟨_,e⟩
 |dK kvs=>obtain⟨_,_,_,_,o,_,_,e,_⟩:=x;exact⟨_,e⟩
 |dT kvs=>obtain⟨_,_,_,_,o,_,_,e,_⟩:=x;exact⟨_,e⟩
 |set S n=>obtain⟨o,_,_,_,e,_⟩:=x;exact⟨_,e⟩
 |ins C dx fs=>obtain⟨_,_,_,e,_⟩:=x;exact⟨_,e⟩
 |own y=>exact x
 |xd fs=>obtain⟨_,⟨_,_,_,e,_⟩,_⟩:=x;exact⟨_,e⟩
 |rng lo hi=>obtain⟨_,_,_,e⟩:=x;exact⟨_,e⟩
 |frz ob u=>exact⟨_,x.1⟩
 |tbl ps=>exact⟨_,(show h.get? a=some _ from x)⟩
 |met f y=>exact⟨_,(show h.get? a=some _ from x)⟩
 |ext φ=>exact x.2.1
theorem HOk.none_of(x:HOk P w H h)(e:h.get? a=none):H a=none:=by
 cases q:H a with
 |none=>rfl
 |some u =>
  obtain⟨ob,z⟩:=(x a u q).get;rw[e]at z
  cases z
end
structure XOk(X:Cx)(pins:List (Addr×Obj))(H:Hp)(b:Addr):Prop where
 old:X.s₀.heap.get? b=none
 trk:H b=none
 nl:b≠X.env.locals
 nc:∀ x c,X.env.cells.lookup x=some c->c≠b
 np:∀ p∈X.pn++pins,p.1≠b
section
variable{X:Cx}{pins:List (Addr×Obj)}{σ:St}{H H':Hp}{s s':Shared}{b:Addr}
theorem Inv.xok(I:Inv X pins σ H s)(hx:X.ex = [])(e:s.heap.get? b=none)(n:H' b=none):XOk X pins H' b:=by
 refine⟨?_,n,fun z=>?_,fun x c q z=>?_,fun p hp z=>?_⟩
 ·cases q:X.s₀.heap.get? b with
  |none=>rfl
  |some o =>
   obtain⟨o',e'⟩:=I.base.there b o q (by rw[hx];simp)
   rw[e]at e'
   cases e'
 ·obtain⟨m,⟨o,_,_,ho,_⟩,_⟩:=I.loc;rw[z,ho]at e
  cases e
 ·obtain⟨v,o,ho,_⟩:=I.cell x c q;rw[z,e]at ho
  cases ho
 ·have:=(I.pin p hp).1
  rw[z,e]at this
  cases this
theorem Inv.xstep{h':Heap}{ch:List Addr}(I:Inv X pins σ H s)(hch:∀ b∈ch,XOk X pins H b)
  (keep:∀ b o,s.heap.get? b=some o->b∉ch->b∉frs X.stack->h'.get? b=some o)
  (slot:∀ b o,s.heap.get? b=some o->b∉ch->b∈frs X.stack->∃ sl,h'.get? b=some { o with slots:=sl }):Inv X pins σ H { s with heap:=h' }:=by
 have any:∀ b o,s.heap.get? b=some o->b∉ch->∃ sl,h'.get? b=some { o with slots:=sl }:=fun b o e hc=>by
  by_cases hb:b∈frs X.stack
  ·exact slot b o e hc hb
  ·exact⟨o.slots,keep b o e hc hb⟩
 have fsub:∀ b,b∈frs X.stack->b≠X.env.locals->b∈X.fs:=fun b hb n=>(MG.mp (I.stkSub b hb)).elim (fun z=>absurd z n) fun z=>z;have neL:∀ b o,X.s₀.heap.get? b=some o->b≠X.env.locals:=fun b o e=>M3 (Nk (Heap.lt_size e) I.ok.above);have neC:∀ b o,X.s₀.heap.get? b=some o->b∉ch:=fun b o e hb=>by
  have:=(hch b hb).old;rw[e]at this
  cases this
 have cellK:∀ x c,X.env.cells.lookup x=some c->∀ v,s.heap.IsCell c v->h'.IsCell c v:=fun x c e v ⟨o,ho,hd⟩=>by
  obtain⟨sl,q⟩:=any c o ho fun z=>(hch c z).nc x c e rfl;exact⟨_,q,hd⟩
 refine⟨I.ok,I.os,I.bare,⟨fun b o e n hb hx=>?_,fun b o e n hb hx=>?_,I.base.free,fun b o e hx=>?_,I.base.tups,I.base.frzs,I.base.tbls⟩,?_,fun x c e=>?_,I.free,I.freeC,fun p hp=>?_,fun b u e=>?_,I.len⟩
 ·exact keep b o (I.base.keep b o e n hb hx) (neC b o e) fun z=>hb (fsub b z (neL b o e))
 ·obtain⟨sl,e1⟩:=I.base.slot b o e n hb hx;obtain⟨sl',e2⟩:=any b _ e1 (neC b o e);exact⟨sl',e2⟩
 ·obtain⟨o',e1⟩:=I.base.there b o e hx;obtain⟨sl,e2⟩:=any b _ e1 (neC b o e);exact⟨_,e2⟩
 ·obtain⟨m,⟨o,es,ep,ho,r⟩,hl⟩:=I.loc;obtain⟨sl,e2⟩:=any _ o ho fun z=>(hch _ z).nl rfl;refine⟨m,⟨_,es,ep,e2,r⟩,fun i x v e1 e2 e3=>?_⟩;obtain⟨u,r,l⟩:=hl i x v e1 e2 e3;refine⟨u,r,?_⟩;rcases l with l | ⟨k,c,e,z⟩
  ·exact .inl l
  ·exact .inr ⟨k,c,e,cellK x c e _ z⟩
 ·obtain⟨v,z⟩:=I.cell x c e;exact⟨v,cellK x c e v z⟩
 ·obtain⟨e,n,ne,nf,d⟩:=I.pin p hp;exact⟨keep p.1 p.2 e (fun z=>(hch p.1 z).np p hp rfl) fun z=>nf (fsub p.1 z ne),n,ne,nf,d⟩
 ·have nof:∀ c u',H c=some u'->c∉ch/\c∉frs X.stack:=fun c u' q=>⟨fun z=>(by rw[(hch c z).trk]at q;exact nomatch q),fun z=>(by rw[I.stkFree c z]at q;exact nomatch q)⟩
  refine(I.hok b u e).stay (fun c v hc q=>?_) (fun _ q=>q) fun _ _ q=>q;rcases hc with z | z
  ·rw[z]at q ⊢;exact keep b v q (nof b u e).1 (nof b u e).2
  ·exact keep c v q (nof c _ z).1 (nof c _ z).2
end
def Trc(h:Heap)(x:Addr)(C:Value)(T:Addr):Prop :=
 ∃ oe vs a0 oT ts,h.get? x=some oe/\oe.cls=C/\vs[0]?=some a0/\oe.data=.fields vs/\vs[1]?=some (.ref T)/\T≠x/\h.get? T=some oT/\oT.data=.fields ts/\ts[3]?=some .none
def Xnw(h:Heap)(x:Addr)(C:Value):Prop:=∃ oe vs a0,h.get? x=some oe/\oe.cls=C/\oe.data=.fields vs/\vs[0]?=some a0/\vs[1]?=some .none
def XA(X:Cx)(pins:List (Addr×Obj))(H:Hp)(s:Shared)(x:Addr)(C:Value):Prop:=XOk X pins H x/\(Xnw s.heap x C∨∃ T,XOk X pins H T/\Trc s.heap x C T)
def CXr(P:Program)(w:World):CXT:=fun outer H s E e s'=>∃(x:Addr)(C:Value)(T:Addr)(H':Hp),e=.ref x/\s'.os=s.os/\AllBare s'.gens/\Un (frs outer) [] H H' s.heap s'.heap/\HOk P w H' s'.heap /\
 s.heap.get? x=none/\s.heap.get? T=none/\H' x=none/\H' T=none/\Trc s'.heap x C T/\E C none H'
section
variable{X:Cx}{pins:List (Addr×Obj)}{σ:St}{H:Hp}{s:Shared}{x:Addr}{C:Value}{E:Value->Shared->Prop}
abbrev hidX(X:Cx)(h:Heap)(ch:List Addr):Heap:=PySem.W.hideAll h (ch++frs X.stack)
theorem Inv.hidF(I:Inv X pins σ H s)(ch:List Addr):s.heap.FunFrames (hidX X s.heap ch) X.stack :=
 PySem.W.funFrames_hide I.stack fun env he a hf=>MK _ (P6.mpr ⟨env,he,hf⟩)
theorem Km(ch:List Addr)(h:Heap):(hidX X h ch).StaysIn h:=fun _ _ e=>PySem.W.of_hideAll _ e
theorem vW{ch:List Addr}{h:Heap}{b:Addr}(hb:b∈ch):(hidX X h ch).get? b=none:=PySem.W.hideAll_none _ (Ng _ hb)
theorem Inv.left{h':Heap}{ch:List Addr}{a0:Value}(I:Inv X pins σ H s)(hx:X.ex = [])(hch:∀ b∈ch,XOk X pins H b)(k:(hidX X s.heap ch).StaysIn h')(t:h'.TracedW (hidX X s.heap ch) x C a0)(u:s.heap.UpToSlots h') :
  Inv X pins σ H { s with heap:=h' }/\∃ T,XOk X pins H T/\Trc h' x C T:=by
 have fr:∀ b o,s.heap.get? b=some o->b∈frs X.stack->∃ sl,h'.get? b=some { o with slots:=sl }:=fun b o e hb=>by
  obtain⟨_,o',ho,hd⟩:=I.stack.mem hb;rw[e]at ho
  cases ho
  exact u b o e hd
 refine⟨I.xstep hch (fun b o e n1 n2=>k b o (P2 _ e fun z=>(MH.mp z).elim n1 n2)) fun b o e _ hb=>fr b o e hb,?_⟩;obtain⟨oe,vs,T,oT,ts,he,⟨hcls,h0⟩,hd,h1,hnT,hTe,hT,hdT,h3⟩:=t;refine⟨T,?_,oe,vs,a0,oT,ts,he,hcls,h0,hd,h1,hTe,hT,hdT,h3⟩
 cases q:s.heap.get? T with
 |none=>exact I.xok hx q (I.hok.none_of q)
 |some o =>
  by_cases z:T∈ch
  ·exact hch T z
  ·by_cases z2:T∈frs X.stack
   ·obtain⟨_,o',ho,hd'⟩:=I.stack.mem z2;obtain⟨sl,e⟩:=fr T o q z2;rw[hT]at e
    cases e
    rw[q]at ho
    cases ho
    exact absurd hdT (hd' ts)
   ·have:=P2 (ch++frs X.stack) q fun z3=>(MH.mp z3).elim z z2
    rw[hnT]at this
    cases this
theorem Inv.leave{Q:Unit->Shared->Prop}(I:Inv X pins σ H s)(hx:X.ex = [])(hst:X.stack=X.env::X.outer)(hfr:X.env.frame=some X.env.locals)(xa:XA X pins H s x C)
  (h:∀ h' T,Inv X pins σ H { s with heap:=h' }->XOk X pins H x->XOk X pins H T->Trc h' x C T->Q () { s with heap:=h' }):wpAny (model X.prog X.w) X.A (leaving X.env (.ref x)) Q E s:=by
 obtain⟨x1,x2⟩:=xa;have frm:X.A.frames=some (X.env::X.outer):=by rw[← hst];exact I.ok.frames
 rcases x2 with⟨oe,vs,a0,he,hc,hd,h0,h1⟩ | ⟨T,xT,oe,vs,a0,oT,ts,he,hc,h0,hd,h1,hTe,hT,hdT,h3⟩
 ·have hch:∀ b∈[x],XOk X pins H b:=fun b hb=>by
   have e:b=x:=by simpa using hb
   rw[e];exact x1
  refine wpAny_leaving_firstW (base:=hidX X s.heap [x]) frm (hst▸I.hidF [x]) hfr he (Km _ _) (vW (by simp)) hd h1 h0 fun h' L=>?_
  obtain⟨k1,_,k3,k4⟩:=L;obtain⟨I',T,xT,tr⟩:=I.left hx hch k1 k3 k4;rw[hc]at tr;exact h h' T I' x1 xT tr
 ·have hch:∀ b∈[x,T],XOk X pins H b:=fun b hb=>by
   rcases MG.mp hb with e | hb
   ·rw[e];exact x1
   ·have e:b=T:=by simpa using hb
    rw[e];exact xT
  refine wpAny_leaving_nextW (base:=hidX X s.heap [x,T]) frm (hst▸I.hidF [x,T]) hfr ⟨oe,vs,T,oT,ts,he,⟨hc,h0⟩,hd,h1,vW (by simp),hTe,hT,hdT,h3⟩ (Km _ _) (vW (by simp)) fun h' L=>?_
  obtain⟨k1,_,k3,k4⟩:=L;obtain⟨I',T',xT',tr⟩:=I.left hx hch k1 k3 k4;exact h h' T' I' x1 xT' tr
end
abbrev WK:=Value->St->Hp->Prop
def Wsh(X:Cx)(W:WK):Prop:=∀(pins:List (Addr×Obj))(σ:St)(H:Hp)(s:Shared)(x:Addr)(C:Value),Inv X pins σ H s->XA X pins H s x C->W C σ H->X.xe (.ref x) s
theorem xg{P:Program}{w:World}{K:Mz}{mg:Str->Option Value}{base:Heap}{N:List Str}{qual:Str}{scope:Scope}{f:Addr}{cd:Value}{A:Around}{outer:List Env}{s₀:Shared}{H₀:Hp}{E:XK} :
  Wsh (cxOf (CXr P w) P w K mg base N qual scope f cd A outer s₀ H₀ E) (fun C _ H=>E C none H):=fun pins σ H s x C I xa hE=>by
 show wpAny (model P w) (A.deeper (envOfC qual scope s₀.heap.objs.size f cd)) (leaving (envOfC qual scope s₀.heap.objs.size f cd) (.ref x)) _ _ s;refine Inv.leave I rfl rfl rfl xa fun h' T I' x1 xT tr=>?_;exact⟨x,C,T,H,rfl,I'.os,I'.bare,I'.base,I'.hok,x1.old,xT.old,x1.trk,xT.trk,tr,hE⟩
theorem pY{P:Program}{w:World}{X:Cx}:n8 (CXr P w) X E0:=fun _ _ _ _ _ _ _ ⟨_,_,_,_,_,_,_,_,_,_,_,_,_,_,z⟩=>z.elim
section
variable{X:Cx}{k:Nat}{f C:Addr}{fd:FuncData}{ps:List Str}{sp:Sp}{dvs:List V}{ds:List Value}{W:WK}{x m:Str}{p pos apos:Pos}{e o:Expr}{es:List Expr}{ta:TE}{t:TA}
theorem Wsh.of{pins:List (Addr×Obj)}{σ:St}{H:Hp}{s s':Shared}{v:Value}(ws:Wsh X W)(hx:X.ex = [])(I:Inv X pins σ H s)(h:CXr X.prog X.w X.stack H s (fun C _ H'=>W C σ H') v s'):X.xe v s':=by
 obtain⟨x,C,T,H',rfl,os,bare,un,hok,nx,nT,tx,tT,tr,q⟩:=h;have I':Inv X pins σ H' s':=I.call' os un hok bare fun b z=>absurd z (by simp)
 exact ws pins σ H' s' x C I' ⟨I.xok hx nx tx,.inr ⟨T,I.xok hx nT tT,tr⟩⟩ q
theorem Ld{pins:List (Addr×Obj)}{σ:St}{H:Hp}{s:Shared}{Q:VK}{us:List Value}{vs:List V}(F:FnOk X.prog X.w X.K X.mg X.base (CXr X.prog X.w) k f fd ps sp)(hr:Room k X.A)(hb:jo X.K fd ps ds)(hd:Vals dvs ds)(ws:Wsh X W)(hx:X.ex = [])
  (I:Inv X pins σ H s) (r:Vals vs us) (h:sp (vs++dvs) H Q (fun C _ H'=>W C σ H')):wpAny (model X.prog X.w) X.A (call (.ref f) us) (EP X pins σ Q) X.xe s:=by
 have r2:Vals (vs++dvs) (us++ds):=r.append hd;have hl:(us++ds).length=ps.length:=by rw[← r2.length];exact F.len _ _ _ _ h
 refine wpAny_call (codeAny_mono (F.run X.A X.stack s H ⟨us,[]⟩ (us++ds) (vs++dvs) Q _ hr I.env0 (hb s us I.kIn hl) r2 h) fun r s' hq=>?_)
 cases r with
 |error e=>exact ws.of hx I hq
 |ok fl =>
  cases fl with
  |ret u=>exact I.after hq
  |next=>exact False.elim hq
  |brk=>exact False.elim hq
  |cont=>exact False.elim hq
def tCallX(sp:Sp)(dvs:List V)(W:WK)(t:TA):TE:=fun σ H Q=>t σ H fun vs H1=>sp (vs++dvs) H1 Q fun C _ H'=>W C σ H'
theorem u5(F:FnOk X.prog X.w X.K X.mg X.base (CXr X.prog X.w) k f fd ps sp)(hr:Room k X.A)(hg:Gl X x)(hm:X.mg x=some (.ref f))(hk:MI X.K (.ref f)=true)(hb:jo X.K fd ps ds)(hd:Vals dvs ds)(ws:Wsh X W)(hx:X.ex = [])
  (ha:PA X (e::es) t) (hdb:(x == ("__debug__" : Str))=false:=by decide) (he:starEach (e::es) X.env=(false,eval e X.env)::starEach es X.env:=by rfl) (hpl:(backTo pos (starEach es X.env)).any (·.1)=false:=by rfl) :
  PE X (.Call (.Name x p) (e::es) [] pos) (tCallX sp dvs W t):=by
 intro pins s σ H Q I h;refine wpAny_Call_Name_kw (qy I hg hm ?_ hdb);refine Pj (h₀:=X.base) I.ok.mod.kin hk (thn (ha pos pins s σ H _ I h) fun us s1 ⟨vs,H1,I1,r,q⟩=>⟨I1.kIn,?_⟩) he hpl;exact Ld F hr hb hd ws hx I1 r q
end
end L2
namespace L2
open PySem PySem.Spec PyProof.Rows
structure CalX(P:Program)(w:World)(K:Mz)(mg:Str->Option Value)(base:Heap)(k:Nat)(x:Str)(ps:List Str)(sp:Sp)(f:Addr)(fd:FuncData):Prop where
 ok:FnOk P w K mg base (CXr P w) k f fd ps sp
 bn:jo K fd ps []
 mg:mg x=some (.ref f)
 kp:MI K (.ref f)=true
theorem Fun.okX{P:Program}{w:World}{K:Mz}{mg:Str->Option Value}{base:Heap}{x qual:Str}{st:Stmt}{f:Addr}{fd:FuncData}{N ps:List Str}{k:Nat}{sp:Sp}(F:Fun K x qual st f fd)(S:aG N ps (aj st))(len:∀ vs H Q E,sp vs H Q E->vs.length=ps.length)
  (hbody:∀(cdv:Value)(A:Around)(outer:List Env)(s:Shared)(H:Hp)(vs:List V)(Q:VK)(E:XK),Room k (A.deeper (envOfC qual (aj st) s.heap.objs.size f cdv))->sp vs H Q E ->
   ∃ t,PSs (cxOf (CXr P w) P w K mg base N qual (aj st) f cdv A outer s H E) (aB st) t/\t { nx:=fun _ H'=>Q .non H',rt:=Q } (rV N vs) H):FnOk P w K mg base (CXr P w) (k+1) f fd ps sp:=by
 obtain⟨oc,od,kV,doc,pm,an,cdv,ct,osl,rfl,lk,hcd⟩:=F.ex;exact Ma lk hcd S len fun A outer s H vs Q E hr hsp=>hbody cdv A outer s H vs Q E hr hsp
abbrev veM:List Value:=[.type "ValueError",.type "Exception",.type "BaseException",.type "object"]
abbrev ExC(K:Mz)(C:Addr):Prop:=PD K C veM "ValueError.__new__" = true
theorem Mh{K:Mz}{C:Addr}{h:Heap}(e:ExC K C)(X:K.In h):∃ bm N nm qn bs hdct sn sub ab col dd k0 k1 k2 k3 k5 mN,h.get? C=some (excClassObj nm qn C N bs bm hdct sn sub ab col dd k0 k1 k2 k3 k5 "ValueError.__new__")/\h.Ns N mN/\mN "__init__" = none/\OwnTail h veM bm/\∀ B b,PB K C B=some b->(Value.ref C::bm).contains B=b:=by
 have z:=e;unfold ExC PD at z;split at z
 ·rename_i ddx cdx slx hobj;split at z
  ·rename_i Cx bmx y0 y1 y2 y3 nx y5 hmro hslots;have zz:=z;simp only[Bool.and_eq_true,beq_iff_eq,O7]at zz;obtain⟨⟨⟨⟨⟨eC,eN⟩,edel⟩,etail⟩,ens⟩,einit⟩:=zz;subst eC;subst eN;obtain⟨l⟩:=slx;have hl:l = [y0,y1,y2,y3,some (.builtin "ValueError.__new__"),y5]:=hslots;subst hl;obtain⟨nm,bs,mro,ns,qn,hd,sn,sub,ab,col,del⟩:=cdx;have hmro':mro=.ref Cx::bmx:=hmro;have hdel':del=false:=edel;subst hmro' hdel';refine⟨bmx,ns,nm,qn,bs,hd,sn,sub,ab,col,ddx,y0,y1,y2,y3,y5,_,X _ _ hobj,.of_isNs (PySem.W.isNs_of_in X ens),PySem.W.nsMap_none_of_in X ens einit,PySem.W.tail_of_in X etail,fun B b hB=>?_⟩;unfold PB PySem.W.clsIn at hB;rw[hobj]at hB;simpa using hB
  ·cases z
 ·cases z
def J1(C:Addr)(W:WK)(t:TA):TS:=fun _ σ H=>t σ H fun vs H1=>vs.length<=sizeLine/\W (.ref C) σ H1
theorem xF{X:Cx}{x:Str}{C:Addr}{e:Expr}{es:List Expr}{t:TA}{W:WK}{np cpos pos:Pos}(ec:ExC X.K C)(hm:X.mg x=some (.ref C))(hg:Gl X x)(ws:Wsh X W)(hx:X.ex = [])(hc:X.calm=true)(ha:PA X (e::es) t)
  (he:starEach (e::es) X.env=(false,eval e X.env)::starEach es X.env:=by rfl) (hpl:(backTo cpos (starEach es X.env)).any (·.1)=false:=by rfl) (hdb:(x == ("__debug__" : Str))=false:=by decide) :
  PS X (.Raise (some (.Call (.Name x np) (e::es) [] cpos)) none pos) (J1 C W t):=by
 intro pins s σ H D I h;obtain⟨tl,N,nm,qn,bs,hdct,sn,sub,ab,col,dd,k0,k1,k2,k3,k5,mN,hC,hN,hni,T,_⟩:=Mh ec I.ok.mod.kin;have hpl2:(backTo cpos (starEach (e::es) X.env)).any (·.1)=false:=by
  rw[he];show(false||(backTo cpos (starEach es X.env)).any (·.1))=false
  rw[hpl];rfl
 refine wpAny_Raise_call_subT (C:=C) (nm:=nm) (q:=qn) (N:=N) (bs:=bs) (bm:=tl) (hdct:=hdct) (sn:=sn) (sub:=sub) (ab:=ab) (col:=col) (dd:=dd) (k0:=k0) (k1:=k1) (k2:=k2) (k3:=k3) (k5:=k5) PySem.F.excBase_ValueError (mN:=mN) (T.hasType PySem.F.excBase_ValueError.hasBase) (I.ok.hd hc) hpl2 hni (qy I hg hm ⟨rfl,?_⟩ hdb);have z:=ha cpos pins s σ H _ I h;rw[he]at z ⊢;refine Calls.evalArgs_plain (wpAny_mono z (fun us s2 zz=>?_) fun _ _ y=>y);obtain⟨vs,H1,I2,r,hz,q⟩:=zz;refine⟨rfl,by rw[← r.length];exact hz,I2.bk _ _ hC,hN.keeps I2.bk,T.keeps I2.bk,fun h' e' hme=>?_⟩
 obtain⟨t0,ht0,_,_⟩:=hme.there;have I3:Inv X pins σ H1 { s2 with heap:=h' }:=I2.kept (t':=s2.toks) hme.keeps;exact ws pins σ H1 _ e' (.ref C) I3 ⟨I2.xok hx hme.new (I2.hok.none_of hme.new),.inl ⟨_,_,_,ht0,rfl,rfl,rfl,rfl⟩⟩ q
section
variable{X:Cx}{pins:List (Addr×Obj)}{σ:St}{H:Hp}{s:Shared}{x:Addr}{C:Value}
end
section
variable{M:Model}{A:Around}{E:Value->Shared->Prop}{h:Heap}{g:Array GenState}{d:Drawn}{t:Nat}{os:OsState}
end
section
variable{X:Cx}{pins pins':List (Addr×Obj)}{σ:St}{H:Hp}{s:Shared}{E:Value->Shared->Prop}{b:Addr}
end
section
variable{X:Cx}{k:Nat}{f:Addr}{fd:FuncData}{ps:List Str}{sp:Sp}{dvs:List V}{ds:List Value}{W:WK}{x:Str}{p pos:Pos}{e:Expr}{es:List Expr}{t:TA}
end
end L2
namespace L2
open PySem PySem.Spec PyProof.Rows
end L2
namespace L2
open PySem PySem.Spec PyProof.Rows
section
variable{prog:Program}{w:World}{A:Around}{E:Value->Shared->Prop}{s:Shared}
end
end L2
namespace L2
open PySem PySem.Spec PyProof.Rows
section
variable{prog:Program}{w:World}{A:Around}{E:Value->Shared->Prop}{s:Shared}
end
section
variable{X:Cx}
theorem Inv.track{pins:List (Addr×Obj)}{σ:St}{H:Hp}{s:Shared}{a:Addr}{o:HO}(I:Inv X pins σ H s)(f:FpOk X pins H a)(new:bh X.prog X.w (upd H a o) s.heap a o):Inv X pins σ (upd H a o) s:=by
 obtain⟨f0,f1,f2,f3,f4,f5⟩:=f;have ne:∀ b u,H b=some u->b≠a:=fun b u e=>aw e f0;refine I.step (g':=s.gens) (t':=s.toks) (d':=s.drawn) (h':=s.heap) (ch:=[a]) (fun b hb=>?_) (fun b o _ _ _ e _=>e) (fun b o _ _ _ e _=>⟨o.slots,e⟩) (fun b o hc e n=>?_) (fun b o _ e=>⟨o,e⟩) (fun b xs e=>by rw[aq (ne b _ e)];exact e) (fun b o u e=>by rw[aq (ne b _ e)];exact e)
  (fun b ps e=>⟨#[],by rw[aq (ne b _ e),e];simp⟩) (fun m hm=>hm) (fun b u e=>?_) I.bare
 ·have eb:b=a:=by simpa using hb
  rw[eb];exact⟨f3,f1,f4,f5⟩
 ·rw[aq (fun z=>hc (by simp[z]))]
  exact n
 ·by_cases hb:b=a
  ·rw[hb,ae]at e
   cases e
   rw[hb];exact new
  ·rw[aq hb]at e;exact(I.hok b u e).stay (fun c v _ q=>q) (fun c q=>by rw[aq (ne c _ q)];exact q) fun c xs q=>by rw[aq (ne c _ q)];exact q
end
end L2
namespace L2
open PySem PySem.Spec PyProof.Rows
section
variable{X:Cx}
def GU(v d:Addr):HO:=.ext fun h=>PySem.W.KdlKeysView h v d
theorem LK:MtR X "dict.keys" (fun x xs H Q=>∃ d kvs,x=.ref d/\xs = []/\H d=some (.dK kvs)/\∀ v,H v=none->Q (.ref v) (upd H v (GU v d))):=by
 intro pins s σ H x xs v us Q I rx rv h;obtain⟨d,kvs,rfl,rfl,hd,q⟩:=h
 cases rx
 have hus:=rv.zero;subst hus;obtain⟨_,lo,vs,_,hm⟩:=(show bh X.prog X.w H s.heap d (.dK kvs) from I.hok d _ hd);refine call_meetsIn PySem.F.slot_dict_keys hm.typeIs PySem.F.entry_dict_keys (PySem.F.args_dict_keys_1 _) (PySem.W.kdl_meets_keys (bB X.prog X.w) d lo) ⟨⟨vs,hm⟩,?_⟩;have hv:PySem.W.KdlKeysView (s.heap.push { cls:=.type "dict_keys",data:=.fields #[.ref d] }) s.heap.objs.size d:=⟨_,Heap.get?_push_size _ rfl,rfl,rfl⟩;refine⟨.ref s.heap.objs.size,_,I.laid (t':=s.toks) (fun b o e=>Heap.get?_push_of_some _ e) (MC _) ?_,rfl,q _ (I.hok.fresh (MC _))⟩;exact⟨hv,⟨_,Heap.get?_push_size _ rfl⟩,fun h1 h2 x k=>let ⟨o,ho,r⟩:=x;⟨o,k _ ho,r⟩⟩
theorem yt{P:Program}{w:World}:∀{kvs:List (Key×V)}{vs:List (Key×Value)}{us:List Value},KV kvs vs->us.length=vs.length->(∀(j:Nat)(v:Value),us[j]?=some v->∃ k x,vs[j]?=some (k,x)/\(bB P w).is k v=true)->Vals (kvs.map fun q=>kV q.1) us
 |_,_,[],.nil,_,_=>.nil
 |_,_,_::_,.nil,e,_=>by cases e
 |_,_,[],.cons _ _,e,_=>by cases e
 |_,_,u::us,.cons (a:=p) (b:=q) r rr,e,k=>by
  obtain⟨kk,x,e1,e2⟩:=k 0 u rfl;have eq:q=(kk,x):=MN e1;have hk:p.1=kk:=by rw[r.1,eq]
  refine .cons ?_ (yt rr (Qb e) fun j v ej=>k (j+1) v ej);show RelV (kV p.1) u;rw[hk];rcases ba (show yv kk u=true from e2) with⟨i,t,rfl,rfl⟩ | ⟨z,t,rfl,rfl⟩
  ·exact⟨t,rfl⟩
  ·exact⟨t,rfl⟩
end
end L2
namespace L2
open PySem PySem.Spec PyProof.Rows
theorem Inv.turnedL{X:Cx}{pins:List (Addr×Obj)}{σ:St}{H:Hp}{s:Shared}{h':Heap}{t':Nat}{fp:List Addr}(I:Inv X pins σ H s)(k:∀ b o,b∉fp->s.heap.get? b=some o->h'.get? b=some o)(hf:∀ b∈fp,FpOk X pins H b):Inv X pins σ H { s with heap:=h',toks:=t' }:=by
 have nit:∀ b u,H b=some u->b∉fp:=fun b u e z=>by rw[(hf b z).1]at e;cases e
 refine I.step (g':=s.gens) (d':=s.drawn) (ch:=fp) (fun b hb=>?_) (fun b o _ _ hc e _=>k b o hc e) (fun b o _ _ hc e _=>⟨o.slots,k b o hc e⟩) (fun _ _ _ _ n=>n)
  (fun b o hc e=>⟨o,k b o hc e⟩) (fun _ _ e=>e) (fun _ _ _ e=>e) (fun b ps e=>⟨#[],by rw[e];simp⟩) (fun m hm=>?_) (fun b u e=>?_) I.bare
 ·obtain⟨f0,f1,f2,f3,f4,f5⟩:=hf b hb;exact⟨f3,f1,f4,f5⟩
 ·obtain⟨o,es,ep,ho,r⟩:=hm;exact⟨o,es,ep,k _ o (fun z=>(hf _ z).2.1 rfl) ho,r⟩
 ·refine(I.hok b u e).stay (fun c v hc q=>k c v ?_ q) (fun _ q=>q) fun _ _ q=>q;rcases hc with z | z
  ·rw[z];exact nit b u e
  ·exact nit c _ z
def Ite(K:Mz)(a:Addr):It :=
 ⟨fun i H=>∃ xs x,SqL K H a xs/\xs[i]?=some x,fun i H v H'=>∃ T x,H T=none/\v=.ref T/\H'=upd H T (.tup [.int (i:Int),x])/\∀ xs,SqL K H a xs->xs[i]?=some x,fun i H=>∃ xs,SqL K H a xs/\xs.length<=i⟩
theorem Fq{P:Program}{w:World}{K:Mz}{es:List Expr}{k:Nat}{pos:Pos}(a e it:Addr)(hei:e≠it):Turn P w K (.Tuple es k pos) (Ite K a) [e,it] e (fun i h=>(∃ old,IsEnum h e it ((i:Nat):Int) old)/\h.IsListIter it a i) where
 mem:=by simp
 obj:=fun i h st b hb=>by
  obtain⟨⟨old,he⟩,o,e2,c,d⟩:=st;rcases MG.mp hb with rfl | hb
  ·exact⟨_,he,fun v z=>by
    have z':Data.fields _=Data.cell v:=z
    cases z'⟩
  ·have e3:b=it:=by simpa using hb
   subst e3;exact⟨o,e2,fun v z=>by rw[d]at z;cases z⟩
 keep:=fun i h h' st kk=>by
  obtain⟨⟨old,he⟩,hit⟩:=st;exact⟨⟨old,kk e (by simp) _ he⟩,hit.at fun o q=>kk it (by simp) o q⟩
 item:=by
  intro X hP hw hK hc i pins s σ H E I hf st hg;subst hP hw hK;obtain⟨xs,x,hq,hx⟩:=hg;obtain⟨its,rv,p,hz⟩:=I.list hq;obtain⟨u,hu,ru⟩:=rv.get hx;obtain⟨⟨old,he⟩,hit⟩:=st;refine wpAny_pyNext_enum_item he hit p.isList (x:=u) (by simpa using hu) hei fun h' ho hit' hT hsz hk=>?_
  refine⟨_,rfl,?_⟩;refine wpAny_letOwnedTupleGo_enum ho fun h2 he2 hs2=>?_;have hs2':Heap.SameBut e h' h2:=hs2;have hel:e<s.heap.objs.size:=Heap.lt_size he;have hil:it<s.heap.objs.size:=by obtain⟨_,q,_⟩:=hit;exact Heap.lt_size q
  have hfr:H s.heap.objs.size=none:=I.hok.fresh (MC _);have I0:Inv X pins σ (upd H s.heap.objs.size (.tup [.int (i:Int),x])) { s with heap:=s.heap.push { cls:=.type "tuple",data:=.seq #[.int (i:Int) s.toks,u] },toks:=s.toks+1 } :=
   I.laid (t':=s.toks+1) (fun b u e=>Heap.get?_push_of_some _ e) (MC _) ⟨by show 2<=sizeLine;decide,[.int (i:Int) s.toks,u],.cons ⟨_,rfl⟩ (.cons ru .nil),⟨_,Heap.get?_push_size _ rfl,rfl,_,rfl⟩⟩
  have hfb:∀ b∈[e,it],b<s.heap.objs.size:=fun b hb=>by
   rcases MG.mp hb with rfl | hb
   ·exact hel
   ·have e3:b=it:=by simpa using hb
    rw[e3];exact hil
  have hn:∀ b∈[e,it],upd H s.heap.objs.size (.tup [.int (i:Int),x]) b=none:=fun b hb=>by
   rw[aq (M3 (hfb b hb))];exact(hf b hb).1
  have I2:Inv X pins σ (upd H s.heap.objs.size (.tup [.int (i:Int),x])) { s with heap:=h2,toks:=s.toks+1 }:=Inv.turnedL (s:={ s with heap:=s.heap.push { cls:=.type "tuple",data:=.seq #[.int (i:Int) s.toks,u] },toks:=s.toks+1 }) (h':=h2) I0 (t':=s.toks+1) (fp:=[e,it]) (fun b o hb q=>by
   have nb:b≠e:=fun z=>hb (by simp[z])
   have nb2:b≠it:=fun z=>hb (by simp[z])
   refine(hs2'.2 b nb).trans ?_;rcases Heap.get?_push_cases q with⟨z1,z2⟩ | q
   ·rw[z1,z2];exact hT
   ·exact hk b o nb nb2 q) fun b hb=>⟨hn b hb,(hf b hb).2⟩
  refine⟨.ref s.heap.objs.size,_,I2,rfl,⟨s.heap.objs.size,x,hfr,rfl,rfl,fun ys hy=>by rw[I.list_inj hy hq];exact hx⟩,?_,hn⟩
  refine⟨⟨u,?_⟩,hit'.at fun o q=>(hs2'.2 it (Ne.symm hei)).trans q⟩;have e4:(((i+1:Nat):Nat):Int)=(i:Int)+1:=by omega
  rw[e4];exact he2
 done:=by
  intro X hP hw hK hc i pins s σ H E I hf st hg;subst hP hw hK;obtain⟨xs,hq,hx⟩:=hg;obtain⟨its,rv,p,hz⟩:=I.list hq;obtain⟨⟨old,he⟩,hit⟩:=st;have hl:=rv.length;obtain⟨f0,f1,f2,f3,f4,f5⟩:=hf it (by simp)
  exact wpAny_pyNext_enum_end (I.ok.hd hc) he hit p.isList (by simp;omega) fun h' eb=>⟨rfl,I.turned (t':=s.toks) (fun b o hb e=>eb b o hb e) f0 f1 f3 f4 f5⟩
 self:=fun _ _ _ _ _ st h=>by
  obtain⟨⟨old,he⟩,_⟩:=st;exact wpAny_pyIter_enum he h
section
variable{X:Cx}
def iEnum(K:Mz)(ta:TA):TI:=fun σ H R=>ta σ H fun vs H1=>∃ a,vs = [.ref a]/\(∃ xs,SqL K H1 a xs)/\R (Ite K a) H1
theorem F1{l:Expr}{ta:TA}{es:List Expr}{k:Nat}{tp p pos:Pos} (hg:Gl X "enumerate") (hm:X.mg "enumerate" = none) (ha:PA X [l] ta) (hs:starEach [l] X.env = [(false,eval l X.env)]:=by rfl) :
  PI X (.Tuple es k tp) (.Call (.Name "enumerate" p) [l] [] pos) (iEnum X.K ta):=by
 intro pins s σ H R I h;refine Call_ (jZ I hg hm zh (PyProof.Rows.callWith_type1 (thn (ha pos pins s σ H _ I h) fun us s1 ⟨vs,H1,I1,r1,q1⟩=>?_) hs rfl));obtain⟨a,e,⟨xs,hq⟩,q⟩:=q1;subst e;obtain⟨u,rfl,ru⟩:=tZ r1
 cases ru
 obtain⟨its,rv,p,hz⟩:=I1.list hq;refine call_enumerate_list p.isList fun h' he hit hsz hk=>?_;refine wpAny_pyIter_enum he ?_;refine⟨s1.heap.objs.size+1,[s1.heap.objs.size+1,s1.heap.objs.size],_,_,H1,rfl,I1.kept (t':=s1.toks) hk,Fq a _ _ (Nat.succ_ne_self _),⟨⟨_,he⟩,hit⟩,fun b hb=>?_,q⟩;have hb':s1.heap.objs.size<=b:=by
  rcases MG.mp hb with rfl | hb
  ·exact OS _
  ·have e3:b=s1.heap.objs.size:=by simpa using hb
   rw[e3];exact MC _
 exact I1.fpOk hb' (I1.hok.fresh hb')
end
theorem Dy{K:Mz}{a:Addr}{xs:List V}{g:TG}{tb:TS}{D:Ends}{σ:St}{H:Hp}(Pv:Nat->St->Hp->Prop)(h0:Pv 0 σ H)(hl:∀ i σ H,i<=xs.length->Pv i σ H->SqL K H a xs)
  (hs:∀ i x σ H T,xs[i]?=some x->Pv i σ H->H T=none->g (.ref T) σ (upd H T (.tup [.int (i:Int),x])) fun σ2 H2=>tb { D with nx:=Pv (i+1),ct:=Pv (i+1),bk:=D.nx } σ2 H2) (hd:∀ σ H,Pv xs.length σ H->D.nx σ H) :
  ∃ W:Nat->Nat->St->Hp->Prop,(∃ m,W 0 m σ H)/\∀ i m σ H,W i m σ H ->
   ((Ite K a).stop i H/\D.nx σ H)∨((Ite K a).go i H/\∃ N:St->Hp->Prop,(∀ σ' H',N σ' H'->∃ m',m'<m/\W (i+1) m' σ' H')/\∀ x H',(Ite K a).yld i H x H'->g x σ H' fun σ2 H2=>tb { D with nx:=N,ct:=N,bk:=D.nx } σ2 H2):=by
 refine⟨fun i m σ H=>m=xs.length-i/\i<=xs.length/\Pv i σ H,⟨xs.length,by simp,NA _,h0⟩,?_⟩
 rintro i m σ H ⟨rfl,hi,p⟩;have q:=hl i σ H hi p;by_cases hlt:i<xs.length
 ·refine .inr ⟨⟨xs,xs[i],q,by simp[hlt]⟩,Pv (i+1),fun σ' H' p'=>⟨xs.length-(i+1),by omega,rfl,hlt,p'⟩,fun v H' y=>?_⟩
  obtain⟨T,x,hT,rfl,rfl,y⟩:=y;exact hs i x σ _ T (y xs q) p hT
 ·have e:i=xs.length:=by omega
  subst e;exact .inl ⟨⟨xs,q,MC _⟩,hd σ H p⟩
end L2
namespace L2
open PySem PySem.Spec PyProof.Rows
section
variable{X:Cx}
end
theorem BN{n j:Nat}(h:j<n):ixN n (j:Int)=some j:=by
 unfold ixN;rw[if_pos (by omega),if_pos (by omega)]
 rfl
end L2
namespace L2
open PySem PySem.Spec PyProof.Rows
theorem i0:∀{ds:List PyData},(∀ d∈ds,d.canLay0=true)->PyData.canLayAll0 ds=true
 |[],_=>by simp[PyData.canLayAll0]
 |d::ds,h=>by
  rw[PyData.canLayAll0,h d (by simp),i0 fun x hx=>h x (by simp[hx])]
  rfl
theorem kJ{n:Nat}:∀{ds:List PyData},(∀ d∈ds,d.depth<=n)->PyData.depthAll ds<=n
 |[],_=>by simp[PyData.depthAll]
 |d::ds,h=>by
  have h1:=h d (by simp)
  have h2:=kJ (ds:=ds) fun x hx=>h x (MO _ hx);rw[PyData.depthAll];omega
theorem j9{ds:List PyData}(h:∀ d∈ds,d.canLay0=true/\d.depth<=10):SeqAt.shaped (.list ds)=true:=by
 have h1:=i0 fun d hd=>(h d hd).1;have h2:=kJ fun d hd=>(h d hd).2;have h3:PyData.depth (.list ds)<=64:=by simp only[PyData.depth];omega
 show(PyData.canLay0 (.list ds)&&decide (PyData.depth (.list ds)<=64))=true;rw[Bool.and_eq_true];exact⟨by simp only[PyData.canLay0];exact h1,decide_eq_true h3⟩
theorem flat2(i j:Int):(PyData.tuple [.int i,.int j]).canLay0=true/\(PyData.tuple [.int i,.int j]).depth<=10:=by
 constructor
 ·simp[PyData.canLay0,PyData.canLayAll0]
 ·simp[PyData.depth,PyData.depthAll]
end L2
namespace L2
open PySem PySem.Spec PyProof.Rows
def cxG(X:Cx)(scope:Scope)(fr:List (Str×Nat))(xs:List Str)(C:Addr)(ex:List Addr)(s:Shared)(H:Hp):Cx where
 prog:=X.prog
 w:=X.w
 K:=X.K
 mg:=X.mg
 base:=X.base
 A:=X.A
 N:=xs++fr.map (·.1)
 s₀:=s
 H₀:=H
 env:=compEnvC scope (clOf X.env fr) C X.env
 outer:=X.stack
 stack:=X.stack
 ex:=ex
 fn:=fun _=>false
 calm:=X.calm
 pn:=[]
 xe:=fun _ _=>False
structure zQ(X:Cx)(scope:Scope)(fr:List (Str×Nat))(xs:List Str):Prop where
 clos:closureFor scope X.env=pure (clOf X.env fr)
 cell:∀ y∈scope.names,y.2≠.cell
 kind:scope.kind=.function
 names:∀ y∈scope.names,y.2=.local->scope.names.lookup y.1=some .local
 slot:∀ p∈fr,X.N[p.2]?=some p.1/\X.env.kindOf p.1=some .cell
 has:∀ y∈(relabel scope X.env).names,(y.2=.cell∨y.2=.free)->y.1∈fr.map (·.1)
 frk:∀ p∈fr,(relabel scope X.env).names.lookup p.1=some .cell
theorem zQ.of{X:Cx}{scope:Scope}{fr:List (Str×Nat)}{xs:List Str}(clos:closureFor scope X.env=pure (clOf X.env fr))(cell:∀ y∈scope.names,y.2≠.cell)(kind:scope.kind=.function)(names:∀ y∈scope.names,y.2=.local->scope.names.lookup y.1=some .local)
  (slot:∀ p∈fr,X.N[p.2]?=some p.1/\X.env.kindOf p.1=some .cell) (nf:∀ z∈scope.names,z.2=.free->z.1∈fr.map (·.1)) (frk:∀ p∈fr,(relabel scope X.env).names.lookup p.1=some .cell):zQ X scope fr xs where
 clos:=clos
 cell:=cell
 kind:=kind
 names:=names
 slot:=slot
 has:=fun z hz hk=>by
  obtain⟨⟨n,k⟩,hm,e⟩:=MR.mp (show z∈scope.names.map _ from hz);have h2:=cell _ hm;dsimp only at e h2;have hn:z.1=n:=by rw[← e];split<;>rfl
  have hf:k=.free:=by
   by_cases q:k=.free
   ·exact q
   ·have hb:(k == NameKind.free)=false:=by simpa using q
    rw[hb]at e;simp only[OR,NG,if_false]at e;subst e;exact(hk.elim h2 q).elim
  have:=nf _ hm hf;rw[hn];exact this
 frk:=frk
abbrev nons(xs:List Str):St:=ON xs.length none
section
variable{X:Cx}{pins:List (Addr×Obj)}{σ:St}{H:Hp}{s:Shared}{scope:Scope}{fr:List (Str×Nat)}{xs:List Str}
theorem zQ.cells(O:zQ X scope fr xs)(I:Inv X pins σ H s){y:Str}{c:Addr}(h:(clOf X.env fr).lookup y=some c):X.env.cells.lookup y=some c:=by
 obtain⟨hm,e⟩:=fY h;obtain⟨p,hp,ep⟩:=MR.mp hm;have k:=(O.slot p hp).2;rw[ep]at k;obtain⟨c',e'⟩:=I.ok.has y (.inl k);rw[e']at e;rw[e',e];rfl
theorem G6{fp:List Addr}(O:zQ X scope fr xs)(I:Inv X pins σ H s)(hf:∀ b∈fp,FpOk X pins H b)(hfs:∀ b∈fp,b<s.heap.objs.size){g h':Heap}{tk:Nat}(hg:g=s.heap.push (LCg.lst []))
  (hk:∀ b o,g.get? b=some o->h'.get? b=some o) (hC:h'.Ns g.objs.size fun _=>none) :
  Inv (cxG X scope fr xs g.objs.size (s.heap.objs.size::fp) { s with heap:=g } H) (X.pn++pins++[(s.heap.objs.size,LCg.lst [])]) (nons xs++frOf fr σ) H { s with heap:=h',toks:=tk }:=by
 have hsz:g.objs.size=s.heap.objs.size+1:=by rw[hg,Heap.size_push]
 have kp:∀ b o,s.heap.get? b=some o->g.get? b=some o:=fun b o e=>by rw[hg];exact Heap.get?_push_of_some _ e
 have hk0:∀ b o,s.heap.get? b=some o->h'.get? b=some o:=fun b o e=>hk b o (kp b o e);have hDo:h'.get? s.heap.objs.size=some (LCg.lst []):=hk _ _ (by rw[hg];exact Heap.get?_push_size _ rfl)
 have neC:∀ b,b<s.heap.objs.size->b≠g.objs.size:=fun b e=>by rw[hsz];exact M3 (NX e)
 have hDC:s.heap.objs.size≠g.objs.size:=by rw[hsz];exact M3 (NU _)
 have hfr:H g.objs.size=none:=I.hok.fresh (by rw[hsz];exact OS _)
 have hfD:H s.heap.objs.size=none:=I.hok.fresh (MC _);have cne:∀ y c,X.env.cells.lookup y=some c->c<s.heap.objs.size:=fun y c e=>by
  obtain⟨v,q⟩:=I.cell y c e;exact q.lt
 have nst:∀ b,b≠X.env.locals->b∉X.fs->b∉frs X.stack:=fun b h1 h2 z=>(MG.mp (I.stkSub b z)).elim h1 h2;have nstD:s.heap.objs.size∉frs X.stack:=nst _ (NK I.lt) (I.nofs (MC _));refine⟨⟨I.ok.mod,O.kind,I.ok.glob,I.ok.blt,MC _,?_,?_,fun _ _ z _=>(by cases z),I.ok.hd,I.ok.frames,.inl rfl,?_,?_,?_,?_,?_,?_,I.stkFree⟩,rfl,I.bare,Un.kept hk,?_,?_,hfr,?_,?_,I.hok.kept hk0,?_⟩
 ·intro y z c h1 h2;exact I.ok.inj y z c (O.cells I h1) (O.cells I h2)
 ·intro y hy;have hm:y∈fr.map (·.1):=by
   rcases hy with hy | hy
   ·exact O.has (y,_) (NV hy) (.inl rfl)
   ·exact O.has (y,_) (NV hy) (.inr rfl)
  exact⟨_,bQ hm⟩
 ·intro b hb;rcases MG.mp hb with rfl | hb
  ·exact⟨hDC,fun y c e=>M3 (cne y c (O.cells I e))⟩
  ·exact⟨neC b (hfs b hb),fun y c e=>(hf b hb).2.2.2.2.1 y c (O.cells I e)⟩
 ·intro b o e;exact⟨kp b o (I.bs b o e).1,(I.bs b o e).2⟩
 ·show X.base.objs.size<=g.objs.size;rw[hsz];exact OI (Nw I.ok.bsz I.sz)
 ·intro b o e hb;rcases MG.mp hb with z | hb
  ·have:=Heap.lt_size (I.bs b o e).1
   rw[z]at this;exact NH _ this
  ·rcases(hf b hb).2.2.2.1 with z | z
   ·exact I.ok.noex b o e z
   ·exact absurd (Nk (Heap.lt_size (I.ok.bs b o e).1) z) (NH _)
 ·intro b hb;rcases MG.mp hb with z | hb
  ·rw[z];exact nstD
  ·exact nst b (hf b hb).2.1 (hf b hb).2.2.1
 ·exact(I.kept (h':=g) (t':=s.toks) kp).stack
 ·refine⟨_,hC,fun i y v e1 e2 e3=>?_⟩;have e1a:(xs++fr.map (·.1))[i]?=some y:=e1;by_cases hi:i<xs.length
  ·rw[MF (by simpa using hi)]at e2
   rw[Ox,if_pos hi]at e2
   cases e2
  ·have e1':(fr.map (·.1))[i-xs.length]?=some y:=by
    rw[MB (by omega)]at e1a
    exact e1a
   have e2':(frOf fr σ)[i-xs.length]?=some (some v):=by
    rw[MB (by simp;omega)]at e2
    simpa using e2
   generalize i-xs.length=k at e1' e2';unfold frOf at e2';rw[ME]at e1' e2'
   cases q:fr[k]? with
   |none=>rw[q]at e1';cases e1'
   |some p =>
    rw[q]at e1' e2';have ey:p.1=y:=MN e1';have ev:(σ[p.2]?).join=some v:=MN e2';have hp:p∈fr:=My q;obtain⟨hN,hK⟩:=O.slot p hp;have hkk:=O.frk p hp;rw[ey]at hN hK hkk;have ev':σ[p.2]?=some (some v):=by
     cases q2:σ[p.2]? with
     |none=>rw[q2]at ev;cases ev
     |some w=>rw[q2]at ev;exact congrArg some ev
    obtain⟨m,hn,hl⟩:=I.loc;obtain⟨u,r,l⟩:=hl p.2 y v hN ev' (.inr (.inl hK));refine⟨u,r,?_⟩;rcases l with⟨k1,_⟩ | ⟨_,c,ec,z⟩
    ·rw[hK]at k1;cases k1
    ·have hm:y∈fr.map (·.1):=by rw[← ey];exact MR.mpr ⟨p,hp,rfl⟩
     have el:=bQ (env:=X.env) hm;rw[ec]at el;exact .inr ⟨.inl hkk,c,el,by obtain⟨o,ho,hd⟩:=z;exact⟨o,hk0 _ _ ho,hd⟩⟩
 ·intro y c e;obtain⟨v,o,ho,hd⟩:=I.cell y c (O.cells I e);exact⟨v,o,hk0 _ _ ho,hd⟩
 ·intro y c e;exact I.freeC y c (O.cells I e)
 ·intro p hp;rcases MH.mp hp with hp | hp
  ·cases hp
  ·rcases MH.mp hp with hp | hp
   ·obtain⟨e,n,ne,nf,d⟩:=I.pin p hp;exact⟨hk0 _ _ e,n,neC _ (Heap.lt_size e),nst _ ne nf,d⟩
   ·have ep:p=(s.heap.objs.size,LCg.lst []):=by simpa using hp
    subst ep;exact⟨hDo,hfD,hDC,nstD,fun v z=>by cases z⟩
 ·show(nons xs++frOf fr σ).length=(xs++fr.map (·.1)).length;unfold frOf;simp
theorem vT{fp:List Addr}{g:Heap}{s':Shared}{H':Hp}{σ':St}{ys:List V}{us:List Value}(I:Inv X pins σ H s)(hf:∀ b∈fp,FpOk X pins H b)(hg:g=s.heap.push (LCg.lst []))
  (J:Inv (cxG X scope fr xs g.objs.size (s.heap.objs.size::fp) { s with heap:=g } H) (X.pn++pins++[(s.heap.objs.size,LCg.lst us)]) σ' H' s') (hv:Vals ys us) (hl:ys.length<=sizeLine) :
  Inv X pins σ (upd H' s.heap.objs.size (.lst ys)) s'/\H' s.heap.objs.size=none/\FpOk X pins (upd H' s.heap.objs.size (.lst ys)) g.objs.size/\∃ m,s'.heap.Ns g.objs.size m:=by
 have hsz:g.objs.size=s.heap.objs.size+1:=by rw[hg,Heap.size_push]
 have kp:∀ b o,s.heap.get? b=some o->g.get? b=some o:=fun b o e=>by rw[hg];exact Heap.get?_push_of_some _ e
 obtain⟨eD,nD,_,_,_⟩:=J.pin (s.heap.objs.size,LCg.lst us) (by simp)
 have hDC:g.objs.size≠s.heap.objs.size:=by rw[hsz];exact NK (NU _)
 have nD':∀ b u,H' b=some u->b≠s.heap.objs.size:=fun b u e z=>by rw[z]at e;rw[e]at nD;cases nD
 have hx:∀ b o,s.heap.get? b=some o->b∉fp->b∉s.heap.objs.size::fp:=fun b o e hb z=>by
  rcases MG.mp z with z | z
  ·have:=Heap.lt_size e
   rw[z]at this;exact NH _ this
  ·exact hb z
 have bU:Un (frs X.stack) (s.heap.objs.size::fp) H H' g s'.heap:=J.base;have ltD:∀ b o,s.heap.get? b=some o->b≠s.heap.objs.size:=fun b o e=>M3 (Heap.lt_size e);have un:Un (frs X.stack) fp H (upd H' s.heap.objs.size (.lst ys)) s.heap s'.heap:=by
  refine⟨fun b o e n hb he=>bU.keep b o (kp b o e) n hb (hx b o e he),fun b o e n hb he=>bU.slot b o (kp b o e) n hb (hx b o e he),fun b o e n he=>?_,fun b o e he=>bU.there b o (kp b o e) (hx b o e he),fun b xs e=>?_,fun b o u e=>?_,fun b ps e=>?_⟩
  ·rw[aq (ltD b o e)];exact bU.free b o (kp b o e) n (hx b o e he)
  ·have q:=bU.tups b xs e
   rw[aq (nD' b _ q)];exact q
  ·have q:=bU.frzs b o u e
   rw[aq (nD' b _ q)];exact q
  ·obtain⟨more,q⟩:=bU.tbls b ps e;exact⟨more,by rw[aq (nD' b _ q)];exact q⟩
 have hok:HOk X.prog X.w (upd H' s.heap.objs.size (.lst ys)) s'.heap:=fun b u e=>by
  by_cases hb:b=s.heap.objs.size
  ·rw[hb,ae]at e
   cases e
   rw[hb];exact⟨hl,us,us.length,hv,eD⟩
  ·rw[aq hb]at e;exact(J.hok b u e).stay (fun c v _ q=>q) (fun c q=>by rw[aq (nD' c _ q)];exact q) fun c xs q=>by rw[aq (nD' c _ q)];exact q
 have os:s'.os=s.os:=J.os;refine⟨I.call' os un hok J.bare fun b hb=>⟨(hf b hb).2.2.2.1,(hf b hb).2.1,(hf b hb).2.2.2.2⟩,nD,?_,?_⟩
 ·refine I.fpOk (H':=upd H' s.heap.objs.size (.lst ys)) (b:=g.objs.size) (by rw[hsz];exact OS _) ?_
  rw[aq hDC];exact J.free
 ·obtain⟨m,hn,_⟩:=J.loc;exact⟨m,hn⟩
end
def PTs(X:Cx)(ifs:List Expr)(t:TT):Prop :=
 ∀(pins:List (Addr×Obj))(s:Shared)(σ:St)(H:Hp)(Q:Bool->Hp->Prop),Inv X pins σ H s->t σ H Q ->
  wpAny (model X.prog X.w) X.A (forIn ifs true fun c r=>if r=true then do let ok ← isTrue c X.env (eval c X.env);pure (ForInStep.yield ok) else pure (ForInStep.yield r)) (fun b s'=>∃ H',Inv X pins σ H' s'/\Q b H') X.xe s
theorem Lg{X:Cx}{c:Expr}{t:TT}(h:PT X c t):PTs X [c] t:=fun pins s σ H Q I q=>wpAny_tests_one (h pins s σ H Q I q)
section
variable{prog:Program}{w:World}{A:Around}{s:Shared}
theorem HV{elt target iter:Expr}{ifs:List Expr}{scope:Scope}{pos:Pos}{it acc:Value}{env:Env}{R:Result->Shared->Prop}(I:Nat->Shared->Prop)
  (turn:∀ n s,I n s->wpAny (model prog w) A (pyNext it) (fun r s₁=>match r with
   |none=>R (.ok .next) s₁
   |some v=>wpAny (model prog w) A (letOwnedTupleGo target it v) (fun _ s₀=>wpAny (model prog w) A (assign target env v) (fun _ s₂ =>
     wpAny (model prog w) A (forIn ifs true fun c r=>if r=true then do let ok ← isTrue c env (eval c env);pure (ForInStep.yield ok) else pure (ForInStep.yield r)) (fun ok s₃=>if ok=true then wpAny (model prog w) A (eval elt env) (fun x s₄ =>
      wpAny (model prog w) A (call (.builtin "list.append") [acc,x]) (fun _ s₅=>∃ m,m<n/\I m s₅) (notedBy (model prog w) A env fun e s'=>R (.error e) s') s₄) (notedBy (model prog w) A env fun e s'=>R (.error e) s') s₃
      else ∃ m,m<n/\I m s₃) (notedBy (model prog w) A env fun e s'=>R (.error e) s') s₂)
     (notedBy (model prog w) A env fun e s'=>R (.error e) s') s₀) (notedBy (model prog w) A env fun e s'=>R (.error e) s') s₁) (notedBy (model prog w) A env fun e s'=>R (.error e) s') s)
  (n:Nat) (h:I n s):codeAny (model prog w) A (.compLoop (.ListComp elt [⟨target,iter,ifs,0⟩] scope pos) 0 it acc env) R s:=by
 refine codeAny_loop rfl I (fun n s hI=>?_) n h;show wpAny _ A ((compTurn (.ListComp elt [⟨target,iter,ifs,0⟩] scope pos) 0 it acc env).onRaise (fun x=>do noteFrame x env;theTreesLotGoes x)) _ _ s
 refine wpAny_noted ?_;rw[compTurn_list];refine wpAny_bind (wpAny_standAt (wpAny_bind (wpAny_mono (turn n s hI) (fun r s₁ h₁=>?_) fun _ _ h'=>h')))
 cases r with
 |none=>exact wpAny_pure h₁
 |some v =>
  refine wpAny_bind (wpAny_mono h₁ (fun _ s₀ h₀'=>?_) fun _ _ h'=>h');refine wpAny_bind (wpAny_mono h₀' (fun _ s₂ h₂=>?_) fun _ _ h'=>h');refine wpAny_bind (wpAny_mono h₂ (fun okb s₃ h₃=>?_) fun _ _ h'=>h')
  cases okb with
  |false=>exact wpAny_pure ⟨rfl,h₃⟩
  |true=>exact wpAny_bind (wpAny_bind (wpAny_mono h₃ (fun x s₄ h₄=>wpAny_bind (wpAny_mono h₄ (fun _ s₅ h₅=>wpAny_pure (wpAny_pure ⟨rfl,h₅⟩)) fun _ _ h'=>h')) fun _ _ h'=>h'))
end
def Fw(g:TG)(tt:TT)(te:TE)(n:Nat)(fv:St)(J:It)(H1:Hp)(QQ:List V->Hp->Prop):Prop :=
 ∃ W:Nat->Nat->List V->Hp->Prop,(∃ m,W 0 m [] H1)/\∀ i m ys H,W i m ys H->ys.length<=sizeLine /\
  ((J.stop i H/\QQ ys H)∨(J.go i H/\∃ N:List V->Hp->Prop,(∀ zs H2,N zs H2->∃ m',m'<m/\W (i+1) m' zs H2) /\
   ∀ x H',J.yld i H x H'->g x (ON n none++fv) H' fun σ2 H2=>σ2.drop n=fv/\tt σ2 H2 fun b H3=>if b=true then te σ2 H3 (fun y H4=>N (ys++[y]) H4) else N ys H3))
section
variable{X:Cx}{scope:Scope}{fr:List (Str×Nat)}{xs:List Str}{elt iter tg:Expr}{ifs:List Expr}{pos:Pos}{te:TE}{tt:TT}{tgt:TG}{wi:TI}
theorem EV{pins:List (Addr×Obj)}{σ:St}{H:Hp}{s:Shared}{E:Value->Shared->Prop}{it:Addr}{fp:List Addr}{tn:Nat->Heap->Prop}{J:It}{RR:Value->Addr->Result->Shared->Prop}{QQ:List V->Hp->Prop}(hc:X.calm=true)(O:zQ X scope fr xs)
  (hg0:∀ C ex s H,PG (cxG X scope fr xs C ex s H) tg tgt) (ht:∀ C ex s H,PTs (cxG X scope fr xs C ex s H) ifs tt) (he:∀ C ex s H,PE (cxG X scope fr xs C ex s H) elt te) (I:Inv X pins σ H s) (T:Turn X.prog X.w X.K tg J fp it tn) (st:tn 0 s.heap) (hf:∀ b∈fp,FpOk X pins H b) (hq:Fw tgt tt te xs.length (frOf fr σ) J H QQ)
  (fin:∀ D C H4 ys s4 m,Inv X pins σ (upd H4 D (.lst ys)) s4->H4 D=none->FpOk X pins (upd H4 D (.lst ys)) C->s4.heap.Ns C m->QQ ys H4->RR (.ref D) C (.ok .next) s4) :
  wpAny (model X.prog X.w) X.A (newList []) (fun acc s₃=>wpAny (model X.prog X.w) X.A (newFunctionEnv scope X.env.globals (clOf X.env fr) [] X.env.qual none .none (some X.env)) (fun cenv s₄ =>
   codeAny (model X.prog X.w) X.A (.compStart (.ListComp elt [⟨tg,iter,ifs,0⟩] scope pos) 0 (.ref it) acc { cenv with scope:=relabel scope X.env }) (RR acc cenv.locals) s₄) E s₃) E s:=by
 obtain⟨W,⟨m0,w0⟩,turn⟩:=hq;have hfs:∀ b∈fp,b<s.heap.objs.size:=fun b hb=>by
  obtain⟨o,e,_⟩:=T.obj 0 s.heap st b hb;exact Heap.lt_size e
 refine wpAny_newObj_type (wpAny_newFunctionEnv O.cell (by intro y hy;simp at hy) (fun h₁ hns₁ hsb₁=>?_) O.kind)
 dsimp only at hns₁ hsb₁ ⊢;generalize hH2:s.heap.push { cls:=.type "list",dict:=none,data:=.seq ([]:List Value).toArray }=g at hns₁ hsb₁ ⊢;have hg:g=s.heap.push (LCg.lst []):=hH2.symm;have hsz:g.objs.size=s.heap.objs.size+1:=by rw[hg,Heap.size_push]
 have hk:∀ b o,g.get? b=some o->h₁.get? b=some o:=fun b o e=>hsb₁.extBut b o (M3 (Heap.lt_size e)) (Heap.get?_push_of_some _ e);have kp:∀ b o,s.heap.get? b=some o->h₁.get? b=some o:=fun b o e=>hk b o (by rw[hg];exact Heap.get?_push_of_some _ e)
 have J0:=G6 (h':=h₁) (tk:=s.toks+([]:List (Str×Value)).length) O I hf hfs hg hk hns₁;have stat:∀{H':Hp}{us:List Value},(∀ b∈fp,H' b=none)->∀ b∈fp,FpOk (cxG X scope fr xs g.objs.size (s.heap.objs.size::fp) { s with heap:=g } H) (X.pn++pins++[(s.heap.objs.size,LCg.lst us)]) H' b:=fun{H' us} hn b hb=>by
  obtain⟨_,f1,f2,f3,f4,f5⟩:=hf b hb;refine⟨hn b hb,?_,fun z=>(MG.mp (I.stkSub b z)).elim f1 f2,.inl (MO _ hb),fun y c e=>f4 y c (O.cells I e),fun p hp=>?_⟩
  ·show b≠g.objs.size;rw[hsz];exact M3 (NX (hfs b hb))
  ·rcases MH.mp hp with hp | hp
   ·cases hp
   ·rcases MH.mp hp with hp | hp
    ·exact f5 p hp
    ·have ep:p=(s.heap.objs.size,LCg.lst us):=by simpa using hp
     rw[ep];exact NK (hfs b hb)
 have loop:codeAny (model X.prog X.w) X.A (.compLoop (.ListComp elt [⟨tg,iter,ifs,0⟩] scope pos) 0 (.ref it) (.ref s.heap.objs.size) (compEnvC scope (clOf X.env fr) g.objs.size X.env))
   (RR (.ref s.heap.objs.size) g.objs.size) { s with heap:=h₁,toks:=s.toks+([]:List (Str×Value)).length }:=by
  refine HV (fun n s'=>∃ i ys us H',Inv (cxG X scope fr xs g.objs.size (s.heap.objs.size::fp) { s with heap:=g } H) (X.pn++pins++[(s.heap.objs.size,LCg.lst us)]) (nons xs++frOf fr σ) H' s'/\Vals ys us/\tn i s'.heap/\(∀ b∈fp,H' b=none)/\W i n ys H') ?_ m0
   ⟨0,[],[],H,J0,.nil,T.keep 0 s.heap h₁ st fun b _ o e=>kp b o e,fun b hb=>(hf b hb).1,w0⟩
  rintro n s3 ⟨i,ys,us,H3,J3,hv,st3,fr3,w3⟩;obtain⟨hlen,hh⟩:=turn i n ys H3 w3;have none_err:∀{α:Type}{t:Sem α}{Q:α->Shared->Prop}{E':Value->Shared->Prop}{s:Shared},wpAny (model X.prog X.w) X.A t Q (fun _ _=>False) s->wpAny (model X.prog X.w) X.A t Q E' s:=fun h=>wpAny_mono h (fun _ _ q=>q) fun _ _ z=>z.elim;have weakN:∀{σ6:St},σ6.length=(nons xs++frOf fr σ).length->σ6.drop xs.length=frOf fr σ->∀(i:Nat) v,(nons xs++frOf fr σ)[i]?=some (some v)->σ6[i]?=some (some v):=fun{σ6} hl6 e6 i v e=>by
   by_cases hi:i<xs.length
   ·rw[MF (by simpa using hi),Ox,if_pos hi]at e
    cases e
   ·rw[MB (by simp;omega),← e6,OB]at e
    have:xs.length+(i-(nons xs).length)=i:=by simp;omega
    rw[this]at e;exact e
  rcases hh with⟨stop,qn⟩ | ⟨go,N,hN,step⟩
  ·refine none_err (thn (T.done (cxG X scope fr xs g.objs.size (s.heap.objs.size::fp) { s with heap:=g } H) rfl rfl rfl hc i _ s3 _ H3 _ J3 (stat fr3) st3 stop) fun r s4 ⟨hr,J4⟩=>?_);subst hr;obtain⟨I4,nD,fC,m,hn⟩:=vT I hf hg J4 hv hlen;exact fin _ _ H3 ys s4 m I4 nD fC hn qn
  ·refine none_err (thn (T.item (cxG X scope fr xs g.objs.size (s.heap.objs.size::fp) { s with heap:=g } H) rfl rfl rfl hc i _ s3 _ H3 _ J3 (stat fr3) st3 go) fun r s4 ⟨u,hr,h4⟩=>?_);subst hr;refine none_err (thn h4 fun _ s5 ⟨v,H5,J5,r5,y5,st5,fr5⟩=>?_);have J5':=J5.pinned (stat fr5) (T.obj _ _ st5);refine none_err (thn (hg0 _ _ _ _ _ s5 _ H5 v u _ J5' r5 (step v H5 y5)) fun _ s6 ⟨σ6,H6,J6,e6,q6⟩=>?_);refine none_err (thn (ht _ _ _ _ _ s6 σ6 H6 _ J6 q6) fun b s6' ⟨H6',J6',q6'⟩=>?_);have hl6:σ6.length=(nons xs++frOf fr σ).length:=J6.len.trans J3.len.symm
   cases b with
   |false =>
    rw[if_neg MQ]at q6' ⊢;obtain⟨m',hm,w7⟩:=hN ys H6' q6';have pinF:∀ b∈fp,∀ o,s5.heap.get? b=some o->s6'.heap.get? b=some o/\H6' b=none:=fun b hb o e=>by
     obtain⟨q1,q2,_⟩:=J6'.pin (b,o) (MK _ (MK _ (c9 hb e)));exact⟨q1,q2⟩
    refine⟨m',hm,i+1,ys,us,H6',J6'.unpinned.weak (σ':=nons xs++frOf fr σ) hl6.symm (weakN hl6 e6),hv,T.keep _ _ _ st5 fun b hb o e=>(pinF b hb o e).1,fun b hb=>?_,w7⟩;obtain⟨o,e,_⟩:=T.obj _ _ st5 b hb;exact(pinF b hb o e).2
   |true =>
    rw[if_pos rfl]at q6' ⊢;refine none_err (thn (he _ _ _ _ _ s6' _ H6' _ J6' q6') fun u7 s7 ⟨v7,H7,J7,r7,q7⟩=>?_);obtain⟨m',hm,w7⟩:=hN _ H7 q7;obtain⟨eD,nD,dC,dF,dd⟩:=J7.pin (s.heap.objs.size,LCg.lst us) (MK _ (Ng _ (MK _ (by simp))))
    have hvl:=hv.length;refine append_at (hsz:=by show us.toArray.size<=sizeLine;rw[M6,← hvl];exact hlen) eD fun h8 hs8 hD8=>?_
    have pinD:∀ p∈X.pn++pins,p.1≠s.heap.objs.size:=fun p hp z=>by
     have:=Heap.lt_size (I.pin p hp).1;rw[z]at this;exact NH _ this
    have J7a:Inv (cxG X scope fr xs g.objs.size (s.heap.objs.size::fp) { s with heap:=g } H) (X.pn++pins) _ H7 s7:=J7.pins_of fun p hp=>J7.pin p (MK _ (Ng _ (Ng _ hp)))
    have J8:Inv (cxG X scope fr xs g.objs.size (s.heap.objs.size::fp) { s with heap:=g } H) (X.pn++pins) _ H7 { s7 with heap:=h8 }:=J7a.turned (t':=s7.toks) (fun b o hb e=>(hs8.2 b hb).trans e) nD dC (.inl MV) (fun y c e z=>by
     obtain⟨w',q⟩:=I.cell y c (O.cells I e);have:=q.lt;rw[z]at this
     exact NH _ this) (fun p hp=>(MH.mp hp).elim (fun z=>by cases z) (pinD p))
    have J9:Inv (cxG X scope fr xs g.objs.size (s.heap.objs.size::fp) { s with heap:=g } H) (X.pn++pins++[(s.heap.objs.size,LCg.lst (us++[u7]))]) _ H7 { s7 with heap:=h8 }:=J8.pins_of fun p hp=>by
     rcases MH.mp hp with hp | hp
     ·exact J8.pin p (MK _ hp)
     ·have ep:p=(s.heap.objs.size,LCg.lst (us++[u7])):=by simpa using hp
      subst ep;exact⟨hD8.trans (congrArg some (LCg.lst_snoc us u7)),nD,dC,dF,fun v z=>by cases z⟩
    have J10:=J9.weak (σ':=nons xs++frOf fr σ) hl6.symm (weakN hl6 e6);have pinF:∀ b∈fp,∀ o,s5.heap.get? b=some o->s7.heap.get? b=some o/\H7 b=none:=fun b hb o e=>by
     obtain⟨q1,q2,_⟩:=J7.pin (b,o) (MK _ (MK _ (c9 hb e)));exact⟨q1,q2⟩
    refine⟨m',hm,i+1,ys++[v7],us++[u7],H7,J10,hv.append (.cons r7 .nil),T.keep _ _ _ st5 fun b hb o e=>(hs8.2 b (M3 (hfs b hb))).trans (pinF b hb o e).1,fun b hb=>?_,w7⟩;obtain⟨o,e,_⟩:=T.obj _ _ st5 b hb;exact(pinF b hb o e).2
 exact codeAny_compStart_list loop (T.self X.A 0 _ _ _ (T.keep 0 s.heap h₁ st fun b _ o e=>kp b o e) loop)
def tCompE(wi:TI)(g:TG)(tt:TT)(te:TE)(n:Nat)(fr:List (Str×Nat)):TE:=fun σ H Q=>wi σ H fun J H1=>Fw g tt te n (frOf fr σ) J H1 fun ys H2=>∀ D,H2 D=none->Q (.ref D) (upd H2 D (.lst ys))
theorem Jg(hc:X.calm=true)(O:zQ X scope fr xs)(hi:PI X tg iter wi)(hg0:∀ C ex s H,PG (cxG X scope fr xs C ex s H) tg tgt)(ht:∀ C ex s H,PTs (cxG X scope fr xs C ex s H) ifs tt)(he:∀ C ex s H,PE (cxG X scope fr xs C ex s H) elt te)(hs:∀ x,foldedSetIterable iter X.env x=pure x:=by intro _;rfl) :
  PE X (.ListComp elt [⟨tg,iter,ifs,0⟩] scope pos) (tCompE wi tgt tt te xs.length fr):=by
 intro pins s σ H Q I h;rw[eval_ListComp];refine wpAny_comprehension_free (use:=none) rfl hs O.clos O.kind O.names (thn (hi pins s σ H _ I h) fun xv s1 h1=>thn h1 fun itv s2 h2=>?_);obtain⟨it,fp,tn,J,H2,e,I2,T,st2,f2,q2⟩:=h2;subst e;refine EV (RR:=fun acc C=>compPost (model X.prog X.w) X.A X.xe none (EP X pins σ Q) acc C) hc O hg0 ht he I2 T st2 f2 q2 ?_;intro D C H4 ys s4 m I4 nD fC hn q4;refine⟨m,hn,fun h' hs'=>?_⟩;obtain⟨g0,g1,g2,g3,g4,g5⟩:=fC;exact⟨.ref D,_,I4.turned (t':=s4.toks) (fun b o hb e=>(hs'.2 b hb).trans e) g0 g1 g3 g4 g5,rfl,q4 D nD⟩
end
theorem EW{K:Mz}{a:Addr}{xs:List V}{g:TG}{tt:TT}{te:TE}{n:Nat}{fv:St}{H1:Hp}{QQ:List V->Hp->Prop}(Pv:Nat->List V->Hp->Prop)(hz:xs.length<=sizeLine)(h0:Pv 0 [] H1)(hl:∀ i ys H,i<=xs.length->Pv i ys H->SqL K H a xs)
  (hs:∀ i x ys H,xs[i]?=some x->Pv i ys H->g x (ON n none++fv) H fun σ2 H2=>σ2.drop n=fv/\tt σ2 H2 fun b H3=>if b=true then te σ2 H3 (fun y H4=>Pv (i+1) (ys++[y]) H4) else Pv (i+1) ys H3) (hd:∀ ys H,Pv xs.length ys H->QQ ys H) (hy:∀ i ys H,Pv i ys H->ys.length<=i)
  : Fw g tt te n fv (Itl K a) H1 QQ:=by
 refine⟨fun i m ys H=>m=xs.length-i/\i<=xs.length/\Pv i ys H,⟨xs.length,by simp,NA _,h0⟩,?_⟩
 rintro i m ys H ⟨rfl,hi,p⟩;have q:=hl i ys H hi p;have hyl:=hy i ys H p;refine⟨by omega,?_⟩
 by_cases hlt:i<xs.length
 ·refine .inr ⟨⟨xs,xs[i],q,by simp[hlt]⟩,fun zs H2=>Pv (i+1) zs H2,fun zs H2 p2=>⟨xs.length-(i+1),by omega,rfl,hlt,p2⟩,fun x H' y=>?_⟩
  obtain⟨e,y⟩:=y;subst e;exact hs i x ys _ (y xs q) p
 ·have e:i=xs.length:=by omega
  subst e;exact .inl ⟨⟨xs,q,MC _⟩,hd ys H p⟩
end L2
namespace L2
open PySem PySem.Spec PyProof.Rows
section
variable{X:Cx}{K:Mz}{pos:Pos}
theorem pB(h:X.K=K):IxR X (rIxL K):=h▸aP
theorem iW(h:X.K=K):IxR X (rIxT K):=h▸aH
theorem tH(h:X.K=K):nG X (.type "list") (fun xs H Q=>∃ p ys,xs = [.ref p]/\(SqL K H p ys∨SqT K H p ys)/\∀ l,H l=none->Q (.ref l) (upd H l (.lst ys))):=h▸cE
theorem uY{e:Expr}{f:Str}{ta:TE}(h:X.K=K)(he:PE X e ta)(hb:attributeBase e f X.env (eval e X.env)=eval e X.env):PE X (.Attribute e f pos) (tFld K ta f):=h▸cJ he hb
end
end L2
namespace L2
open PySem PySem.Spec PyProof.Rows
section
variable{X:Cx}
def Le:V->List V->Hp->VK->Prop:=fun x vs H Q=>∃ l xs k y,x=.ref l/\vs = [.int k,y]/\H l=some (.lst xs)/\0<=k/\k<=xs.length/\xs.length<sizeLine/\Q .non (upd H l (.lst (xs.take k.toNat++y::xs.drop k.toNat)))
theorem qk:MtM X "list.insert" Le:=by
 intro pins s σ H x vs v us Q I rx rv h;obtain⟨l,xs,k,y,rfl,rfl,hH,h0,hk,hz,q⟩:=h
 cases rx
 obtain⟨u1,u2,rfl,r1,r2⟩:=rv.two;obtain⟨t,rfl⟩:=r1;obtain⟨z,its,n,r,hl,e⟩:=I.lstM hH;have hn:=yo;have hfit:¬ (!Builtin.List.listFitsIndex k)=true:=by
  rw[fitsIndex_both (by omega) (by omega)]
  exact MQ
 refine call_meets F.slot_list_insert ⟨_,e,rfl⟩ F.entry_list_insert (F.args_list_insert_3 _ _ _) (AutoListH.list_insert_list_int_val_1 l its.toArray n k t u2 hfit (by rw[M6];omega)) ⟨e,?_⟩
 refine⟨.non,_,I.lset (its':=its.take k.toNat++u2::its.drop k.toNat) hH e ?_ ((r.take _).append (.cons r2 (r.drop _))) ?_,rfl,q⟩
 ·dsimp only;rw[if_neg (by omega),M6,Of (by omega)]
  simp;exact Nl (by rw[Nu];omega)
 ·rw[MA,Nb,Nf,Nu];omega
theorem lH:∀{ns:List Int}{us:List Value},Vals (ns.map V.int) us->IntsAre us ns
 |[],_,.nil=>.nil
 |n::ns,_,.cons r rr=>by
  obtain⟨t,rfl⟩:=r;exact .cons n t (lH rr)
theorem jU(hc:X.calm=true):nG X (.builtin "sum") (fun xs H Q=>∃(p:Addr)(ns:List Int),xs = [.ref p]/\SqL X.K H p (ns.map V.int)/\Q (.int ns.sum) H):=by
 intro pins s σ H xs us Q I r h;obtain⟨p,ns,rfl,hq,q⟩:=h;obtain⟨u,rfl,ru⟩:=tZ r
 cases ru
 obtain⟨its,rv,pl,hz⟩:=I.list hq;have hi:=lH rv;obtain⟨zs,e⟩:=hi.allInts.items;have hns:(numsOf its)=ns:=hi.numsOf;have hl:s.heap.IsList p (intItems zs):=by rw[← e];exact pl.isList
 refine sum_intListG (I.ok.hd hc) hl fun h' tk t' hk=>⟨.int ns.sum,H,I.kept (t':=tk) hk,⟨t',?_⟩,q⟩;have h2:numsOf (intItems zs).toList=ns:=by rw[← e];exact hns
 rw[nums_intItems]at h2;rw[preSum_eq,Nl (by simp),← h2]
end
end L2
namespace L2
open PySem PySem.Spec PyProof.Rows
theorem pK:∀{ps:List Nat},(∀ p∈ps,p<1000)->PyData.weightAll ((ps.map fun(p:Nat)=>((p:Nat):Int)).map PyData.int)<=12*ps.length
 |[],_=>by simp[PyData.weightAll]
 |p::ps,h=>by
  have ih:=pK (ps:=ps) fun x hx=>h x (MO _ hx);have hp:=h p (by simp)
  have hw:PyData.weight (.int (p:Int))<=11:=by
   rw[PyData.weight];split
   ·exact NA _
   ·rename_i z;have z':p≠0:=fun e=>z (by rw[e];rfl)
    have e:((p:Int)).natAbs=p:=rfl;rw[e];have:=(Nat.log2_lt z').mpr (show p<2^10 by omega)
    omega
  rw[Nh,Nh,PyData.weightAll,Nb];omega
theorem JA{ps:List Nat}(h:∀ p∈ps,p<1000)(hl:ps.length<=1000):PyData.layable0 (.list ((ps.map fun(p:Nat)=>((p:Nat):Int)).map PyData.int))=true:=by
 have h1:=PySem.W.shaped_ints (ps.map fun(p:Nat)=>((p:Nat):Int));have h2:=pK h;have h3:PyData.weight (.list ((ps.map fun(p:Nat)=>((p:Nat):Int)).map PyData.int))<=2^20:=by
  rw[PyData.weight];omega +splitDisjunctions
 unfold PyData.layable0;unfold SeqAt.shaped at h1;rw[h1,decide_eq_true h3];rfl
section
variable{X:Cx}
def rIndex(K:Mz):V->List V->Hp->VK->Prop:=fun x vs H Q=>∃(l:Addr)(ps:List Nat)(k:Nat),x=.ref l/\vs = [.int (k:Int)]/\SqL K H l (ps.map fun(p:Nat)=>V.int (p:Int))/\(∀ p∈ps,p<1000)/\ps.length<=1000/\k∈ps/\Q (.int ((ps.idxOf k:Nat):Int)) H
theorem JE{ps:List Nat}{k:Nat}:(ps.map fun(p:Nat)=>((p:Nat):Int)).idxOf (k:Int)=ps.idxOf k:=by
 induction ps with
 |nil=>rfl
 |cons p ps ih =>
  rw[Nh,List.idxOf_cons,List.idxOf_cons,ih];have e:(((p:Nat):Int) == (k:Int))=(p == k):=by
   by_cases h:p=k
   ·subst h;simp
   ·have h2:¬ (p:Int)=(k:Int):=fun z=>h (by omega)
    rw[beq_eq_false_iff_ne.mpr h,beq_eq_false_iff_ne.mpr h2]
  rw[e]
theorem pj:MtM X "list.index" (rIndex X.K):=by
 intro pins s σ H x vs v us Q I rx rv h;obtain⟨l,ps,k,rfl,rfl,hq,hs,hl,hk,q⟩:=h
 cases rx
 obtain⟨u,rfl,ru⟩:=rv.one;obtain⟨t,rfl⟩:=ru;have e:(ps.map fun(p:Nat)=>V.int (p:Int))=(ps.map fun(p:Nat)=>((p:Nat):Int)).map V.int:=by rw[NZ];rfl
 rw[e]at hq;obtain⟨its,r,pl,hz⟩:=I.list hq;refine index_list_ints pl.isList (lH r) (JA hs hl) (MR.mpr ⟨k,hk,rfl⟩) ?_;rw[JE];exact⟨.int _,H,I.tok _,⟨_,rfl⟩,q⟩
end
end L2
namespace L2
open PySem PySem.Spec PyProof.Rows
theorem zZ:∀{us:List Value}{ns:List Int},IntsAre us ns->Vals (ns.map V.int) us
 |_,_,.nil=>.nil
 |_,_,.cons _ t r=>.cons ⟨t,rfl⟩ (zZ r)
section
variable{X:Cx}
def FQ(K:Mz):List V->Hp->VK->Prop:=fun xs H Q=>∃(p:Addr)(ns:List Int),xs = [.ref p]/\SqL K H p (ns.map V.int)/\ns.length<64/\∀(l:Addr)(out:List Int),H l=none->out.Perm ns->out.Pairwise (·<=·)->Q (.ref l) (upd H l (.lst (out.map V.int)))
theorem qZ:nG X (.builtin "sorted") (FQ X.K):=by
 intro pins s σ H xs us Q I r h;obtain⟨p,ns,rfl,hq,h64,q⟩:=h;obtain⟨u,rfl,ru⟩:=tZ r
 cases ru
 obtain⟨its,rv,pl,hz⟩:=I.list hq;have hi:=lH rv;have hl:=rv.length;rw[MD]at hl;refine sorted_ints pl.isList hi (by omega) fun out ns' a1 a2 a3=>?_
 obtain⟨e,he⟩:=sortedAll_at s.heap its out;refine⟨.ref (s.heap.objs.size+1),_,I.laid (t':=s.toks) (fun _ _=>sortedAll_old) (OS _) (show bh X.prog X.w _ _ _ (.lst (ns'.map V.int)) from⟨?_,out.toList,e,zZ a1,?_⟩),rfl,q _ ns' (I.hok.fresh (OS _)) a2 a3⟩
 ·rw[MD,a2.length_eq];exact ND (ax (by omega))
 ·exact he
theorem zg{K:Mz}(h:X.K=K):nG X (.builtin "sorted") (FQ K):=h▸qZ
end
theorem Cn{lo c:Int}{n:Nat}{te:TE}{fv:St}{H1:Hp}{QQ:List V->Hp->Prop}(Pv:Nat->List V->Hp->Prop)(hz:n<=sizeLine)(h0:Pv 0 [] H1)
  (hs:∀ i ys H,i<n->Pv i ys H->te (some (.int (lo+i*c))::fv) H fun y H2=>Pv (i+1) (ys++[y]) H2) (hd:∀ ys H,ys.length=n->Pv n ys H->QQ ys H)
  : pM te fv (Itr3 lo c n) H1 QQ:=by
 refine⟨fun i m ys H=>m=n-i/\i<=n/\ys.length=i/\Pv i ys H,⟨n,by simp,NA _,rfl,h0⟩,?_⟩
 rintro i m ys H ⟨rfl,hi,hy,p⟩;refine⟨by omega,?_⟩
 by_cases hlt:i<n
 ·refine .inr ⟨hlt,fun y H2=>Pv (i+1) (ys++[y]) H2,fun y H2 p2=>⟨n-(i+1),by omega,rfl,hlt,by rw[MA,hy];rfl,p2⟩,fun x H' y=>?_⟩
  obtain⟨e,y⟩:=y;subst e y;exact hs i ys _ hlt p
 ·have e:i=n:=by omega
  subst e;exact .inl ⟨MC _,hd ys H hy p⟩
end L2
namespace L2
open PySem PySem.Spec PyProof.Rows
section
variable{X:Cx}{tg:Expr}
def iRngL(ta:TA):TI:=fun σ H R=>ta σ H fun vs H1=>∃(lo m c:Int)(n:Nat),vs = [.int lo,.int m,.int c]/\0<=lo/\lo<1000/\-1000<m/\m<2^61/\(0<c/\c<1000)/\Builtin.Range.rangeSize lo m c=(n:Int)/\R (Itr3 lo c n) H1
theorem IT{lo m c:Int}(h0:0<=lo)(h00:lo<1000)(h1 : -1000<m)(h2:m<2^61)(h3:0<c/\c<1000):Builtin.Range.small lo m c=true:=by
 obtain⟨h3,h4⟩:=h3;have hs:0<=Builtin.Range.rangeSize lo m c/\Builtin.Range.rangeSize lo m c<=2^61:=by
  unfold Builtin.Range.rangeSize;rw[if_pos h3];by_cases h:lo<m
  ·rw[if_pos h];have q1:0<=(m-lo-1)/c:=Int.ediv_nonneg (by omega) (by omega)
   have q2:(m-lo-1)/c<=(m-lo-1):=Int.ediv_le_self _ (by omega)
   omega
  ·rw[if_neg h];omega
 unfold Builtin.Range.small Builtin.Range.rangeFitsLong;simp only[gt_iff_lt,h3,if_true];simp;omega
theorem FY{a b c:Expr}{ta:TA}{p pos:Pos} (hg:Gl X "range") (hm:X.mg "range" = none) (ha:PA X [a,b,c] ta) (hs:starEach [a,b,c] X.env=(false,eval a X.env)::starEach [b,c] X.env:=by rfl) (hs2:(backTo pos (starEach [b,c] X.env)).any (·.1)=false:=by rfl) :
  PI X tg (.Call (.Name "range" p) [a,b,c] [] pos) (iRngL ta):=by
 intro pins s σ H R I h;refine Call_ (jZ I hg hm JS (PyProof.Rows.callWith_type1 (thn (ha pos pins s σ H _ I h) fun us s1 ⟨vs,H1,I1,r1,q1⟩=>?_) hs hs2));obtain⟨lo,m,c,n,e,h0,h00,h1,h2,h3,hn,q⟩:=q1;subst e
 cases r1 with
 |cons r rr =>
  cases rr with
  |cons r' rr =>
   cases rr with
   |cons r'' rr =>
    cases rr
    obtain⟨t,rfl⟩:=r;obtain⟨t',rfl⟩:=r';obtain⟨t'',rfl⟩:=r'';refine call_range_3 (by have:=h3.1;omega) ?_ (Or.inl (PyProof.noPylong_small (by have:=h3.1;have:=h3.2;omega)))
    refine wpAny_pyIter_range (IsRange.new ..) (IT h0 h00 h1 h2 h3) ?_;have I2:Inv X pins σ H1 { s1 with heap:=s1.heap.push { cls:=.type "range",data:=.fields #[.int lo t,.int m t',.int c t''] },toks:=s1.toks }:=I1.kept fun b o e=>Heap.get?_push_of_some _ e
    refine⟨(s1.heap.push { cls:=.type "range",data:=.fields #[.int lo t,.int m t',.int c t''] }).objs.size,[(s1.heap.push { cls:=.type "range",data:=.fields #[.int lo t,.int m t',.int c t''] }).objs.size],_,_,H1,rfl,
     I2.kept (t':=s1.toks) fun b o e=>Heap.get?_push_of_some _ e,z0 _ lo c n,?_,fun b hb=>?_,q⟩
    ·have e1:lo+((0:Nat):Int)*c=lo:=by simp
     have e2:((n:Nat):Int)-((0:Nat):Int)=Builtin.Range.rangeSize lo m c:=by rw[hn];simp
     show IsRangeIter _ _ (lo+((0:Nat):Int)*c) ((n:Int)-((0:Nat):Int)) c;rw[e1,e2];exact Heap.get?_push_size _ rfl
    ·have e:b=(s1.heap.push { cls:=.type "range",data:=.fields #[.int lo t,.int m t',.int c t''] }).objs.size:=by simpa using hb
     subst e;exact I2.fpOk (MC _) (I2.hok.fresh (MC _))
end
end L2
namespace L2
open PySem PySem.Spec PyProof.Rows
section
variable{X:Cx}
end
end L2
namespace L2
open PySem PySem.Spec PyProof.Rows
theorem tI:bootBuiltins "sum" = some (.builtin "sum"):=by decide +kernel
theorem bt_zip:bootBuiltins "zip" = some (.type "zip"):=by decide +kernel
theorem aY(x y:Nat)(h:¬ x=y):@Ne Addr x y:=h
section
variable{X:Cx}
end
section
variable{X:Cx}
end
end L2
namespace L2
open PySem PySem.Spec PyProof.Rows
def LsAt{α:Type}(R:Hp->V->α->Prop)(H:Hp)(ys:List V)(xs:List α):Prop:=ys.length=xs.length/\∀(i:Nat)(x:α),xs[i]?=some x->∃ y,ys[i]?=some y/\R H y x
theorem LsAt.nil{α:Type}{R:Hp->V->α->Prop}{H:Hp}:LsAt R H [] []:=⟨rfl,fun i x e=>by simp at e⟩
theorem LsAt.imp{α:Type}{R R':Hp->V->α->Prop}{H H':Hp}{ys:List V}{xs:List α}(h:LsAt R H ys xs)(m:∀ y x,R H y x->R' H' y x):LsAt R' H' ys xs:=⟨h.1,fun i x e=>by
 obtain⟨y,a,b⟩:=h.2 i x e
 exact⟨y,a,m y x b⟩⟩
theorem LsAt.snoc{α:Type}{R:Hp->V->α->Prop}{H:Hp}{ys:List V}{xs:List α}{y:V}{x:α}(h:LsAt R H ys xs)(r:R H y x):LsAt R H (ys++[y]) (xs++[x]):=by
 refine⟨by rw[MA,MA,h.1];rfl,fun j k e=>?_⟩
 by_cases hj:j<xs.length
 ·rw[MF hj]at e;obtain⟨p,a1,a2⟩:=h.2 j k e;exact⟨p,by rw[MF (by rw[h.1];exact hj)];exact a1,a2⟩
 ·rw[MB (by omega)]at e
  have hj2:j=xs.length:=by
   have:=(Mw.mp e).1;rw[MJ]at this;omega
  subst hj2;rw[M7]at e
  cases e
  exact⟨y,by rw[← h.1,MB (MC _),M7];rfl,r⟩
theorem LsAt.get{α:Type}{R:Hp->V->α->Prop}{H:Hp}{ys:List V}{xs:List α}{i:Nat}{y:V}(h:LsAt R H ys xs)(e:ys[i]?=some y):∃ x,xs[i]?=some x/\R H y x:=by
 have hi:i<xs.length:=by rw[← h.1];exact(Mw.mp e).1
 obtain⟨z,a,b⟩:=h.2 i _ (Mx hi);rw[e]at a
 cases a
 exact⟨_,Mx hi,b⟩
end L2
namespace L2
open PySem PySem.Spec PyProof.Rows
theorem Fn:∀{ys:List V}{us:List Value},ys.length=us.length->(∀(i:Nat)(y:V)(u:Value),ys[i]?=some y->us[i]?=some u->RelV y u)->Vals ys us
 |[],[],_,_=>.nil
 |[],_::_,e,_=>by cases e
 |_::_,[],e,_=>by cases e
 |y::ys,u::us,e,h=>.cons (h 0 y u rfl rfl) (Fn (Qb e) fun i y u a b=>h (i+1) y u a b)
section
variable{X:Cx}
theorem xQ{e:Expr}{te:TE}{p p2 pos pos2:Pos}(hc:X.calm=true) (hg:Gl X "list") (hm:X.mg "list" = none) (hg2:Gl X "range") (hm2:X.mg "range" = none) (he:PE X e te)
  (h1:starEach [.Call (.Name "range" p2) [e] [] pos2] X.env = [(false,eval (.Call (.Name "range" p2) [e] [] pos2) X.env)]:=by rfl) (h2:starEach [e] X.env=(false,eval e X.env)::starEach [] X.env:=by rfl) :
  PE X (.Call (.Name "list" p) [.Call (.Name "range" p2) [e] [] pos2] [] pos) (fun σ H Q=>te σ H fun x H1=>∃ n:Nat,x=.int (n:Int)/\n<=1000/\∀ q,H1 q=none->Q (.ref q) (upd H1 q (.lst ((Na n).map fun(i:Nat)=>V.int ((i:Nat):Int))))):=by
 intro pins s σ H Q I h;refine wpAny_Call_Name_kw (jZ I hg hm ic ?_);refine PyProof.Rows.callWith_type1 ?_ h1 rfl;rw[h1];refine Calls.spliced_cons ?_;refine wpAny_Call_Name_kw (jZ I hg2 hm2 boot_range ?_);refine PyProof.Rows.callWith_type1 ?_ h2 rfl;rw[h2];refine Calls.spliced_cons (thn (he pins s σ H _ I h) fun u s1 ⟨x,H1,I1,r1,q1⟩=>?_);obtain⟨n,rfl,hn,q⟩:=q1;obtain⟨t,rfl⟩:=r1;refine Calls.spliced_nil ?_;refine call_range_1 ?_;refine Calls.spliced_nil ?_;have I2:Inv X pins σ H1 { s1 with heap:=s1.heap.push { cls:=.type "range",data:=.fields #[.int 0 s1.toks,.int (n:Int) t,.int 1 (s1.toks+1)] },toks:=s1.toks+1+1 }:=I1.kept fun b o e=>Heap.get?_push_of_some _ e;refine call_list_range (n:=n) (I.ok.hd hc) (IsRange.new ..) (small_one (by omega) (by omega) (by omega) (by omega)) (by rw[rangeSize_one];split<;>omega) (by omega) fun h' tk acc' c' hk hS hacc=>?_
 have I3:Inv X pins σ H1 { s1 with heap:=h',toks:=tk }:=I2.kept (t':=tk) fun b o e=>hk b o e;have fS:=I2.fpOk (H':=H1) (MC _) (I2.hok.fresh (MC _));have hz:((Na n).map fun(i:Nat)=>V.int ((i:Nat):Int)).length<=sizeLine:=by
  rw[MD,N0];exact Nw hn (by decide)
 have hv:Vals ((Na n).map fun(i:Nat)=>V.int ((i:Nat):Int)) acc'.toList:=by
  refine Fn (by rw[MD,N0,Nz,hacc.1]) fun i y u a b=>?_
  rw[N1]at b;obtain⟨tk',e⟩:=hacc.2 i u b;rw[ME]at a;obtain⟨j,a1,a2⟩:=M0.mp a;have hi:i<n:=by
   have:=(Mw.mp a1).1;rwa[N0]at this
  rw[OU hi]at a1
  cases a1
  subst a2;subst e;exact⟨tk',by rw[NO,Int.mul_one]⟩
 have I4:=I3.track (o:=.lst ((Na n).map fun(i:Nat)=>V.int ((i:Nat):Int))) fS ⟨hz,acc'.toList,c',hv,by rw[Array.toArray_toList];exact hS⟩
 exact⟨.ref _,_,I4,rfl,q _ fS.1⟩
theorem op_neG(hu:X.A.units+64<cLine):OpR X (compareOp .NotEq) (fun x y H Q=>∃ d1 d2,RdD X.K H x d1/\RdD X.K H y d2/\SeqAt.shaped d1=true/\SeqAt.shaped d2=true/\Q (.bl (!PyData.eqv d1 d2)) H):=by
 intro pins s σ H x y v u Q I rx ry h;obtain⟨d1,d2,r1,r2,h1,h2,q⟩:=h;obtain⟨as,q1⟩:=r1.reads I v rx;obtain⟨bs,q2⟩:=r2.reads I u ry;exact ne_dataH q1 q2 h1 h2 hu ⟨.bl _,H,I,rfl,q⟩
theorem qL:∀(a b:List Int),PyData.eqvAll (a.map PyData.int) (b.map PyData.int)=decide (a=b)
 |[],[]=>by simp[PyData.eqvAll]
 |[],y::b=>by simp[PyData.eqvAll]
 |x::a,[]=>by simp[PyData.eqvAll]
 |x::a,y::b=>by
  rw[Nh,Nh];simp only[PyData.eqvAll,PyData.eqv,qL a b];by_cases h:x=y
  ·by_cases h2:a=b
   ·simp[h,h2]
   ·simp[h,h2]
  ·simp[h]
theorem JK(a b:List Int):PyData.eqv (.list (a.map PyData.int)) (.list (b.map PyData.int))=decide (a=b):=by
 rw[← qL];simp only[PyData.eqv]
end
theorem lp{α:Type}{M:Model}{A:Around}{s:Shared}{t:Sem α}{Q:α->Shared->Prop}{E:Value->Shared->Prop}(h:wpAny M A t Q (fun _ _=>False) s):wpAny M A t Q E s:=wpAny_mono h (fun _ _ q=>q) fun _ _ z=>False.elim z
section
variable{X:Cx}{tg:Expr}
theorem FR{iter:Expr}{body:List Stmt}{wi:TI}{g:TG}{tb:TS}{pos:Pos}(hc:X.calm=true)(hi:PI X tg iter wi)(hg:PG X.nox tg g)(hb:PSs X.nox body tb)
  (hs:∀ x,foldedSetIterable iter X.env x=pure x:=by intro _;rfl):PS X (.For tg iter body [] pos) (tFor wi g tb):=by
 intro pins s σ H D I h;refine wpAny_For (thn (hi pins s σ H _ I h) fun v s1 h1=>thn h1 fun itv s2 h2=>?_) hs;obtain⟨it,fp,tn,J,H2,e,I2,T,st2,f2,W,⟨m0,w0⟩,turn⟩:=h2;subst e;have stat:∀{H':Hp},(∀ b∈fp,H' b=none)->∀ b∈fp,FpOk X pins H' b:=fun hn b hb=>⟨hn b hb,(f2 b hb).2⟩;refine codeAny_forLoop_any (fun n s'=>∃ i σ' H',Inv X pins σ' H' s'/\tn i s'.heap/\(∀ b∈fp,H' b=none)/\W i n σ' H') ?_ m0 ⟨0,σ,H2,I2,st2,fun b hb=>(f2 b hb).1,w0⟩;rintro n s3 ⟨i,σ3,H3,I3,st3,fr3,w3⟩;rcases turn i n σ3 H3 w3 with⟨stop,qn⟩ | ⟨go,N,hN,step⟩
 ·refine lp (thn (T.done X rfl rfl rfl hc i pins s3 σ3 H3 (fun _ _=>False) I3 (stat fr3) st3 stop) fun r s4 ⟨hr,I4⟩=>?_);subst hr;exact wpAny_execs_nil ⟨σ3,H3,I4,qn⟩
 ·refine lp (thn (T.item X rfl rfl rfl hc i pins s3 σ3 H3 (fun _ _=>False) I3 (stat fr3) st3 go) fun r s4 ⟨u,hr,h4⟩=>?_);subst hr;refine lp (thn h4 fun _ s5 ⟨x,H5,I5,r5,y5,st5,fr5⟩=>?_);have I5':=I5.pinned (stat fr5) (T.obj _ _ st5);refine lp (thn (hg _ s5 σ3 H5 x u _ (I5'.wish _) r5 (step x H5 y5)) fun _ s6 ⟨σ6,H6,I6,q6⟩=>?_);refine lp (thn (hb _ s6 σ6 H6 _ I6 q6) fun f s7 q7=>?_);replace q7:=SP.unwish q7;have again:∀{σ7:St}{H7:Hp},Inv X (pins++sY fp s5.heap) σ7 H7 s7->N σ7 H7->∃ m,m<n/\∃ i σ' H',Inv X pins σ' H' s7/\tn i s7.heap/\(∀ b∈fp,H' b=none)/\W i m σ' H':=fun{σ7 H7} I7 n7=>by
   obtain⟨m',hm,w7⟩:=hN σ7 H7 n7;refine⟨m',hm,i+1,σ7,H7,I7.unpinned,T.keep _ _ _ st5 fun b hb o e=>(I7.pin (b,o) (MK _ (MK _ (c9 hb e)))).1,fun b hb=>?_,w7⟩;obtain⟨o,e,d⟩:=T.obj _ _ st5 b hb;exact(I7.pin (b,o) (MK _ (MK _ (c9 hb e)))).2.1
  cases f with
  |next=>obtain⟨σ7,H7,I7,n7⟩:=q7;exact again I7 n7
  |cont=>obtain⟨σ7,H7,I7,n7⟩:=q7;exact again I7 n7
  |brk=>obtain⟨σ7,H7,I7,q7⟩:=q7;exact⟨σ7,H7,I7.unpinned,q7⟩
  |ret v=>obtain⟨x7,σ7,H7,I7,r7,q7⟩:=q7;exact⟨x7,σ7,H7,I7.unpinned,r7,q7⟩
end
structure FunD(K:Mz)(x qual:Str)(st:Stmt)(f:Addr)(fd:FuncData)(items:Array Value):Prop where
 ex:∃(oc:Value)(od:Option Addr)(d:Addr)(kV doc pm:Value)(an:Option Addr)(cdv ct:Value)(osl:Array (Option Value)),
  fd=MT x qual (aD st) (aB st) (aj st) (.ref d) kV doc pm an cdv ct/\K.lookup f=some ⟨oc,od,.func fd,osl⟩/\MP K cdv qual=true/\∃ o n,K.lookup d=some o/\o.data=.seq items n
 kp:MI K (.ref f)=true
section
variable{P:Program}{w:World}{K:Mz}{mg:Str->Option Value}{base:Heap}
theorem FunD.okX{x qual:Str}{st:Stmt}{f:Addr}{fd:FuncData}{items:Array Value}{N ps:List Str}{k:Nat}{sp:Sp}(F:FunD K x qual st f fd items)(S:aG N ps (aj st))(len:∀ vs H Q E,sp vs H Q E->vs.length=ps.length)
  (hbody:∀(cdv:Value)(A:Around)(outer:List Env)(s:Shared)(H:Hp)(vs:List V)(Q:VK)(E:XK),Room k (A.deeper (envOfC qual (aj st) s.heap.objs.size f cdv))->sp vs H Q E ->
   ∃ t,PSs (cxOf (CXr P w) P w K mg base N qual (aj st) f cdv A outer s H E) (aB st) t/\t { nx:=fun _ H'=>Q .non H',rt:=Q } (rV N vs) H):FnOk P w K mg base (CXr P w) (k+1) f fd ps sp:=by
 obtain⟨oc,od,d,kV,doc,pm,an,cdv,ct,osl,rfl,lk,hcd,_⟩:=F.ex;exact Ma lk hcd S len fun A outer s H vs Q E hr hsp=>hbody cdv A outer s H vs Q E hr hsp
theorem FunD.binds{x qual:Str}{st:Stmt}{f:Addr}{fd:FuncData}{items:Array Value}{ps:List Str}{ds:List Value}(F:FunD K x qual st f fd items)
  (h:∀(dV kV doc pm:Value)(an:Option Addr)(cdv ct:Value)(us:List Value),(us++ds).length=ps.length->∃ k,bindArgs (MT x qual (aD st) (aB st) (aj st) dV kV doc pm an cdv ct) ⟨us,[]⟩=seqItems? dV >>= k/\k (some items)=pure (ps.zip (us++ds))):jo K fd ps ds:=by
 obtain⟨oc,od,d,kV,doc,pm,an,cdv,ct,osl,rfl,lk,hcd,o,n,ho,hs⟩:=F.ex;intro s us X hl;obtain⟨k,h1,h2⟩:=h (.ref d) kV doc pm an cdv ct us hl;exact BindsTo.of_defaults rfl (X _ _ ho) hs h1 h2
theorem Ho{x qual:Str}{st:Stmt}{f d:Addr}{oc:Value}{od an:Option Addr}{osl:Array (Option Value)}{kV doc pm cdv ct:Value}{items:Array Value}{o:Obj}{n:Nat}(l:K.lookup f=some ⟨oc,od,.func (MT x qual (aD st) (aB st) (aj st) (.ref d) kV doc pm an cdv ct),osl⟩)
  (c:MP K cdv qual=true) (k:MI K (.ref f)=true) (ld:K.lookup d=some o) (hs:o.data=.seq items n):FunD K x qual st f (MT x qual (aD st) (aB st) (aj st) (.ref d) kV doc pm an cdv ct) items:=⟨⟨oc,od,d,kV,doc,pm,an,cdv,ct,osl,rfl,l,c,o,n,ld,hs⟩,k⟩
end
end L2
namespace PyProof.Rows
open PySem
local macro_rules | `(tactic| walk_at "gallop") => do
 let n:=Lean.mkIdent (Lean.mkPrivateNameCore `PySem.Builtin.List.W1All `PySem.Builtin.gallop)
 `(tactic| delta $n)
local macro_rules | `(tactic| walk_at "st") => `(tactic| try dsimp -zeta -zetaHave only)
local macro_rules | `(tactic| walk_at "l4") => `(tactic| (extract_lets -underBinder +onlyGivenNames a b; subst a b))
variable{prog:Program}{w:World}{A:Around}{E:Value->Shared->Prop}{s:Shared}
end PyProof.Rows
namespace PyProof.Rows
open PySem
local macro_rules | `(tactic| walk_at "setG") => do
 let n:=Lean.mkIdent (Lean.mkPrivateNameCore `PySem.Builtin.List.W1All `PySem.Builtin.setMinGallop)
 `(tactic| delta $n)
local macro_rules | `(tactic| walk_at "mergeLo") => do
 let n:=Lean.mkIdent (Lean.mkPrivateNameCore `PySem.Builtin.List.W1All `PySem.Builtin.mergeLo)
 `(tactic| delta $n)
local macro_rules | `(tactic| walk_at "st") => `(tactic| try dsimp -zeta -zetaHave only)
local macro_rules | `(tactic| walk_at "l3") => `(tactic| (extract_lets -underBinder +onlyGivenNames a b c; subst a b c))
local macro_rules | `(tactic| walk_at "l11") => `(tactic| (extract_lets -underBinder +onlyGivenNames a b c d e f g h i j k; subst a b c d e f g h i j k; dsimp -zeta -zetaHave only))
variable{prog:Program}{w:World}{A:Around}{E:Value->Shared->Prop}{s:Shared}
end PyProof.Rows
namespace PyProof.Rows
open PySem
local macro_rules | `(tactic| walk_at "mergeHi") => do
 let n:=Lean.mkIdent (Lean.mkPrivateNameCore `PySem.Builtin.List.W1All `PySem.Builtin.mergeHi)
 `(tactic| delta $n)
local macro_rules | `(tactic| walk_at "st") => `(tactic| try dsimp -zeta -zetaHave only)
local macro_rules | `(tactic| walk_at "l3") => `(tactic| (extract_lets -underBinder +onlyGivenNames a b c; subst a b c))
local macro_rules | `(tactic| walk_at "l11") => `(tactic| (extract_lets -underBinder +onlyGivenNames a b c d e f g h i j k; subst a b c d e f g h i j k; dsimp -zeta -zetaHave only))
variable{prog:Program}{w:World}{A:Around}{E:Value->Shared->Prop}{s:Shared}
end PyProof.Rows
namespace PyProof.Rows
open PySem
local macro_rules | `(tactic| walk_at "countRun") => do
 let n:=Lean.mkIdent (Lean.mkPrivateNameCore `PySem.Builtin.List.W1All `PySem.Builtin.countRun)
 `(tactic| delta $n)
local macro_rules | `(tactic| walk_at "binarySort") => do
 let n:=Lean.mkIdent (Lean.mkPrivateNameCore `PySem.Builtin.List.W1All `PySem.Builtin.binarySort)
 `(tactic| delta $n)
local macro_rules | `(tactic| walk_at "st") => `(tactic| try dsimp -zeta -zetaHave only)
local macro_rules | `(tactic| walk_at "l3") => `(tactic| (extract_lets -underBinder +onlyGivenNames a b c; subst a b c))
local macro_rules | `(tactic| walk_at "l11") => `(tactic| (extract_lets -underBinder +onlyGivenNames a b c d e f g h i j k; subst a b c d e f g h i j k; dsimp -zeta -zetaHave only))
local macro_rules | `(tactic| walk_at "l1") => `(tactic| (extract_lets -underBinder +onlyGivenNames a; subst a; try dsimp -zeta -zetaHave only))
local macro_rules | `(tactic| walk_at "l2") => `(tactic| (extract_lets -underBinder +onlyGivenNames a b; subst a b; try dsimp -zeta -zetaHave only))
local macro_rules | `(tactic| walk_at "l4") => `(tactic| (extract_lets -underBinder +onlyGivenNames a b c d; subst a b c d; try dsimp -zeta -zetaHave only))
variable{prog:Program}{w:World}{A:Around}{E:Value->Shared->Prop}{s:Shared}
end PyProof.Rows
namespace PyProof.Rows
open PySem
local macro_rules | `(tactic| walk_at "mergeAt") => do
 let n:=Lean.mkIdent (Lean.mkPrivateNameCore `PySem.Builtin.List.W1All `PySem.Builtin.mergeAt)
 `(tactic| delta $n)
local macro_rules | `(tactic| walk_at "st") => `(tactic| try dsimp -zeta -zetaHave only)
local macro_rules | `(tactic| walk_at "l3") => `(tactic| (extract_lets -underBinder +onlyGivenNames a b c; subst a b c))
local macro_rules | `(tactic| walk_at "l11") => `(tactic| (extract_lets -underBinder +onlyGivenNames a b c d e f g h i j k; subst a b c d e f g h i j k; dsimp -zeta -zetaHave only))
local macro_rules | `(tactic| walk_at "l1") => `(tactic| (extract_lets -underBinder +onlyGivenNames a; subst a; try dsimp -zeta -zetaHave only))
local macro_rules | `(tactic| walk_at "l2") => `(tactic| (extract_lets -underBinder +onlyGivenNames a b; subst a b; try dsimp -zeta -zetaHave only))
local macro_rules | `(tactic| walk_at "l4") => `(tactic| (extract_lets -underBinder +onlyGivenNames a b c d; subst a b c d; try dsimp -zeta -zetaHave only))
variable{prog:Program}{w:World}{A:Around}{E:Value->Shared->Prop}{s:Shared}
end PyProof.Rows
namespace PyProof.Rows
open PySem
local macro_rules | `(tactic| walk_at "sortRuns") => do
 let n:=Lean.mkIdent (Lean.mkPrivateNameCore `PySem.Builtin.List.W1All `PySem.Builtin.sortRuns)
 `(tactic| delta $n)
local macro_rules | `(tactic| walk_at "st") => `(tactic| try dsimp -zeta -zetaHave only)
local macro_rules | `(tactic| walk_at "l3") => `(tactic| (extract_lets -underBinder +onlyGivenNames a b c; subst a b c))
local macro_rules | `(tactic| walk_at "l11") => `(tactic| (extract_lets -underBinder +onlyGivenNames a b c d e f g h i j k; subst a b c d e f g h i j k; dsimp -zeta -zetaHave only))
local macro_rules | `(tactic| walk_at "l1") => `(tactic| (extract_lets -underBinder +onlyGivenNames a; subst a; try dsimp -zeta -zetaHave only))
local macro_rules | `(tactic| walk_at "l2") => `(tactic| (extract_lets -underBinder +onlyGivenNames a b; subst a b; try dsimp -zeta -zetaHave only))
local macro_rules | `(tactic| walk_at "l4") => `(tactic| (extract_lets -underBinder +onlyGivenNames a b c d; subst a b c d; try dsimp -zeta -zetaHave only))
variable{prog:Program}{w:World}{A:Around}{E:Value->Shared->Prop}{s:Shared}
end PyProof.Rows
namespace PyProof.Rows
open PySem
variable{prog:Program}{w:World}{A:Around}{E:Value->Shared->Prop}{s:Shared}
end PyProof.Rows
namespace L2
open PySem PySem.Spec PyProof.Rows
section
variable{X:Cx}
end
end L2
namespace L2
open PySem PySem.Spec PyProof.Rows
section
variable{X:Cx}
end
end L2
namespace L2
open PySem PySem.Spec PyProof.Rows
section
variable{prog:Program}{w:World}{A:Around}{E:Value->Shared->Prop}{s:Shared}{z TI TO i1 i2 l1 l2:Addr}{f0:Value}{f1:Bool}
end
section
variable{X:Cx}
end
end L2
namespace L2
open PySem PySem.Spec PyProof.Rows
section
variable{X:Cx}
end
end L2
namespace L2
open PySem PySem.Spec PyProof.Rows
section
variable{prog:Program}{w:World}{A:Around}{E:Value->Shared->Prop}{s:Shared}{d:Addr}
def Ent(h:Heap)(d:Addr)(es:Array DictEntry)(ep:Nat):Prop:=∃ o,h.get? d=some o/\o.ExactDict/\o.data=.dict es ep
theorem Ent.ty{es:Array DictEntry}{ep:Nat}(x:Ent s.heap d es ep):s.TypeIs (.ref d) "dict":=by
 obtain⟨o,h1,h2,_⟩:=x;exact⟨o,h1,h2.1⟩
theorem DC(hd:(d == sysModules)=false):MeetsIn prog w (Builtin.«dict.items» ⟨[.ref d],[]⟩) (fun _ R s=>(∃ es ep,Ent s.heap d es ep)/\R (.ok (.ret (.ref s.heap.objs.size))) { s with heap:=s.heap.push { cls:=.type "dict_items",data:=.fields #[.ref d] } }) :=
 .of_wp fun A R s ⟨⟨es,ep,hm⟩,h⟩=>by
  unfold Builtin.«dict.items» Builtin.Dict.noArgs;refine wpAny_bind (wpAny_bind (wpAny_notOrdered_dict hm.ty ?_));show wpAny _ _ (pure d) _ _ s;refine wpAny_pure ?_;show wpAny _ _ (Builtin.Dict.showsAll d >>= _) _ _ s;unfold Builtin.Dict.showsAll;rw[if_neg (by simp[hd])]
  exact wpAny_bind (wpAny_pure (wpAny_bind (wpAny_newObj_type (wpAny_pure ⟨_,rfl,h⟩))))
theorem wb{v:Addr}{es:Array DictEntry}{ep:Nat}{Q:Value->Shared->Prop}(hv:s.heap.IsItemsView v d)(hm:Ent s.heap d es ep)
  (hQ:Q (.ref s.heap.objs.size) { s with heap:=s.heap.push { cls:=.type "dict_itemiterator",data:=.fields #[.none,.bool false,.ref d,.int 0 0,.int es.size 0,.int ep 0,.none,.none] } }) :
  wpAny (model prog w) A (pyIter (.ref v)) Q E s:=by
 obtain⟨ov,h1,h2,h3⟩:=id hv;obtain⟨o,e1,e2,e3⟩:=hm;refine wpAny_pyIter_slot hv.typeIs F.slot_dict_items_iter (wpAny_call_entry F.slot_dict_items_iter hv.typeIs F.entry_dict_items_iter ?_ (F.args_dict_items_iter_1 _));show wpAny _ _ (Builtin.«dict_items.__iter__» _) _ _ s;unfold Builtin.«dict_items.__iter__» Builtin.Dict_items.dictOf Builtin.Dict_items.newIterator;refine wpAny_bind (wpAny_pure (wpAny_bind (wpAny_bind (wpAny_field h1 h3 (x:=.ref d) rfl (wpAny_pure (wpAny_bind (wpAny_bind (wpAny_dictEntries e1 e3 (wpAny_bind (wpAny_dictEpoch e1 e3 ?_))))))))));simp only[show Builtin.Dict_items.ownsTuple "dict_itemiterator" = true by decide,if_true]
 refine wpAny_newObj_type (wpAny_pure ⟨_,rfl,"dict_itemiterator",_,⟨_,Heap.get?_push_size _ rfl,rfl⟩,F.slot_dict_itemiterator_next.lookup,?_⟩)
  (by simp only[sizeOk,Builtin.Dict_items.ownedTupleFields,M6,MA,Nb,OF,sizeLine_eq];omega)
 simpa[rawInt,Builtin.Dict_items.ownedTupleFields] using hQ
theorem qM{it:Addr}{i ep:Nat}{es:Array DictEntry}{ok ov:Value}{Q:Option Value->Shared->Prop}(hit:IsItemIter s.heap it d i es.size ep ok ov)(hm:Ent s.heap d es ep)(hh:A.handled=none)
  (hI:∀ e,es[i]?=some e->∀ h',IsItemIterOut h' it d (i+1) es.size ep e.key e.val s.heap.objs.size->h'.get? s.heap.objs.size=some { cls:=.type "tuple",data:=.seq #[e.key,e.val] }->(∀ b o,b≠it->s.heap.get? b=some o->h'.get? b=some o)->Q (some (.ref s.heap.objs.size)) { s with heap:=h' })
  (hE:es[i]?=none->∀ h',Heap.ExtBut it s.heap h'->Q none { s with heap:=h' }):wpAny (model prog w) A (pyNext (.ref it)) Q E s:=by
 obtain⟨o,e1,e2,e3⟩:=hm;have hT:s.TypeIs (.ref it) "dict_itemiterator":=⟨_,hit,rfl⟩;have own:Builtin.Dict_items.ownsTuple "dict_itemiterator" = true:=by decide
 unfold pyNext;refine wpAny_bind (wpAny_attempt (wpAny_callSpecial?_slot (name:=Str.ofString "__next__") hT F.slot_dict_itemiterator_next (wpAny_call_entry F.slot_dict_itemiterator_next hT F.entry_dict_itemiterator_next ?_ (F.args_dict_itemiterator_next_1 _))));refine wpAny_bind (wpAny_pure (wpAny_bind (wpAny_bind (wpAny_bind (wpAny_typeNameOfWhole_itemiter hT (wpAny_pure ?_))))));refine wpAny_bind (wpAny_fieldsOf hit rfl ?_);simp only[own,if_true];show wpAny _ _ (if(Value.ref d == Value.none)=true then _ else _) _ _ _;rw[if_neg (show ¬ ((Value.ref d == Value.none)=true) from MQ)];refine wpAny_bind (wpAny_pure (wpAny_bind (wpAny_dictEntries e1 e3 ?_)));rw[if_neg (by simp)]
 refine wpAny_bind (wpAny_pure (wpAny_bind (wpAny_dictEpoch e1 e3 ?_)));rw[if_neg (by simp)]
 refine wpAny_pure ?_;have n0:¬ ((i:Int)<0):=by omega
 simp only[n0,if_false,Nc]
 cases he:es[i]? with
 |none =>
  refine wpAny_bind (wpAny_bind (wpAny_typeNameOfWhole_itemiter hT (wpAny_pure ?_)));show wpAny _ _ (setField (.ref it) 2 .none >>= _) _ _ s;refine wpAny_bind (wpAny_setField hit rfl (by simp) ?_)
  show wpAny _ _ (newExc (.type "StopIteration") [] >>= _) _ _ _;refine wpAny_bind ?_;simp only[newExc,newTuple];refine wpAny_bind (wpAny_newObj_type (wpAny_bind (m:=firstArgMember _ _) (wpAny_of_eq (a:=Value.none) (by first | rfl | (simp only[firstArgMember];rfl)) (wpAny_newObj_type ?_ (by size_fits)))) (by size_fits))
  simp only[raiseNew];refine wpAny_bind (wpAny_handled ?_);rw[show A.in1.handled=none from hh];refine wpAny_bind (wpAny_pure (wpAny_throw ?_));refine wpAny_bind (wpAny_isInstance (T:="StopIteration") (b:=true) ⟨_,Heap.get?_push_size _ rfl,rfl⟩ isSubtype_stop (wpAny_pure ?_));exact hE he _ (((Heap.SameBut.update ..).extBut.push _).push _)
 |some e =>
  refine wpAny_bind (wpAny_bind (wpAny_typeNameOfWhole_itemiter hT (wpAny_pure ?_)));refine wpAny_bind (wpAny_isOneOf_itemiter hT ?_);show wpAny _ _ (setField (.ref it) 3 (rawInt ((i:Int)+1)) >>= _) _ _ s;refine wpAny_bind (wpAny_setField_rec hit (by simp) fun g1 q1 k1=>?_)
  have c1:((i+1:Nat):Int)=(i:Int)+1:=by omega
  have q1':IsItemIter g1 it d (i+1) es.size ep ok ov:=by
   unfold IsItemIter;rw[c1];simpa[rawInt] using q1
  have lt:it<s.heap.objs.size:=Heap.lt_size hit;have z1:g1.objs.size=s.heap.objs.size:=k1.1;have hT1:Shared.TypeIs { s with heap:=g1 } (.ref it) "dict_itemiterator":=⟨_,q1',rfl⟩;refine wpAny_bind (wpAny_holding (wpAny_bind (wpAny_isOneOf_itemiter hT1 (wpAny_bind (wpAny_isOneOf_itemiter hT1 ?_)))));show wpAny _ _ (Builtin.Dict_items.pairFromOwner (.ref it) 6 e.key e.val) _ _ { s with heap:=g1 };unfold Builtin.Dict_items.pairFromOwner Builtin.Dict_items.ownedTupleIsFree;refine wpAny_bind (wpAny_newTuple ?_);have q2:IsItemIter (g1.push { cls:=.type "tuple",data:=.seq #[e.key,e.val] }) it d (i+1) es.size ep ok ov:=Heap.get?_push_of_some _ q1';have t2:(g1.push { cls:=.type "tuple",data:=.seq #[e.key,e.val] }).get? s.heap.objs.size=some { cls:=.type "tuple",data:=.seq #[e.key,e.val] }:=by rw[← z1];exact Heap.get?_push_size _ rfl
  have k2:∀ b o,b≠it->s.heap.get? b=some o->(g1.push { cls:=.type "tuple",data:=.seq #[e.key,e.val] }).get? b=some o:=fun b o hb q=>Heap.get?_push_of_some _ (k1.extBut b o hb q);rw[z1];generalize g1.push { cls:=.type "tuple",data:=.seq #[e.key,e.val] }=g2 at q2 t2 k2;show wpAny _ _ (_ >>= _) _ _ { s with heap:=g2 };refine wpAny_bind (wpAny_bind (wpAny_field q2 rfl (x:=.none) rfl (wpAny_pure ?_)));simp only[if_true];refine wpAny_bind (wpAny_field q2 rfl (x:=ok) rfl (wpAny_bind (wpAny_field q2 rfl (x:=ov) rfl ?_)));refine wpAny_bind (wpAny_setField_rec q2 (by simp) fun g3 q3 k3=>?_)
  replace q3:IsItemIter g3 it d (i+1) es.size ep e.key ov:=q3;refine wpAny_bind (wpAny_setField_rec q3 (by simp) fun g4 q4 k4=>?_)
  replace q4:IsItemIter g4 it d (i+1) es.size ep e.key e.val:=q4;refine wpAny_bind (wpAny_setField_rec q4 (by simp) fun g5 q5 k5=>?_)
  replace q5:IsItemIterOut g5 it d (i+1) es.size ep e.key e.val s.heap.objs.size:=q5;refine wpAny_bind (wpAny_setField_rec q5 (by simp) fun g6 q6 k6=>?_)
  replace q6:IsItemIterOut g6 it d (i+1) es.size ep e.key e.val s.heap.objs.size:=q6;have up:∀ b o,b≠it->g2.get? b=some o->g6.get? b=some o:=fun b o hb q=>k6.extBut b o hb (k5.extBut b o hb (k4.extBut b o hb (k3.extBut b o hb q)));exact wpAny_bind (wpAny_letGo (wpAny_pure (wpAny_pure ⟨_,rfl,wpAny_pure (hI e he g6 q6 (up _ _ (NK lt) t2) fun b o hb q=>up b o hb (k2 b o hb q))⟩)))
end
def dM(v d:Addr):HO:=.ext fun h=>h.IsItemsView v d
def KvA(H:Hp)(u:HO)(i:Nat)(x y:V):Prop:=(∃ kvs k,u=.dK kvs/\kvs[i]?=some (k,y)/\x=kV k)∨∃ kvs k t,u=.dT kvs/\kvs[i]?=some (k,y)/\x=.ref t/\H t=some (.tup (k.map kV))
def dlen:HO->Nat
 |.dK kvs=>kvs.length
 |.dT kvs=>kvs.length
 |_=>0
def vS:HO->Prop
 |.dK _=>True
 |.dT _=>True
 |_=>False
theorem u9{α β:Type}{F:α->β->Prop}:∀{l₁:List α}{l₂:List β},Paired F l₁ l₂->∀{i:Nat}{b:β},l₂[i]?=some b->∃ a,l₁[i]?=some a/\F a b
 |_,_,.nil,i,b,e=>by simp at e
 |_,_,.cons r t,0,b,e=>⟨_,rfl,by cases e;exact r⟩
 |_,_,.cons r t,i+1,b,e=>u9 t (i:=i) e
theorem nN{P:Program}{w:World}{H:Hp}{h:Heap}{d:Addr}{u:HO}(hd:vS u)(x:bh P w H h d u):(d == sysModules)=false/\∃ es ep,Ent h d es ep/\es.size=dlen u/\∀ i e,es[i]?=some e->∃ x y,KvA H u i x y/\RelV x e.key/\RelV y e.val:=by
 cases u with
 |dK kvs =>
  obtain⟨hz,lo,vs,rk,o,es,ep,h1,h2,h3,h4,h5,h6⟩:=x;have l1:kvs.length=vs.length:=Paired.length rk;have sz:es.size=vs.length:=by rw[← h5.length,Nz]
  refine⟨lo,es,ep,⟨o,h1,h2,h3⟩,by rw[sz];exact l1.symm,fun i e he=>?_⟩
  have hi:i<vs.length:=by
   have:i<es.size:=(Qr.mp he).1;omega
  obtain⟨⟨k,v⟩,hv⟩:∃ q,vs[i]?=some q:=⟨_,Mx hi⟩;obtain⟨hk,hval⟩:=h5.get? (e:=e) (by rw[N1];exact he) hv
  obtain⟨⟨k',y⟩,hy,ek,ry⟩:=u9 rk hv;have ek':k'=k:=ek;subst ek';refine⟨kV k',y,.inl ⟨kvs,k',rfl,hy,rfl⟩,?_,by rw[hval];exact ry⟩
  rcases ba (show yv k' e.key=true from hk) with⟨j,t,e1,e2⟩ | ⟨z,t,e1,e2⟩
  ·rw[e1,e2];exact⟨t,rfl⟩
  ·rw[e1,e2];exact⟨t,rfl⟩
 |dT kvs =>
  obtain⟨hz,lo,xs,r,o,es,ep,h1,h2,h3,h4,h5⟩:=x;have sz:es.size=xs.length:=by rw[← Nz,h4,MD]
  refine⟨lo,es,ep,⟨o,h1,h2,h3⟩,by rw[sz];exact r.length.symm,fun i e he=>?_⟩
  have e1:es.toList[i]?=some e:=by rw[N1];exact he
  rw[h4,ME]at e1
  cases hx:xs[i]? with
  |none=>rw[hx]at e1;cases e1
  |some q =>
   rw[hx]at e1
   cases e1
   obtain⟨⟨k,y⟩,hy,ek,ht,ry⟩:=u9 r hx;exact⟨.ref q.2.1,y,.inr ⟨kvs,k,q.2.1,rfl,hy,rfl,ht⟩,rfl,ry⟩
 |_=>exact hd.elim
section
variable{X:Cx}{pins:List (Addr×Obj)}{σ:St}{H:Hp}{s:Shared}{d:Addr}{u:HO}{o:Obj}
theorem vS.notT(h:vS u):(∀ xs,u≠.tup xs)/\(∀ o v,u≠.frz o v)/\(∀ ps,u≠.tbl ps)/\∀ a,u≠.own a:=by
 cases u<;>first | exact h.elim | exact⟨fun _=>by simp,fun _ _=>by simp,fun _=>by simp,fun _=>by simp⟩
theorem HOk.frz{P:Program}{w:World}{h:Heap}(x:HOk P w H h)(hd:H d=some u)(hu:vS u)(e:h.get? d=some o):HOk P w (upd H d (.frz o u)) h:=fun b v q=>by
 obtain⟨n1,n2,n3,n4⟩:=hu.notT;have ow:∀ c y,H c=some (.own y)->upd H d (.frz o u) c=some (.own y):=fun c y r=>by rw[aq (Ej r hd fun z=>n4 y z.symm)];exact r
 have tp:∀ c xs,H c=some (.tup xs)->upd H d (.frz o u) c=some (.tup xs):=fun c xs r=>by rw[aq (Ej r hd fun z=>n1 xs z.symm)];exact r
 by_cases hb:b=d
 ·subst hb;rw[ae]at q
  cases q
  exact⟨e,(x b u hd).stay (fun _ _ _ r=>r) (fun c r=>ow c b r) tp⟩
 ·rw[aq hb]at q;exact(x b v q).stay (fun _ _ _ r=>r) (fun c r=>ow c b r) tp
theorem Inv.freeze(I:Inv X pins σ H s)(hd:H d=some u)(hu:vS u)(e:s.heap.get? d=some o):Inv X pins σ (upd H d (.frz o u)) s:=by
 obtain⟨n1,n2,n3,n4⟩:=hu.notT;exact I.step (H':=upd H d (.frz o u)) (h':=s.heap) (g':=s.gens) (d':=s.drawn) (t':=s.toks) (ch:=[]) (fun _ z=>nomatch z) (fun b _ _ _ _ q _=>q) (fun b ob _ _ _ q _=>⟨ob.slots,q⟩)
  (fun b _ _ _ n=>by rw[aq (aw hd n).symm];exact n) (fun b ob _ q=>⟨ob,q⟩) (fun b xs r=>by rw[aq (Ej r hd fun z=>n1 xs z.symm)];exact r)
  (fun b ob v r=>by rw[aq (Ej r hd fun z=>n2 ob v z.symm)];exact r) (fun b ps r=>⟨#[],by rw[aq (Ej r hd fun z=>n3 ps z.symm),r];simp⟩) (fun _ q=>q) (I.hok.frz hd hu e) I.bare
theorem Dj:MtR X "dict.items" (fun x xs H Q=>∃ d u,x=.ref d/\xs = []/\H d=some u/\vS u/\∀ v,H v=none->Q (.ref v) (upd H v (dM v d))):=by
 intro pins s σ H x xs v us Q I rx rv h;obtain⟨d,u,rfl,rfl,hd,hu,q⟩:=h
 cases rx
 have hus:=rv.zero;subst hus;obtain⟨lo,es,ep,hm,_⟩:=nN hu (I.hok d _ hd);refine call_meetsIn Ow hm.ty Qz (Qt _) (DC lo) ⟨⟨es,ep,hm⟩,?_⟩;have hv:(s.heap.push { cls:=.type "dict_items",data:=.fields #[.ref d] }).IsItemsView s.heap.objs.size d:=⟨_,Heap.get?_push_size _ rfl,rfl,rfl⟩;refine⟨.ref s.heap.objs.size,_,I.laid (t':=s.toks) (fun b o e=>Heap.get?_push_of_some _ e) (MC _) ?_,rfl,q _ (I.hok.fresh (MC _))⟩;exact⟨hv,⟨_,Heap.get?_push_size _ rfl⟩,fun h1 h2 x k=>let ⟨o,ho,r⟩:=x;⟨o,k _ ho,r⟩⟩
end
def Itd(o:Obj)(u:HO)(d:Addr):It :=
 ⟨fun i H=>H d=some (.frz o u)/\i<dlen u,
  fun i H v H'=>∃ T x y,H T=none/\v=.ref T/\H'=upd H T (.tup [x,y])/\KvA H u i x y,
  fun i H=>H d=some (.frz o u)/\dlen u<=i⟩
theorem sS{P:Program}{w:World}{K:Mz}{el:List Expr}{kk:Nat}{pos:Pos}(o:Obj)(u:HO)(d I:Addr)(hu:vS u)(es:Array DictEntry)(ep:Nat)(hx:o.ExactDict)(ho:o.data=.dict es ep):Turn P w K (.Tuple el kk pos) (Itd o u d) [I] I
  (fun i h=>∃ ok ov,IsItemIter h I d i es.size ep ok ov) where
 mem:=by simp
 obj:=fun i h st b hb=>by
  obtain⟨ok,ov,he⟩:=st;rw[M4.mp hb];exact⟨_,he,fun v z=>by have z':Data.fields _=Data.cell v:=z;cases z'⟩
 keep:=fun i h h' st kk=>by
  obtain⟨ok,ov,he⟩:=st;exact⟨ok,ov,kk I (by simp) _ he⟩
 item:=by
  intro X hP hw hK hc i pins s σ H E Iv hf st hg;subst hP hw hK;obtain⟨hd,hi⟩:=hg;obtain⟨ok,ov,he⟩:=st;obtain⟨g1,g2⟩:=(show bh X.prog X.w H s.heap d (.frz o u) from Iv.hok d _ hd);obtain⟨_,es',ep',⟨o',q1,q2,q3⟩,sz,al⟩:=nN hu g2;rw[g1]at q1
  cases q1
  rw[ho]at q3
  cases q3
  have lt:I<s.heap.objs.size:=Heap.lt_size he;refine qM he ⟨o,g1,hx,ho⟩ (Iv.ok.hd hc) (fun e hee h' hit hT hk=>?_) (fun z=>by rw[Array.getElem?_eq_none_iff]at z;omega)
  refine⟨_,rfl,?_⟩;refine wpAny_letOwnedTupleGo_items hit fun h2 he2 hs2=>?_;obtain⟨x,y,kv,rx,ry⟩:=al i e hee;have hfr:H s.heap.objs.size=none:=Iv.hok.fresh (MC _);have I0:Inv X pins σ (upd H s.heap.objs.size (.tup [x,y])) { s with heap:=s.heap.push { cls:=.type "tuple",data:=.seq #[e.key,e.val] },toks:=s.toks } :=
   Iv.laid (t':=s.toks) (fun b u e=>Heap.get?_push_of_some _ e) (MC _) ⟨by show 2<=sizeLine;decide,[e.key,e.val],.cons rx (.cons ry .nil),⟨_,Heap.get?_push_size _ rfl,rfl,_,rfl⟩⟩
  have hn:∀ b∈[I],upd H s.heap.objs.size (.tup [x,y]) b=none:=fun b hb=>by
   rw[aq (by rw[M4.mp hb];exact M3 lt)]
   exact(hf b hb).1
  have I2:Inv X pins σ (upd H s.heap.objs.size (.tup [x,y])) { s with heap:=h2,toks:=s.toks }:=Inv.turnedL (s:={ s with heap:=s.heap.push { cls:=.type "tuple",data:=.seq #[e.key,e.val] },toks:=s.toks }) (h':=h2) I0 (t':=s.toks) (fp:=[I]) (fun b ob hb q=>by
   have nb:b≠I:=fun z=>hb (by simp[z])
   refine(hs2.2 b nb).trans ?_;rcases Heap.get?_push_cases q with⟨z1,z2⟩ | q
   ·rw[z1,z2];exact hT
   ·exact hk b ob nb q) fun b hb=>⟨hn b hb,(hf b hb).2⟩
  exact⟨.ref s.heap.objs.size,_,I2,rfl,⟨s.heap.objs.size,x,y,hfr,rfl,rfl,kv⟩,⟨_,_,he2⟩,hn⟩
 done:=by
  intro X hP hw hK hc i pins s σ H E Iv hf st hg;subst hP hw hK;obtain⟨hd,hi⟩:=hg;obtain⟨ok,ov,he⟩:=st;obtain⟨g1,g2⟩:=(show bh X.prog X.w H s.heap d (.frz o u) from Iv.hok d _ hd);obtain⟨_,es',ep',⟨o',q1,q2,q3⟩,sz,al⟩:=nN hu g2;rw[g1]at q1
  cases q1
  rw[ho]at q3
  cases q3
  obtain⟨f0,f1,f2,f3,f4,f5⟩:=hf I (by simp)
  refine qM he ⟨o,g1,hx,ho⟩ (Iv.ok.hd hc) (fun e hee=>by have:=(Qr.mp hee).1;omega) (fun _ h' hk=>⟨rfl,Iv.turned (t':=s.toks) (fun b o hb e=>hk b o hb e) f0 f1 f3 f4 f5⟩)
 self:=fun _ _ _ _ _ st h=>by
  obtain⟨ok,ov,he⟩:=st;exact PySem.W.kcp_self he h
section
variable{X:Cx}
def iItems(te:TE):TI:=fun σ H R=>te σ H fun x H1=>∃ vw d u,x=.ref vw/\H1 vw=some (dM vw d)/\H1 d=some u/\vS u/\∀ o,R (Itd o u d) (upd H1 d (.frz o u))
theorem Jd{e:Expr}{te:TE}{es:List Expr}{k:Nat}{tp:Pos}(he:PE X e te):PI X (.Tuple es k tp) e (iItems te):=by
 intro pins s σ H R I h;refine thn (he pins s σ H _ I h) fun v s1 ⟨x,H1,I1,r1,q1⟩=>?_;obtain⟨vw,d,u,rfl,hv,hd,hu,q⟩:=q1
 cases r1
 obtain⟨hview,_,_⟩:=(show bh X.prog X.w H1 s1.heap vw (dM vw d) from I1.hok vw _ hv);obtain⟨_,ents,ep,hm,sz,_⟩:=nN hu (I1.hok d _ hd);obtain⟨o,q1,q2,q3⟩:=id hm;refine wb hview hm ?_;have I2:=I1.freeze hd hu q1;have ne:d≠s1.heap.objs.size:=M3 (Heap.lt_size q1);refine⟨s1.heap.objs.size,[s1.heap.objs.size],_,_,upd H1 d (.frz o u),rfl,I2.kept (t':=s1.toks) fun b u e=>Heap.get?_push_of_some _ e,sS o u d _ hu ents ep q2 q3,⟨_,_,Heap.get?_push_size _ rfl⟩,fun b hb=>?_,q o⟩;rw[M4.mp hb];exact I2.fpOk (MC _) (I2.hok.fresh (MC _))
end
theorem yJ{o:Obj}{u:HO}{d:Addr}{g:TG}{tb:TS}{D:Ends}{σ:St}{H:Hp}(Pv:Nat->St->Hp->Prop)(h0:Pv 0 σ H)(hl:∀ i σ H,i<=dlen u->Pv i σ H->H d=some (.frz o u))
  (hs:∀ i x y σ H T,i<dlen u->KvA H u i x y->Pv i σ H->H T=none->g (.ref T) σ (upd H T (.tup [x,y])) fun σ2 H2=>tb { D with nx:=Pv (i+1),ct:=Pv (i+1),bk:=D.nx } σ2 H2) (hd:∀ σ H,Pv (dlen u) σ H->D.nx σ H) :
  ∃ W:Nat->Nat->St->Hp->Prop,(∃ m,W 0 m σ H)/\∀ i m σ H,W i m σ H ->
   ((Itd o u d).stop i H/\D.nx σ H)∨((Itd o u d).go i H/\∃ N:St->Hp->Prop,(∀ σ' H',N σ' H'->∃ m',m'<m/\W (i+1) m' σ' H')/\∀ x H',(Itd o u d).yld i H x H'->g x σ H' fun σ2 H2=>tb { D with nx:=N,ct:=N,bk:=D.nx } σ2 H2):=by
 refine⟨fun i m σ H=>m=dlen u-i/\i<=dlen u/\Pv i σ H,⟨dlen u,by simp,NA _,h0⟩,?_⟩
 rintro i m σ H ⟨rfl,hi,p⟩;have q:=hl i σ H hi p;by_cases hlt:i<dlen u
 ·refine .inr ⟨⟨q,hlt⟩,Pv (i+1),fun σ' H' p'=>⟨dlen u-(i+1),by omega,rfl,hlt,p'⟩,fun v H' y=>?_⟩
  obtain⟨T,x,z,hT,rfl,rfl,kv⟩:=y;exact hs i x z σ _ T hlt kv p hT
 ·have e:i=dlen u:=by omega
  subst e;exact .inl ⟨⟨q,MC _⟩,hd σ H p⟩
end L2
namespace L2
open PySem PySem.Spec PyProof.Rows
section
open PySem.W
end
section
open PySem.W
variable{prog:Program}{w:World}{A:Around}{E:Value->Shared->Prop}{s:Shared}
def PrV(h:Heap)(v:Value):Prop:=∃ a o n x y tx ty,v=.ref a/\h.get? a=some o/\o.cls=.type "tuple"/\o.data=.seq #[.int x tx,.int y ty] n
theorem PrV.keep{h h':Heap}{v:Value}(p:PrV h v)(k:∀ b o,v=.ref b->h.get? b=some o->h'.get? b=some o):PrV h' v:=by
 obtain⟨a,o,n,x,y,tx,ty,rfl,h1,r⟩:=p;exact⟨a,o,n,x,y,tx,ty,rfl,k _ _ rfl h1,r⟩
theorem C3{M:Model}:∀{vs:List Value},(∀ v∈vs,PrV s.heap v)->∃ fs,KatTups s.heap vs fs/\fs.length=vs.length/\∀ v∈fs,Looks M s.heap (typeOf v) (.type "int")
 |[],_=>⟨[],trivial,rfl,fun v hv=>nomatch hv⟩
 |v::vs,h=>by
  obtain⟨fs,h1,h2,h3⟩:=C3 (M:=M) (vs:=vs) fun u hu=>h u (MO _ hu);obtain⟨a,o,n,x,y,tx,ty,rfl,k1,k2,k3⟩:=h v (MV ..);refine⟨.int x tx::fs,KatTups.cons k1 k2 k3 rfl h1,by rw[Nb,Nb,h2],fun u hu=>?_⟩
  rcases MG.mp hu with rfl | hu
  ·exact .now
  ·exact h3 u hu
end
section
variable{X:Cx}
end
section
variable{X:Cx}
end
end L2
namespace L2
open PySem PySem.Spec PyProof.Rows
section
variable{prog:Program}{w:World}{K:Type} [DecidableEq K] {knd:KeyKind prog w K} {A:Around} {E:Value->Shared->Prop} {s:Shared}
theorem DR{d:Addr}{kvs:List (K×Value)}{k:K}{key dflt:Value}{Q:Value->Shared->Prop}(hkey:knd.is k key=true)(hm:s.heap.DictOf knd d kvs)
  (hthere:∀ v,valueAt kvs k=some v->Q v { s with toks:=s.toks+1 })
  (hnew:valueAt kvs k=none->∀ h',h'.DictOf knd d (stored kvs k dflt)->Heap.SameBut d s.heap h'->Q dflt { s with heap:=h',toks:=s.toks+1 }) (hsz:kvs.length<=sizeLine) :
  wpAny (model prog w) A (dictSetDefault d key dflt) Q E s:=by
 have hmap:=hm.mapOf;obtain⟨o,es,ep,ho,hc,hd,hk,hp,hn⟩:=hm;obtain⟨o',es',ep',ho',_,hd',_,hf⟩:=hmap;rw[ho]at ho'
 cases ho'
 rw[hd]at hd'
 cases hd'
 have hes:es.size<=sizeLine:=by have e1:=hp.length;have e2:es.toList.length=es.size:=by simp
                                omega
 unfold dictSetDefault;try with_reducible refine wpAny_holding ?_
 refine wpAny_bind (knd.pyHash hkey ?_);refine wpAny_bind (wpAny_dictFind_of (s:={ s with toks:=s.toks+1 }) hkey ho hd hk ?_);have hidx:(es.findIdx? fun e=>knd.is k e.key)=kvs.findIdx? fun kv=>decide (kv.1=k):=by
  rw[← hp.findIdx k];obtain⟨l⟩:=es;simp
 cases hi:es.findIdx? fun e=>knd.is k e.key with
 |some i =>
  have hfk:valueAt kvs k=(es[i]?).map (·.val):=by rw[← hf k,findBy_of_findIdx?,hi]
  refine wpAny_bind (wpAny_dictEntries (s:={ s with toks:=s.toks+1 }) ho hd ?_)
  cases he:es[i]? with
  |none =>
   exfalso;have:=Array.findIdx?_eq_some_iff_findIdx_eq.mp hi;have hlt:i<es.size:=this.1;rw[Qy hlt]at he;exact nomatch he
  |some e =>
   rw[he]at hfk;exact wpAny_bind (wpAny_rule (wpAny_pure (hthere e.val hfk)))
 |none =>
  have hfk:valueAt kvs k=none:=by rw[← hf k,findBy_of_findIdx?,hi]
  have hnot:k∉kvs.map (·.1):=not_mem_of_findIdx_none (hidx▸hi);have hany:¬ (kvs.any fun kv=>decide (kv.1=k))=true:=by
   rw[OA];rintro⟨kv,hkv,he⟩;exact hnot (MR.mpr ⟨kv,hkv,of_decide_eq_true he⟩)
  refine wpAny_bind (wpAny_rule (wpAny_bind (wpAny_updateDictKeys (hz:=hes) (s:={ s with toks:=s.toks+1 }) ho hd (wpAny_pure (hnew hfk _ ⟨_,_,ep+1,Heap.get?_update_self _ ho (Obj.isFreed_of_dict (Obj.data_mapDictKeys hd _)),
   hc.mapDictKeys _,Obj.data_mapDictKeys hd _,hk.push hkey _,?_,?_⟩ (Heap.SameBut.update ..))))))
  ·rw[stored,if_neg hany];have:=hp.append hkey (knd.hash k) dflt;obtain⟨l⟩:=es;simpa using this
  ·rw[stored,if_neg hany,M8,MZ];refine⟨hn,by simp,?_⟩
   intro a ha b hb;simp only[Nh,Qd,M4]at hb;subst hb;exact fun e=>hnot (e▸ha)
theorem El{d:Addr}{k:K}{key:Value}(hkey:knd.is k key=true)(hd:(d == sysModules)=false)(dflt:Value) :
  MeetsIn prog w (Builtin.«dict.setdefault» ⟨[.ref d,key,dflt],[]⟩) (fun _ R s=>∃ kvs,s.heap.DictOf knd d kvs/\kvs.length<=sizeLine /\
   (∀ v,valueAt kvs k=some v->R (.ok (.ret v)) { s with toks:=s.toks+1 }) /\
   (valueAt kvs k=none->∀ h',h'.DictOf knd d (stored kvs k dflt)->Heap.SameBut d s.heap h'->R (.ok (.ret dflt)) { s with heap:=h',toks:=s.toks+1 })) :=
 .of_wp fun A R s ⟨kvs,hm,hz,h1,h2⟩=>by
  unfold Builtin.«dict.setdefault»;refine wpAny_bind ?_;unfold Builtin.Dict.keyAndDefault;refine wpAny_bind (wpAny_notOrdered_dict hm.typeIs ?_);show wpAny _ _ (pure (d,key,some dflt)) _ _ s;refine wpAny_pure ?_;show wpAny _ _ (if(d == sysModules)=true then _ else(dictSetDefault d key dflt >>= _)) _ _ s;rw[if_neg (by rw[hd];exact MQ)]
  exact wpAny_bind (DR hkey hm (fun v hv=>wpAny_pure ⟨v,rfl,h1 v hv⟩) (fun hn h' hm' hs'=>wpAny_pure ⟨dflt,rfl,h2 hn h' hm' hs'⟩) hz)
end
def tSetD(td ty tx:TE):TE:=fun σ H Q=>td σ H fun x H1=>∃ a,x=.ref a/\IsD H1 a/\ty σ H1 fun y H2=>tx σ H2 fun z H3=>∃ kvs k,H3 a=some (.dK kvs)/\y=kV k/\kvs.length<sizeLine /\
 (∀ v,valV kvs k=some v->Q v H3)/\(valV kvs k=none->Q z (upd H3 a (.dK (putK kvs k z))))
section
variable{X:Cx}{o e f:Expr}{apos cpos:Pos}{td ty tx:TE}
theorem Ln(ho:PE X o td)(he:PE X e ty)(hf:PE X f tx) (m:M2 X o "setdefault" apos e f cpos):PE X (.Call (.Attribute o "setdefault" apos) [e,f] [] cpos) (tSetD td ty tx):=by
 intro pins s σ H Q I h;refine wpAny_Call_method m.base m.few m.line Od Qg PySem.F.type_dict_setdefault (thn (ho pins s σ H _ I h) fun u s1 ⟨x,H1,I1,rx,a,ex,d,q1⟩=>?_);subst ex;obtain rfl:u=Value.ref a:=rx;obtain⟨t1,t2,_⟩:=Kl I1 d;refine⟨t1,t2,?_⟩;rw[m.trees]
 refine Calls.callWith_builtin rfl (Calls.evalArgs_plain (Calls.spliced_cons (thn (he pins s1 σ H1 _ I1 q1) fun iv s2 ⟨y,H2,I2,ry,q2⟩ =>
  Calls.spliced_cons (thn (hf pins s2 σ H2 _ I2 q2) fun fv s3 ⟨z,H3,I3,rz,kvs,k,ea,ey,hl,q3,q4⟩=>Calls.spliced_nil ?_))))
 subst ey;obtain⟨hz,hd,vs,rel,dd⟩:=Mj I3.hok ea;have hzv:vs.length<=sizeLine:=by rw[← rel.length];exact hz
 refine call_meetsIn Qg dd.typeIs PySem.F.entry_dict_setdefault (PySem.F.args_dict_setdefault_3 _ _ _) (El (BJ ry) hd fv) ⟨vs,dd,hzv,fun v hv=>?_,fun hn h' dd' hs=>?_⟩
 ·have r:=rel.val k
  rw[hv]at r
  cases l:valV kvs k with
  |none=>rw[l]at r;exact r.elim
  |some v'=>rw[l]at r;exact⟨v',H3,I3.tok _,r,q3 v' l⟩
 ·have r:=rel.val k
  rw[hn]at r
  cases l:valV kvs k with
  |some v'=>rw[l]at r;exact r.elim
  |none =>
   have hl2:(putK kvs k z).length<=sizeLine:=by have:=df kvs k z;omega
   have hE:∃ q,h'.get? a=some q:=let ⟨q,_,_,hq,_⟩:=dd';⟨q,hq⟩;exact⟨z,_,wx I3 (by rw[ea];exact True.intro) hs hE (Hw hl2 hd (rel.put k rz) dd'),rz,q4 l⟩
end
section
variable{X:Cx}
end
section
variable{prog:Program}{w:World}{A:Around}{E:Value->Shared->Prop}{s:Shared}{T:String}{r d:Addr}{n:Nat}{P:Nat->Value->Prop}{OK:Heap->Prop}
theorem Co{Q:List Value->Shared->Prop}(K:PySem.W.KdlSrc prog w T r d n P OK)(hh:A.handled=none)(hok:OK s.heap)(hn:n<=sizeLine)
  (h:∀ h' tk acc',(∀ b o,s.heap.get? b=some o->h'.get? b=some o)->s.heap.objs.size<h'.objs.size->ItemsOf P acc' n->Q acc'.toList { s with heap:=h',toks:=tk }):wpAny (model prog w) A (collect (.ref r)) Q E s:=by
 unfold collect;refine wpAny_bind (wpAny_runValue (codeAny_builtin entry_proto_collect' ?_));show wpAny _ _ (do again (.builtin "list.__iadd__" ⟨[← newList [],.ref r],[]⟩)) _ _ s
 refine wpAny_bind (wpAny_newList (wpAny_pure ⟨Code.quiet_builtin _ (by decide +kernel),codeAny_builtin entry_list_iadd' ?_⟩))
 rw[Around.under_plainId QC _];show wpAny _ A.in1 (Builtin.List.listExtendWith (.ref s.heap.objs.size) (.ref r) (.ref s.heap.objs.size)) _ _ { s with heap:=s.heap.push (seqObj "list" #[] 0) };have hlt:=K.there _ hok;have G:=PySem.W.kdl_extend (A:=A) (R:=fun r s'=>∃ h' tk acc' c',r=.ok (.ret (.ref s.heap.objs.size))/\s'={ s with heap:=h',toks:=tk }/\(∀ b o,b≠s.heap.objs.size->(s.heap.push (seqObj "list" #[] 0)).get? b=some o->h'.get? b=some o)/\h'.get? s.heap.objs.size=some { cls:=.type "list",dict:=none,data:=.seq acc' c',slots:=#[] }/\ItemsOf P acc' n)
  (s:={ s with heap:=s.heap.push (seqObj "list" #[] 0) }) K hh (K.keep _ _ hok fun b _ o e=>Heap.get?_push_of_some _ e) _ (NK hlt.1) (NK hlt.2) (.ref s.heap.objs.size) 0 (Heap.get?_push_size _ rfl) (fun h' tk acc' c' hk hS hacc=>⟨h',tk,acc',c',rfl,rfl,hk,hS,hacc⟩) hn
 have fin:∀(r:Result)(s':Shared),(∃ h' tk acc' c',r=.ok (.ret (.ref s.heap.objs.size))/\s'={ s with heap:=h',toks:=tk }/\(∀ b o,b≠s.heap.objs.size->(s.heap.push (seqObj "list" #[] 0)).get? b=some o->h'.get? b=some o)/\h'.get? s.heap.objs.size=some { cls:=.type "list",dict:=none,data:=.seq acc' c',slots:=#[] }/\ItemsOf P acc' n)->∃ v,r=.ok (.ret v)/\v=.ref s.heap.objs.size/\wpAny (model prog w) A (do
   let o ← load s.heap.objs.size
   match o.data with
   |.seq xs _=>pure xs.toList
   |_=>unsupported "internal:collect") Q E s':=fun r s' ⟨h',tk,acc',c',e1,e2,hk,hS,hacc⟩=>⟨_,e1,rfl,by
  subst e2;refine wpAny_bind (wpAny_load hS ?_)
  exact wpAny_pure (h h' tk acc' (fun b o e=>hk b o (M3 (Heap.lt_size e)) (Heap.get?_push_of_some _ e)) (Heap.lt_size hS) hacc)⟩
 refine wpAny_mono G (fun fn s' q=>?_) (fun e s' q=>?_)
 ·cases fn with
  |done f =>
   obtain⟨v,e1,e2,z⟩:=fin _ _ q
   cases e1
   cases e2
   exact z
  |again c =>
   refine⟨q.1,codeAny_mono q.2 fun r s'' q'=>?_⟩;obtain⟨v,e1,e2,z⟩:=fin _ _ q'
   cases e1
   cases e2
   exact z
 ·obtain⟨v,e1,_⟩:=fin _ _ q
  cases e1
end
section
variable{X:Cx}
end
abbrev bu(h:Heap)(T:Addr)(a b c:Value):Prop:=h.get? T=some { cls:=.type "tuple",data:=.seq #[a,b,c] }
section
variable{prog:Program}{w:World}{A:Around}{E:Value->Shared->Prop}{s:Shared}
theorem bZ{T:Addr}{a b c x:Value}{k:Nat}{Q:Unit->Shared->Prop}(hT:bu s.heap T a b c)
  (h:∀ h',h'.get? T=some { cls:=.type "tuple",data:=.seq ((#[a,b,c]:Array Value).setIfInBounds k x) }->Heap.SameBut T s.heap h'->Q () { s with heap:=h' }) :
  wpAny (model prog w) A (updateSeq T (·.setIfInBounds k x)) Q E s:=by
 refine wpAny_updateSeq hT rfl (h _ ?_ (Heap.SameBut.update ..));rw[Heap.get?_update_self _ hT rfl];simp[Obj.mapSeq]
structure Z3(z TI TO i1 i2 i3 l1 l2 l3:Addr):Prop where
 zs:∀ x∈[TI,TO,i1,i2,i3,l1,l2,l3],x≠z
 ts:∀ x∈[TI,i1,i2,i3,l1,l2,l3],x≠TO
 is1:∀ x∈[TI,i2,i3,l1,l2,l3],x≠i1
 is2:∀ x∈[TI,i1,i3,l1,l2,l3],x≠i2
 is3:∀ x∈[TI,i1,i2,l1,l2,l3],x≠i3
theorem KI{z TI TO i1 i2 i3 l1 l2 l3:Addr}{k:Nat}{xs ys zs:Array Value}{x y v a b c:Value}{Q:Value->Shared->Prop}(D:Z3 z TI TO i1 i2 i3 l1 l2 l3)
  (hz:IsZip s.heap z TI TO .none) (hTI:bu s.heap TI (.ref i1) (.ref i2) (.ref i3)) (hTO:bu s.heap TO a b c)
  (h1:s.heap.IsListIter i1 l1 k) (h2:s.heap.IsListIter i2 l2 k) (h3:s.heap.IsListIter i3 l3 k) (hl1:s.heap.IsList l1 xs) (hl2:s.heap.IsList l2 ys) (hl3:s.heap.IsList l3 zs) (hx:xs[k]?=some x) (hy:ys[k]?=some y) (hv:zs[k]?=some v)
  (hQ:∀ h',IsZip h' z TI TO (rawInt s.heap.objs.size)->bu h' TO x y v->h'.IsListIter i1 l1 (k+1)->h'.IsListIter i2 l2 (k+1)->h'.IsListIter i3 l3 (k+1)->bu h' s.heap.objs.size x y v->h'.objs.size=s.heap.objs.size+1 ->
   (∀ c o,c∉[z,TO,i1,i2,i3]->s.heap.get? c=some o->h'.get? c=some o)->Q (.ref s.heap.objs.size) { s with heap:=h' }) :
  wpAny (model prog w) A (Builtin.«zip.__next__» ⟨[.ref z],[]⟩) (fun fin s'=>∃ v,fin=.done (.ret v)/\Q v s') E s:=by
 obtain⟨zs',ts',s1',s2',s3'⟩:=D;simp only[MG,NC,or_false,forall_eq_or_imp,forall_eq]at zs' ts' s1' s2' s3';obtain⟨TIz,TOz,i1z,i2z,i3z,l1z,l2z,l3z⟩:=zs';obtain⟨TITO,i1TO,i2TO,i3TO,l1TO,l2TO,l3TO⟩:=ts';obtain⟨TIi1,i21,i31,l1i1,l2i1,l3i1⟩:=s1';obtain⟨TIi2,i12,i32,l1i2,l2i2,l3i2⟩:=s2';obtain⟨TIi3,i13,i23,l1i3,l2i3,l3i3⟩:=s3';show wpAny _ _ (field (.ref z) 2 >>= _) _ _ _;refine wpAny_bind (wpAny_field hz rfl (x:=.bool false) rfl ?_);show wpAny _ _ (field (.ref z) 3 >>= _) _ _ _;refine wpAny_bind (wpAny_field hz rfl (x:=.ref TI) rfl ?_);refine wpAny_bind (wpAny_seqItems hTI rfl ?_);show wpAny _ _ (Builtin.SmallTypes.ownedTupleIsFree (.ref z) >>= _) _ _ _;refine wpAny_bind ?_;unfold Builtin.SmallTypes.ownedTupleIsFree;refine wpAny_bind (wpAny_field hz rfl (x:=.none) rfl (wpAny_pure ?_));simp only[if_true];refine wpAny_bind (wpAny_rule ?_);refine wpAny_bind (wpAny_field hz rfl (x:=.ref TO) rfl ?_);refine wpAny_bind (wpAny_setField_rec hz (by simp) fun h₁ hz₁ hs₁=>?_)
 replace hz₁:IsZip h₁ z TI TO .ellipsis:=hz₁;refine wpAny_bind ?_;simp only[Qe,List.zipIdx_nil,List.forIn_cons,List.forIn_nil];refine wpAny_bind (wpAny_bind (wpAny_onRaise ?_));show wpAny _ _ (Builtin.SmallTypes.nextOf (.ref i1) >>= _) _ _ _;refine wpAny_bind (wpAny_nextOf_list_item (h1.extBut hs₁.extBut i1z) (hl1.extBut hs₁.extBut l1z) hx fun h₂ h1₂ hs₂=>wpAny_pure ?_);have hTO₂:bu h₂ TO a b c:=hs₂.extBut _ _ i1TO.symm (hs₁.extBut _ _ TOz hTO);refine wpAny_bind (wpAny_seqItems hTO₂ rfl ?_);refine wpAny_bind (bZ hTO₂ fun h₃ hTO₃ hs₃=>?_);replace hTO₃:bu h₃ TO x b c:=hTO₃;refine wpAny_bind (wpAny_letGo (wpAny_pure ?_));refine wpAny_bind (wpAny_bind (wpAny_onRaise ?_));show wpAny _ _ (Builtin.SmallTypes.nextOf (.ref i2) >>= _) _ _ _
 refine wpAny_bind (wpAny_nextOf_list_item (((h2.extBut hs₁.extBut i2z).extBut hs₂.extBut i21).extBut hs₃.extBut i2TO)
  (((hl2.extBut hs₁.extBut l2z).extBut hs₂.extBut l2i1).extBut hs₃.extBut l2TO) hy fun h₄ h2₄ hs₄=>wpAny_pure ?_)
 have hTO₄:bu h₄ TO x b c:=hs₄.extBut _ _ i2TO.symm hTO₃;refine wpAny_bind (wpAny_seqItems hTO₄ rfl ?_);refine wpAny_bind (bZ hTO₄ fun h₅ hTO₅ hs₅=>?_);replace hTO₅:bu h₅ TO x y c:=hTO₅;refine wpAny_bind (wpAny_letGo (wpAny_pure ?_));refine wpAny_bind (wpAny_bind (wpAny_onRaise ?_));show wpAny _ _ (Builtin.SmallTypes.nextOf (.ref i3) >>= _) _ _ _
 refine wpAny_bind (wpAny_nextOf_list_item (((((h3.extBut hs₁.extBut i3z).extBut hs₂.extBut i31).extBut hs₃.extBut i3TO).extBut hs₄.extBut i32).extBut hs₅.extBut i3TO)
  (((((hl3.extBut hs₁.extBut l3z).extBut hs₂.extBut l3i1).extBut hs₃.extBut l3TO).extBut hs₄.extBut l3i2).extBut hs₅.extBut l3TO) hv fun h₆ h3₆ hs₆=>wpAny_pure ?_)
 have hTO₆:bu h₆ TO x y c:=hs₆.extBut _ _ i3TO.symm hTO₅;refine wpAny_bind (wpAny_seqItems hTO₆ rfl ?_);refine wpAny_bind (bZ hTO₆ fun h₇ hTO₇ hs₇=>?_);replace hTO₇:bu h₇ TO x y v:=hTO₇;refine wpAny_bind (wpAny_letGo (wpAny_pure (wpAny_pure ?_)));refine wpAny_bind (wpAny_seqItems hTO₇ rfl ?_);refine wpAny_bind (wpAny_newTuple ?_);have hsz:h₇.objs.size=s.heap.objs.size:=by rw[hs₇.1,hs₆.1,hs₅.1,hs₄.1,hs₃.1,hs₂.1,hs₁.1]
 have hz₇:IsZip h₇ z TI TO .ellipsis:=hs₇.extBut _ _ TOz.symm (hs₆.extBut _ _ i3z.symm (hs₅.extBut _ _ TOz.symm (hs₄.extBut _ _ i2z.symm (hs₃.extBut _ _ TOz.symm (hs₂.extBut _ _ i1z.symm hz₁)))));have hk₇:∀ c o,c∉[z,TO,i1,i2,i3]->s.heap.get? c=some o->h₇.get? c=some o:=fun c o hc e=>by
  simp only[MG,NC,or_false,not_or]at hc;obtain⟨c1,c2,c3,c4,c5⟩:=hc;exact hs₇.extBut _ _ c2 (hs₆.extBut _ _ c5 (hs₅.extBut _ _ c2 (hs₄.extBut _ _ c4 (hs₃.extBut _ _ c2 (hs₂.extBut _ _ c3 (hs₁.extBut _ _ c1 e))))))
 have h1₇:h₇.IsListIter i1 l1 (k+1):=((((h1₂.extBut hs₃.extBut i1TO).extBut hs₄.extBut i12).extBut hs₅.extBut i1TO).extBut hs₆.extBut i13).extBut hs₇.extBut i1TO;have h2₇:h₇.IsListIter i2 l2 (k+1):=((h2₄.extBut hs₅.extBut i2TO).extBut hs₆.extBut i23).extBut hs₇.extBut i2TO;have h3₇:h₇.IsListIter i3 l3 (k+1):=h3₆.extBut hs₇.extBut i3TO;have hzlt:z<h₇.objs.size:=Heap.lt_size hz₇;show wpAny _ _ (Builtin.SmallTypes.ownedTupleHandOut (.ref z) (.ref h₇.objs.size) >>= _) _ _ _;refine wpAny_bind ?_;unfold Builtin.SmallTypes.ownedTupleHandOut;have hz₈:IsZip (h₇.push { cls:=.type "tuple",data:=.seq #[x,y,v] }) z TI TO .ellipsis:=Heap.get?_push_of_some _ hz₇;refine wpAny_bind (wpAny_setField_rec hz₈ (by simp) fun h₉ hz₉ hs₉=>?_)
 replace hz₉:IsZip h₉ z TI TO (rawInt h₇.objs.size):=hz₉;refine wpAny_setField_rec hz₉ (by simp) fun hA hzA hsA=>?_
 replace hzA:IsZip hA z TI TO (rawInt h₇.objs.size):=hzA;have up:∀ c o,c≠z->h₇.get? c=some o->hA.get? c=some o:=fun c o c1 e=>hsA.extBut _ _ c1 (hs₉.extBut _ _ c1 (Heap.get?_push_of_some _ e));have hTA:bu hA h₇.objs.size x y v:=hsA.extBut _ _ (NK hzlt) (hs₉.extBut _ _ (NK hzlt) (Heap.get?_push_size _ rfl));have hzA2:hA.objs.size=h₇.objs.size+1:=by rw[hsA.1,hs₉.1,Heap.size_push]
 rw[hsz]at hzA hTA hzA2;refine wpAny_pure ⟨_,rfl,?_⟩;show Q (.ref h₇.objs.size) _;rw[hsz];exact hQ hA hzA (up _ _ TOz hTO₇) (h1₇.at fun o e=>up _ o i1z e) (h2₇.at fun o e=>up _ o i2z e) (h3₇.at fun o e=>up _ o i3z e) hTA hzA2 fun c o hc e=>up c o (fun z=>hc (by simp[z])) (hk₇ c o hc e)
theorem z3_end{z TI TO i1 i2 i3 l1 l2 l3:Addr}{k:Nat}{xs ys zs:Array Value}{a b c:Value}{Q:Fin->Shared->Prop}(hh:A.handled=none)(D:Z3 z TI TO i1 i2 i3 l1 l2 l3)
  (hz:IsZip s.heap z TI TO .none) (hTI:bu s.heap TI (.ref i1) (.ref i2) (.ref i3)) (hTO:bu s.heap TO a b c)
  (h1:s.heap.IsListIter i1 l1 k) (h2:s.heap.IsListIter i2 l2 k) (h3:s.heap.IsListIter i3 l3 k) (hl1:s.heap.IsList l1 xs) (hl2:s.heap.IsList l2 ys) (hl3:s.heap.IsList l3 zs) (hend:xs[k]?=none∨ys[k]?=none∨zs[k]?=none)
  (hE:∀ h' e,(∀ c o,c∉[z,TO,i1,i2,i3]->s.heap.get? c=some o->h'.get? c=some o)->(∃ o,h'.get? e=some o/\o.cls=.type "StopIteration")->E (.ref e) { s with heap:=h' }) :
  wpAny (model prog w) A (Builtin.«zip.__next__» ⟨[.ref z],[]⟩) Q E s:=by
 obtain⟨zs',ts',s1',s2',s3'⟩:=D;simp only[MG,NC,or_false,forall_eq_or_imp,forall_eq]at zs' ts' s1' s2' s3';obtain⟨TIz,TOz,i1z,i2z,i3z,l1z,l2z,l3z⟩:=zs';obtain⟨TITO,i1TO,i2TO,i3TO,l1TO,l2TO,l3TO⟩:=ts';obtain⟨TIi1,i21,i31,l1i1,l2i1,l3i1⟩:=s1';obtain⟨TIi2,i12,i32,l1i2,l2i2,l3i2⟩:=s2';obtain⟨TIi3,i13,i23,l1i3,l2i3,l3i3⟩:=s3';have nin:∀ c,c∉[z,TO,i1,i2,i3]->c≠z/\c≠TO/\c≠i1/\c≠i2/\c≠i3:=fun c hc=>by
  simp only[MG,NC,or_false,not_or]at hc;exact hc
 show wpAny _ _ (field (.ref z) 2 >>= _) _ _ _;refine wpAny_bind (wpAny_field hz rfl (x:=.bool false) rfl ?_);show wpAny _ _ (field (.ref z) 3 >>= _) _ _ _;refine wpAny_bind (wpAny_field hz rfl (x:=.ref TI) rfl ?_);refine wpAny_bind (wpAny_seqItems hTI rfl ?_);show wpAny _ _ (Builtin.SmallTypes.ownedTupleIsFree (.ref z) >>= _) _ _ _;refine wpAny_bind ?_;unfold Builtin.SmallTypes.ownedTupleIsFree;refine wpAny_bind (wpAny_field hz rfl (x:=.none) rfl (wpAny_pure ?_));simp only[if_true];refine wpAny_bind (wpAny_rule ?_);refine wpAny_bind (wpAny_field hz rfl (x:=.ref TO) rfl ?_);refine wpAny_bind (wpAny_setField_rec hz (by simp) fun h₁ hz₁ hs₁=>?_)
 replace hz₁:IsZip h₁ z TI TO .ellipsis:=hz₁;refine wpAny_bind ?_;simp only[Qe,List.zipIdx_nil,List.forIn_cons,List.forIn_nil];refine wpAny_bind (wpAny_bind (wpAny_onRaise ?_));show wpAny _ _ (Builtin.SmallTypes.nextOf (.ref i1) >>= _) _ _ _
 cases hx:xs[k]? with
 |none =>
  refine wpAny_bind (wpAny_nextOf_list_end hh (h1.extBut hs₁.extBut i1z) (hl1.extBut hs₁.extBut l1z) hx fun h₂ e hs₂ he=>?_);obtain⟨oe,hoe,hce⟩:=he;have hz₂:IsZip h₂ z TI TO .ellipsis:=hs₂ _ _ i1z.symm hz₁;have hez:e≠z:=fun x=>by subst x;rw[hz₂]at hoe;cases hoe;simp at hce
  exact wpAny_setField_rec hz₂ (by simp) fun h₃ _ hs₃=>hE h₃ e (fun c o hc x=>have q:=nin c hc;hs₃.extBut _ _ q.1 (hs₂ _ _ q.2.2.1 (hs₁.extBut _ _ q.1 x))) ⟨oe,hs₃.extBut _ _ hez hoe,hce⟩
 |some x =>
  refine wpAny_bind (wpAny_nextOf_list_item (h1.extBut hs₁.extBut i1z) (hl1.extBut hs₁.extBut l1z) hx fun h₂ h1₂ hs₂=>wpAny_pure ?_);have hTO₂:bu h₂ TO a b c:=hs₂.extBut _ _ i1TO.symm (hs₁.extBut _ _ TOz hTO);refine wpAny_bind (wpAny_seqItems hTO₂ rfl ?_);refine wpAny_bind (bZ hTO₂ fun h₃ hTO₃ hs₃=>?_);replace hTO₃:bu h₃ TO x b c:=hTO₃;refine wpAny_bind (wpAny_letGo (wpAny_pure ?_));refine wpAny_bind (wpAny_bind (wpAny_onRaise ?_));show wpAny _ _ (Builtin.SmallTypes.nextOf (.ref i2) >>= _) _ _ _
  cases hy:ys[k]? with
  |none =>
   refine wpAny_bind (wpAny_nextOf_list_end hh (((h2.extBut hs₁.extBut i2z).extBut hs₂.extBut i21).extBut hs₃.extBut i2TO)
    (((hl2.extBut hs₁.extBut l2z).extBut hs₂.extBut l2i1).extBut hs₃.extBut l2TO) hy fun h₄ e hs₄ he=>?_)
   obtain⟨oe,hoe,hce⟩:=he;have hz₄:IsZip h₄ z TI TO .ellipsis:=hs₄ _ _ i2z.symm (hs₃.extBut _ _ TOz.symm (hs₂.extBut _ _ i1z.symm hz₁));have hez:e≠z:=fun x=>by subst x;rw[hz₄]at hoe;cases hoe;simp at hce
   exact wpAny_setField_rec hz₄ (by simp) fun h₅ _ hs₅=>hE h₅ e (fun c o hc x=>have q:=nin c hc;hs₅.extBut _ _ q.1 (hs₄ _ _ q.2.2.2.1 (hs₃.extBut _ _ q.2.1 (hs₂.extBut _ _ q.2.2.1 (hs₁.extBut _ _ q.1 x))))) ⟨oe,hs₅.extBut _ _ hez hoe,hce⟩
  |some y =>
   have hv:zs[k]?=none:=by
    rcases hend with h | h | h
    ·rw[hx]at h;cases h
    ·rw[hy]at h;cases h
    ·exact h
   refine wpAny_bind (wpAny_nextOf_list_item (((h2.extBut hs₁.extBut i2z).extBut hs₂.extBut i21).extBut hs₃.extBut i2TO)
    (((hl2.extBut hs₁.extBut l2z).extBut hs₂.extBut l2i1).extBut hs₃.extBut l2TO) hy fun h₄ h2₄ hs₄=>wpAny_pure ?_)
   have hTO₄:bu h₄ TO x b c:=hs₄.extBut _ _ i2TO.symm hTO₃;refine wpAny_bind (wpAny_seqItems hTO₄ rfl ?_);refine wpAny_bind (bZ hTO₄ fun h₅ hTO₅ hs₅=>?_);replace hTO₅:bu h₅ TO x y c:=hTO₅;refine wpAny_bind (wpAny_letGo (wpAny_pure ?_));refine wpAny_bind (wpAny_bind (wpAny_onRaise ?_));show wpAny _ _ (Builtin.SmallTypes.nextOf (.ref i3) >>= _) _ _ _
   refine wpAny_bind (wpAny_nextOf_list_end hh (((((h3.extBut hs₁.extBut i3z).extBut hs₂.extBut i31).extBut hs₃.extBut i3TO).extBut hs₄.extBut i32).extBut hs₅.extBut i3TO)
    (((((hl3.extBut hs₁.extBut l3z).extBut hs₂.extBut l3i1).extBut hs₃.extBut l3TO).extBut hs₄.extBut l3i2).extBut hs₅.extBut l3TO) hv fun h₆ e hs₆ he=>?_)
   obtain⟨oe,hoe,hce⟩:=he;have hz₆:IsZip h₆ z TI TO .ellipsis:=hs₆ _ _ i3z.symm (hs₅.extBut _ _ TOz.symm (hs₄.extBut _ _ i2z.symm (hs₃.extBut _ _ TOz.symm (hs₂.extBut _ _ i1z.symm hz₁))));have hez:e≠z:=fun x=>by subst x;rw[hz₆]at hoe;cases hoe;simp at hce
   exact wpAny_setField_rec hz₆ (by simp) fun h₇ _ hs₇=>hE h₇ e (fun c o hc x=>have q:=nin c hc;hs₇.extBut _ _ q.1 (hs₆ _ _ q.2.2.2.2 (hs₅.extBut _ _ q.2.1 (hs₄.extBut _ _ q.2.2.2.1 (hs₃.extBut _ _ q.2.1 (hs₂.extBut _ _ q.2.2.1 (hs₁.extBut _ _ q.1 x))))))) ⟨oe,hs₇.extBut _ _ hez hoe,hce⟩
theorem KH{z TI TO i1 i2 i3 l1 l2 l3:Addr}{k:Nat}{xs ys zs:Array Value}{x y v a b c:Value}{Q:Option Value->Shared->Prop}(D:Z3 z TI TO i1 i2 i3 l1 l2 l3)
  (hz:IsZip s.heap z TI TO .none) (hTI:bu s.heap TI (.ref i1) (.ref i2) (.ref i3)) (hTO:bu s.heap TO a b c)
  (h1:s.heap.IsListIter i1 l1 k) (h2:s.heap.IsListIter i2 l2 k) (h3:s.heap.IsListIter i3 l3 k) (hl1:s.heap.IsList l1 xs) (hl2:s.heap.IsList l2 ys) (hl3:s.heap.IsList l3 zs) (hx:xs[k]?=some x) (hy:ys[k]?=some y) (hv:zs[k]?=some v)
  (hQ:∀ h',IsZip h' z TI TO (rawInt s.heap.objs.size)->bu h' TO x y v->h'.IsListIter i1 l1 (k+1)->h'.IsListIter i2 l2 (k+1)->h'.IsListIter i3 l3 (k+1)->bu h' s.heap.objs.size x y v->h'.objs.size=s.heap.objs.size+1 ->
   (∀ c o,c∉[z,TO,i1,i2,i3]->s.heap.get? c=some o->h'.get? c=some o)->Q (some (.ref s.heap.objs.size)) { s with heap:=h' }) :
  wpAny (model prog w) A (pyNext (.ref z)) Q E s:=by
 have hT:s.TypeIs (.ref z) "zip":=⟨_,hz,rfl⟩;unfold pyNext
 exact wpAny_bind (wpAny_attempt (wpAny_callSpecial?_slot (name:=Str.ofString "__next__") hT F.slot_zip_next
  (wpAny_call_entry F.slot_zip_next hT F.entry_zip_next
   (KI D hz hTI hTO h1 h2 h3 hl1 hl2 hl3 hx hy hv fun h' a1 a2 a3 a4 a5 a6 a7 a8=>wpAny_pure (hQ h' a1 a2 a3 a4 a5 a6 a7 a8)) (F.args_zip_next_1 _))))
theorem KJ{z TI TO i1 i2 i3 l1 l2 l3:Addr}{k:Nat}{xs ys zs:Array Value}{a b c:Value}{Q:Option Value->Shared->Prop}(hh:A.handled=none)(D:Z3 z TI TO i1 i2 i3 l1 l2 l3)
  (hz:IsZip s.heap z TI TO .none) (hTI:bu s.heap TI (.ref i1) (.ref i2) (.ref i3)) (hTO:bu s.heap TO a b c)
  (h1:s.heap.IsListIter i1 l1 k) (h2:s.heap.IsListIter i2 l2 k) (h3:s.heap.IsListIter i3 l3 k) (hl1:s.heap.IsList l1 xs) (hl2:s.heap.IsList l2 ys) (hl3:s.heap.IsList l3 zs) (hend:xs[k]?=none∨ys[k]?=none∨zs[k]?=none)
  (hQ:∀ h',(∀ c o,c∉[z,TO,i1,i2,i3]->s.heap.get? c=some o->h'.get? c=some o)->Q none { s with heap:=h' }):wpAny (model prog w) A (pyNext (.ref z)) Q E s:=by
 have hT:s.TypeIs (.ref z) "zip":=⟨_,hz,rfl⟩;unfold pyNext
 refine wpAny_bind (wpAny_attempt (wpAny_callSpecial?_slot (name:=Str.ofString "__next__") hT F.slot_zip_next
  (wpAny_call_entry F.slot_zip_next hT F.entry_zip_next (z3_end hh D hz hTI hTO h1 h2 h3 hl1 hl2 hl3 hend fun h' e hk he=>?_) (F.args_zip_next_1 _))))
 obtain⟨o,ho,hc⟩:=he;refine wpAny_bind (wpAny_isInstance (T:="StopIteration") (b:=true) ⟨o,ho,hc⟩ isSubtype_stop ?_);exact wpAny_pure (hQ _ hk)
end
theorem rR(a b c:Value):checkTypeCall "zip" ⟨[a,b,c],[]⟩=pure ():=by kernel_rfl
theorem vB(a b c:Value):checkBuiltinCall "zip.__new__" ⟨[.type "zip",a,b,c],[]⟩=pure ():=by kernel_rfl
theorem CB(a b c d:Value):argsOk "object.__init__" ⟨[a,b,c,d],[]⟩:=by
 unfold argsOk;rw[signature?_of (id:="object.__init__") (n:=['_','_','t','i','n','i','_','_']) (o:=['t','c','e','j','b','o']) (by kernel_rfl) PySem.F.owner_object];kernel_rfl
abbrev li3(l:Addr):Obj:={ cls:=.type "list_iterator",data:=.fields #[.ref l,.int 0 0] }
abbrev z3H3(h:Heap)(l1 l2 l3:Addr):Heap:=((h.push (li3 l1)).push (li3 l2)).push (li3 l3)
abbrev z3H4(h:Heap)(l1 l2 l3:Addr):Heap:=(z3H3 h l1 l2 l3).push { cls:=.type "tuple",data:=.seq #[.ref h.objs.size,.ref (h.push (li3 l1)).objs.size,.ref ((h.push (li3 l1)).push (li3 l2)).objs.size] }
abbrev z3H5(h:Heap)(l1 l2 l3:Addr):Heap:=(z3H4 h l1 l2 l3).push { cls:=.type "tuple",data:=.seq #[.none,.none,.none] }
abbrev z3H6(h:Heap)(l1 l2 l3:Addr):Heap:=(z3H5 h l1 l2 l3).push { cls:=.type "zip",data:=.fields #[.none,.bool false,.bool false,.ref (z3H3 h l1 l2 l3).objs.size,.ref (z3H4 h l1 l2 l3).objs.size] }
theorem Ek(l1 l2 l3:Addr)(xs ys zs:Array Value) :
  Meets (Builtin.«zip.__new__» ⟨[.type "zip",.ref l1,.ref l2,.ref l3],[]⟩) (fun _ R s=>s.heap.IsList l1 xs/\s.heap.IsList l2 ys/\s.heap.IsList l3 zs /\
   R (.ok (.ret (.ref (z3H5 s.heap l1 l2 l3).objs.size))) { s with heap:=z3H6 s.heap l1 l2 l3 }) :=
 .of_wp fun prog w A R s h=>by
  obtain⟨hp,g,d,tk,os⟩:=s;obtain⟨hl1,hl2,hl3,h⟩:=h;have hsub:=sub_zip;have hL1:Heap.IsList (Shared.heap ⟨hp,g,d,tk,os⟩) l1 xs:=hl1;have hL2:Heap.IsList (Shared.heap ⟨hp.push { cls:=.type "list_iterator",data:=.fields #[.ref l1,.int 0 0] },g,d,tk,os⟩) l2 ys:=Heap.IsList.push hl2 _;have hL3:Heap.IsList (Shared.heap ⟨(hp.push { cls:=.type "list_iterator",data:=.fields #[.ref l1,.int 0 0] }).push { cls:=.type "list_iterator",data:=.fields #[.ref l2,.int 0 0] },g,d,tk,os⟩) l3 zs:=Heap.IsList.push (Heap.IsList.push hl3 _) _;wp_walk using wpAny_pyIter_list hL1,wpAny_pyIter_list hL2,wpAny_pyIter_list hL3;exact⟨_,rfl,h⟩
theorem HY{prog:Program}{w:World}{A:Around}{E:Value->Shared->Prop}{s:Shared}{l1 l2 l3:Addr}{xs ys zs:Array Value}{Q:Value->Shared->Prop}(hl1:s.heap.IsList l1 xs)(hl2:s.heap.IsList l2 ys)(hl3:s.heap.IsList l3 zs)
  (h:∀ h',IsZip h' (s.heap.objs.size+5) (s.heap.objs.size+3) (s.heap.objs.size+4) .none->bu h' (s.heap.objs.size+3) (.ref s.heap.objs.size) (.ref (s.heap.objs.size+1)) (.ref (s.heap.objs.size+2)) ->
   bu h' (s.heap.objs.size+4) .none .none .none->h'.IsListIter s.heap.objs.size l1 0->h'.IsListIter (s.heap.objs.size+1) l2 0->h'.IsListIter (s.heap.objs.size+2) l3 0 ->
   (∀ c o,s.heap.get? c=some o->h'.get? c=some o)->Q (.ref (s.heap.objs.size+5)) { s with heap:=h' }) :
  wpAny (model prog w) A (call (.type "zip") [.ref l1,.ref l2,.ref l3]) Q E s:=by
 refine callType_new PySem.F.called_zip (by decide) (rR _ _ _) (vB _ _ _) (fun obj=>CB obj _ _ _) PySem.F.entry_zip_new
  (Ek l1 l2 l3 xs ys zs) ⟨hl1,hl2,hl3,?_⟩
 have z1:(s.heap.push (li3 l1)).objs.size=s.heap.objs.size+1:=Heap.size_push ..;have z2:((s.heap.push (li3 l1)).push (li3 l2)).objs.size=s.heap.objs.size+2:=by rw[Heap.size_push,z1]
 have z3:(z3H3 s.heap l1 l2 l3).objs.size=s.heap.objs.size+3:=by rw[Heap.size_push,z2]
 have z4:(z3H4 s.heap l1 l2 l3).objs.size=s.heap.objs.size+4:=by rw[Heap.size_push,z3]
 have z5:(z3H5 s.heap l1 l2 l3).objs.size=s.heap.objs.size+5:=by rw[Heap.size_push,z4]
 have g6:(z3H6 s.heap l1 l2 l3).get? (z3H5 s.heap l1 l2 l3).objs.size=some _:=Heap.get?_push_size _ rfl;have g5:(z3H6 s.heap l1 l2 l3).get? (z3H4 s.heap l1 l2 l3).objs.size=some _:=Heap.get?_push_of_some _ (Heap.get?_push_size _ rfl);have g4:(z3H6 s.heap l1 l2 l3).get? (z3H3 s.heap l1 l2 l3).objs.size=some _:=Heap.get?_push_of_some _ (Heap.get?_push_of_some _ (Heap.get?_push_size _ rfl));have g3:(z3H6 s.heap l1 l2 l3).get? ((s.heap.push (li3 l1)).push (li3 l2)).objs.size=some _:=Heap.get?_push_of_some _ (Heap.get?_push_of_some _ (Heap.get?_push_of_some _ (Heap.get?_push_size _ rfl)));have g2:(z3H6 s.heap l1 l2 l3).get? (s.heap.push (li3 l1)).objs.size=some _:=Heap.get?_push_of_some _ (Heap.get?_push_of_some _ (Heap.get?_push_of_some _ (Heap.get?_push_of_some _ (Heap.get?_push_size _ rfl))));have g1:(z3H6 s.heap l1 l2 l3).get? s.heap.objs.size=some _:=Heap.get?_push_of_some _ (Heap.get?_push_of_some _ (Heap.get?_push_of_some _ (Heap.get?_push_of_some _ (Heap.get?_push_of_some _ (Heap.get?_push_size _ rfl)))));show _/\_;rw[z3,z4,z5]at g6;rw[z4]at g5;rw[z3,z1,z2]at g4;rw[z2]at g3;rw[z1]at g2;rw[z5]
 exact⟨⟨_,g6,rfl⟩,h _ g6 g4 g5 ⟨_,g1,rfl,rfl⟩ ⟨_,g2,rfl,rfl⟩ ⟨_,g3,rfl,rfl⟩ fun c o x =>
  Heap.get?_push_of_some _ (Heap.get?_push_of_some _ (Heap.get?_push_of_some _ (Heap.get?_push_of_some _ (Heap.get?_push_of_some _ (Heap.get?_push_of_some _ x)))))⟩
def Itz3(K:Mz)(a b c:Addr):It :=
 ⟨fun i H=>∃ xs ys zs x y z,SqL K H a xs/\SqL K H b ys/\SqL K H c zs/\xs[i]?=some x/\ys[i]?=some y/\zs[i]?=some z,
  fun i H v H'=>∃ T x y z,H T=none/\v=.ref T/\H'=upd H T (.tup [x,y,z])/\(∀ xs,SqL K H a xs->xs[i]?=some x)/\(∀ ys,SqL K H b ys->ys[i]?=some y)/\∀ zs,SqL K H c zs->zs[i]?=some z,
  fun i H=>∃ xs ys zs,SqL K H a xs/\SqL K H b ys/\SqL K H c zs/\(xs.length<=i∨ys.length<=i∨zs.length<=i)⟩
theorem Fo{P:Program}{w:World}{K:Mz}{es:List Expr}{k:Nat}{pos:Pos}(a b c z TI TO i1 i2 i3:Addr)(D:Z3 z TI TO i1 i2 i3 a b c):Turn P w K (.Tuple es k pos) (Itz3 K a b c) [z,TI,TO,i1,i2,i3] z
  (fun i h=>IsZip h z TI TO .none/\bu h TI (.ref i1) (.ref i2) (.ref i3)/\(∃ u v w,bu h TO u v w)/\h.IsListIter i1 a i/\h.IsListIter i2 b i/\h.IsListIter i3 c i) where
 mem:=by simp
 obj:=fun i h st d hd=>by
  obtain⟨kz,kI,⟨u,v,w,kO⟩,⟨o1,q1,c1,d1⟩,⟨o2,q2,c2,d2⟩,⟨o3,q3,c3,d3⟩⟩:=st;simp only[MG,NC,or_false]at hd;rcases hd with rfl | rfl | rfl | rfl | rfl | rfl
  ·exact⟨_,kz,fun v z=>by have z':Data.fields _=Data.cell v:=z;cases z'⟩
  ·exact⟨_,kI,fun v z=>by have z':Data.seq _ _=Data.cell v:=z;cases z'⟩
  ·exact⟨_,kO,fun v z=>by have z':Data.seq _ _=Data.cell v:=z;cases z'⟩
  ·exact⟨o1,q1,fun v z=>by rw[d1]at z;cases z⟩
  ·exact⟨o2,q2,fun v z=>by rw[d2]at z;cases z⟩
  ·exact⟨o3,q3,fun v z=>by rw[d3]at z;cases z⟩
 keep:=fun i h h' st kk=>by
  obtain⟨kz,kI,⟨u,v,w,kO⟩,k1,k2,k3⟩:=st;exact⟨kk _ (by simp) _ kz,kk _ (by simp) _ kI,⟨u,v,w,kk _ (by simp) _ kO⟩,k1.at fun o q=>kk i1 (by simp) o q,k2.at fun o q=>kk i2 (by simp) o q,k3.at fun o q=>kk i3 (by simp) o q⟩
 item:=by
  intro X hP hw hK hc i pins s σ H E I hf st hg;subst hP hw hK;obtain⟨xs,ys,zs,x,y,t,hq,hr,ht,hx,hy,hv⟩:=hg;obtain⟨its,rv,p,hz⟩:=I.list hq;obtain⟨its2,rv2,p2,hz2⟩:=I.list hr;obtain⟨its3,rv3,p3,hz3⟩:=I.list ht;obtain⟨u,hu,ru⟩:=rv.get hx;obtain⟨u2,hu2,ru2⟩:=rv2.get hy;obtain⟨u3,hu3,ru3⟩:=rv3.get hv;obtain⟨kz,kI,⟨o1,o2,o3,kO⟩,k1,k2,k3⟩:=st;refine KH D kz kI kO k1 k2 k3 p.isList p2.isList p3.isList (x:=u) (y:=u2) (v:=u3) (by simpa using hu) (by simpa using hu2) (by simpa using hu3) fun h' a1 a2 a3 a4 a5 a6 a7 hk=>?_
  refine⟨_,rfl,?_⟩;refine wpAny_letOwnedTupleGo_zip a1 fun h2 g1 hs2=>?_;have hs2':Heap.SameBut z h' h2:=hs2;have hfb:∀ d∈[z,TI,TO,i1,i2,i3],d<s.heap.objs.size:=fun d hd=>by
   simp only[MG,NC,or_false]at hd;rcases hd with rfl | rfl | rfl | rfl | rfl | rfl
   ·exact Heap.lt_size kz
   ·exact Heap.lt_size kI
   ·exact Heap.lt_size kO
   ·obtain⟨_,q,_⟩:=k1;exact Heap.lt_size q
   ·obtain⟨_,q,_⟩:=k2;exact Heap.lt_size q
   ·obtain⟨_,q,_⟩:=k3;exact Heap.lt_size q
  have hfr:H s.heap.objs.size=none:=I.hok.fresh (MC _);have I0:Inv X pins σ (upd H s.heap.objs.size (.tup [x,y,t])) { s with heap:=s.heap.push { cls:=.type "tuple",data:=.seq #[u,u2,u3] },toks:=s.toks } :=
   I.laid (t':=s.toks) (fun b u e=>Heap.get?_push_of_some _ e) (MC _) ⟨by show 3<=sizeLine;decide,[u,u2,u3],.cons ru (.cons ru2 (.cons ru3 .nil)),⟨_,Heap.get?_push_size _ rfl,rfl,_,rfl⟩⟩
  have hn:∀ d∈[z,TI,TO,i1,i2,i3],upd H s.heap.objs.size (.tup [x,y,t]) d=none:=fun d hd=>by
   rw[aq (M3 (hfb d hd))];exact(hf d hd).1
  have sub5:∀ d,d∉[z,TI,TO,i1,i2,i3]->d∉[z,TO,i1,i2,i3]:=fun d hd q=>hd (by
   simp only[MG,NC,or_false]at q ⊢
   rcases q with q | q | q | q | q<;>simp[q])
  have I2:Inv X pins σ (upd H s.heap.objs.size (.tup [x,y,t])) { s with heap:=h2,toks:=s.toks }:=Inv.turnedL (s:={ s with heap:=s.heap.push { cls:=.type "tuple",data:=.seq #[u,u2,u3] },toks:=s.toks }) (h':=h2) I0 (t':=s.toks) (fp:=[z,TI,TO,i1,i2,i3]) (fun d o hd q=>by
   have n1:d≠z:=fun e=>hd (by simp[e])
   refine(hs2'.2 d n1).trans ?_;rcases Heap.get?_push_cases q with⟨z1,z2⟩ | q
   ·rw[z1,z2];exact a6
   ·exact hk d o (sub5 d hd) q) fun d hd=>⟨hn d hd,(hf d hd).2⟩
  have TIn:TI∉[z,TO,i1,i2,i3]:=by
   simp only[MG,NC,or_false,not_or];exact⟨D.zs _ (by simp),D.ts _ (by simp),D.is1 _ (by simp),D.is2 _ (by simp),D.is3 _ (by simp)⟩
  refine⟨.ref s.heap.objs.size,_,I2,rfl,⟨s.heap.objs.size,x,y,t,hfr,rfl,rfl,fun zs h=>by rw[I.list_inj h hq];exact hx,fun zs h=>by rw[I.list_inj h hr];exact hy,fun zs h=>by rw[I.list_inj h ht];exact hv⟩,?_,hn⟩
  refine⟨g1,(hs2'.2 TI (D.zs _ (by simp))).trans (hk _ _ TIn kI),⟨_,_,_,(hs2'.2 TO (D.zs _ (by simp))).trans a2⟩,a3.at fun o q=>(hs2'.2 i1 (D.zs _ (by simp))).trans q,a4.at fun o q=>(hs2'.2 i2 (D.zs _ (by simp))).trans q,a5.at fun o q=>(hs2'.2 i3 (D.zs _ (by simp))).trans q⟩
 done:=by
  intro X hP hw hK hc i pins s σ H E I hf st hg;subst hP hw hK;obtain⟨xs,ys,zs,hq,hr,ht,hx⟩:=hg;obtain⟨its,rv,p,hz⟩:=I.list hq;obtain⟨its2,rv2,p2,hz2⟩:=I.list hr;obtain⟨its3,rv3,p3,hz3⟩:=I.list ht;obtain⟨kz,kI,⟨o1,o2,o3,kO⟩,k1,k2,k3⟩:=st;have hl:=rv.length;have hl2:=rv2.length;have hl3:=rv3.length
  refine KJ (I.ok.hd hc) D kz kI kO k1 k2 k3 p.isList p2.isList p3.isList ?_ fun h' eb=>⟨rfl,Inv.turnedL I (t':=s.toks) (fun d o hd e=>eb d o (fun q=>hd (by
   simp only[MG,NC,or_false]at q ⊢
   rcases q with q | q | q | q | q<;>simp[q])) e) hf⟩
  rcases hx with hx | hx | hx
  ·exact .inl (by simp;omega)
  ·exact .inr (.inl (by simp;omega))
  ·exact .inr (.inr (by simp;omega))
 self:=fun _ _ _ _ _ st h=>wpAny_pyIter_zip st.1 h
theorem Iu(n a b c:Nat)(ha:a<n)(hb:b<n)(hc:c<n):Z3 (n+5) (n+3) (n+4) n (n+1) (n+2) a b c:=by
 refine⟨?_,?_,?_,?_,?_⟩<;>(simp only[MG,NC,or_false,forall_eq_or_imp,forall_eq])
 ·exact⟨aY _ _ (by omega),aY _ _ (by omega),aY _ _ (by omega),aY _ _ (by omega),aY _ _ (by omega),aY _ _ (by omega),aY _ _ (by omega),aY _ _ (by omega)⟩
 ·exact⟨aY _ _ (by omega),aY _ _ (by omega),aY _ _ (by omega),aY _ _ (by omega),aY _ _ (by omega),aY _ _ (by omega),aY _ _ (by omega)⟩
 ·exact⟨aY _ _ (by omega),aY _ _ (by omega),aY _ _ (by omega),aY _ _ (by omega),aY _ _ (by omega),aY _ _ (by omega)⟩
 ·exact⟨aY _ _ (by omega),aY _ _ (by omega),aY _ _ (by omega),aY _ _ (by omega),aY _ _ (by omega),aY _ _ (by omega)⟩
 ·exact⟨aY _ _ (by omega),aY _ _ (by omega),aY _ _ (by omega),aY _ _ (by omega),aY _ _ (by omega),aY _ _ (by omega)⟩
theorem vals3{a b c:V}{us:List Value}(h:Vals [a,b,c] us):∃ u v w,us = [u,v,w]/\RelV a u/\RelV b v/\RelV c w:=by
 cases h with
 |cons r1 t=>cases t with
  |cons r2 t=>cases t with
   |cons r3 t=>cases t;exact⟨_,_,_,rfl,r1,r2,r3⟩
section
variable{X:Cx}
def iZip3(K:Mz)(ta:TA):TI:=fun σ H R=>ta σ H fun vs H1=>∃ a b c,vs = [.ref a,.ref b,.ref c]/\(∃ xs,SqL K H1 a xs)/\(∃ ys,SqL K H1 b ys)/\(∃ zs,SqL K H1 c zs)/\R (Itz3 K a b c) H1
theorem Ll{l1 l2 l3:Expr}{ta:TA}{es:List Expr}{k:Nat}{tp p pos:Pos} (hg:Gl X "zip") (hm:X.mg "zip" = none) (ha:PA X [l1,l2,l3] ta) (hs:starEach [l1,l2,l3] X.env=(false,eval l1 X.env)::starEach [l2,l3] X.env:=by rfl) (hs2:(backTo pos (starEach [l2,l3] X.env)).any (·.1)=false:=by rfl) :
  PI X (.Tuple es k tp) (.Call (.Name "zip" p) [l1,l2,l3] [] pos) (iZip3 X.K ta):=by
 intro pins s σ H R I h;refine Call_ (jZ I hg hm bt_zip (PyProof.Rows.callWith_type1 (thn (ha pos pins s σ H _ I h) fun us s1 ⟨vs,H1,I1,r1,q1⟩=>?_) hs hs2));obtain⟨a,b,c,e,⟨xs,hq⟩,⟨ys,hr⟩,⟨zs,ht⟩,q⟩:=q1;subst e;obtain⟨u,u2,u3,rfl,ru,ru2,ru3⟩:=vals3 r1
 cases ru
 cases ru2
 cases ru3
 obtain⟨its,rv,p,hz⟩:=I1.list hq;obtain⟨its2,rv2,p2,hz2⟩:=I1.list hr;obtain⟨its3,rv3,p3,hz3⟩:=I1.list ht;have la:a<s1.heap.objs.size:=by obtain⟨_,_,q,_⟩:=p;exact Heap.lt_size q
 have lb:b<s1.heap.objs.size:=by obtain⟨_,_,q,_⟩:=p2;exact Heap.lt_size q
 have lc:c<s1.heap.objs.size:=by obtain⟨_,_,q,_⟩:=p3;exact Heap.lt_size q
 refine HY p.isList p2.isList p3.isList fun h' kz kI kO k1 k2 k3 hk=>?_;refine wpAny_pyIter_zip kz ?_
 refine⟨s1.heap.objs.size+5,[s1.heap.objs.size+5,s1.heap.objs.size+3,s1.heap.objs.size+4,s1.heap.objs.size,s1.heap.objs.size+1,s1.heap.objs.size+2],_,_,H1,rfl,I1.kept (t':=s1.toks) hk,
  Fo a b c (s1.heap.objs.size+5) (s1.heap.objs.size+3) (s1.heap.objs.size+4) s1.heap.objs.size (s1.heap.objs.size+1) (s1.heap.objs.size+2) (Iu _ a b c la lb lc),⟨kz,kI,⟨_,_,_,kO⟩,k1,k2,k3⟩,fun d hd=>?_,q⟩
 have hb':s1.heap.objs.size<=d:=by
  simp only[MG,NC,or_false]at hd;rcases hd with rfl | rfl | rfl | rfl | rfl | rfl
  ·exact Pa _ _
  ·exact Pa _ _
  ·exact Pa _ _
  ·exact MC _
  ·exact Pa _ _
  ·exact Pa _ _
 exact I1.fpOk hb' (I1.hok.fresh hb')
end
theorem JJ{K:Mz}{a b c:Addr}{xs ys zs:List V}{g:TG}{tb:TS}{D:Ends}{σ:St}{H:Hp}(n:Nat)(Pv:Nat->St->Hp->Prop)(h0:Pv 0 σ H)(h1:n<=xs.length)(h2:n<=ys.length)(h3:zs.length=n)(hl:∀ i σ H,i<=n->Pv i σ H->SqL K H a xs/\SqL K H b ys/\SqL K H c zs)
  (hs:∀ i x y z σ H T,xs[i]?=some x->ys[i]?=some y->zs[i]?=some z->Pv i σ H->H T=none->g (.ref T) σ (upd H T (.tup [x,y,z])) fun σ2 H2=>tb { D with nx:=Pv (i+1),ct:=Pv (i+1),bk:=D.nx } σ2 H2) (hd:∀ σ H,Pv n σ H->D.nx σ H) :
  ∃ W:Nat->Nat->St->Hp->Prop,(∃ m,W 0 m σ H)/\∀ i m σ H,W i m σ H ->
   ((Itz3 K a b c).stop i H/\D.nx σ H)∨((Itz3 K a b c).go i H/\∃ N:St->Hp->Prop,(∀ σ' H',N σ' H'->∃ m',m'<m/\W (i+1) m' σ' H')/\∀ x H',(Itz3 K a b c).yld i H x H'->g x σ H' fun σ2 H2=>tb { D with nx:=N,ct:=N,bk:=D.nx } σ2 H2):=by
 refine⟨fun i m σ H=>m=n-i/\i<=n/\Pv i σ H,⟨n,by simp,NA _,h0⟩,?_⟩
 rintro i m σ H ⟨rfl,hi,p⟩;obtain⟨q1,q2,q3⟩:=hl i σ H hi p;by_cases hlt:i<n
 ·have l1:i<xs.length:=by omega
  have l2:i<ys.length:=by omega
  have l3:i<zs.length:=by omega
  refine .inr ⟨⟨xs,ys,zs,xs[i],ys[i],zs[i],q1,q2,q3,by simp[l1],by simp[l2],by simp[l3]⟩,Pv (i+1),fun σ' H' p'=>⟨n-(i+1),by omega,rfl,hlt,p'⟩,fun v H' y=>?_⟩
  obtain⟨T,x,y,z,hT,rfl,rfl,y1,y2,y3⟩:=y;exact hs i x y z σ _ T (y1 xs q1) (y2 ys q2) (y3 zs q3) p hT
 ·have e:i=n:=by omega
  subst e;exact .inl ⟨⟨xs,ys,zs,q1,q2,q3,.inr (.inr (by omega))⟩,hd σ H p⟩
end L2
namespace PyProof.RowsP
open PySem PyProof.Rows
local macro_rules | `(tactic| walk_at "gallop") => do
 let n:=Lean.mkIdent (Lean.mkPrivateNameCore `PySem.Builtin.List.W1All `PySem.Builtin.gallop)
 `(tactic| delta $n)
local macro_rules | `(tactic| walk_at "st") => `(tactic| try dsimp -zeta -zetaHave only)
local macro_rules | `(tactic| walk_at "l4") => `(tactic| (extract_lets -underBinder +onlyGivenNames a b; subst a b))
abbrev Hm:Bool->Keyed->Array Keyed->Nat->Nat->Nat->StateT SortSt Sem (Option Nat):=sortPriv% PySem.Builtin.gallop
class KeyFn where
 kf:Value->Int
 ip:Value->Prop
 kd:SortKind
def IntP [KF:KeyFn] (p:Keyed):Prop:=KeyFn.ip p.1
def ky [KF:KeyFn] (p:Keyed):Int:=KeyFn.kf p.1
def K [KF:KeyFn] (xs:Array Keyed) (i:Nat):Int:=match xs[i]? with | some p=>ky p | none=>0
def jl [KF:KeyFn] (xs:Array Keyed):Prop:=∀ p,p∈xs.toList->IntP p
theorem rG [KF:KeyFn] {xs ys:Array Keyed} {i j:Nat} (h:xs[i]?=ys[j]?):K xs i=K ys j:=by unfold K;rw[h]
theorem K_eq [KF:KeyFn] {xs:Array Keyed} {i:Nat} (hi:i<xs.size):K xs i=ky xs[i]:=by unfold K;rw[getElem?_pos xs i hi]
theorem JW [KF:KeyFn] {xs:Array Keyed} {i j:Nat} (hj:j<=xs.size) (k:Nat):K (mirror xs i j ((j-i)/2)) k=if i<=k/\k<j then K xs (i+j-1-k) else K xs k:=by
 have e:=getElem?_mirror_all (i:=i) hj k;by_cases h1:i<=k/\k<j
 ·rw[if_pos h1]at e ⊢;exact rG e
 ·rw[if_neg h1]at e ⊢;exact rG e
theorem DJ [KF:KeyFn] {xs:Array Keyed} {src d:Nat} (hs:src<xs.size) (hd:d<=src) (k:Nat):K (bubble xs src d) k=if k=src-d then K xs src else if src-d<k/\k<=src then K xs (k-1) else K xs k:=by
 have e:=getElem?_bubble hs d hd k;by_cases h1:k=src-d
 ·rw[if_pos h1]at e ⊢;exact rG e
 ·rw[if_neg h1]at e ⊢;by_cases h2:src-d<k/\k<=src
  ·rw[if_pos h2]at e ⊢;exact rG e
  ·rw[if_neg h2]at e ⊢;exact rG e
class LtOk (prog:Program) (w:World) (A:Around) (E:Value->Shared->Prop) (s:Shared) [KF:KeyFn]:Prop where
 lt:∀{st:SortSt}{x y:Keyed}{Q:Option Bool->SortSt->Prop},kindOf st=KeyFn.kd->IntP x->IntP y->Q (some (decide (ky x<ky y))) st->wpS (model prog w) A E s ((sortPriv% PySem.Builtin.lt) x y) Q st
theorem aJ{σ α:Type}{M:Model}{A:Around}{E:Value->Shared->Prop}{s:Shared}{c:Prop} [Decidable c] {a b:StateT σ Sem α} {Q:α->σ->Prop} {st:σ} (h:c) (q:wpS M A E s a Q st):wpS M A E s (if c then a else b) Q st:=by rw[if_pos h];exact q
theorem aI{σ α:Type}{M:Model}{A:Around}{E:Value->Shared->Prop}{s:Shared}{c:Prop} [Decidable c] {a b:StateT σ Sem α} {Q:α->σ->Prop} {st:σ} (h:¬ c) (q:wpS M A E s b Q st):wpS M A E s (if c then a else b) Q st:=by rw[if_neg h];exact q
variable{prog:Program}{w:World}{A:Around}{E:Value->Shared->Prop}{s:Shared} [KF:KeyFn] [LO:LtOk prog w A E s]
theorem pJ{st:SortSt}{x y:Keyed}{Q:Option Bool->SortSt->Prop}(hk:kindOf st=KeyFn.kd)(hx:IntP x)(hy:IntP y)(h:Q (some (decide (ky x<ky y))) st):wpS (model prog w) A E s ((sortPriv% PySem.Builtin.lt) x y) Q st:=LtOk.lt hk hx hy h
theorem aQ{st:SortSt}{arr:Array Keyed}{i:Nat}{p:Keyed}{Q:Keyed->SortSt->Prop}(hi:arr[i]?=some p)(h:Q p st):wpS (model prog w) A E s ((sortPriv% PySem.Builtin.elem) arr i) Q st:=by
 show wpS (model prog w) A E s (elem' arr i) Q st;rw[elem'_eq,hi];exact wpS_pure h
theorem jq{st:SortSt}{left:Bool}{key:Keyed}{arr:Array Keyed}{base n hint:Nat}{Q:Option Nat->SortSt->Prop}(f:Nat->Bool)(hk:kindOf st=KeyFn.kd)(hkey:IntP key)(hin:∀ i,i<n->∃ p,arr[base+i]?=some p/\IntP p/\f i=if left then decide (ky p<ky key) else !decide (ky key<ky p))
  (mono:∀ i j,i<=j->j<n->f j=true->f i=true) (hh:hint<n) (h:∀ k,k<=n->(∀ i,i<k->f i=true)->(∀ i,k<=i->i<n->f i=false)->Q (some k) st) :
  wpS (model prog w) A E s (Hm left key arr base n hint) Q st:=by
 unfold Hm;walk_at "gallop";extract_lets -underBinder +onlyGivenNames beyond;clear_value (eb:beyond=_);have hb:∀(i:Nat)(Q':Option Bool->SortSt->Prop),i<n->Q' (some (f i)) st->wpS (model prog w) A E s (beyond i) Q' st:=by
  intro i Q' hi q;obtain⟨p,hp,ip,ef⟩:=hin i hi;rw[eb];refine wpS_bind (aQ hp ?_);rw[ef]at q
  cases left with
  |true=>exact pJ hk ip hkey q
  |false=>exact wpS_bind (pJ hk hkey ip (wpS_pure q))
 clear eb;walk_at "l4";refine wpS_bind (hb hint _ hh ?_);walk_at "st";have nmono:∀ i j,i<=j->j<n->f i=false->f j=false:=fun i j hij hj e=>by
  cases z:f j with
  |false=>rfl
  |true=>rw[mono i j hij hj z]at e;cases e
 extract_lets -underBinder +onlyGivenNames jp;clear_value (ej:jp=_);have hj:∀(u:Unit)(a0 a1 lo hi:Nat),lo<=hi->hi<=n->(∀ i,i<lo->f i=true)->(∀ i,hi<=i->i<n->f i=false)->wpS (model prog w) A E s (jp u a0 a1 lo hi) Q st:=by
  intro u a0 a1 lo hi h1 h2 h3 h4;rw[ej];dsimp only
  refine wpS_bind (wpS_mono (wpS_forRange (I:=fun x c st'=>st'=st/\∃ l r,c=(none,l,r)/\l<=r/\r<=n/\r-l<=n-x/\(∀ i,i<l->f i=true)/\(∀ i,r<=i->i<n->f i=false))
   (Q:=fun c st'=>st'=st/\∃ l,c=(none,l,l)/\l<=n/\(∀ i,i<l->f i=true)/\(∀ i,l<=i->i<n->f i=false)) ?step ?fin ⟨rfl,lo,hi,rfl,h1,h2,by omega,h3,h4⟩) ?post)
  case post =>
   rintro c st' ⟨rfl,l,rfl,g1,g2,g3⟩;exact wpS_pure (h l g1 g2 g3)
  case fin =>
   rintro c st' ⟨rfl,l,r,rfl,g1,g2,g3,g4,g5⟩;have:l=r:=by omega
   subst this;exact⟨rfl,l,rfl,g2,g4,g5⟩
  case step =>
   rintro x c st' _ hx ⟨rfl,l,r,rfl,g1,g2,g3,g4,g5⟩;dsimp only;by_cases z:l ≥ r
   ·refine aJ z ?_;have:l=r:=by omega
    subst this;exact wpS_pure ⟨rfl,l,rfl,g2,g4,g5⟩
   ·refine aI z ?_;refine wpS_bind (hb _ _ (by omega) ?_)
    cases e:f (l+(r-l)/2) with
    |true=>exact wpS_pure ⟨rfl,_,r,rfl,by omega,g2,by omega,fun i hi=>mono i _ (by omega) (by omega) e,g5⟩
    |false=>exact wpS_pure ⟨rfl,l,_,rfl,by omega,by omega,by omega,g4,fun i h1 h2=>nmono _ i h1 h2 e⟩
 clear ej
 cases er:f hint with
 |true =>
  refine aJ rfl ?_;dsimp only
  refine wpS_bind (wpS_mono (wpS_forRange (I:=fun x c st'=>st'=st/\∃ l o,c=(none,l,o)/\l<o/\x+1<=o/\hint+l<n/\f (hint+l)=true)
   (Q:=fun c st'=>st'=st/\∃ l o,c=(none,l,o)/\l<o/\hint+l<n/\f (hint+l)=true/\(n-hint<=o∨f (hint+o)=false)) ?step ?fin ⟨rfl,0,1,rfl,by omega,by omega,by omega,er⟩) ?post)
  case post =>
   rintro c st' ⟨rfl,l,o,rfl,g1,g2,g3,g4⟩;dsimp only;refine hj _ _ _ _ _ (by omega) (by omega) (fun i hi=>mono i _ (by omega) g2 g3) fun i h1 h2=>?_
   rcases g4 with g4 | g4
   ·omega
   ·exact nmono (hint+o) i (by omega) h2 g4
  case fin =>
   rintro c st' ⟨rfl,l,o,rfl,g1,g2,g3,g4⟩;exact⟨rfl,l,o,rfl,g1,g3,g4,.inl (by omega)⟩
  case step =>
   rintro x c st' _ hx ⟨rfl,l,o,rfl,g1,g2,g3,g4⟩;dsimp only;by_cases z:o ≥ n-hint
   ·refine aJ z ?_;exact wpS_pure ⟨rfl,l,o,rfl,g1,g3,g4,.inl z⟩
   ·refine aI z ?_;refine wpS_bind (hb _ _ (by omega) ?_)
    cases e:f (hint+o) with
    |true=>exact wpS_pure ⟨rfl,_,_,rfl,by omega,by omega,by omega,e⟩
    |false=>exact wpS_pure ⟨rfl,l,o,rfl,g1,g3,g4,.inr e⟩
 |false =>
  refine aI MQ ?_;dsimp only
  refine wpS_bind (wpS_mono (wpS_forRange (I:=fun x c st'=>st'=st/\∃ l o,c=(none,l,o)/\l<o/\x+1<=o/\l<=hint/\f (hint-l)=false)
   (Q:=fun c st'=>st'=st/\∃ l o,c=(none,l,o)/\l<o/\l<=hint/\f (hint-l)=false/\(hint+1<=o∨f (hint-o)=true)) ?step ?fin ⟨rfl,0,1,rfl,by omega,by omega,by omega,er⟩) ?post)
  case post =>
   rintro c st' ⟨rfl,l,o,rfl,g1,g2,g3,g4⟩;dsimp only;refine hj _ _ _ _ _ (by omega) (by omega) (fun i hi=>?_) fun i h1 h2=>nmono _ i h1 h2 g3
   rcases g4 with g4 | g4
   ·omega
   ·exact mono i (hint-o) (by omega) (by omega) g4
  case fin =>
   rintro c st' ⟨rfl,l,o,rfl,g1,g2,g3,g4⟩;exact⟨rfl,l,o,rfl,g1,g3,g4,.inl (by omega)⟩
  case step =>
   rintro x c st' _ hx ⟨rfl,l,o,rfl,g1,g2,g3,g4⟩;dsimp only;by_cases z:o ≥ hint+1
   ·refine aJ z ?_;exact wpS_pure ⟨rfl,l,o,rfl,g1,g3,g4,.inl z⟩
   ·refine aI z ?_;refine wpS_bind (hb _ _ (by omega) ?_)
    cases e:f (hint-o) with
    |true=>exact wpS_pure ⟨rfl,l,o,rfl,g1,g3,g4,.inr e⟩
    |false=>exact wpS_pure ⟨rfl,_,_,rfl,by omega,by omega,by omega,e⟩
def Upl(l:List Keyed):Prop:=l.Pairwise fun x y=>ky x<=ky y
structure LM(P R o:List Keyed)(i j:Nat):Prop where
 pm:o.Perm (P.take i++R.take j)
 up:Upl o
 la:∀ x∈o,∀ y∈P.drop i,ky x<=ky y
 lb:∀ x∈o,∀ y∈R.drop j,ky x<=ky y
theorem LM.swap{P R o:List Keyed}{i j:Nat}(h:LM P R o i j):LM R P o j i:=⟨h.pm.trans N9,h.up,h.lb,h.la⟩
theorem LM.a{P R o:List Keyed}{i j:Nat}(h:LM P R o i j)(u:Upl P)(k:Nat)(c:∀ x∈(P.drop i).take k,∀ y∈R.drop j,ky x<=ky y):LM P R (o++(P.drop i).take k) (i+k) j where
 pm:=by
  rw[Pd,Nm];refine(h.pm.append_right _).trans ?_;rw[Nm];exact Oa _ N9
 up:=NB.mpr ⟨h.up,(u.drop).take,fun x hx y hy=>h.la x hx y (NL hy)⟩
 la:=fun x hx y hy=>by
  rw[← OQ]at hy;rcases MH.mp hx with hx | hx
  ·exact h.la x hx y (NM hy)
  ·have z:Upl ((P.drop i).take k++(P.drop i).drop k):=by rw[M9];exact u.drop
   exact(NB.mp z).2.2 x hx y hy
 lb:=fun x hx y hy=>by
  rcases MH.mp hx with hx | hx
  ·exact h.lb x hx y hy
  ·exact c x hx y hy
theorem LM.fin{P R o:List Keyed}{i j:Nat}(h:LM P R o i j)(u:Upl P)(v:Upl R)(c:∀ x∈P.drop i,∀ y∈R.drop j,ky x<=ky y):(o++P.drop i++R.drop j).Perm (P++R)/\Upl (o++P.drop i++R.drop j):=by
 constructor
 ·refine((h.pm.append_right _).append_right _).trans ?_;have e:P++R=(P.take i++P.drop i)++(R.take j++R.drop j):=by rw[M9,M9]
  rw[e,← Nm];refine List.Perm.append_right _ ?_;rw[Nm,Nm];exact Oa _ N9
 ·refine NB.mpr ⟨NB.mpr ⟨h.up,u.drop,h.la⟩,v.drop,fun x hx y hy=>?_⟩;rcases MH.mp hx with hx | hx
  ·exact h.lb x hx y hy
  ·exact c x hx y hy
end PyProof.RowsP
namespace PyProof.RowsP
open PySem PyProof.Rows
local macro_rules | `(tactic| walk_at "setG") => do
 let n:=Lean.mkIdent (Lean.mkPrivateNameCore `PySem.Builtin.List.W1All `PySem.Builtin.setMinGallop)
 `(tactic| delta $n)
local macro_rules | `(tactic| walk_at "mergeLo") => do
 let n:=Lean.mkIdent (Lean.mkPrivateNameCore `PySem.Builtin.List.W1All `PySem.Builtin.mergeLo)
 `(tactic| delta $n)
local macro_rules | `(tactic| walk_at "st") => `(tactic| try dsimp -zeta -zetaHave only)
local macro_rules | `(tactic| walk_at "l3") => `(tactic| (extract_lets -underBinder +onlyGivenNames a b c; subst a b c))
local macro_rules | `(tactic| walk_at "l11") => `(tactic| (extract_lets -underBinder +onlyGivenNames a b c d e f g h i j k; subst a b c d e f g h i j k; dsimp -zeta -zetaHave only))
variable{prog:Program}{w:World}{A:Around}{E:Value->Shared->Prop}{s:Shared} [KF:KeyFn] [LO:LtOk prog w A E s]
structure SmG(st st':SortSt):Prop where
 k:kindOf st'=kindOf st
 a:arrOf st'=arrOf st
 p:pendingOf st'=pendingOf st
 f:failedOf st'=failedOf st
theorem SmG.rfl'(st:SortSt):SmG st st:=⟨rfl,rfl,rfl,rfl⟩
theorem SmG.trans{a b c:SortSt}(h:SmG a b)(g:SmG b c):SmG a c:=⟨g.k.trans h.k,g.a.trans h.a,g.p.trans h.p,g.f.trans h.f⟩
theorem o8{st:SortSt}{g:Nat}{Q:Unit->SortSt->Prop}(h:∀ st',SmG st st'->Q () st'):wpS (model prog w) A E s ((sortPriv% PySem.Builtin.setMinGallop) g) Q st:=by
 walk_at "setG";exact wpS_modify (h _ ⟨rfl,rfl,rfl,rfl⟩)
theorem iY(a:Array Keyed)(i:Nat):(a.extract i).toList=a.toList.drop i:=by
 rw[Pc,OP];exact Nl (by rw[Nu];exact MC _)
theorem pF(a:Array Keyed)(i k:Nat):(a.extract i (i+k)).toList=(a.toList.drop i).take k:=by
 rw[Pc,OP];congr 1;omega
theorem gc{P:List Keyed}{i:Nat}{x:Keyed}(h:P[i]?=some x):(P.drop i).take 1 = [x]:=by
 have hi:=(Mw.mp h).1;rw[Om hi];rw[Mx hi]at h
 cases h
 rfl
theorem LM.a1{P R o:List Keyed}{i j:Nat}{x:Keyed}(h:LM P R o i j)(u:Upl P)(hx:P[i]?=some x)(c:∀ y∈R.drop j,ky x<=ky y):LM P R (o++[x]) (i+1) j:=by
 have:=h.a u 1 (by rw[gc hx];intro z hz;rw[M4.mp hz];exact c)
 rwa[gc hx]at this
theorem j7{P:List Keyed}{i:Nat}{x:Keyed}(u:Upl P)(hx:P[i]?=some x):∀ y∈P.drop i,ky x<=ky y:=by
 have hi:=(Mw.mp hx).1;have z:Upl (P.drop i):=u.drop;rw[Om hi]at z ⊢;rw[Mx hi]at hx
 cases hx
 intro y hy;rcases MG.mp hy with rfl | hy
 ·exact N3 _
 ·exact(Oj.mp z).1 y hy
theorem Gy{P:List Keyed}{i k:Nat}{x:Keyed}(h:x∈(P.drop i).take k):∃ m,m<k/\P[i+m]?=some x:=by
 obtain⟨m,hm,e⟩:=List.getElem_of_mem h;rw[Nf,Nu]at hm;refine⟨m,by omega,?_⟩
 rw[Pw,P9]at e;rw[Mx (by omega),e]
theorem IA{P:List Keyed}{i j:Nat}{x y:Keyed}(u:Upl P)(hx:P[i]?=some x)(hy:P[j]?=some y)(h:i<=j):ky x<=ky y:=j7 u hx y (by
 have hj:=(Mw.mp hy).1;refine My (i:=j-i) ?_
 rw[OB,show i+(j-i)=j by omega,hy])
theorem GA{P:List Keyed}{i:Nat}{x:Keyed}(h:x∈P.drop i):∃ m,P[i+m]?=some x:=by
 obtain⟨m,hm⟩:=NN h;exact⟨m,by rw[← hm,OB]⟩
def fR(P:List Keyed)(i:Nat)(v:Keyed)(m:Nat):Bool:=match P[i+m]? with | some p=>!decide (ky v<ky p) | none=>false
def fL(P:List Keyed)(i:Nat)(v:Keyed)(m:Nat):Bool:=match P[i+m]? with | some p=>decide (ky p<ky v) | none=>false
theorem qK{P:List Keyed}{i m:Nat}{v p:Keyed}(h:P[i+m]?=some p):fR P i v m = !decide (ky v<ky p):=by unfold fR;rw[h]
theorem sI{P:List Keyed}{i m:Nat}{v p:Keyed}(h:P[i+m]?=some p):fL P i v m=decide (ky p<ky v):=by unfold fL;rw[h]
theorem Md{P:List Keyed}{i:Nat}{v:Keyed}(u:Upl P){n:Nat}(hn:i+n<=P.length):∀ x y,x<=y->y<n->fR P i v y=true->fR P i v x=true:=fun x y hxy hy e=>by
 have hx:P[i+x]?=some P[i+x]:=Mx (by omega)
 have hy':P[i+y]?=some P[i+y]:=Mx (by omega)
 rw[qK hy']at e;rw[qK hx];have:=IA u hx hy' (by omega)
 simp only[O7,decide_eq_false_iff_not]at e ⊢;omega
theorem Mf{P:List Keyed}{i:Nat}{v:Keyed}(u:Upl P){n:Nat}(hn:i+n<=P.length):∀ x y,x<=y->y<n->fL P i v y=true->fL P i v x=true:=fun x y hxy hy e=>by
 have hx:P[i+x]?=some P[i+x]:=Mx (by omega)
 have hy':P[i+y]?=some P[i+y]:=Mx (by omega)
 rw[sI hy']at e;rw[sI hx];have:=IA u hx hy' (by omega)
 simp only[decide_eq_true_eq]at e ⊢;omega
theorem Me{P:List Keyed}{i k:Nat}{v:Keyed}(h:∀ m,m<k->fR P i v m=true):∀ x∈(P.drop i).take k,ky x<=ky v:=fun x hx=>by
 obtain⟨m,hm,e⟩:=Gy hx;have:=h m hm;rw[qK e]at this;simp only[O7,decide_eq_false_iff_not]at this;omega
theorem Mg{P:List Keyed}{i k:Nat}{v:Keyed}(h:∀ m,m<k->fL P i v m=true):∀ x∈(P.drop i).take k,ky x<ky v:=fun x hx=>by
 obtain⟨m,hm,e⟩:=Gy hx;have:=h m hm;rw[sI e]at this;simpa using this
theorem fR_hi{P:List Keyed}{i k n:Nat}{v:Keyed}(hn:P.length<=i+n)(h:∀ m,k<=m->m<n->fR P i v m=false):∀ y∈P.drop (i+k),ky v<ky y:=fun y hy=>by
 obtain⟨m,e⟩:=GA hy;have hl:=(Mw.mp e).1;have:=h (k+m) (by omega) (by omega)
 rw[qK (show P[i+(k+m)]?=some y by rw[← Nat.add_assoc];exact e)]at this
 simpa using this
theorem fL_hi{P:List Keyed}{i k n:Nat}{v:Keyed}(hn:P.length<=i+n)(h:∀ m,k<=m->m<n->fL P i v m=false):∀ y∈P.drop (i+k),ky v<=ky y:=fun y hy=>by
 obtain⟨m,e⟩:=GA hy;have hl:=(Mw.mp e).1;have:=h (k+m) (by omega) (by omega)
 rw[sI (show P[i+(k+m)]?=some y by rw[← Nat.add_assoc];exact e)]at this
 simp only[decide_eq_false_iff_not]at this;omega
theorem CS{st:SortSt}{key:Keyed}{arr:Array Keyed}{base n hint:Nat}{Q:Option Nat->SortSt->Prop}(hk:kindOf st=KeyFn.kd)(hkey:IntP key)(u:Upl arr.toList)(ip:∀ x∈arr.toList,IntP x)(hn:base+n<=arr.size)(hh:hint<n)
  (h:∀ k,k<=n->(∀ i,i<k->fR arr.toList base key i=true)->(∀ i,k<=i->i<n->fR arr.toList base key i=false)->Q (some k) st):wpS (model prog w) A E s ((sortPriv% PySem.Builtin.gallop) false key arr base n hint) Q st :=
 have la:arr.toList.length=arr.size:=by simp
 jq (fR arr.toList base key) hk hkey (fun i hi=>by
  have hx:arr.toList[base+i]?=some arr.toList[base+i]:=Mx (by omega)
  exact⟨_,by rw[← hx];simp,ip _ (N4 _),by rw[qK hx];rfl⟩) (Md u (by omega)) hh h
theorem CU{st:SortSt}{key:Keyed}{arr:Array Keyed}{base n hint:Nat}{Q:Option Nat->SortSt->Prop}(hk:kindOf st=KeyFn.kd)(hkey:IntP key)(u:Upl arr.toList)(ip:∀ x∈arr.toList,IntP x)(hn:base+n<=arr.size)(hh:hint<n)
  (h:∀ k,k<=n->(∀ i,i<k->fL arr.toList base key i=true)->(∀ i,k<=i->i<n->fL arr.toList base key i=false)->Q (some k) st):wpS (model prog w) A E s ((sortPriv% PySem.Builtin.gallop) true key arr base n hint) Q st :=
 have la:arr.toList.length=arr.size:=by simp
 jq (fL arr.toList base key) hk hkey (fun i hi=>by
  have hx:arr.toList[base+i]?=some arr.toList[base+i]:=Mx (by omega)
  exact⟨_,by rw[← hx];simp,ip _ (N4 _),by rw[sI hx];rfl⟩) (Mf u (by omega)) hh h
theorem Kk{σ α β:Type}{M:Model}{c:Prop} [Decidable c] {F:α->StateT σ Sem β} {x y:α} {Q:β->σ->Prop} {st:σ} (h:∀ z,wpS M A E s (F z) Q st):wpS M A E s (if c then F x else F y) Q st:=by
 split<;>exact h _
theorem zX{σ α:Type}{M:Model}{m:StateT σ Sem α}{Q:α->σ->Prop}{st:σ}(h:∀ R:α->σ->Prop,(∀ a st',Q a st'->R a st')->wpS M A E s m R st):wpS M A E s m Q st:=h Q fun _ _ q=>q
def Dk:Array Keyed->Array Keyed->StateT SortSt Sem (Array Keyed):=sortPriv% PySem.Builtin.mergeLo
theorem at_l{a:Array Keyed}{i:Nat}{x:Keyed}(h:a.toList[i]?=some x):a[i]?=some x:=by rw[← h];simp
theorem zU{st:SortSt}{a b:Array Keyed}{Q:Array Keyed->SortSt->Prop}(hk:kindOf st=KeyFn.kd)(ua:Upl a.toList)(ub:Upl b.toList)(ia:∀ x∈a.toList,IntP x)(ib:∀ x∈b.toList,IntP x)(a1:1<=a.size)(b1:1<=b.size)
  (h0:∀ x y:Keyed,b.toList[0]?=some x->y∈a.toList->ky x<=ky y) (hst:∀ x y:Keyed,x∈b.toList->a.toList[a.size-1]?=some y->ky x<ky y)
  (h:∀ R st',SmG st st'->R.toList.Perm (a.toList++b.toList)->Upl R.toList->Q R st'):wpS (model prog w) A E s (Dk a b) Q st:=by
 unfold Dk;walk_at "mergeLo";have la:a.toList.length=a.size:=by simp
 have lb:b.toList.length=b.size:=by simp
 have atA:∀ i,i<a.size->∃ x,a.toList[i]?=some x/\IntP x:=fun i hi=>⟨_,Mx (by omega),ia _ (N4 _)⟩
 have atB:∀ i,i<b.size->∃ x,b.toList[i]?=some x/\IntP x:=fun i hi=>⟨_,Mx (by omega),ib _ (N4 _)⟩
 have dn:∀(o:Array Keyed)(i j:Nat)(st':SortSt),SmG st st'->LM a.toList b.toList o.toList i j->j=b.size->Q (o++a.extract i++b.extract j) st':=by
  intro o i j st' sg lm e;have nb:b.toList.drop j = []:=PJ (by omega)
  obtain⟨g1,g2⟩:=lm.fin ua ub (by rw[nb];intro x _ y hy;cases hy)
  refine h _ st' sg ?_ ?_
  ·rw[Nj,Nj,iY,iY];exact g1
  ·rw[Nj,Nj,iY,iY];exact g2
 have ls:∀(o:Array Keyed)(i j:Nat)(st':SortSt),SmG st st'->LM a.toList b.toList o.toList i j->i+1=a.size->Q (o++b.extract j++a.extract i) st':=by
  intro o i j st' sg lm e;obtain⟨z,hz,_⟩:=atA i (by omega)
  have na:a.toList.drop i = [z]:=by
   rw[← gc hz];exact(Nl (by rw[Nu];omega)).symm
  obtain⟨g1,g2⟩:=lm.swap.fin ub ua (by
   rw[na];intro x hx y hy;rw[M4.mp hy]
   exact Ob (hst x z (NM hx) (by rw[← e];exact hz)))
  refine h _ st' sg ?_ ?_
  ·rw[Nj,Nj,iY,iY];exact g1.trans N9
  ·rw[Nj,Nj,iY,iY];exact g2
 refine wpS_bind (wpS_lift (wpAny_rule ⟨rfl,?_⟩));obtain⟨y0,hy0,iy0⟩:=atB 0 (by omega)
 walk_at "l3";refine wpS_bind (aQ (at_l hy0) ?_)
 have m0:LM a.toList b.toList [y0] 0 1:=⟨by rw[Qu,PX,← gc hy0];exact NS _,OX ..,fun x hx y hy=>by rw[M4.mp hx];exact h0 y0 y hy0 hy,fun x hx y hy=>by
  rw[M4.mp hx]
  exact j7 ub hy0 y (NM hy)⟩
 by_cases c1:(1 == b.size)=true
 ·refine aJ c1 ?_;exact wpS_pure (dn _ _ _ _ (SmG.rfl' _) m0 (by simpa using c1))
 refine aI c1 ?_;have c1':1≠b.size:=by simpa using c1
 by_cases c2:(0+1 == a.size)=true
 ·refine aJ c2 ?_;exact wpS_pure (ls _ _ _ _ (SmG.rfl' _) m0 (by simpa using c2))
 refine aI c2 ?_;have c2':0+1≠a.size:=by simpa using c2
 refine wpS_bind (wpS_get ?_)
 refine wpS_bind (wpS_mono (wpS_forRange (I:=fun x c st'=>SmG st st'/\∃(o:Array Keyed)(i j g:Nat),c=(none,o,i,j,g)/\LM a.toList b.toList o.toList i j/\i+1<a.size/\j<b.size/\x+1<=i+j)
  (Q:=fun c st'=>∃(r:Array Keyed)(z:Array Keyed×Nat×Nat×Nat),c=(some r,z)/\Q r st') ?step ?fin ⟨SmG.rfl' _,_,_,_,_,rfl,m0,by omega,by omega,by omega⟩) ?post)
 case post =>
  rintro c st' ⟨r,z,rfl,q⟩;exact wpS_pure q
 case fin =>
  rintro c st' ⟨sg,o,i,j,g,rfl,lm,g1,g2,g3⟩;omega
 case step =>
  rintro x c st1 _ hx ⟨sg1,o,i,j,g,rfl,lm,g1,g2,g3⟩
  refine wpS_bind (wpS_mono (wpS_forRange (I:=fun y c st'=>SmG st st'/\∃(o:Array Keyed)(i j ac bc:Nat),c=(none,o,i,j,ac,bc)/\LM a.toList b.toList o.toList i j/\i+1<a.size/\j<b.size/\x+1+y<=i+j)
   (Q:=fun c st'=>(∃(r:Array Keyed)(z:Array Keyed×Nat×Nat×Nat×Nat),c=(some r,z)/\Q r st')∨SmG st st'/\∃(o:Array Keyed)(i j ac bc:Nat),c=(none,o,i,j,ac,bc)/\LM a.toList b.toList o.toList i j/\i+1<a.size/\j<b.size/\x+2<=i+j) ?istep ?ifin ⟨sg1,o,i,j,0,0,rfl,lm,g1,g2,by omega⟩) ?ipost)
  case ifin =>
   rintro c st' ⟨sg,o,i,j,ac,bc,rfl,lm,g1,g2,g3⟩;exact .inr ⟨sg,o,i,j,ac,bc,rfl,lm,g1,g2,by omega⟩
  case istep =>
   rintro y c st2 _ hy ⟨sg2,o,i,j,ac,bc,rfl,lm,g1,g2,g3⟩;obtain⟨vb,hvb,ivb⟩:=atB j g2;obtain⟨va,hva,iva⟩:=atA i (by omega)
   dsimp only;refine wpS_bind (aQ (at_l hvb) (wpS_bind (aQ (at_l hva) (wpS_bind (pJ (sg2.k.trans hk) ivb iva ?_)))));by_cases c:ky vb<ky va
   ·rw[decide_eq_true c];dsimp only;refine aJ rfl ?_;refine wpS_bind (aQ (at_l hvb) ?_);have m2:LM a.toList b.toList (o.push vb).toList i (j+1):=by
     rw[Ov];exact(lm.swap.a1 ub hvb fun z hz=>by have:=j7 ua hva z hz;omega).swap
    by_cases d1:(j+1 == b.size)=true
    ·refine aJ d1 ?_;exact wpS_pure (.inl ⟨_,_,rfl,dn _ _ _ _ sg2 m2 (by simpa using d1)⟩)
    ·refine aI d1 ?_;have d1':j+1≠b.size:=by simpa using d1
     split
     ·exact wpS_pure (.inr ⟨sg2,_,_,_,_,_,rfl,m2,g1,by omega,by omega⟩)
     ·exact wpS_pure ⟨sg2,_,_,_,_,_,rfl,m2,g1,by omega,by omega⟩
   ·rw[decide_eq_false c];dsimp only;refine aI MQ ?_;refine wpS_bind (aQ (at_l hva) ?_);have m2:LM a.toList b.toList (o.push va).toList (i+1) j:=by
     rw[Ov];exact lm.a1 ua hva fun z hz=>by have:=j7 ub hvb z hz;omega
    by_cases d1:(i+1+1 == a.size)=true
    ·refine aJ d1 ?_;exact wpS_pure (.inl ⟨_,_,rfl,ls _ _ _ _ sg2 m2 (by simpa using d1)⟩)
    ·refine aI d1 ?_;have d1':i+1+1≠a.size:=by simpa using d1
     split
     ·exact wpS_pure (.inr ⟨sg2,_,_,_,_,_,rfl,m2,by omega,g2,by omega⟩)
     ·exact wpS_pure ⟨sg2,_,_,_,_,_,rfl,m2,by omega,g2,by omega⟩
  case ipost =>
   rintro c st2 (⟨r,z,rfl,q⟩ | ⟨sg2,o,i,j,ac,bc,rfl,lm,g1,g2,g3⟩)
   ·exact wpS_pure ⟨_,_,rfl,q⟩
   dsimp -zeta -zetaHave only;refine wpS_bind (wpS_lift (wpAny_rule ⟨rfl,?_⟩))
   refine wpS_bind (wpS_mono (wpS_forRange (I:=fun y c st'=>SmG st st'/\∃(o:Array Keyed)(i j g ac bc:Nat),c=(none,o,i,j,g,ac,bc)/\LM a.toList b.toList o.toList i j/\i+1<a.size/\j<b.size/\x+2<=i+j)
    (Q:=fun c st'=>(∃(r:Array Keyed)(z:Array Keyed×Nat×Nat×Nat×Nat×Nat),c=(some r,z)/\Q r st')∨SmG st st'/\∃(o:Array Keyed)(i j g ac bc:Nat),c=(none,o,i,j,g,ac,bc)/\LM a.toList b.toList o.toList i j/\i+1<a.size/\j<b.size/\x+2<=i+j) ?jstep ?jfin ⟨sg2,o,i,j,_,ac,bc,rfl,lm,g1,g2,g3⟩) ?jpost)
   case jfin=>exact fun c st' q=>.inr q
   case jpost =>
    rintro c st3 (⟨r,z,rfl,q⟩ | ⟨sg3,o,i,j,g,ac,bc,rfl,lm,g1,g2,g3⟩)
    ·exact wpS_pure ⟨_,_,rfl,q⟩
    dsimp only;exact wpS_bind (o8 fun st4 sg4=>wpS_pure ⟨sg3.trans sg4,_,_,_,_,rfl,lm,g1,g2,by omega⟩)
   case jstep =>
    rintro y c st3 _ hy ⟨sg3,o,i,j,g,ac,bc,rfl,lm,g1,g2,g3⟩;walk_at "st";walk_at "l11";extract_lets -underBinder +onlyGivenNames jp;clear_value (ej:jp=_);refine zX fun R hR=>?_;refine Kk (F:=fun z=>jp () z) fun g'=>?_;rw[ej];clear ej jp;walk_at "st";refine wpS_bind (o8 fun st4 sg4=>?_);have sg34:=sg3.trans sg4;have k4:=sg34.k.trans hk;obtain⟨vb,hvb,ivb⟩:=atB j g2;refine wpS_bind (aQ (at_l hvb) ?_);refine wpS_bind (CS k4 ivb ua ia (by omega) (by omega) fun k kn kt kf=>?_)
    walk_at "st";extract_lets -underBinder +onlyGivenNames ac jp;subst ac;clear_value (ej:jp=_);have vbl:=j7 ub hvb;have hlo:=Me kt;have hhi:=fR_hi (by omega) kf
    have hj:∀(o':Array Keyed)(i':Nat),LM a.toList b.toList o'.toList i' j->i'+1<a.size->(∀ y∈a.toList.drop i',ky vb<=ky y)->x+2<=i'+j->wpS (model prog w) A E s (jp () o' i') R st4:=by
     intro o' i' lm' g1' gv g3';rw[ej];clear ej jp;walk_at "st";refine wpS_bind (aQ (at_l hvb) ?_);have m2:LM a.toList b.toList (o'.push vb).toList i' (j+1):=by
      rw[Ov];exact(lm'.swap.a1 ub hvb gv).swap
     by_cases d1:(j+1 == b.size)=true
     ·refine aJ d1 ?_;exact wpS_pure (hR _ _ (.inl ⟨_,_,rfl,dn _ _ _ _ sg34 m2 (by simpa using d1)⟩))
     refine aI d1 ?_;have d1':j+1≠b.size:=by simpa using d1
     obtain⟨va,hva,iva⟩:=atA i' (by omega)
     have val:=j7 ua hva;refine wpS_bind (aQ (at_l hva) ?_);refine wpS_bind (CU k4 iva ub ib (by omega) (by omega) fun k2 kn2 kt2 kf2=>?_)
     walk_at "st";extract_lets -underBinder +onlyGivenNames ac jp;subst ac;clear_value (ej:jp=_);have hlo2:=Mg kt2;have hhi2:=fL_hi (by omega) kf2
     have hj:∀(o':Array Keyed)(j':Nat),LM a.toList b.toList o'.toList i' j'->j'<b.size->(∀ y∈b.toList.drop j',ky va<=ky y)->x+2<=i'+j'->wpS (model prog w) A E s (jp () o' j') R st4:=by
      intro o' j' lm2 g2' gv' g3'';rw[ej];clear ej jp;walk_at "st";refine wpS_bind (aQ (at_l hva) ?_);have m3:LM a.toList b.toList (o'.push va).toList (i'+1) j':=by
       rw[Ov];exact lm2.a1 ua hva gv'
      by_cases d2:(i'+1+1 == a.size)=true
      ·refine aJ d2 ?_;exact wpS_pure (hR _ _ (.inl ⟨_,_,rfl,ls _ _ _ _ sg34 m3 (by simpa using d2)⟩))
      refine aI d2 ?_;have d2':i'+1+1≠a.size:=by simpa using d2
      split
      ·exact wpS_pure (hR _ _ (.inr ⟨sg34,_,_,_,_,_,_,rfl,m3,by omega,g2',by omega⟩))
      ·exact wpS_pure (hR _ _ ⟨sg34,_,_,_,_,_,_,rfl,m3,by omega,g2',by omega⟩)
     clear ej;by_cases z2:k2 > 0
     ·refine aJ z2 ?_;have m3:LM a.toList b.toList (o'.push vb++b.extract (j+1) (j+1+k2)).toList i' (j+1+k2):=by
       rw[Nj,pF];exact(m2.swap.a ub k2 fun x hx y hy=>by have:=hlo2 x hx;have:=val y hy;omega).swap
      by_cases d2:(j+1+k2 == b.size)=true
      ·refine aJ d2 ?_;exact wpS_pure (hR _ _ (.inl ⟨_,_,rfl,dn _ _ _ _ sg34 m3 (by simpa using d2)⟩))
      refine aI d2 ?_;have d2':j+1+k2≠b.size:=by simpa using d2
      exact hj _ _ m3 (by omega) hhi2 (by omega)
     ·refine aI z2 ?_;have:k2=0:=by omega
      subst this;exact hj _ _ m2 (by omega) hhi2 (by omega)
    clear ej;by_cases z:k > 0
    ·refine aJ z ?_;have m2:LM a.toList b.toList (o++a.extract i (i+k)).toList (i+k) j:=by
      rw[Nj,pF];exact lm.a ua k fun x hx y hy=>by have:=hlo x hx;have:=vbl y hy;omega
     by_cases d1:(i+k+1 == a.size)=true
     ·refine aJ d1 ?_;exact wpS_pure (hR _ _ (.inl ⟨_,_,rfl,ls _ _ _ _ sg34 m2 (by simpa using d1)⟩))
     refine aI d1 ?_;have d1':i+k+1≠a.size:=by simpa using d1
     by_cases d2:(i+k == a.size)=true
     ·exfalso;have d2':i+k=a.size:=by simpa using d2
      obtain⟨vl,hvl,_⟩:=atA (a.size-1) (by omega)
      have h1:=kt (a.size-1-i) (by omega)
      rw[qK (show a.toList[i+(a.size-1-i)]?=some vl by rw[show i+(a.size-1-i)=a.size-1 by omega];exact hvl)]at h1
      have h2:=hst vb vl (My hvb) hvl;simp only[O7,decide_eq_false_iff_not]at h1;omega
     refine aI d2 ?_;have d2':i+k≠a.size:=by simpa using d2
     exact hj _ _ m2 (by omega) (fun y hy=>Ob (hhi y hy)) (by omega)
    ·refine aI z ?_;have:k=0:=by omega
     subst this;exact hj _ _ lm g1 (fun y hy=>Ob (hhi y hy)) (by omega)
end PyProof.RowsP
namespace PyProof.RowsP
open PySem PyProof.Rows
local macro_rules | `(tactic| walk_at "mergeHi") => do
 let n:=Lean.mkIdent (Lean.mkPrivateNameCore `PySem.Builtin.List.W1All `PySem.Builtin.mergeHi)
 `(tactic| delta $n)
local macro_rules | `(tactic| walk_at "st") => `(tactic| try dsimp -zeta -zetaHave only)
local macro_rules | `(tactic| walk_at "l3") => `(tactic| (extract_lets -underBinder +onlyGivenNames a b c; subst a b c))
local macro_rules | `(tactic| walk_at "l11") => `(tactic| (extract_lets -underBinder +onlyGivenNames a b c d e f g h i j k; subst a b c d e f g h i j k; dsimp -zeta -zetaHave only))
variable{prog:Program}{w:World}{A:Around}{E:Value->Shared->Prop}{s:Shared} [KF:KeyFn] [LO:LtOk prog w A E s]
structure LH(P R o:List Keyed)(i j:Nat):Prop where
 pm:o.Perm (P.drop i++R.drop j)
 up:Upl o
 la:∀ x∈P.take i,∀ y∈o,ky x<=ky y
 lb:∀ x∈R.take j,∀ y∈o,ky x<=ky y
theorem LH.swap{P R o:List Keyed}{i j:Nat}(h:LH P R o i j):LH R P o j i:=⟨h.pm.trans N9,h.up,h.lb,h.la⟩
theorem JL(P:List Keyed){i i':Nat}(h:i'<=i)(hi:i<=P.length):P.drop i'=(P.take i).drop i'++P.drop i:=by
 have e:=congrArg (List.drop i') (M9 i P);rw[Qf,Nf,show i'-min i P.length=0 by omega,Pp]at e
 exact e.symm
theorem LH.a{P R o:List Keyed}{i j:Nat}(h:LH P R o i j)(u:Upl P){i':Nat}(hi':i'<=i)(hi:i<=P.length)(c:∀ x∈R.take j,∀ y∈(P.take i).drop i',ky x<=ky y):LH P R ((P.take i).drop i'++o) i' j where
 pm:=by
  rw[JL P hi' hi,Nm];exact Oa _ h.pm
 up:=NB.mpr ⟨(u.take).drop,h.up,fun x hx y hy=>h.la x (NM hx) y hy⟩
 la:=fun x hx y hy=>by
  have e:P.take i'=(P.take i).take i':=by rw[Po,Of hi']
  rw[e]at hx;rcases MH.mp hy with hy | hy
  ·have z:Upl ((P.take i).take i'++(P.take i).drop i'):=by rw[M9];exact u.take
   exact(NB.mp z).2.2 x hx y hy
  ·exact h.la x (NL hx) y hy
 lb:=fun x hx y hy=>by
  rcases MH.mp hy with hy | hy
  ·exact c x hx y hy
  ·exact h.lb x hx y hy
theorem vG{P:List Keyed}{i:Nat}{x:Keyed}(h:P[i]?=some x):(P.take (i+1)).drop i = [x]:=by
 have hi:=(Mw.mp h).1;rw[O9,show i+1-i=1 by omega]
 exact gc h
theorem LH.a1{P R o:List Keyed}{i j:Nat}{x:Keyed}(h:LH P R o (i+1) j)(u:Upl P)(hx:P[i]?=some x)(c:∀ y∈R.take j,ky y<=ky x):LH P R (x::o) i j:=by
 have hi:=(Mw.mp hx).1;have:=h.a u (i':=i) (by omega) (by omega) (by rw[vG hx];intro y hy z hz;rw[M4.mp hz];exact c y hy)
 rwa[vG hx]at this
theorem LH.fin{P R o:List Keyed}{i j:Nat}(h:LH P R o i j)(u:Upl P)(v:Upl R)(c:∀ x∈P.take i,∀ y∈R.take j,ky x<=ky y):(P.take i++R.take j++o).Perm (P++R)/\Upl (P.take i++R.take j++o):=by
 constructor
 ·refine(Oa _ h.pm).trans ?_;have e:P++R=(P.take i++P.drop i)++(R.take j++R.drop j):=by rw[M9,M9]
  rw[e,← Nm,← Nm];refine List.Perm.append_right _ ?_;rw[Nm,Nm];exact Oa _ N9
 ·refine NB.mpr ⟨NB.mpr ⟨u.take,v.take,c⟩,h.up,fun x hx y hy=>?_⟩;rcases MH.mp hx with hx | hx
  ·exact h.la x hx y hy
  ·exact h.lb x hx y hy
theorem mq{P:List Keyed}{i:Nat}{x:Keyed}(u:Upl P)(hx:P[i]?=some x):∀ y∈P.take (i+1),ky y<=ky x:=fun y hy=>by
 obtain⟨m,hm,e⟩:=List.getElem_of_mem hy;rw[Nf]at hm;rw[Pw]at e;exact IA u (i:=m) (by rw[Mx (by omega),e]) hx (by omega)
theorem fR_lo'{P:List Keyed}{k:Nat}{v:Keyed}(h:∀ m,m<k->fR P 0 v m=true):∀ x∈P.take k,ky x<=ky v:=Me (P:=P) (i:=0) h
theorem fL_lo'{P:List Keyed}{k:Nat}{v:Keyed}(h:∀ m,m<k->fL P 0 v m=true):∀ x∈P.take k,ky x<ky v:=Mg (P:=P) (i:=0) h
theorem Dr{P:List Keyed}{i k:Nat}{y:Keyed}(h:y∈(P.take i).drop k):∃ m,k<=m/\m<i/\P[m]?=some y:=by
 rw[O9]at h;obtain⟨m,hm,e⟩:=Gy h;exact⟨k+m,by omega,by omega,e⟩
theorem fR_hi'{P:List Keyed}{k n:Nat}{v:Keyed}(h:∀ m,k<=m->m<n->fR P 0 v m=false):∀ y∈(P.take n).drop k,ky v<ky y:=fun y hy=>by
 obtain⟨m,h1,h2,e⟩:=Dr hy;have:=h m h1 h2;rw[qK (show P[0+m]?=some y by rw[Nat.zero_add];exact e)]at this
 simpa using this
theorem fL_hi'{P:List Keyed}{k n:Nat}{v:Keyed}(h:∀ m,k<=m->m<n->fL P 0 v m=false):∀ y∈(P.take n).drop k,ky v<=ky y:=fun y hy=>by
 obtain⟨m,h1,h2,e⟩:=Dr hy;have:=h m h1 h2;rw[sI (show P[0+m]?=some y by rw[Nat.zero_add];exact e)]at this
 simp only[decide_eq_false_iff_not]at this;omega
theorem nM(a:Array Keyed)(i:Nat):(a.extract 0 i).toList=a.toList.take i:=by
 rw[Pc,OP];rfl
theorem wa(a:Array Keyed)(i k:Nat):(a.extract k i).toList=(a.toList.take i).drop k:=by
 rw[Pc,OP,O9]
def rv(o:Array Keyed):List Keyed:=o.toList.reverse
theorem uI(o:Array Keyed)(x:Keyed):rv (o.push x)=x::rv o:=by unfold rv;rw[Ov,List.reverse_append];rfl
theorem Kc(o p:Array Keyed):rv (o++p.reverse)=p.toList++rv o:=by unfold rv;rw[Nj,List.reverse_append,OM,List.reverse_reverse]
def Dl:Array Keyed->Array Keyed->StateT SortSt Sem (Array Keyed):=sortPriv% PySem.Builtin.mergeHi
theorem zV{st:SortSt}{a b:Array Keyed}{Q:Array Keyed->SortSt->Prop}(hk:kindOf st=KeyFn.kd)(ua:Upl a.toList)(ub:Upl b.toList)(ia:∀ x∈a.toList,IntP x)(ib:∀ x∈b.toList,IntP x)(a1:1<=a.size)(b1:1<=b.size)
  (h0:∀ x y:Keyed,b.toList[0]?=some x->y∈a.toList->ky x<ky y) (hst:∀ x y:Keyed,x∈b.toList->a.toList[a.size-1]?=some y->ky x<ky y)
  (h:∀ R st',SmG st st'->R.toList.Perm (a.toList++b.toList)->Upl R.toList->Q R st'):wpS (model prog w) A E s (Dl a b) Q st:=by
 unfold Dl;walk_at "mergeHi";have la:a.toList.length=a.size:=by simp
 have lb:b.toList.length=b.size:=by simp
 have atA:∀ i,i<a.size->∃ x,a.toList[i]?=some x/\IntP x:=fun i hi=>⟨_,Mx (by omega),ia _ (N4 _)⟩
 have atB:∀ i,i<b.size->∃ x,b.toList[i]?=some x/\IntP x:=fun i hi=>⟨_,Mx (by omega),ib _ (N4 _)⟩
 have dn:∀(o:Array Keyed)(i j:Nat)(st':SortSt),SmG st st'->LH a.toList b.toList (rv o) i j->i=0∨j=0->Q (a.extract 0 i++b.extract 0 j++o.reverse) st':=by
  intro o i j st' sg lm e
  obtain⟨g1,g2⟩:=lm.fin ua ub (by
   rcases e with e | e
   ·subst e;intro x hx;cases hx
   ·subst e;intro x _ y hy;cases hy)
  refine h _ st' sg ?_ ?_
  ·rw[Nj,Nj,nM,nM,OM];exact g1
  ·rw[Nj,Nj,nM,nM,OM];exact g2
 have ls:∀(o:Array Keyed)(i j:Nat)(st':SortSt),SmG st st'->LH a.toList b.toList (rv o) i j->j=1->Q (b.extract 0 j++a.extract 0 i++o.reverse) st':=by
  intro o i j st' sg lm e;subst e;obtain⟨z,hz,_⟩:=atB 0 (by omega)
  have nb:b.toList.take 1 = [z]:=gc (P:=b.toList) (i:=0) hz
  obtain⟨g1,g2⟩:=lm.swap.fin ub ua (by
   rw[nb];intro x hx y hy;rw[M4.mp hx]
   exact Ob (h0 z y hz (NL hy)))
  refine h _ st' sg ?_ ?_
  ·rw[Nj,Nj,nM,nM,OM];exact g1.trans N9
  ·rw[Nj,Nj,nM,nM,OM];exact g2
 refine wpS_bind (wpS_lift (wpAny_rule ⟨rfl,?_⟩));obtain⟨y0,hy0,iy0⟩:=atA (a.size-1) (by omega)
 walk_at "l3";refine wpS_bind (aQ (at_l hy0) ?_)
 have m0:LH a.toList b.toList (rv #[y0]) (a.size-1) b.size:=⟨by
   show[y0].Perm _;rw[PJ (show b.toList.length<=b.size by omega),O2]
   have e:=vG hy0;rw[show a.size-1+1=a.size by omega,Nl (by omega)]at e
   rw[e],OX ..,fun x hx y hy=>by
   have:y=y0:=M4.mp hy;rw[this];refine mq ua hy0 x ?_;rw[show a.size-1+1=a.size by omega,Nl (by omega)]
   exact NL hx,fun x hx y hy=>by
   have:y=y0:=M4.mp hy;rw[this]
   exact Ob (hst x y0 (NL hx) hy0)⟩
 by_cases c1:(a.size-1 == 0)=true
 ·refine aJ c1 ?_;exact wpS_pure (dn _ _ _ _ (SmG.rfl' _) m0 (.inl (by simpa using c1)))
 refine aI c1 ?_;have c1':a.size-1≠0:=by simpa using c1
 by_cases c2:(b.size == 1)=true
 ·refine aJ c2 ?_;exact wpS_pure (ls _ _ _ _ (SmG.rfl' _) m0 (by simpa using c2))
 refine aI c2 ?_;have c2':b.size≠1:=by simpa using c2
 refine wpS_bind (wpS_get ?_)
 refine wpS_bind (wpS_mono (wpS_forRange (I:=fun x c st'=>SmG st st'/\∃(o:Array Keyed)(i j g:Nat),c=(none,i,j,o,g)/\LH a.toList b.toList (rv o) i j/\1<=i/\i<=a.size/\2<=j/\j<=b.size/\x+1+(i+j)<=a.size+b.size)
  (Q:=fun c st'=>∃(r:Array Keyed)(z:Nat×Nat×Array Keyed×Nat),c=(some r,z)/\Q r st') ?step ?fin ⟨SmG.rfl' _,_,_,_,_,rfl,m0,by omega,by omega,by omega,by omega,by omega⟩) ?post)
 case post =>
  rintro c st' ⟨r,z,rfl,q⟩;exact wpS_pure q
 case fin =>
  rintro c st' ⟨sg,o,i,j,g,rfl,lm,g1,g1',g2,g2',g3⟩;omega
 case step =>
  rintro x c st1 _ hx ⟨sg1,o,i,j,g,rfl,lm,g1,g1',g2,g2',g3⟩
  refine wpS_bind (wpS_mono (wpS_forRange (I:=fun y c st'=>SmG st st'/\∃(o:Array Keyed)(i j ac bc:Nat),c=(none,i,j,o,ac,bc)/\LH a.toList b.toList (rv o) i j/\1<=i/\i<=a.size/\2<=j/\j<=b.size/\x+1+y+(i+j)<=a.size+b.size)
   (Q:=fun c st'=>(∃(r:Array Keyed)(z:Nat×Nat×Array Keyed×Nat×Nat),c=(some r,z)/\Q r st')∨SmG st st'/\∃(o:Array Keyed)(i j ac bc:Nat),c=(none,i,j,o,ac,bc)/\LH a.toList b.toList (rv o) i j/\1<=i/\i<=a.size/\2<=j/\j<=b.size/\x+2+(i+j)<=a.size+b.size) ?istep ?ifin ⟨sg1,o,i,j,0,0,rfl,lm,g1,g1',g2,g2',by omega⟩) ?ipost)
  case ifin =>
   rintro c st' ⟨sg,o,i,j,ac,bc,rfl,lm,g1,g1',g2,g2',g3⟩;exact .inr ⟨sg,o,i,j,ac,bc,rfl,lm,g1,g1',g2,g2',by omega⟩
  case istep =>
   rintro y c st2 _ hy ⟨sg2,o,i,j,ac,bc,rfl,lm,g1,g1',g2,g2',g3⟩;obtain⟨vb,hvb,ivb⟩:=atB (j-1) (by omega)
   obtain⟨va,hva,iva⟩:=atA (i-1) (by omega)
   have ei:i-1+1=i:=by omega
   have ej:j-1+1=j:=by omega
   dsimp only;refine wpS_bind (aQ (at_l hvb) (wpS_bind (aQ (at_l hva) (wpS_bind (pJ (sg2.k.trans hk) ivb iva ?_)))));by_cases c:ky vb<ky va
   ·rw[decide_eq_true c];dsimp only;refine aJ rfl ?_;refine wpS_bind (aQ (at_l hva) ?_);have m2:LH a.toList b.toList (rv (o.push va)) (i-1) j:=by
     rw[uI];exact LH.a1 (by rw[ei];exact lm) ua hva fun z hz=>by
      have:=mq ub hvb z (by rw[ej];exact hz)
      omega
    by_cases d1:(i-1 == 0)=true
    ·refine aJ d1 ?_;exact wpS_pure (.inl ⟨_,_,rfl,dn _ _ _ _ sg2 m2 (.inl (by simpa using d1))⟩)
    ·refine aI d1 ?_;have d1':i-1≠0:=by simpa using d1
     split
     ·exact wpS_pure (.inr ⟨sg2,_,_,_,_,_,rfl,m2,by omega,by omega,g2,g2',by omega⟩)
     ·exact wpS_pure ⟨sg2,_,_,_,_,_,rfl,m2,by omega,by omega,g2,g2',by omega⟩
   ·rw[decide_eq_false c];dsimp only;refine aI MQ ?_;refine wpS_bind (aQ (at_l hvb) ?_);have m2:LH a.toList b.toList (rv (o.push vb)) i (j-1):=by
     rw[uI]
     exact(LH.a1 (by rw[ej];exact lm.swap) ub hvb fun z hz=>by
      have:=mq ua hva z (by rw[ei];exact hz)
      omega).swap
    by_cases d1:(j-1 == 1)=true
    ·refine aJ d1 ?_;exact wpS_pure (.inl ⟨_,_,rfl,ls _ _ _ _ sg2 m2 (by simpa using d1)⟩)
    ·refine aI d1 ?_;have d1':j-1≠1:=by simpa using d1
     split
     ·exact wpS_pure (.inr ⟨sg2,_,_,_,_,_,rfl,m2,g1,g1',by omega,by omega,by omega⟩)
     ·exact wpS_pure ⟨sg2,_,_,_,_,_,rfl,m2,g1,g1',by omega,by omega,by omega⟩
  case ipost =>
   rintro c st2 (⟨r,z,rfl,q⟩ | ⟨sg2,o,i,j,ac,bc,rfl,lm,g1,g1',g2,g2',g3⟩)
   ·exact wpS_pure ⟨_,_,rfl,q⟩
   dsimp -zeta -zetaHave only;refine wpS_bind (wpS_lift (wpAny_rule ⟨rfl,?_⟩))
   refine wpS_bind (wpS_mono (wpS_forRange (I:=fun y c st'=>SmG st st'/\∃(o:Array Keyed)(i j g ac bc:Nat),c=(none,i,j,o,g,ac,bc)/\LH a.toList b.toList (rv o) i j/\1<=i/\i<=a.size/\2<=j/\j<=b.size/\x+2+(i+j)<=a.size+b.size)
    (Q:=fun c st'=>(∃(r:Array Keyed)(z:Nat×Nat×Array Keyed×Nat×Nat×Nat),c=(some r,z)/\Q r st')∨SmG st st'/\∃(o:Array Keyed)(i j g ac bc:Nat),c=(none,i,j,o,g,ac,bc)/\LH a.toList b.toList (rv o) i j/\1<=i/\i<=a.size/\2<=j/\j<=b.size/\x+2+(i+j)<=a.size+b.size) ?jstep ?jfin ⟨sg2,o,i,j,_,ac,bc,rfl,lm,g1,g1',g2,g2',g3⟩) ?jpost)
   case jfin=>exact fun c st' q=>.inr q
   case jpost =>
    rintro c st3 (⟨r,z,rfl,q⟩ | ⟨sg3,o,i,j,g,ac,bc,rfl,lm,g1,g1',g2,g2',g3⟩)
    ·exact wpS_pure ⟨_,_,rfl,q⟩
    dsimp only;exact wpS_bind (o8 fun st4 sg4=>wpS_pure ⟨sg3.trans sg4,_,_,_,_,rfl,lm,g1,g1',g2,g2',by omega⟩)
   case jstep =>
    rintro y c st3 _ hy ⟨sg3,o,i,j,g,ac,bc,rfl,lm,g1,g1',g2,g2',g3⟩;walk_at "st";walk_at "l11";extract_lets -underBinder +onlyGivenNames jp;clear_value (ej:jp=_);refine zX fun R hR=>?_;refine Kk (F:=fun z=>jp () z) fun g'=>?_;rw[ej];clear ej jp;walk_at "st";refine wpS_bind (o8 fun st4 sg4=>?_);have sg34:=sg3.trans sg4;have k4:=sg34.k.trans hk;have ej1:j-1+1=j:=by omega
    obtain⟨vb,hvb,ivb⟩:=atB (j-1) (by omega)
    refine wpS_bind (aQ (at_l hvb) ?_);refine wpS_bind (CS k4 ivb ua ia (by omega) (by omega) fun k kn kt kf=>?_)
    walk_at "st";extract_lets -underBinder +onlyGivenNames kk ac jp;subst kk ac;clear_value (ej:jp=_);have vbl:=mq ub hvb;rw[ej1]at vbl;have hlo:=fR_lo' kt;have hhi:=fR_hi' kf;have hj:∀(i':Nat)(o':Array Keyed),LH a.toList b.toList (rv o') i' j->1<=i'->i'<=a.size->(∀ y∈a.toList.take i',ky y<=ky vb)->x+2+(i'+j)<=a.size+b.size->wpS (model prog w) A E s (jp () i' o') R st4:=by
     intro i' o' lm' q1 q1' gv g3';rw[ej];clear ej jp;walk_at "st";refine wpS_bind (aQ (at_l hvb) ?_);have m2:LH a.toList b.toList (rv (o'.push vb)) i' (j-1):=by
      rw[uI];exact(LH.a1 (by rw[ej1];exact lm'.swap) ub hvb gv).swap
     by_cases d1:(j-1 == 1)=true
     ·refine aJ d1 ?_;exact wpS_pure (hR _ _ (.inl ⟨_,_,rfl,ls _ _ _ _ sg34 m2 (by simpa using d1)⟩))
     refine aI d1 ?_;have d1':j-1≠1:=by simpa using d1
     have ei1:i'-1+1=i':=by omega
     obtain⟨va,hva,iva⟩:=atA (i'-1) (by omega)
     have val:=mq ua hva;rw[ei1]at val;refine wpS_bind (aQ (at_l hva) ?_);refine wpS_bind (CU k4 iva ub ib (by omega) (by omega) fun k2 kn2 kt2 kf2=>?_)
     walk_at "st";extract_lets -underBinder +onlyGivenNames kk ac jp;subst kk ac;clear_value (ej:jp=_);have hlo2:=fL_lo' kt2;have hhi2:=fL_hi' kf2;have hj:∀(j':Nat)(o':Array Keyed),LH a.toList b.toList (rv o') i' j'->2<=j'->j'<=b.size->(∀ y∈b.toList.take j',ky y<=ky va)->x+2+(i'+j')<=a.size+b.size->wpS (model prog w) A E s (jp () j' o') R st4:=by
      intro j' o' lm2 q2 q2' gv' g3'';rw[ej];clear ej jp;walk_at "st";refine wpS_bind (aQ (at_l hva) ?_);have m3:LH a.toList b.toList (rv (o'.push va)) (i'-1) j':=by
       rw[uI];exact LH.a1 (by rw[ei1];exact lm2) ua hva gv'
      by_cases d2:(i'-1 == 0)=true
      ·refine aJ d2 ?_;exact wpS_pure (hR _ _ (.inl ⟨_,_,rfl,dn _ _ _ _ sg34 m3 (.inl (by simpa using d2))⟩))
      refine aI d2 ?_;have d2':i'-1≠0:=by simpa using d2
      split
      ·exact wpS_pure (hR _ _ (.inr ⟨sg34,_,_,_,_,_,_,rfl,m3,by omega,by omega,q2,q2',by omega⟩))
      ·exact wpS_pure (hR _ _ ⟨sg34,_,_,_,_,_,_,rfl,m3,by omega,by omega,q2,q2',by omega⟩)
     clear ej;by_cases z2:j-1-k2 > 0
     ·refine aJ z2 ?_;have m3:LH a.toList b.toList (rv (o'.push vb++(b.extract k2 (j-1)).reverse)) i' k2:=by
       rw[Kc,wa];exact(m2.swap.a ub (by omega) (by omega) fun x hx y hy=>by have:=hhi2 y hy;have:=val x hx;omega).swap
      by_cases d2:(k2 == 1)=true
      ·refine aJ d2 ?_;exact wpS_pure (hR _ _ (.inl ⟨_,_,rfl,ls _ _ _ _ sg34 m3 (by simpa using d2)⟩))
      refine aI d2 ?_;have d2':k2≠1:=by simpa using d2
      by_cases d3:(k2 == 0)=true
      ·refine aJ d3 ?_;exact wpS_pure (hR _ _ (.inl ⟨_,_,rfl,dn _ _ _ _ sg34 m3 (.inr (by simpa using d3))⟩))
      refine aI d3 ?_;have d3':k2≠0:=by simpa using d3
      exact hj _ _ m3 (by omega) (by omega) (fun y hy=>Ob (hlo2 y hy)) (by omega)
     ·refine aI z2 ?_;have:k2=j-1:=by omega
      subst this;exact hj _ _ m2 (by omega) (by omega) (fun y hy=>Ob (hlo2 y hy)) (by omega)
    clear ej;by_cases z:i-k > 0
    ·refine aJ z ?_;have m2:LH a.toList b.toList (rv (o++(a.extract k i).reverse)) k j:=by
      rw[Kc,wa];exact lm.a ua (by omega) (by omega) fun x hx y hy=>by have:=hhi y hy;have:=vbl x hx;omega
     by_cases d1:(k == 0)=true
     ·refine aJ d1 ?_;exact wpS_pure (hR _ _ (.inl ⟨_,_,rfl,dn _ _ _ _ sg34 m2 (.inl (by simpa using d1))⟩))
     refine aI d1 ?_;have d1':k≠0:=by simpa using d1
     exact hj _ _ m2 (by omega) (by omega) hlo (by omega)
    ·refine aI z ?_;have:k=i:=by omega
     subst this;exact hj _ _ lm g1 g1' hlo (by omega)
end PyProof.RowsP
namespace PyProof.RowsP
open PySem PyProof.Rows
local macro_rules | `(tactic| walk_at "countRun") => do
 let n:=Lean.mkIdent (Lean.mkPrivateNameCore `PySem.Builtin.List.W1All `PySem.Builtin.countRun)
 `(tactic| delta $n)
local macro_rules | `(tactic| walk_at "binarySort") => do
 let n:=Lean.mkIdent (Lean.mkPrivateNameCore `PySem.Builtin.List.W1All `PySem.Builtin.binarySort)
 `(tactic| delta $n)
local macro_rules | `(tactic| walk_at "st") => `(tactic| try dsimp -zeta -zetaHave only)
local macro_rules | `(tactic| walk_at "l3") => `(tactic| (extract_lets -underBinder +onlyGivenNames a b c; subst a b c))
local macro_rules | `(tactic| walk_at "l11") => `(tactic| (extract_lets -underBinder +onlyGivenNames a b c d e f g h i j k; subst a b c d e f g h i j k; dsimp -zeta -zetaHave only))
local macro_rules | `(tactic| walk_at "l1") => `(tactic| (extract_lets -underBinder +onlyGivenNames a; subst a; try dsimp -zeta -zetaHave only))
local macro_rules | `(tactic| walk_at "l2") => `(tactic| (extract_lets -underBinder +onlyGivenNames a b; subst a b; try dsimp -zeta -zetaHave only))
local macro_rules | `(tactic| walk_at "l4") => `(tactic| (extract_lets -underBinder +onlyGivenNames a b c d; subst a b c d; try dsimp -zeta -zetaHave only))
variable{prog:Program}{w:World}{A:Around}{E:Value->Shared->Prop}{s:Shared} [KF:KeyFn] [LO:LtOk prog w A E s]
structure SB(lo:Nat)(st0 st:SortSt):Prop where
 perm:(arrOf st).Perm (arrOf st0)
 kind:kindOf st=KeyFn.kd
 failed:failedOf st=failedOf st0
 pend:pendingOf st=pendingOf st0
 low:∀ i,i<lo->(arrOf st)[i]?=(arrOf st0)[i]?
theorem SB.set{lo:Nat}{st0 st:SortSt}(h:SB lo st0 st){xs:Array Keyed}(hp:xs.Perm (arrOf st))(hl:∀ i,i<lo->xs[i]?=(arrOf st)[i]?):SB lo st0 (setArr st xs) :=
 ⟨hp.trans h.perm,h.kind,h.failed,h.pend,fun i hi=>(hl i hi).trans (h.low i hi)⟩
theorem SB.size{lo:Nat}{st0 st:SortSt}(h:SB lo st0 st):(arrOf st).size=(arrOf st0).size:=h.perm.size_eq
def Sin(xs:Array Keyed)(lo n:Nat):Prop:=∀ i j,lo<=i->i<=j->j<lo+n->K xs i<=K xs j
def Nin(xs:Array Keyed)(lo n:Nat):Prop:=∀ i j,lo<=i->i<=j->j<lo+n->K xs j<=K xs i
theorem mm{lo:Nat}{st0 st:SortSt}{i j:Nat}{Q:Option Bool->SortSt->Prop}(hB:SB lo st0 st)(h0:jl (arrOf st0))(hi:i<(arrOf st0).size)(hj:j<(arrOf st0).size)
  (h:Q (some (decide (K (arrOf st) i<K (arrOf st) j))) st):wpS (model prog w) A E s ((sortPriv% PySem.Builtin.ltAt) i j) Q st:=by
 have at':∀ i,i<(arrOf st0).size->∃ p,(arrOf st)[i]?=some p/\IntP p/\K (arrOf st) i=ky p:=fun i hi=>by
  have hi':i<(arrOf st).size:=by rw[hB.size];exact hi
  have e:(arrOf st)[i]?=some (arrOf st)[i]:=getElem?_pos _ i hi';exact⟨(arrOf st)[i],e,h0 (arrOf st)[i] ((Oh.mp hB.perm).mem_iff.mp (by simp)),K_eq hi'⟩
 obtain⟨p,e1,i1,k1⟩:=at' i hi;obtain⟨q,e2,i2,k2⟩:=at' j hj;rw[k1,k2]at h;show wpS _ _ _ _ (ltAt' i j) Q st;rw[ltAt'_eq];refine wpS_bind (wpS_get ?_);show wpS _ _ _ _ (do let x ← elem' (arrOf st) i;let y ← elem' (arrOf st) j;lt' x y) Q st
 rw[elem'_eq,elem'_eq,e1,e2];refine wpS_bind (wpS_pure (wpS_bind (wpS_pure ?_)));exact pJ hB.kind i1 i2 h
theorem o9{lo:Nat}{st0 st:SortSt}{i j:Nat}{Q:Unit->SortSt->Prop}(hB:SB lo st0 st)(hl:lo<=i)(hj:j<=(arrOf st0).size)(h:∀ st',SB lo st0 st'->(∀ k,K (arrOf st') k=if i<=k/\k<j then K (arrOf st) (i+j-1-k) else K (arrOf st) k)->Q () st') :
  wpS (model prog w) A E s ((sortPriv% PySem.Builtin.reverseSlice) i j) Q st:=by
 have hj':j<=(arrOf st).size:=by rw[hB.size];exact hj
 refine wpS_reverse (h _ (hB.set (mirror_perm _ _ _ _) fun k hk=>?_) fun k=>JW hj' k);rw[getElem?_mirror_all hj',if_neg (by omega)]
theorem La(xs:Array Keyed)(lo:Nat):Sin xs lo 1:=fun i j h1 h2 h3=>by
 have:i=j:=by omega
 rw[this];exact N3 _
theorem Ka{xs:Array Keyed}{lo n:Nat}(h:Sin xs lo n)(n1:1<=n)(c:¬ K xs (lo+n)<K xs (lo+n-1)):Sin xs lo (n+1):=fun i j h1 h2 h3=>by
 by_cases z:j<lo+n
 ·exact h i j h1 h2 z
 ·have ej:j=lo+n:=by omega
  by_cases zi:i=j
  ·rw[zi];exact N3 _
  ·have:=h i (lo+n-1) h1 (by omega) (by omega)
   rw[ej];omega
theorem Dg{xs:Array Keyed}{lo n:Nat}(h:Nin xs lo n)(n1:1<=n)(c:K xs (lo+n)<=K xs (lo+n-1)):Nin xs lo (n+1):=fun i j h1 h2 h3=>by
 by_cases z:j<lo+n
 ·exact h i j h1 h2 z
 ·have ej:j=lo+n:=by omega
  by_cases zi:i=j
  ·rw[zi];exact N3 _
  ·have:=h i (lo+n-1) h1 (by omega) (by omega)
   rw[ej];omega
def y9:Nat->Nat->StateT SortSt Sem (Option Nat):=sortPriv% PySem.Builtin.countRun
theorem DK{st0:SortSt}{lo nrem:Nat}{Q:Option Nat->SortSt->Prop}(hk:kindOf st0=KeyFn.kd)(h0:jl (arrOf st0))(hn:lo+nrem<=(arrOf st0).size)(n1:1<=nrem)
  (h:∀ m st',SB lo st0 st'->1<=m->m<=nrem->Sin (arrOf st') lo m->Q (some m) st'):wpS (model prog w) A E s (y9 lo nrem) Q st0:=by
 have hB:SB lo st0 st0:=⟨Qo _,hk,rfl,rfl,fun _ _=>rfl⟩;unfold y9;walk_at "countRun"
 refine wpS_bind (wpS_mono (wpS_forRange (I:=fun x c st'=>st'=st0/\c=(none,x)/\Sin (arrOf st0) lo x)
  (Q:=fun c st'=>st'=st0/\∃ n,c=(none,n)/\1<=n/\n<=nrem/\Sin (arrOf st0) lo n/\(n=nrem∨K (arrOf st0) (lo+n)<K (arrOf st0) (lo+n-1))) ?step ?fin ⟨rfl,rfl,La _ _⟩) ?post)
 case fin =>
  rintro c st' ⟨rfl,rfl,hs⟩;rw[show max 1 nrem=nrem by omega]at hs ⊢
  exact⟨rfl,nrem,rfl,n1,MC _,hs,.inl rfl⟩
 case step =>
  rintro x c st' h1 h2 ⟨rfl,rfl,hs⟩;dsimp only;refine wpS_bind (mm hB h0 (by omega) (by omega) ?_)
  by_cases z:K (arrOf st') (lo+x)<K (arrOf st') (lo+x-1)
  ·simp only[z,decide_true,if_true];exact wpS_pure ⟨rfl,x,rfl,h1,by omega,hs,.inr z⟩
  ·simp only[z,decide_false,NG,if_false];exact wpS_pure ⟨rfl,rfl,Ka hs h1 z⟩
 case post =>
  rintro c st' ⟨rfl,n,rfl,g1,g2,hs,hor⟩;walk_at "st";walk_at "l2";by_cases z:(n == nrem)=true
  ·refine aJ z ?_;exact wpS_pure (h n st' hB g1 g2 hs)
  refine aI z ?_;have z':n≠nrem:=by simpa using z
  have hlt:=hor.resolve_left z';extract_lets -underBinder +onlyGivenNames jp;clear_value (ej:jp=_);have hj:∀ st1,SB lo st' st1->Nin (arrOf st1) lo (n+1)->wpS (model prog w) A E s (jp ()) Q st1:=by
   intro st1 hB1 hs1;rw[ej];clear ej jp;walk_at "st";refine wpS_bind (wpS_lift (wpAny_rule ⟨rfl,?_⟩))
   refine wpS_bind (wpS_mono (wpS_forRange (I:=fun x c st2=>SB lo st' st2/\∃ neq,c=(none,x,neq)/\Nin (arrOf st2) lo x/\neq+1<=x/\(∀ i,lo+x-(neq+1)<=i->i<lo+x->K (arrOf st2) i=K (arrOf st2) (lo+x-1)))
    (Q:=fun c st2=>SB lo st' st2/\∃ m neq,c=(none,m,neq)/\1<=m/\m<=nrem/\Nin (arrOf st2) lo m/\neq+1<=m/\(∀ i,lo+m-(neq+1)<=i->i<lo+m->K (arrOf st2) i=K (arrOf st2) (lo+m-1))) ?dstep ?dfin ⟨hB1,0,rfl,hs1,by omega,fun i h1 h2=>by congr 1;omega⟩) ?dpost)
   case dfin =>
    rintro c st2 ⟨hB2,neq,rfl,hs2,q1,q2⟩;rw[show max (n+1) nrem=nrem by omega]at hs2 q1 q2 ⊢
    exact⟨hB2,nrem,neq,rfl,by omega,MC _,hs2,q1,q2⟩
   case dstep =>
    rintro x c st2 h1 h2 ⟨hB2,neq,rfl,hs2,q1,q2⟩;dsimp only;refine wpS_bind (mm hB2 h0 (by omega) (by omega) ?_)
    by_cases z:K (arrOf st2) (lo+x)<K (arrOf st2) (lo+x-1)
    ·simp only[z,decide_true,if_true];have nx:=Dg hs2 (by omega) (Ob z)
     by_cases y:neq > 0
     ·refine aJ y ?_;refine wpS_bind (o9 hB2 (by omega) (by omega) fun st3 hB3 e3=>?_)
      have e3':∀ k,K (arrOf st3) k=K (arrOf st2) k:=fun k=>by
       rw[e3];split
       ·rename_i hk;rw[q2 _ (by omega) (by omega),q2 k (by omega) (by omega)]
       ·rfl
      refine wpS_pure ⟨hB3,0,rfl,fun i j a1 a2 a3=>?_,by omega,fun i h1 h2=>by congr 1;omega⟩
      rw[e3',e3'];exact nx i j a1 a2 a3
     ·refine aI y ?_;exact wpS_pure ⟨hB2,0,rfl,nx,by omega,fun i h1 h2=>by congr 1;omega⟩
    ·simp only[z,decide_false,NG,if_false];refine wpS_bind (mm hB2 h0 (by omega) (by omega) ?_)
     by_cases y:K (arrOf st2) (lo+x-1)<K (arrOf st2) (lo+x)
     ·simp only[y,decide_true,if_true];exact wpS_pure ⟨hB2,x,neq,rfl,by omega,by omega,hs2,q1,q2⟩
     ·simp only[y,decide_false,NG,if_false];have eq:K (arrOf st2) (lo+x)=K (arrOf st2) (lo+x-1):=by omega
      refine wpS_pure ⟨hB2,neq+1,rfl,Dg hs2 (by omega) (by omega),by omega,fun i a1 a2=>?_⟩
      rw[show lo+(x+1)-1=lo+x by omega]
      by_cases ix:i=lo+x
      ·rw[ix]
      ·rw[eq];exact q2 i (by omega) (by omega)
   case dpost =>
    rintro c st2 ⟨hB2,m,neq,rfl,m1,m2,hs2,q1,q2⟩;walk_at "st";walk_at "l4";extract_lets -underBinder +onlyGivenNames jp;clear_value (ej:jp=_);have hj:∀ st3,SB lo st' st3->Nin (arrOf st3) lo m->wpS (model prog w) A E s (jp ()) Q st3:=by
     intro st3 hB3 hs3;rw[ej];clear ej jp;walk_at "st";refine wpS_bind (o9 hB3 (MC _) (by omega) fun st4 hB4 e4=>?_)
     have hs4:Sin (arrOf st4) lo m:=fun i j a1 a2 a3=>by
      rw[e4,e4,if_pos (by omega),if_pos (by omega)]
      exact hs3 _ _ (by omega) (by omega) (by omega)
     refine wpS_bind (wpS_mono (wpS_forRange (I:=fun x c st'=>st'=st4/\c=(none,x)/\Sin (arrOf st4) lo x) (Q:=fun c st'=>st'=st4/\∃ n,c=(none,n)/\1<=n/\n<=nrem/\Sin (arrOf st4) lo n) ?ustep ?ufin ⟨rfl,rfl,hs4⟩) ?upost)
     case ufin =>
      rintro c st5 ⟨rfl,rfl,hs5⟩;rw[show max m nrem=nrem by omega]at hs5 ⊢
      exact⟨rfl,nrem,rfl,n1,MC _,hs5⟩
     case ustep =>
      rintro x c st5 h1 h2 ⟨rfl,rfl,hs5⟩;dsimp only;refine wpS_bind (mm hB4 h0 (by omega) (by omega) ?_)
      by_cases z:K (arrOf st5) (lo+x)<K (arrOf st5) (lo+x-1)
      ·simp only[z,decide_true,if_true];exact wpS_pure ⟨rfl,x,rfl,by omega,by omega,hs5⟩
      ·simp only[z,decide_false,NG,if_false];exact wpS_pure ⟨rfl,rfl,Ka hs5 (by omega) z⟩
     case upost =>
      rintro c st5 ⟨rfl,k,rfl,k1,k2,hs5⟩;exact wpS_pure (h k st5 hB4 k1 k2 hs5)
    by_cases y:neq > 0
    ·refine aJ y ?_;refine wpS_bind (o9 hB2 (by omega) (by omega) fun st3 hB3 e3=>hj st3 hB3 fun i j a1 a2 a3=>?_)
     have e3':∀ k,K (arrOf st3) k=K (arrOf st2) k:=fun k=>by
      rw[e3];split
      ·rename_i hk;rw[q2 _ (by omega) (by omega),q2 k (by omega) (by omega)]
      ·rfl
     rw[e3',e3'];exact hs2 i j a1 a2 a3
    ·refine aI y ?_;exact hj st2 hB2 hs2
  by_cases y:n > 1
  ·refine aJ y ?_;refine wpS_bind (mm hB h0 (by omega) (by omega) ?_)
   by_cases r:K (arrOf st') lo<K (arrOf st') (lo+n-1)
   ·simp only[r,decide_true,if_true];exact wpS_pure (h n st' hB g1 g2 hs)
   ·simp only[r,decide_false,NG,if_false];have all:∀ k,lo<=k->k<lo+n->K (arrOf st') k=K (arrOf st') (lo+n-1):=fun k a1 a2=>by
     have b1:=hs lo k (MC _) a1 a2;have b2:=hs k (lo+n-1) a1 (by omega) (by omega)
     omega
    refine wpS_bind (o9 hB (MC _) (by omega) fun st1 hB1 e1=>hj st1 hB1 ?_)
    have e1':∀ k,K (arrOf st1) k=K (arrOf st') k:=fun k=>by
     rw[e1];split
     ·rename_i hk;rw[all _ (by omega) (by omega),all k (by omega) (by omega)]
     ·rfl
    refine Dg (fun i j a1 a2 a3=>?_) (by omega) ?_
    ·rw[e1',e1',all i a1 (by omega),all j (by omega) a3]
     exact N3 _
    ·rw[e1',e1'];exact Ob hlt
  ·refine aI y ?_;have:n=1:=by omega
   subst this;refine hj st' hB (Dg (fun i j a1 a2 a3=>?_) (by omega) (Ob hlt))
   have:i=j:=by omega
   rw[this];exact N3 _
def rm:Nat->Nat->Nat->StateT SortSt Sem Bool:=sortPriv% PySem.Builtin.binarySort
theorem Iy{st0 st:SortSt}{lo n m:Nat}{Q:Bool->SortSt->Prop}(h0:jl (arrOf st0))(hn:lo+n<=(arrOf st0).size)(hm:m<=n)(hB:SB lo st0 st)(hs:Sin (arrOf st) lo m)
  (h:∀ st',SB lo st0 st'->Sin (arrOf st') lo n->Q true st'):wpS (model prog w) A E s (rm lo n m) Q st:=by
 unfold rm;walk_at "binarySort"
 refine wpS_bind (wpS_mono (wpS_forRange (I:=fun k c st'=>c=(none,())/\SB lo st0 st'/\Sin (arrOf st') lo (min k n))
  (Q:=fun c st'=>c=(none,())/\SB lo st0 st'/\Sin (arrOf st') lo n) ?step ?fin ?init) ?post)
 case post =>
  rintro c st' ⟨rfl,hB',hs'⟩;exact wpS_pure (h st' hB' hs')
 case init =>
  refine⟨rfl,hB,fun i j h1 h2 h3=>?_⟩;by_cases z:m=0
  ·have:i=j:=by omega
   rw[this];exact N3 _
  ·exact hs i j h1 h2 (by omega)
 case fin =>
  rintro c st' ⟨hc,hB',hs'⟩;refine⟨hc,hB',?_⟩;rwa[show min (max (max m 1) n) n=n by omega]at hs'
 case step =>
  rintro k c st' hak hkn ⟨rfl,hB',hs'⟩;rw[show min k n=k by omega]at hs'
  dsimp only
  refine wpS_bind (wpS_mono (wpS_forRange (I:=fun x c st''=>st''=st'/\∃ l r,c=(none,l,r)/\l<=r/\r<=k/\r-l<=k-x /\
    (∀ i,lo<=i->i<lo+l->K (arrOf st') i<=K (arrOf st') (lo+k))/\(∀ i,lo+r<=i->i<lo+k->K (arrOf st') (lo+k)<K (arrOf st') i))
   (Q:=fun c st''=>st''=st'/\∃ l,c=(none,l,l)/\l<=k /\
    (∀ i,lo<=i->i<lo+l->K (arrOf st') i<=K (arrOf st') (lo+k))/\(∀ i,lo+l<=i->i<lo+k->K (arrOf st') (lo+k)<K (arrOf st') i)) ?istep ?ifin ⟨rfl,0,k,rfl,by omega,by omega,by omega,fun i h1 h2=>by omega,fun i h1 h2=>by omega⟩) ?ipost)
  case ifin =>
   rintro c st'' ⟨rfl,l,r,rfl,q1,q2,q3,q4,q5⟩;have:l=r:=by omega
   subst this;exact⟨rfl,l,rfl,q2,q4,q5⟩
  case istep =>
   rintro x c st'' _ hxk ⟨rfl,l,r,rfl,q1,q2,q3,q4,q5⟩;dsimp only;by_cases z:l ≥ r
   ·refine aJ z ?_;have:l=r:=by omega
    subst this;exact wpS_pure ⟨rfl,l,rfl,q2,q4,q5⟩
   ·refine aI z ?_;refine wpS_bind (mm hB' h0 (by omega) (by omega) ?_)
    by_cases y:K (arrOf st'') (lo+k)<K (arrOf st'') (lo+(l+r)/2)
    ·simp only[y,decide_true,if_true];refine wpS_pure ⟨rfl,l,(l+r)/2,rfl,by omega,by omega,by omega,q4,fun i h1 h2=>?_⟩
     have:=hs' (lo+(l+r)/2) i (by omega) h1 h2
     omega
    ·simp only[y,decide_false,NG,if_false];refine wpS_pure ⟨rfl,(l+r)/2+1,r,rfl,by omega,by omega,by omega,fun i h1 h2=>?_,q5⟩
     have:=hs' i (lo+(l+r)/2) h1 (by omega) (by omega)
     omega
  case ipost =>
   rintro c st'' ⟨rfl,l,rfl,q1,q2,q3⟩;dsimp only;have hks:lo+k<(arrOf st'').size:=by rw[hB'.size];omega
   have el:lo+k-(lo+k-(lo+l))=lo+l:=by omega
   refine wpS_bind ?_;show wpS _ _ _ _ (moveDown' (lo+k) (lo+l)) _ _;rw[moveDown'_eq];refine wpS_modify (wpS_pure ⟨rfl,hB'.set (bubble_perm _ _ _) fun i hi=>?_,?_⟩)
   ·rw[getElem?_bubble hks _ (by omega),el,if_neg (by omega),if_neg (by omega)]
   ·rw[show min (k+1) n=k+1 by omega]
    intro i j h1 h2 h3;show K (bubble (arrOf st'') (lo+k) (lo+k-(lo+l))) i<=K (bubble (arrOf st'') (lo+k) (lo+k-(lo+l))) j;rw[DJ hks (by omega),DJ hks (by omega),el]
    repeat' split
    all_goals first
     | (exfalso;omega)
     |exact N3 _
     |exact q2 _ (by omega) (by omega)
     |exact Ob (q3 _ (by omega) (by omega))
     |exact hs' _ _ (by omega) (by omega) (by omega)
end PyProof.RowsP
namespace PyProof.RowsP
open PySem PyProof.Rows
local macro_rules | `(tactic| walk_at "mergeAt") => do
 let n:=Lean.mkIdent (Lean.mkPrivateNameCore `PySem.Builtin.List.W1All `PySem.Builtin.mergeAt)
 `(tactic| delta $n)
local macro_rules | `(tactic| walk_at "st") => `(tactic| try dsimp -zeta -zetaHave only)
local macro_rules | `(tactic| walk_at "l3") => `(tactic| (extract_lets -underBinder +onlyGivenNames a b c; subst a b c))
local macro_rules | `(tactic| walk_at "l11") => `(tactic| (extract_lets -underBinder +onlyGivenNames a b c d e f g h i j k; subst a b c d e f g h i j k; dsimp -zeta -zetaHave only))
local macro_rules | `(tactic| walk_at "l1") => `(tactic| (extract_lets -underBinder +onlyGivenNames a; subst a; try dsimp -zeta -zetaHave only))
local macro_rules | `(tactic| walk_at "l2") => `(tactic| (extract_lets -underBinder +onlyGivenNames a b; subst a b; try dsimp -zeta -zetaHave only))
local macro_rules | `(tactic| walk_at "l4") => `(tactic| (extract_lets -underBinder +onlyGivenNames a b c d; subst a b c d; try dsimp -zeta -zetaHave only))
variable{prog:Program}{w:World}{A:Around}{E:Value->Shared->Prop}{s:Shared} [KF:KeyFn] [LO:LtOk prog w A E s]
theorem xA{P:List Keyed}{i n m:Nat}(hm:m<n):((P.drop i).take n)[m]?=P[i+m]?:=by
 rw[Ol,if_pos hm,OB]
theorem Kb{P:List Keyed}{i n x y:Nat}{p q:Keyed}(u:Upl ((P.drop i).take n))(hp:P[i+x]?=some p)(hq:P[i+y]?=some q)(h:x<=y)(hy:y<n):ky p<=ky q :=
 IA u (i:=x) (j:=y) (by rw[xA (by omega)];exact hp) (by rw[xA hy];exact hq) h
theorem Fl{st:SortSt}{key:Keyed}{arr:Array Keyed}{base n hint:Nat}{Q:Option Nat->SortSt->Prop}(hk:kindOf st=KeyFn.kd)(hkey:IntP key)(u:Upl ((arr.toList.drop base).take n))(ip:∀ x∈arr.toList,IntP x)(hn:base+n<=arr.size)(hh:hint<n)
  (h:∀ k,k<=n->(∀ i,i<k->fR arr.toList base key i=true)->(∀ i,k<=i->i<n->fR arr.toList base key i=false)->Q (some k) st):wpS (model prog w) A E s ((sortPriv% PySem.Builtin.gallop) false key arr base n hint) Q st:=by
 have la:arr.toList.length=arr.size:=by simp
 refine jq (fR arr.toList base key) hk hkey (fun i hi=>?_) (fun x y hxy hy e=>?_) hh h
 ·have hx:arr.toList[base+i]?=some arr.toList[base+i]:=Mx (by omega)
  exact⟨_,by rw[← hx];simp,ip _ (N4 _),by rw[qK hx];rfl⟩
 ·have hx:arr.toList[base+x]?=some arr.toList[base+x]:=Mx (by omega)
  have hy':arr.toList[base+y]?=some arr.toList[base+y]:=Mx (by omega)
  rw[qK hy']at e;rw[qK hx];have:=Kb u hx hy' hxy hy;simp only[O7,decide_eq_false_iff_not]at e ⊢;omega
theorem Fm{st:SortSt}{key:Keyed}{arr:Array Keyed}{base n hint:Nat}{Q:Option Nat->SortSt->Prop}(hk:kindOf st=KeyFn.kd)(hkey:IntP key)(u:Upl ((arr.toList.drop base).take n))(ip:∀ x∈arr.toList,IntP x)(hn:base+n<=arr.size)(hh:hint<n)
  (h:∀ k,k<=n->(∀ i,i<k->fL arr.toList base key i=true)->(∀ i,k<=i->i<n->fL arr.toList base key i=false)->Q (some k) st):wpS (model prog w) A E s ((sortPriv% PySem.Builtin.gallop) true key arr base n hint) Q st:=by
 have la:arr.toList.length=arr.size:=by simp
 refine jq (fL arr.toList base key) hk hkey (fun i hi=>?_) (fun x y hxy hy e=>?_) hh h
 ·have hx:arr.toList[base+i]?=some arr.toList[base+i]:=Mx (by omega)
  exact⟨_,by rw[← hx];simp,ip _ (N4 _),by rw[sI hx];rfl⟩
 ·have hx:arr.toList[base+x]?=some arr.toList[base+x]:=Mx (by omega)
  have hy':arr.toList[base+y]?=some arr.toList[base+y]:=Mx (by omega)
  rw[sI hy']at e;rw[sI hx];have:=Kb u hx hy' hxy hy;simp only[decide_eq_true_eq]at e ⊢;omega
theorem Gz{P:List Keyed}{i n k:Nat}{y:Keyed}(h:y∈((P.drop i).take n).drop k):∃ m,k<=m/\m<n/\P[i+m]?=some y:=by
 obtain⟨m,e⟩:=GA h;have hl:=(Mw.mp e).1;rw[Nf]at hl;rw[xA (by omega)]at e
 exact⟨k+m,by omega,by omega,e⟩
theorem fR_sh{P:List Keyed}{i n k:Nat}{v:Keyed}(h:∀ m,k<=m->m<n->fR P i v m=false):∀ y∈((P.drop i).take n).drop k,ky v<ky y:=fun y hy=>by
 obtain⟨m,h1,h2,e⟩:=Gz hy;have:=h m h1 h2;rw[qK e]at this;simpa using this
theorem fL_sh{P:List Keyed}{i n k:Nat}{v:Keyed}(h:∀ m,k<=m->m<n->fL P i v m=false):∀ y∈((P.drop i).take n).drop k,ky v<=ky y:=fun y hy=>by
 obtain⟨m,h1,h2,e⟩:=Gz hy;have:=h m h1 h2;rw[sI e]at this;simp only[decide_eq_false_iff_not]at this;omega
theorem Dz(c:Nat):∀(l:List Keyed)(n:Nat)(xs:Array Keyed),c+n+l.length<=xs.size->((l.zipIdx n).foldl (fun a x=>match x with | (p,j)=>a.setIfInBounds (c+j) p) xs).toList=xs.toList.take (c+n)++l++xs.toList.drop (c+n+l.length)
 |[],n,xs,_=>by
  show xs.toList=_;rw[O2,OF,Nat.add_zero,M9]
 |p::l,n,xs,h=>by
  have ll:xs.toList.length=xs.size:=by simp
  rw[Nb]at h ⊢;rw[Qe,List.foldl_cons];show((l.zipIdx (n+1)).foldl _ (xs.setIfInBounds (c+n) p)).toList=_;rw[Dz c l (n+1) _ (by rw[QB];omega),Qq,List.drop_set_of_lt (by omega),show c+(n+1)=c+n+1 by omega,show c+n+1+l.length=c+n+(l.length+1) by omega]
  have e:(xs.toList.set (c+n) p).take (c+n+1)=xs.toList.take (c+n)++[p]:=by
   rw[M1,List.take_set_of_le (MC _),N6 (by omega)]
   rfl
  rw[e,Nm (xs.toList.take (c+n)) [p] l];rfl
theorem CZ{P R:List Keyed}(u:Upl P)(v:Upl R)(c:∀ x∈P,∀ y∈R,ky x<=ky y):Upl (P++R):=NB.mpr ⟨u,v,c⟩
theorem KP{σ:Type}{M:Model}{x st:σ}{Q:PUnit->σ->Prop}(h:Q ⟨⟩ x):wpS M A E s (set x:StateT σ Sem PUnit) Q st:=by
 unfold wpS;rw[StateT.run_set];exact wpAny_pure ⟨rfl,h⟩
def Dp:Nat->StateT SortSt Sem Bool:=sortPriv% PySem.Builtin.mergeAt
theorem zW{st:SortSt}{i sa na pa sb nb pb:Nat}{Q:Bool->SortSt->Prop}(hk:kindOf st=KeyFn.kd)(hf:failedOf st=none)(h0:jl (arrOf st))(p1:(pendingOf st)[i]?=some (sa,na,pa))(p2:(pendingOf st)[i+1]?=some (sb,nb,pb))(es:sb=sa+na)(a1:1<=na)(b1:1<=nb)(le:sb+nb<=(arrOf st).size)
  (s1:Upl (((arrOf st).toList.drop sa).take na)) (s2:Upl (((arrOf st).toList.drop sb).take nb))
  (h:∀(st':SortSt)(M:List Keyed),kindOf st'=KeyFn.kd->failedOf st'=none->pendingOf st'=((pendingOf st).setIfInBounds i (sa,na+nb,pa)).eraseIdxIfInBounds (i+1)->(arrOf st').toList=(arrOf st).toList.take sa++M++(arrOf st).toList.drop (sb+nb)->M.Perm (((arrOf st).toList.drop sa).take na++((arrOf st).toList.drop sb).take nb)->Upl M->Q true st') :
  wpS (model prog w) A E s (Dp i) Q st:=by
 unfold Dp;walk_at "mergeAt";refine wpS_bind (wpS_get ?_);rw[show((sortPriv% PySem.Builtin.SortState.pending) st)[i]?=some (sa,na,pa) from p1,show((sortPriv% PySem.Builtin.SortState.pending) st)[i+1]?=some (sb,nb,pb) from p2];dsimp -zeta -zetaHave only;refine wpS_bind (KP ?_);obtain⟨xs,exs⟩:∃ xs,arrOf st=xs:=⟨_,rfl⟩;obtain⟨st1,est1⟩:∃ st1:SortSt,SortSt.mk' (kindOf st) (arrOf st) (((pendingOf st).setIfInBounds i (sa,na+nb,pa)).eraseIdxIfInBounds (i+1)) (gallopOf st) (failedOf st)=st1:=⟨_,rfl⟩;have k1:kindOf st1=KeyFn.kd:=by rw[← est1];exact hk
 have f1:failedOf st1=none:=by rw[← est1];exact hf
 have e1:arrOf st1=xs:=by rw[← est1,← exs]
 have q1:pendingOf st1=((pendingOf st).setIfInBounds i (sa,na+nb,pa)).eraseIdxIfInBounds (i+1):=by rw[← est1]
 show wpS (model prog w) A E s _ Q (SortSt.mk' (kindOf st) (arrOf st) (((pendingOf st).setIfInBounds i (sa,na+nb,pa)).eraseIdxIfInBounds (i+1)) (gallopOf st) (failedOf st));rw[est1];clear est1;rw[show(sortPriv% PySem.Builtin.SortState.a) st=xs from exs];rw[exs]at h0 le s1 s2 h;clear exs p1 p2 hf hk;have ll:xs.toList.length=xs.size:=by simp
 have ip:∀ x∈xs.toList,IntP x:=fun x hx=>h0 x hx;have at':∀ i,i<xs.size->∃ x,xs.toList[i]?=some x/\IntP x:=fun i hi=>⟨_,Mx (by omega),ip _ (N4 _)⟩
 obtain⟨b0,hb0,ib0⟩:=at' sb (by omega)
 refine wpS_bind (aQ (at_l hb0) ?_);refine wpS_bind (Fl k1 ib0 s1 ip (by omega) (by omega) fun k kn kt kf=>?_)
 dsimp -zeta -zetaHave only;obtain⟨S1,eS1⟩:∃ S1,(xs.toList.drop sa).take na=S1:=⟨_,rfl⟩;obtain⟨S2,eS2⟩:∃ S2,(xs.toList.drop sb).take nb=S2:=⟨_,rfl⟩;have l1:S1.length=na:=by rw[← eS1,Nf,Nu];omega
 have l2:S2.length=nb:=by rw[← eS2,Nf,Nu];omega
 have tk1:S1.take k=(xs.toList.drop sa).take k:=by rw[← eS1,Po,Of kn]
 have lo1:∀ x∈S1.take k,ky x<=ky b0:=by rw[tk1];exact Me kt
 have hi1:∀ y∈S1.drop k,ky b0<ky y:=by rw[← eS1];exact fR_sh kf
 have bS:S2[0]?=some b0:=by rw[← eS2,xA (by omega)];exact hb0
 rw[eS1]at s1;rw[eS2]at s2;have b0l:∀ y∈S2,ky b0<=ky y:=j7 (i:=0) s2 bS
 have whole:Upl (S1++S2)->Q true st1:=fun u=>h st1 (S1++S2) k1 f1 q1 (by
  rw[e1,← eS1,← eS2,← Nm,es,← Pd,← Pd,← es,M9]) (by rw[eS1,eS2]) u
 by_cases z:(na-k == 0)=true
 ·refine aJ z ?_;have z':na-k=0:=by simpa using z
  refine wpS_pure (whole (CZ s1 s2 fun x hx y hy=>?_));have:=lo1 x (by rw[Nl (by omega)];exact hx)
  have:=b0l y hy;omega
 refine aI z ?_;have z':na-k≠0:=by simpa using z
 obtain⟨al,hal,ial⟩:=at' (sa+k+(na-k)-1) (by omega)
 have aS:S1[na-1]?=some al:=by rw[← eS1,xA (by omega),← hal];congr 1;omega
 refine wpS_bind (aQ (at_l hal) ?_);refine wpS_bind (Fm k1 ial (by rw[eS2];exact s2) ip (by omega) (by omega) fun m mn mt mf=>?_)
 dsimp -zeta -zetaHave only;have tk2:S2.take m=(xs.toList.drop sb).take m:=by rw[← eS2,Po,Of mn]
 have lo2:∀ x∈S2.take m,ky x<ky al:=by rw[tk2];exact Mg mt
 have hi2:∀ y∈S2.drop m,ky al<=ky y:=by rw[← eS2];exact fL_sh mf
 have all:∀ x∈S1,ky x<=ky al:=fun x hx=>mq s1 aS x (by rw[Nl (by omega)];exact hx)
 by_cases y:(m == 0)=true
 ·refine aJ y ?_;have y':m=0:=by simpa using y
  subst y';exact wpS_pure (whole (CZ s1 s2 fun x hx y hy=>Pl (all x hx) (hi2 y hy)))
 refine aI y ?_;have y':m≠0:=by simpa using y
 walk_at "st";extract_lets -underBinder +onlyGivenNames xx yy jp;subst xx yy;clear_value (ej:jp=_);have ea:(xs.extract (sa+k) sb).toList=S1.drop k:=by
  rw[wa,← eS1,O9,O9,OQ];congr 1;omega
 have eb:(xs.extract sb (sb+m)).toList=S2.take m:=by rw[pF,tk2]
 have za:(xs.extract (sa+k) sb).size=na-k:=by rw[← Nz,ea,Nu,l1]
 have zb:(xs.extract sb (sb+m)).size=m:=by rw[← Nz,eb,Nf];omega
 have ipa:∀ x∈(xs.extract (sa+k) sb).toList,IntP x:=fun x hx=>by
  rw[wa]at hx;exact ip x (NL (NM hx))
 have ipb:∀ x∈(xs.extract sb (sb+m)).toList,IntP x:=fun x hx=>by
  rw[pF]at hx;exact ip x (NM (NL hx))
 have ua:Upl (xs.extract (sa+k) sb).toList:=by rw[ea];exact s1.drop
 have ub:Upl (xs.extract sb (sb+m)).toList:=by rw[eb];exact s2.take
 have c0:∀ x y:Keyed,(xs.extract sb (sb+m)).toList[0]?=some x->y∈(xs.extract (sa+k) sb).toList->ky x<ky y:=fun x y hx hy=>by
  rw[eb,Ol,if_pos (by omega),bS]at hx
  cases hx
  rw[ea]at hy;exact hi1 y hy
 have cl:∀ x y:Keyed,x∈(xs.extract sb (sb+m)).toList->(xs.extract (sa+k) sb).toList[(xs.extract (sa+k) sb).size-1]?=some y->ky x<ky y:=fun x y hx hy=>by
  rw[za,ea,OB,show k+(na-k-1)=na-1 by omega,aS]at hy
  cases hy
  rw[eb]at hx;exact lo2 x hx
 have hj:∀(R:Array Keyed)(st2:SortSt),SmG st1 st2->R.toList.Perm ((xs.extract (sa+k) sb).toList++(xs.extract sb (sb+m)).toList)->Upl R.toList->wpS (model prog w) A E s (jp R) Q st2:=by
  intro R st2 sg pm up;rw[ej];clear ej jp;walk_at "st";rw[ea,eb]at pm;have rl:R.toList.length=na-k+m:=by rw[pm.length_eq,MA,Nu,Nf,l1,l2];omega
  refine wpS_bind (wpS_modify ?_);refine wpS_bind (wpS_get ?_);have ff:(sortPriv% PySem.Builtin.SortState.failed) st2=none:=sg.f.trans f1;show wpS (model prog w) A E s (pure ((sortPriv% PySem.Builtin.SortState.failed) st2).isNone) Q _;rw[ff];have tk:∀ x∈S1.take k,∀ y∈S1.drop k,ky x<=ky y:=by
   have:Upl (S1.take k++S1.drop k):=by rw[M9];exact s1
   exact(NB.mp this).2.2
  have tk':∀ x∈S2.take m,∀ y∈S2.drop m,ky x<=ky y:=by
   have:Upl (S2.take m++S2.drop m):=by rw[M9];exact s2
   exact(NB.mp this).2.2
  refine wpS_pure (h _ (S1.take k++R.toList++S2.drop m) (sg.k.trans k1) rfl (sg.p.trans q1) ?_ ?_ ?_)
  ·show(R.toList.zipIdx.foldl (fun a x=>match x with | (p,j)=>a.setIfInBounds (sa+k+j) p) (arrOf st2)).toList=_
   rw[sg.a,e1,Dz (sa+k) R.toList 0 xs (by omega),Nat.add_zero,rl,show sa+k+(na-k+m)=sb+m by omega,Pd,← tk1]
   have ed:xs.toList.drop (sb+m)=S2.drop m++xs.toList.drop (sb+nb):=by
    rw[← OQ,← eS2];have e:=congrArg (List.drop m) (M9 nb (xs.toList.drop sb));rw[Qf,Nf,Nu,show m-min nb (xs.toList.length-sb)=0 by omega,Pp,OQ]at e
    exact e.symm
   rw[ed];simp only[Nm]
  ·rw[eS1,eS2];have e:S1++S2=S1.take k++(S1.drop k++S2.take m)++S2.drop m:=by
    rw[Nm,Nm,M9,← Nm,M9]
   rw[e];exact(Oa _ pm).append_right _
  ·refine CZ (CZ s1.take up fun x hx y hy=>?_) s2.drop fun x hx y hy=>?_
   ·rcases MH.mp (pm.mem_iff.mp hy)with hy | hy
    ·exact tk x hx y hy
    ·have:=lo1 x hx
     have:=b0l y (NL hy);omega
   ·rcases MH.mp hx with hx | hx
    ·have:=lo1 x hx
     have:=b0l y (NM hy);omega
    ·rcases MH.mp (pm.mem_iff.mp hx)with hx | hx
     ·exact Pl (all x (NM hx)) (hi2 y hy)
     ·exact tk' x hx y hy
 clear ej;by_cases c:na-k<=m
 ·refine aJ c ?_;exact wpS_bind (zU k1 ua ub ipa ipb (by omega) (by omega) (fun x y a b=>Ob (c0 x y a b)) cl fun R st2 sg pm up=>hj R st2 sg pm up)
 ·refine aI c ?_;exact wpS_bind (zV k1 ua ub ipa ipb (by omega) (by omega) c0 cl fun R st2 sg pm up=>hj R st2 sg pm up)
end PyProof.RowsP
namespace PyProof.RowsP
open PySem PyProof.Rows
local macro_rules | `(tactic| walk_at "sortRuns") => do
 let n:=Lean.mkIdent (Lean.mkPrivateNameCore `PySem.Builtin.List.W1All `PySem.Builtin.sortRuns)
 `(tactic| delta $n)
local macro_rules | `(tactic| walk_at "st") => `(tactic| try dsimp -zeta -zetaHave only)
local macro_rules | `(tactic| walk_at "l3") => `(tactic| (extract_lets -underBinder +onlyGivenNames a b c; subst a b c))
local macro_rules | `(tactic| walk_at "l11") => `(tactic| (extract_lets -underBinder +onlyGivenNames a b c d e f g h i j k; subst a b c d e f g h i j k; dsimp -zeta -zetaHave only))
local macro_rules | `(tactic| walk_at "l1") => `(tactic| (extract_lets -underBinder +onlyGivenNames a; subst a; try dsimp -zeta -zetaHave only))
local macro_rules | `(tactic| walk_at "l2") => `(tactic| (extract_lets -underBinder +onlyGivenNames a b; subst a b; try dsimp -zeta -zetaHave only))
local macro_rules | `(tactic| walk_at "l4") => `(tactic| (extract_lets -underBinder +onlyGivenNames a b c d; subst a b c d; try dsimp -zeta -zetaHave only))
variable{prog:Program}{w:World}{A:Around}{E:Value->Shared->Prop}{s:Shared} [KF:KeyFn] [LO:LtOk prog w A E s]
def Rn(L:List Keyed):List (Nat×Nat×Nat)->Nat->Nat->Prop
 |[],c,e=>c=e
 |p::t,c,e=>p.1=c/\1<=p.2.1/\Upl ((L.drop p.1).take p.2.1)/\Rn L t (c+p.2.1) e
theorem Rn.le{L:List Keyed}:∀{T:List (Nat×Nat×Nat)}{c e:Nat},Rn L T c e->c+T.length<=e
 |[],c,e,h=>by cases h;exact MC _
 |p::t,c,e,⟨_,h1,_,h⟩=>by
  have:=Rn.le h;rw[Nb];omega
theorem Rn.app{L:List Keyed}:∀{T1 T2:List (Nat×Nat×Nat)}{c e:Nat},Rn L (T1++T2) c e↔∃ m,Rn L T1 c m/\Rn L T2 m e
 |[],T2,c,e=>⟨fun h=>⟨c,rfl,h⟩,fun⟨m,h1,h2⟩=>by cases h1;exact h2⟩
 |p::t,T2,c,e=>by
  constructor
  ·rintro⟨h1,h2,h3,h4⟩;obtain⟨m,g1,g2⟩:=Rn.app.mp h4;exact⟨m,⟨h1,h2,h3,g1⟩,g2⟩
  ·rintro⟨m,⟨h1,h2,h3,g1⟩,g2⟩;exact⟨h1,h2,h3,Rn.app.mpr ⟨m,g1,g2⟩⟩
theorem Rn.lo{L L':List Keyed}{m:Nat}(hm:L.take m=L'.take m):∀{T:List (Nat×Nat×Nat)}{c e:Nat},Rn L T c e->e<=m->Rn L' T c e
 |[],c,e,h,_=>h
 |p::t,c,e,⟨h1,h2,h3,h4⟩,he=>by
  have hl:=h4.le;refine⟨h1,h2,?_,Rn.lo hm h4 he⟩;have cut:∀ Z:List Keyed,(Z.drop p.1).take p.2.1=((Z.take m).drop p.1).take p.2.1:=fun Z=>by
   rw[O9,Po,Of (by omega)]
  rw[cut L',← hm,← cut L];exact h3
theorem Rn.hi{L L':List Keyed}{m:Nat}(hm:L.drop m=L'.drop m):∀{T:List (Nat×Nat×Nat)}{c e:Nat},Rn L T c e->m<=c->Rn L' T c e
 |[],c,e,h,_=>h
 |p::t,c,e,⟨h1,h2,h3,h4⟩,he=>by
  refine⟨h1,h2,?_,Rn.hi hm h4 (by omega)⟩
  have cut:∀ Z:List Keyed,Z.drop p.1=(Z.drop m).drop (p.1-m):=fun Z=>by rw[OQ];congr 1;omega
  rw[cut L',← hm,← cut L];exact h3
theorem Rn.like{L:List Keyed}:∀{T T':List (Nat×Nat×Nat)}{c e:Nat},T.map (fun p=>(p.1,p.2.1))=T'.map (fun p=>(p.1,p.2.1))->Rn L T c e->Rn L T' c e
 |[],[],c,e,_,h=>h
 |p::t,q::t',c,e,hm,⟨h1,h2,h3,h4⟩=>by
  rw[Nh,Nh]at hm;injection hm with a b;injection a with a1 a2;refine⟨by rw[← a1];exact h1,by rw[← a2];exact h2,by rw[← a1,← a2];exact h3,?_⟩
  rw[← a2];exact Rn.like b h4
 |[],q::t',c,e,hm,h=>by cases hm
 |p::t,[],c,e,hm,h=>by cases hm
structure SI(a₀:Array Keyed)(lo:Nat)(st:SortSt):Prop where
 perm:(arrOf st).Perm a₀
 kind:kindOf st=KeyFn.kd
 failed:failedOf st=none
 rn:Rn (arrOf st).toList (pendingOf st).toList 0 lo
 le:lo<=a₀.size
theorem SI.size{a₀:Array Keyed}{lo:Nat}{st:SortSt}(h:SI a₀ lo st):(arrOf st).size=a₀.size:=h.perm.size_eq
theorem SI.keys{a₀:Array Keyed}{lo:Nat}{st:SortSt}(h:SI a₀ lo st)(h0:jl a₀):jl (arrOf st):=fun p hp=>h0 p ((Oh.mp h.perm).mem_iff.mp hp)
theorem pI{a₀:Array Keyed}{lo i:Nat}{st:SortSt}{Q:Bool->SortSt->Prop}(h0:jl a₀)(hS:SI a₀ lo st)(hi:i+1<(pendingOf st).size)(h:∀ st',SI a₀ lo st'->(pendingOf st').size+1=(pendingOf st).size->(arrOf st').toList.drop lo=(arrOf st).toList.drop lo->Q true st') :
  wpS (model prog w) A E s ((sortPriv% PySem.Builtin.mergeAt) i) Q st:=by
 have tl:(pendingOf st).toList.length=(pendingOf st).size:=by simp
 obtain⟨T,eT⟩:∃ T,(pendingOf st).toList=T:=⟨_,rfl⟩;rw[eT]at tl;have g1:(pendingOf st)[i]?=some T[i]:=by rw[← Mx,← eT];simp
 have g2:(pendingOf st)[i+1]?=some T[i+1]:=by rw[← Mx,← eT];simp
 have sp:T=T.take i++T[i]::T[i+1]::T.drop (i+2):=by
  rw[← Om,← Om,M9]
 obtain⟨T1,eT1⟩:∃ T1,T.take i=T1:=⟨_,rfl⟩;obtain⟨T2,eT2⟩:∃ T2,T.drop (i+2)=T2:=⟨_,rfl⟩;obtain⟨⟨sa,na,pa⟩,ep⟩:∃ p,T[i]=p:=⟨_,rfl⟩;obtain⟨⟨sb,nb,pb⟩,eq⟩:∃ p,T[i+1]=p:=⟨_,rfl⟩;have t1l:T1.length=i:=by rw[← eT1,Nf];omega
 rw[ep]at g1;rw[eq]at g2;rw[eT1,eT2,ep,eq]at sp;have rn:=hS.rn;rw[eT,sp]at rn;obtain⟨m,r1,⟨x1,x2,x3,⟨y1,y2,y3,r2⟩⟩⟩:=Rn.app.mp rn;dsimp only at x1 x2 x3 y1 y2 y3 r2;have le2:=r2.le;have le:=hS.le;have sz:=hS.size;have ll:(arrOf st).toList.length=(arrOf st).size:=by simp
 refine zW hS.kind hS.failed (hS.keys h0) g1 g2 (by omega) x2 y2 (by omega) x3 y3 fun st' M k' f' p' e' pm up=>?_
 have Ml:M.length=na+nb:=by
  rw[pm.length_eq,MA,Nf,Nf,Nu,Nu];omega
 have hpp:(pendingOf st').toList=T1++(sa,na+nb,pa)::T2:=by
  rw[p'];have:(((pendingOf st).setIfInBounds i (sa,na+nb,pa)).eraseIdxIfInBounds (i+1)).toList=(T.set i (sa,na+nb,pa)).eraseIdx (i+1):=by
   unfold Array.eraseIdxIfInBounds;rw[dif_pos (by rw[QB];exact hi),Array.toList_eraseIdx,Qq,eT]
  rw[this,sp,← t1l,PU _ _ (MC _),M7,List.set_cons_zero,List.eraseIdx_append_of_length_le (by omega),show T1.length+1-T1.length=1 by omega]
  rfl
 have ptl:(pendingOf st').size+1=(pendingOf st).size:=by
  have a:=congrArg Qm hpp;have b:=congrArg Qm sp;simp only[MA,Nb,Nz]at a b;omega
 have es:sb=sa+na:=by omega
 have lt:((arrOf st).toList.take sa).length=sa:=by rw[Nf];omega
 have tke:(arrOf st).toList.take m=(arrOf st').toList.take m:=by
  rw[e',Nm,Pb (by omega),Po,x1,Nat.min_self]
 have dre:(arrOf st).toList.drop (sb+nb)=(arrOf st').toList.drop (sb+nb):=by
  rw[e',List.drop_left' (by rw[MA,lt,Ml];omega)]
 refine h st' ⟨?_,k',f',?_,le⟩ ptl (by
  have e:=congrArg (List.drop (lo-(sb+nb))) dre;rw[OQ,OQ,show sb+nb+(lo-(sb+nb))=lo by omega]at e
  exact e.symm)
 ·refine Array.Perm.trans (Oh.mpr ?_) hS.perm;rw[e'];have e2:(arrOf st).toList=(arrOf st).toList.take sa++(((arrOf st).toList.drop sa).take na++((arrOf st).toList.drop sb).take nb)++(arrOf st).toList.drop (sb+nb):=by
   have es:sb=sa+na:=by omega
   rw[← Nm,es,← Pd,← Pd,M9]
  exact((Oa _ pm).append_right _).trans (List.Perm.of_eq e2.symm)
 ·rw[hpp];refine Rn.app.mpr ⟨m,r1.lo tke (MC _),x1,by show 1<=na+nb;omega,?_,?_⟩
  ·show Upl (((arrOf st').toList.drop sa).take (na+nb));have:((arrOf st').toList.drop sa).take (na+nb)=M:=by
    rw[e',Nm,Qf,lt,M7,Pp,PJ (by omega),PX,Pb (by omega),Nl (by omega)]
   rw[this];exact up
  ·show Rn _ T2 (m+(na+nb)) lo;have:=r2.hi dre (by omega)
   rw[show m+(na+nb)=m+na+nb by omega]
   exact this
theorem K9{xs:Array Keyed}{lo n:Nat}(h:Sin xs lo n)(hn:lo+n<=xs.size):Upl ((xs.toList.drop lo).take n):=by
 have ll:xs.toList.length=xs.size:=by simp
 refine N8.mpr fun i j hi hj hij=>?_;rw[Nf,Nu]at hj;rw[Pw,P9,Pw,P9];have z:=h (lo+i) (lo+j) (by omega) (by omega) (by omega)
 rw[K_eq (by omega),K_eq (by omega)]at z
 simpa[ky] using z
theorem SB.si{a₀:Array Keyed}{lo:Nat}{st0 st:SortSt}(h:SB lo st0 st)(hS:SI a₀ lo st0):SI a₀ lo st:=by
 refine⟨h.perm.trans hS.perm,h.kind,h.failed.trans hS.failed,?_,hS.le⟩;rw[h.pend];refine hS.rn.lo (Ou fun i=>?_) (MC _);rw[Ol,Ol];split
 ·rename_i hi;have:=h.low i hi;rw[← N1,← N1]at this;exact this.symm
 ·rfl
theorem ite_lt(c:Bool){n:Nat}(h:¬ n<=1):(if c=true then n-2-1 else n-2)+1<n:=by split<;>omega
def xk:StateT SortSt Sem Unit:=sortPriv% PySem.Builtin.sortRuns
theorem wpS_sortAll{a₀:Array Keyed}{st:SortSt}{Q:Unit->SortSt->Prop}(h0:jl a₀)(hS:SI a₀ 0 st)(h:∀ st',(arrOf st').Perm a₀->failedOf st'=none->Upl (arrOf st').toList->Q () st'):wpS (model prog w) A E s xk Q st:=by
 unfold xk;walk_at "sortRuns";refine wpS_bind (wpS_get ?_);rw[show((sortPriv% PySem.Builtin.SortState.a) st).size=a₀.size from hS.size];walk_at "st";walk_at "l3";generalize (sortPriv% PySem.Builtin.minRun) a₀.size a₀.size 0=mr;refine wpS_bind (wpS_mono (wpS_forRange (I:=fun x c st'=>∃ lo,c=(none,lo)/\SI a₀ lo st'/\(lo=a₀.size∨x<=lo)) (Q:=fun c st'=>c=(none,a₀.size)/\SI a₀ a₀.size st') ?step ?fin ⟨0,rfl,hS,.inr (MC _)⟩) ?post)
 case fin =>
  rintro c st' ⟨lo,rfl,hS',g⟩;have:=hS'.le;have:lo=a₀.size:=by omega
  subst this;exact⟨rfl,hS'⟩
 case step =>
  rintro x c st' _ hx ⟨lo,rfl,hS',g⟩;have le:=hS'.le;have sz:=hS'.size;by_cases z:lo ≥ a₀.size
  ·refine aJ z ?_;have:lo=a₀.size:=by omega
   subst this;exact wpS_pure ⟨rfl,hS'⟩
  refine aI z ?_;refine zX fun R hR=>?_;refine wpS_bind (DK hS'.kind (hS'.keys h0) (by omega) (by omega) fun m st1 hB1 m1 m2 hs1=>?_)
  walk_at "st";extract_lets -underBinder +onlyGivenNames nn jp;subst nn;clear_value (ej:jp=_);have hj:∀(n:Nat)(st2:SortSt),SB lo st' st2->1<=n->lo+n<=a₀.size->Sin (arrOf st2) lo n->wpS (model prog w) A E s (jp () n) R st2:=by
   intro n st2 hB2 n1 n2 hs2;rw[ej];clear ej jp;walk_at "st";have S2:=hB2.si hS';have u2:=K9 hs2 (by rw[S2.size];exact n2)
   refine wpS_bind (wpS_get ?_);walk_at "st";extract_lets -underBinder +onlyGivenNames jp;clear_value (ej:jp=_);have hj:∀ st3:SortSt,SI a₀ lo st3->(arrOf st3).toList.drop lo=(arrOf st2).toList.drop lo->wpS (model prog w) A E s (jp ()) R st3:=by
    intro st3 S3 e3;rw[ej];clear ej jp;walk_at "st";refine wpS_bind (wpS_modify (wpS_pure (hR _ _ ⟨lo+n,rfl,⟨S3.perm,S3.kind,S3.failed,?_,n2⟩,?_⟩)))
    ·show Rn (arrOf st3).toList ((pendingOf st3).push (lo,n,0)).toList 0 (lo+n);rw[Ov];refine Rn.app.mpr ⟨lo,S3.rn,rfl,n1,?_,rfl⟩;show Upl (((arrOf st3).toList.drop lo).take n);rw[e3];exact u2
    ·rcases g with g | g
     ·exact absurd g (by omega)
     ·exact .inr (by omega)
   clear ej
   cases eb:((sortPriv% PySem.Builtin.SortState.pending) st2).back? with
   |none=>exact hj st2 S2 rfl
   |some p =>
    obtain⟨s1,n1',p1⟩:=p;walk_at "st";extract_lets -underBinder +onlyGivenNames pw;clear_value pw;refine wpS_bind (wpS_mono (wpS_forRange (I:=fun _ c st3=>c=(none,())/\SI a₀ lo st3/\(arrOf st3).toList.drop lo=(arrOf st2).toList.drop lo) (Q:=fun c st3=>c=(none,())/\SI a₀ lo st3/\(arrOf st3).toList.drop lo=(arrOf st2).toList.drop lo) ?pstep (fun c st3 q=>q) ⟨rfl,S2,rfl⟩) ?ppost)
    case pstep =>
     rintro y c st3 _ hy ⟨rfl,S3,e3⟩;refine wpS_bind (wpS_get ?_);walk_at "st";walk_at "l1";by_cases big:((sortPriv% PySem.Builtin.SortState.pending) st3).size > 1
     ·rw[if_pos big];obtain⟨⟨q1,q2,q3⟩,eq⟩:∃ p,((sortPriv% PySem.Builtin.SortState.pending) st3)[((sortPriv% PySem.Builtin.SortState.pending) st3).size-2]?=some p:=⟨_,getElem?_pos _ _ (by omega)⟩
      rw[eq];dsimp -zeta -zetaHave only;split
      ·exact wpS_pure ⟨rfl,S3,e3⟩
      ·exact wpS_bind (pI h0 S3 (show(pendingOf st3).size-2+1<(pendingOf st3).size from by have:(pendingOf st3).size > 1:=big;omega) fun st4 S4 _ e4=>wpS_pure ⟨rfl,S4,e4.trans e3⟩)
     ·rw[if_neg big];exact wpS_pure ⟨rfl,S3,e3⟩
    case ppost =>
     rintro c st3 ⟨rfl,S3,e3⟩;walk_at "st";walk_at "l1";refine wpS_bind (wpS_modify (hj _ ⟨S3.perm,S3.kind,S3.failed,?_,S3.le⟩ e3));refine Rn.like ?_ S3.rn;show _=List.map _ ((pendingOf st3).modify _ _).toList;rw[Array.toList_modify];refine Ou fun i=>?_;rw[ME,ME,List.getElem?_modify]
     cases (pendingOf st3).toList[i]? with
     |none=>rfl
     |some p =>
      show some (p.1,p.2.1)=some ((if _=i then _ else p).1,(if _=i then _ else p).2.1);split<;>rfl
  clear ej;by_cases c:m<mr
  ·refine aJ c ?_;refine wpS_bind (wpS_lift (wpAny_rule ⟨rfl,?_⟩));refine wpS_bind (Iy (hS'.keys h0) (by rw[sz];omega) (by omega) hB1 hs1 fun st2 hB2 hs2=>?_)
   exact hj _ st2 hB2 (by omega) (by omega) hs2
  ·refine aI c ?_;exact hj m st1 hB1 m1 (by omega) hs1
 case post =>
  rintro c st' ⟨rfl,hS'⟩;walk_at "st";walk_at "l1";have pl:(pendingOf st').size<=a₀.size:=by
   have:=hS'.rn.le;rw[Nz]at this;omega
  refine wpS_bind (wpS_mono (wpS_forRange (I:=fun x c st3=>c=(none,())/\SI a₀ a₀.size st3/\((pendingOf st3).size<=1∨(pendingOf st3).size+x<=a₀.size)) (Q:=fun c st3=>c=(none,())/\SI a₀ a₀.size st3/\(pendingOf st3).size<=1) ?fstep ?ffin ⟨rfl,hS',.inr pl⟩) ?fpost)
  case ffin =>
   rintro c st3 ⟨rfl,S3,g⟩;exact⟨rfl,S3,by omega⟩
  case fpost =>
   rintro c st3 ⟨rfl,S3,g⟩;refine wpS_pure (h st3 S3.perm S3.failed ?_);have rn:=S3.rn;have sz:=S3.size;have ll:(arrOf st3).toList.length=(arrOf st3).size:=by simp
   have tl:(pendingOf st3).toList.length=(pendingOf st3).size:=by simp
   match e:(pendingOf st3).toList with
   |[] =>
    rw[e]at rn;have rn':0=a₀.size:=rn;rw[List.eq_nil_of_length_eq_zero (show(arrOf st3).toList.length=0 by omega)]
    exact Qa
   |[p] =>
    rw[e]at rn;obtain⟨r1,_,r3,r4⟩:=rn;have r4':0+p.2.1=a₀.size:=r4;rw[r1,Pp,Nl (by omega)]at r3
    exact r3
   |p::q::t =>
    rw[e]at tl;simp only[Nb]at tl;omega
  case fstep =>
   rintro x c st3 _ hx ⟨rfl,S3,g⟩;refine wpS_bind (wpS_get ?_);by_cases z:((sortPriv% PySem.Builtin.SortState.pending) st3).size<=1
   ·refine aJ z ?_;exact wpS_pure ⟨rfl,S3,z⟩
   refine aI z ?_;refine wpS_bind (pI h0 S3 (ite_lt _ z) fun st4 S4 p4 _=>wpS_pure ⟨rfl,S4,?_⟩);have z':¬ (pendingOf st3).size<=1:=z;omega
end PyProof.RowsP
namespace L2
open PySem PySem.Spec PyProof.Rows
section
variable{prog:Program}{w:World}{A:Around}{E:Value->Shared->Prop}{s:Shared}{d:Addr}
theorem zY{a:Addr}{Q:Option Obj->Shared->Prop}(h:Q (s.heap.get? a) s):wpAny (model prog w) A (loadIfAlive a) Q E s:=fun Γ p hΓ=>by
 show Sem.wp _ _ (.loadIfAlive a _) _ _ _ _;rw[Sem.wp_loadIfAlive];exact(wpAny_pure (M:=model prog w) (A:=A) (E:=E) h) Γ p hΓ
def ItAt(h:Heap)(it d:Addr)(i n ep:Nat):Prop:=∃ f0 f1 x6 x7,h.get? it=some { cls:=.type "dict_itemiterator",dict:=none,data:=.fields #[f0,f1,.ref d,.int i 0,.int n 0,.int ep 0,x6,x7],slots:=#[] }/\((f0=.none/\f1=.bool false)∨∃(a:Addr)(o:Obj),f0=rawInt a/\h.get? a=some o/\a≠it)
theorem ItAt.keep{h h':Heap}{it:Addr}{i n ep:Nat}(x:ItAt h it d i n ep)(hit:∀ o,h.get? it=some o->h'.get? it=some o)(k:∀ b o,b≠it->h.get? b=some o->∃ o',h'.get? b=some o'):ItAt h' it d i n ep:=by
 obtain⟨f0,f1,x6,x7,e,c⟩:=x;refine⟨f0,f1,x6,x7,hit _ e,?_⟩;rcases c with c | ⟨a,o,c1,c2,c3⟩
 ·exact .inl c
 ·obtain⟨o',q⟩:=k a o c3 c2;exact .inr ⟨a,o',c1,q,c3⟩
theorem G3{it:Addr}{i ep:Nat}{es:Array DictEntry}{Q:Option Value->Shared->Prop}(hit:ItAt s.heap it d i es.size ep)(hm:Ent s.heap d es ep)(hh:A.handled=none)
  (hI:∀ e,es[i]?=some e->∀ h',ItAt h' it d (i+1) es.size ep->h'.get? s.heap.objs.size=some { cls:=.type "tuple",data:=.seq #[e.key,e.val] }->(∀ b o,b≠it->s.heap.get? b=some o->h'.get? b=some o)->Q (some (.ref s.heap.objs.size)) { s with heap:=h' })
  (hE:es[i]?=none->∀ h',Heap.ExtBut it s.heap h'->Q none { s with heap:=h' }):wpAny (model prog w) A (pyNext (.ref it)) Q E s:=by
 obtain⟨f0,f1,ok,ov,hit,c⟩:=hit;rcases c with⟨rfl,rfl⟩ | ⟨a,oa,rfl,hoa,hai⟩
 ·refine qM (ok:=ok) (ov:=ov) hit hm hh (fun e he h' q1 q2 q3=>hI e he h' ⟨_,_,_,_,q1,.inr ⟨s.heap.objs.size,_,rfl,q2,?_⟩⟩ q2 q3) hE;exact NK (Heap.lt_size hit)
 obtain⟨o,e1,e2,e3⟩:=hm;have hT:s.TypeIs (.ref it) "dict_itemiterator":=⟨_,hit,rfl⟩;have own:Builtin.Dict_items.ownsTuple "dict_itemiterator" = true:=by decide
 unfold pyNext;refine wpAny_bind (wpAny_attempt (wpAny_callSpecial?_slot (name:=Str.ofString "__next__") hT F.slot_dict_itemiterator_next (wpAny_call_entry F.slot_dict_itemiterator_next hT F.entry_dict_itemiterator_next ?_ (F.args_dict_itemiterator_next_1 _))));refine wpAny_bind (wpAny_pure (wpAny_bind (wpAny_bind (wpAny_bind (wpAny_typeNameOfWhole_itemiter hT (wpAny_pure ?_))))));refine wpAny_bind (wpAny_fieldsOf hit rfl ?_);simp only[own,if_true];show wpAny _ _ (if(Value.ref d == Value.none)=true then _ else _) _ _ _;rw[if_neg (show ¬ ((Value.ref d == Value.none)=true) from MQ)];refine wpAny_bind (wpAny_pure (wpAny_bind (wpAny_dictEntries e1 e3 ?_)));rw[if_neg (by simp)]
 refine wpAny_bind (wpAny_pure (wpAny_bind (wpAny_dictEpoch e1 e3 ?_)));rw[if_neg (by simp)]
 refine wpAny_pure ?_;have n0:¬ ((i:Int)<0):=by omega
 simp only[n0,if_false,Nc]
 cases he:es[i]? with
 |none =>
  refine wpAny_bind (wpAny_bind (wpAny_typeNameOfWhole_itemiter hT (wpAny_pure ?_)));show wpAny _ _ (setField (.ref it) 2 .none >>= _) _ _ s;refine wpAny_bind (wpAny_setField hit rfl (by simp) ?_)
  show wpAny _ _ (newExc (.type "StopIteration") [] >>= _) _ _ _;refine wpAny_bind ?_;simp only[newExc,newTuple];refine wpAny_bind (wpAny_newObj_type (wpAny_bind (m:=firstArgMember _ _) (wpAny_of_eq (a:=Value.none) (by first | rfl | (simp only[firstArgMember];rfl)) (wpAny_newObj_type ?_ (by size_fits)))) (by size_fits))
  simp only[raiseNew];refine wpAny_bind (wpAny_handled ?_);rw[show A.in1.handled=none from hh];refine wpAny_bind (wpAny_pure (wpAny_throw ?_));refine wpAny_bind (wpAny_isInstance (T:="StopIteration") (b:=true) ⟨_,Heap.get?_push_size _ rfl,rfl⟩ isSubtype_stop (wpAny_pure ?_));exact hE he _ (((Heap.SameBut.update ..).extBut.push _).push _)
 |some e =>
  refine wpAny_bind (wpAny_bind (wpAny_typeNameOfWhole_itemiter hT (wpAny_pure ?_)));refine wpAny_bind (wpAny_isOneOf_itemiter hT ?_);show wpAny _ _ (setField (.ref it) 3 (rawInt ((i:Int)+1)) >>= _) _ _ s;refine wpAny_bind (wpAny_setField_rec hit (by simp) fun g1 q1 k1=>?_)
  have c1:((i+1:Nat):Int)=(i:Int)+1:=by omega
  have q1':g1.get? it=some { cls:=.type "dict_itemiterator",dict:=none,data:=.fields #[rawInt a,f1,.ref d,.int ((i+1:Nat):Int) 0,.int es.size 0,.int ep 0,ok,ov],slots:=#[] }:=by
   rw[c1];simpa[rawInt] using q1
  have lt:it<s.heap.objs.size:=Heap.lt_size hit;have z1:g1.objs.size=s.heap.objs.size:=k1.1;have hT1:Shared.TypeIs { s with heap:=g1 } (.ref it) "dict_itemiterator":=⟨_,q1',rfl⟩;refine wpAny_bind (wpAny_holding (wpAny_bind (wpAny_isOneOf_itemiter hT1 (wpAny_bind (wpAny_isOneOf_itemiter hT1 ?_)))));show wpAny _ _ (Builtin.Dict_items.pairFromOwner (.ref it) 6 e.key e.val) _ _ { s with heap:=g1 };unfold Builtin.Dict_items.pairFromOwner Builtin.Dict_items.ownedTupleIsFree;refine wpAny_bind (wpAny_newTuple ?_);have q2:(g1.push { cls:=.type "tuple",data:=.seq #[e.key,e.val] }).get? it=some { cls:=.type "dict_itemiterator",dict:=none,data:=.fields #[rawInt a,f1,.ref d,.int ((i+1:Nat):Int) 0,.int es.size 0,.int ep 0,ok,ov],slots:=#[] }:=Heap.get?_push_of_some _ q1';have t2:(g1.push { cls:=.type "tuple",data:=.seq #[e.key,e.val] }).get? s.heap.objs.size=some { cls:=.type "tuple",data:=.seq #[e.key,e.val] }:=by rw[← z1];exact Heap.get?_push_size _ rfl
  have k2:∀ b o,b≠it->s.heap.get? b=some o->(g1.push { cls:=.type "tuple",data:=.seq #[e.key,e.val] }).get? b=some o:=fun b o hb q=>Heap.get?_push_of_some _ (k1.extBut b o hb q);rw[z1];generalize g1.push { cls:=.type "tuple",data:=.seq #[e.key,e.val] }=g2 at q2 t2 k2;show wpAny _ _ (_ >>= _) _ _ { s with heap:=g2 };have al:g2.get? ((a:Int).toNat)=some oa:=by rw[Nc];exact k2 a oa hai hoa
  refine wpAny_bind (wpAny_bind (wpAny_field q2 rfl (x:=rawInt a) rfl ?_));show wpAny _ _ (loadIfAlive ((a:Int).toNat) >>= _) _ _ { s with heap:=g2 };refine wpAny_bind (zY ?_);show wpAny _ _ (if((g2.get? ((a:Int).toNat)).isNone)=true then _ else _) _ _ _;rw[al,if_neg (show ¬ (some oa).isNone=true from MQ)];have last:∀ g3,g3.get? it=some { cls:=.type "dict_itemiterator",dict:=none,data:=.fields #[rawInt a,.bool true,.ref d,.int ((i+1:Nat):Int) 0,.int es.size 0,.int ep 0,ok,ov],slots:=#[] }->(∀ b o,b≠it->g2.get? b=some o->g3.get? b=some o)->Q (some (.ref s.heap.objs.size)) { s with heap:=g3 }:=fun g3 q3 k3 =>
   hI e he g3 ⟨_,_,_,_,q3,.inr ⟨a,oa,rfl,k3 a oa hai (k2 a oa hai hoa),hai⟩⟩ (k3 _ _ (NK lt) t2) fun b o hb q=>k3 b o hb (k2 b o hb q)
  refine wpAny_bind (wpAny_field q2 rfl (x:=f1) rfl ?_);by_cases hf:f1=.bool true
  ·rw[if_neg (by rw[hf];decide)]
   refine wpAny_pure ?_;subst hf;exact wpAny_pure (wpAny_pure ⟨_,rfl,wpAny_pure (last g2 q2 fun b o _ q=>q)⟩)
  ·rw[if_pos (by simpa using hf)]
   refine wpAny_bind (wpAny_setField_rec q2 (by simp) fun g3 q3 k3=>?_)
   exact wpAny_pure (wpAny_pure (wpAny_pure ⟨_,rfl,wpAny_pure (last g3 q3 fun b o hb q=>k3.extBut b o hb q)⟩))
def zK(h₀ h:Heap)(es:Array DictEntry)(acc:Array Value)(i:Nat):Prop:=acc.size=i/\∀(j:Nat)(v:Value),acc[j]?=some v->∃(t:Addr)(e:DictEntry),v=.ref t/\es[j]?=some e/\h₀.objs.size<=t/\h.get? t=some { cls:=.type "tuple",data:=.seq #[e.key,e.val] }
def sR(acc:Array Value):Prop:=acc.toList.Nodup
theorem Hv{S it:Addr}{es:Array DictEntry}{ep:Nat}{res:Value}{R:Result->Shared->Prop}{h₀:Heap}(hh:A.handled=none)(hn:es.size<=sizeLine)(hSi:S≠it)(hSd:S≠d)(hdi:d≠it) :
  ∀(k i:Nat)(s:Shared)(acc:Array Value)(c:Nat),es.size-i=k->i<=es.size->ItAt s.heap it d i es.size ep->Ent s.heap d es ep->s.heap.get? S=some { cls:=.type "list",dict:=none,data:=.seq acc c,slots:=#[] }->zK h₀ s.heap es acc i->sR acc->h₀.objs.size<=s.heap.objs.size ->
  (∀ h' acc' c',(∀ b o,b≠S->b≠it->s.heap.get? b=some o->h'.get? b=some o)->h'.get? S=some { cls:=.type "list",dict:=none,data:=.seq acc' c',slots:=#[] }->zK h₀ h' es acc' es.size->sR acc'->R (.ok (.ret res)) { s with heap:=h' }) ->
  codeAny (model prog w) A (.builtin "list.extend.loop" ⟨[.ref S,.ref it,res],[]⟩) R s:=by
 intro k;induction k with
 |zero =>
  intro i s acc c hk hi hst hm hS hacc hap hsz hR;have hin:i=es.size:=by omega
  subst hin;refine codeAny_builtin F.entry_extend_loop ?_;rw[Around.under_plainId F.plain_extend_loop _];show wpAny _ A.in1 (pyNext (.ref it) >>= _) _ _ s;refine wpAny_bind (G3 hst hm hh (fun e he=>?_) fun _ h' q=>?_)
  ·rw[Array.getElem?_eq_none (MC _)]at he
   cases he
  ·refine wpAny_pure (hR h' acc c (fun b o _ hb e=>q b o hb e) (q S _ hSi hS) ⟨hacc.1,fun j v hj=>?_⟩ hap);obtain⟨t,e,a1,a2,a3,a4⟩:=hacc.2 j v hj;refine⟨t,e,a1,a2,a3,q t _ (fun z=>?_) a4⟩;obtain⟨_,_,_,_,z2,_⟩:=hst;rw[z,z2]at a4;exact absurd (congrArg Obj.cls (MN a4)) (by intro z;exact absurd (Value.type.inj z) (by decide))
 |succ k ih =>
  intro i s acc c hk hi hst hm hS hacc hap hsz hR;refine codeAny_builtin F.entry_extend_loop ?_;rw[Around.under_plainId F.plain_extend_loop _];show wpAny _ A.in1 (pyNext (.ref it) >>= _) _ _ s;refine wpAny_bind (G3 hst hm hh (fun e he h' q1 q2 q3=>?_) fun he=>absurd he (by rw[Qy (show i<es.size by omega)];intro z;cases z))
  have hS':=q3 S _ hSi hS;have lt:it<s.heap.objs.size:=by obtain⟨_,_,_,_,z,_⟩:=hst;exact Heap.lt_size z
  have hSlt:=Heap.lt_size hS;show wpAny _ A.in1 (updateSeq S (·.push (.ref s.heap.objs.size)) >>= _) _ _ _;refine wpAny_bind ?_;have noS:∀ b,b≠S->∀ o,h'.get? b=some o->(h'.update S (Obj.mapSeq (·.push (.ref s.heap.objs.size)))).get? b=some o:=fun b hb o e=>(Heap.get?_update_other _ _ (Ne.symm hb)).trans e;have tk:∀(h2:Heap),(∀ b o,b≠S->h'.get? b=some o->h2.get? b=some o)->zK h₀ h2 es (acc.push (.ref s.heap.objs.size)) (i+1):=fun h2 k2=>by
   refine⟨by rw[Array.size_push,hacc.1],fun j v hj=>?_⟩
   rw[Array.getElem?_push]at hj;split at hj
   ·rename_i ej
    cases hj
    rw[hacc.1]at ej;subst ej;refine⟨s.heap.objs.size,e,rfl,he,hsz,k2 _ _ (NK hSlt) q2⟩
   ·obtain⟨t,e',a1,a2,a3,a4⟩:=hacc.2 j v hj;have ti:t≠it:=fun z=>by
     obtain⟨_,_,_,_,z2,_⟩:=hst;rw[z,z2]at a4;exact absurd (congrArg Obj.cls (MN a4)) (by intro z;exact absurd (Value.type.inj z) (by decide))
    refine⟨t,e',a1,a2,a3,k2 t _ (fun z=>?_) (q3 t _ ti a4)⟩;rw[z,hS]at a4;exact absurd (congrArg Obj.cls (MN a4)) (by intro z;exact absurd (Value.type.inj z) (by decide))
  have ap:sR (acc.push (.ref s.heap.objs.size)):=by
   unfold sR;rw[Ov];refine MZ.mpr ⟨hap,by simp,fun a ha b hb e=>?_⟩
   rw[M4.mp hb]at e;subst e;obtain⟨j,hj⟩:=NN ha;obtain⟨t,e',a1,_,_,a4⟩:=hacc.2 j _ (by rw[← N1];exact hj)
   cases a1
   exact NH _ (Heap.lt_size a4)
  refine wpAny_updateSeq hS' rfl (wpAny_pure ⟨plainId_quiet F.plain_extend_loop _,ih (i+1) _ (acc.push (.ref s.heap.objs.size)) _ (by omega) (by omega) ?_ ?_ (Heap.get?_update_self _ hS' rfl) (tk _ fun b o hb e=>noS b hb o e) ap ?_ fun h'' acc' c' m1 m2 m3 m4=>?_⟩)
   (by rw[hacc.1];omega) (by show(acc.push _).size<=sizeLine+1;rw[Array.size_push,hacc.1];omega)
  ·exact q1.keep (fun o e=>noS it (Ne.symm hSi) o e) fun b o _ e=>by
    by_cases z:b=S
    ·rw[z];exact⟨_,Heap.get?_update_self _ hS' rfl⟩
    ·exact⟨o,noS b z o e⟩
  ·obtain⟨o,a1,a2,a3⟩:=hm;exact⟨o,noS d (Ne.symm hSd) o (q3 d o hdi a1),a2,a3⟩
  ·show h₀.objs.size<=(h'.update _ _).objs.size;rw[Heap.size_update];exact Nw hsz (ND (Heap.lt_size q2))
  ·exact hR h'' acc' c' (fun b o hb hi' e=>m1 b o hb hi' (noS b hb o (q3 b o hi' e))) m2 m3 m4
theorem EH{r:Addr}{Q:Bool->Shared->Prop} (hT:s.TypeIs (.ref r) "dict_items") (h:Q false s):wpAny (model prog w) A (Builtin.List.listLengthHint (.ref r)) Q E s:=by
 unfold Builtin.List.listLengthHint;refine wpAny_bind (wpAny_specialOf hT PySem.F.slot_dict_items_len.lookup ?_);generalize hid:("dict_items.__len__" : String)=id0;wp_delta;rw[show splitId id0=some ("dict_items","__len__") from by subst hid;decide +kernel]
 subst hid;refine wpAny_bind (wpAny_isInstance (T:="dict_items") (b:=true) hT (by rw[isSubtype_type];kernel_rfl) ?_)
 refine wpAny_ite_split (fun hab=>absurd hab (by decide)) (fun _=>?_)
 refine wpAny_ite_split (fun _=>?_) (fun hab=>absurd (by decide +kernel) hab)
 refine wpAny_bind (wpAny_typeOf hT ?_);exact wpAny_pure h
theorem wI{r:Addr}{es:Array DictEntry}{ep:Nat}{Q:List Value->Shared->Prop}(hh:A.handled=none)(hv:s.heap.IsItemsView r d)(hm:Ent s.heap d es ep)(hn:es.size<=sizeLine)
  (h:∀ h' acc',(∀ b o,s.heap.get? b=some o->h'.get? b=some o)->s.heap.objs.size<h'.objs.size->zK s.heap h' es acc' es.size->sR acc'->Q acc'.toList { s with heap:=h' }):wpAny (model prog w) A (collect (.ref r)) Q E s:=by
 unfold collect;refine wpAny_bind (wpAny_runValue (codeAny_builtin entry_proto_collect' ?_));show wpAny _ _ (do again (.builtin "list.__iadd__" ⟨[← newList [],.ref r],[]⟩)) _ _ s
 refine wpAny_bind (wpAny_newList (wpAny_pure ⟨Code.quiet_builtin _ (by decide +kernel),codeAny_builtin entry_list_iadd' ?_⟩))
 rw[Around.under_plainId QC _];show wpAny _ A.in1 (Builtin.List.listExtendWith (.ref s.heap.objs.size) (.ref r) (.ref s.heap.objs.size)) _ _ { s with heap:=s.heap.push (seqObj "list" #[] 0) };obtain⟨ov,hv1,hv2,hv3⟩:=id hv;obtain⟨od,hd1,hd2,hd3⟩:=id hm;have rl:r<s.heap.objs.size:=Heap.lt_size hv1;have dl:d<s.heap.objs.size:=Heap.lt_size hd1;have hvp:(s.heap.push (seqObj "list" #[] 0)).IsItemsView r d:=⟨ov,Heap.get?_push_of_some _ hv1,hv2,hv3⟩;have hmp:Ent (s.heap.push (seqObj "list" #[] 0)) d es ep:=⟨od,Heap.get?_push_of_some _ hd1,hd2,hd3⟩;have hS:(s.heap.push (seqObj "list" #[] 0)).get? s.heap.objs.size=some { cls:=.type "list",dict:=none,data:=.seq #[] 0,slots:=#[] }:=Heap.get?_push_size _ rfl;unfold Builtin.List.listExtendWith;refine wpAny_bind (wpAny_typeOf (T:="dict_items") hvp.typeIs ?_);have h1:Builtin.List.listSameRef (.ref s.heap.objs.size) (.ref r)=false:=by simp[Builtin.List.listSameRef,NK rl]
 have nl:(Value.type "dict_items" == Value.type "list")=false:=by decide
 have nt:(Value.type "dict_items" == Value.type "tuple")=false:=by decide
 simp only[h1,nl,nt,Pe,NG,if_false];refine wpAny_bind (wb hvp hmp ?_);rw[Heap.size_push];have key:∀(g:Heap)(c₁ tk:Nat),ItAt g (s.heap.objs.size+1) d 0 es.size ep->(∀ b o,b≠s.heap.objs.size->s.heap.get? b=some o->g.get? b=some o)->s.heap.objs.size<=g.objs.size ->
   g.get? s.heap.objs.size=some { cls:=.type "list",dict:=none,data:=.seq #[] c₁,slots:=#[] }->codeAny (model prog w) A (.builtin "list.extend.loop" ⟨[.ref s.heap.objs.size,.ref (s.heap.objs.size+1),.ref s.heap.objs.size],[]⟩)
    (fun r s'=>∃ h' acc' c',r=.ok (.ret (.ref s.heap.objs.size))/\s'={ s with heap:=h',toks:=tk }/\(∀ b o,s.heap.get? b=some o->h'.get? b=some o)/\h'.get? s.heap.objs.size=some { cls:=.type "list",dict:=none,data:=.seq acc' c',slots:=#[] }/\zK s.heap h' es acc' es.size/\sR acc') { s with heap:=g,toks:=tk }:=fun g c₁ tk q1 q2 q3 q4=>by
  refine Hv (h₀:=s.heap) hh hn (M3 (NU _)) (NK dl) (M3 (NX dl)) es.size 0 _ #[] c₁ (Nat.sub_zero _) (NA _) q1 ⟨od,q2 d od (M3 dl) hd1,hd2,hd3⟩ q4 ⟨rfl,fun j v e=>by simp at e⟩ (by unfold sR;simp) q3 fun h' acc' c' m1 m2 m3 m4=>?_
  exact⟨h',acc',c',rfl,rfl,fun b o e=>m1 b o (M3 (Heap.lt_size e)) (M3 (NX (Heap.lt_size e))) (q2 b o (M3 (Heap.lt_size e)) e),m2,m3,m4⟩
 have hS₁:=Heap.get?_push_of_some { cls:=.type "dict_itemiterator",data:=.fields #[.none,.bool false,.ref d,.int 0 0,.int es.size 0,.int ep 0,.none,.none] } hS;have it0:ItAt ((s.heap.push (seqObj "list" #[] 0)).push { cls:=.type "dict_itemiterator",data:=.fields #[.none,.bool false,.ref d,.int 0 0,.int es.size 0,.int ep 0,.none,.none] }) (s.heap.objs.size+1) d 0 es.size ep :=
  ⟨_,_,_,_,by have:=Heap.get?_push_size (s.heap.push (seqObj "list" #[] 0)) (o:={ cls:=.type "dict_itemiterator",data:=.fields #[.none,.bool false,.ref d,.int 0 0,.int es.size 0,.int ep 0,.none,.none] }) rfl;rw[Heap.size_push]at this;exact this,.inl ⟨rfl,rfl⟩⟩
 have old:∀ b o,s.heap.get? b=some o->((s.heap.push (seqObj "list" #[] 0)).push { cls:=.type "dict_itemiterator",data:=.fields #[.none,.bool false,.ref d,.int 0 0,.int es.size 0,.int ep 0,.none,.none] }).get? b=some o:=fun b o e=>Heap.get?_push_of_some _ (Heap.get?_push_of_some _ e);have big:s.heap.objs.size<=((s.heap.push (seqObj "list" #[] 0)).push { cls:=.type "dict_itemiterator",data:=.fields #[.none,.bool false,.ref d,.int 0 0,.int es.size 0,.int ep 0,.none,.none] }).objs.size:=by rw[Heap.size_push,Heap.size_push];exact OI (OS _)
 have hvq:(⟨(s.heap.push (seqObj "list" #[] 0)).push { cls:=.type "dict_itemiterator",data:=.fields #[.none,.bool false,.ref d,.int 0 0,.int es.size 0,.int ep 0,.none,.none] },s.gens,s.drawn,s.toks,s.os⟩:Shared).TypeIs (.ref r) "dict_items":=⟨ov,old _ _ hv1,hv2⟩;generalize (s.heap.push (seqObj "list" #[] 0)).push { cls:=.type "dict_itemiterator",data:=.fields #[.none,.bool false,.ref d,.int 0 0,.int es.size 0,.int ep 0,.none,.none] }=g0 at hS₁ it0 old big hvq;have fin:∀{W:Result->Shared->Prop}{tk:Nat},(∀ h' acc' c',(∀ b o,s.heap.get? b=some o->h'.get? b=some o)->h'.get? s.heap.objs.size=some { cls:=.type "list",dict:=none,data:=.seq acc' c',slots:=#[] }->zK s.heap h' es acc' es.size->sR acc'->W (.ok (.ret (.ref s.heap.objs.size))) { s with heap:=h',toks:=tk })->∀ r s',(∃ h' acc' c',r=.ok (.ret (.ref s.heap.objs.size))/\s'={ s with heap:=h',toks:=tk }/\(∀ b o,s.heap.get? b=some o->h'.get? b=some o)/\h'.get? s.heap.objs.size=some { cls:=.type "list",dict:=none,data:=.seq acc' c',slots:=#[] }/\zK s.heap h' es acc' es.size/\sR acc')->W r s':=fun hW r s' ⟨h',acc',c',e1,e2,e3,e4,e5,e6⟩=>by
  subst e1 e2;exact hW h' acc' c' e3 e4 e5 e6
 have ended:∀ h' acc' c',(∀ b o,s.heap.get? b=some o->h'.get? b=some o)->h'.get? s.heap.objs.size=some { cls:=.type "list",dict:=none,data:=.seq acc' c',slots:=#[] }->zK s.heap h' es acc' es.size->sR acc'->wpAny (model prog w) A (do
   let o ← load s.heap.objs.size
   match o.data with
   |.seq xs _=>pure xs.toList
   |_=>unsupported "internal:collect") Q E { s with heap:=h' }:=fun h' acc' c' e3 e4 e5 e6=>by
  refine wpAny_bind (wpAny_load e4 ?_);exact wpAny_pure (h h' acc' e3 (Heap.lt_size e4) e5 e6)
 refine wpAny_bind (wpAny_holding (EH hvq ?_));refine wpAny_ite_split (fun _=>?_) (fun _=>wpAny_pure ⟨plainId_quiet Qs _,codeAny_mono (key g0 _ s.toks it0 (fun b o _ e=>old b o e) big hS₁) (fin ended)⟩);refine wpAny_bind (wpAny_rule ?_);refine wpAny_bind ?_;show wpAny _ _ (updateSeq s.heap.objs.size (·.push .none) >>= fun _=>updateSeq s.heap.objs.size (·.pop)) _ _ _;refine wpAny_bind (wpAny_updateSeq hS₁ rfl ?_);have hS₂:=Heap.get?_update_self (Obj.mapSeq (·.push Value.none)) hS₁ rfl;refine wpAny_updateSeq (hz:=by seq_fits) hS₂ rfl ?_
 have hS₃:=Heap.get?_update_self (Obj.mapSeq (·.pop)) hS₂ rfl;have ne:∀ b,b≠s.heap.objs.size->∀ o,g0.get? b=some o->((g0.update s.heap.objs.size (Obj.mapSeq (·.push Value.none))).update s.heap.objs.size (Obj.mapSeq (·.pop))).get? b=some o:=fun b hb o e=>(Heap.get?_update_other _ _ (Ne.symm hb)).trans ((Heap.get?_update_other _ _ (Ne.symm hb)).trans e);refine wpAny_pure ⟨plainId_quiet Qs _,codeAny_mono (key _ _ s.toks (it0.keep (fun o e=>ne _ (NK (NU _)) o e) fun b o _ e=>?_) (fun b o hb e=>ne b hb o (old b o e)) (by rw[Heap.size_update,Heap.size_update];exact big) hS₃) (fin ended)⟩
 by_cases z:b=s.heap.objs.size
 ·rw[z];exact⟨_,hS₃⟩
 ·exact⟨o,ne b z o e⟩
end
section
open PySem.W
variable{prog:Program}{w:World}{A:Around}{E:Value->Shared->Prop}{s:Shared}
def dg(h:Heap):Value->Int
 |.ref a=>match h.get? a with
  |some o=>match o.data with
   |.seq xs _=>match(xs[0]? : Option Value) with
    |some (.int x _)=>x
    |_=>0
   |_=>0
  |none=>0
 |_=>0
theorem lJ{h:Heap}{a:Addr}{o:Obj}{n:Nat}{x y:Int}{tx ty:Tok}(h1:h.get? a=some o)(h3:o.data=.seq #[.int x tx,.int y ty] n):dg h (.ref a)=x:=by
 unfold dg;simp only[h1,h3];rfl
theorem Lh{u v:Value}{Q:Bool->Shared->Prop}(hu:PrV s.heap u)(hv:PrV s.heap v)(hd:dg s.heap u=dg s.heap v->u=v)(h:Q (decide (dg s.heap u<dg s.heap v)) s):wpAny (model prog w) A (keyLt' (tuples' true) u v) Q E s:=by
 obtain⟨a,o,n,x,y,tx,ty,rfl,h1,h2,h3⟩:=hu;obtain⟨a',o',n',x',y',tx',ty',rfl,k1,k2,k3⟩:=hv;rw[lJ h1 h3,lJ k1 k3]at h hd;refine kat_lt h1 h3 k1 k3 ?_;refine kat_cons (wpAny_eqBool_int ?_);refine kat_go (fun e=>?_) fun _=>kat_no (oneLt_int h);have e':x=x':=by simpa using e
 have:=hd e'
 cases this
 rw[h1]at k1
 cases k1
 rw[h3]at k3
 cases k3
 have hf:decide (x<x)=false:=decide_eq_false (Int.lt_irrefl _);rw[hf]at h;refine kat_yes (kat_cons (wpAny_eqBool_int (kat_go (fun _=>kat_yes (kat_nil h)) fun z=>?_)));simp at z
theorem EC{vs:List Value}{h6:Heap}(hs:s.heap=h6)(hp:∀ v∈vs,PrV h6 v)(hd:∀ u∈vs,∀ v∈vs,dg h6 u=dg h6 v->u=v):@PyProof.RowsP.LtOk prog w A E s ⟨dg h6,fun v=>v∈vs,tuples' true⟩:=by
 subst hs;refine @PyProof.RowsP.LtOk.mk prog w A E s ⟨dg s.heap,fun v=>v∈vs,tuples' true⟩ ?_;intro st x y Q hk hx hy h;have hx':x.1∈vs:=hx;have hy':y.1∈vs:=hy;show wpS (model prog w) A E s (lt' x y) Q st;rw[lt'_eq];refine wpS_bind (wpS_get ?_);have hk':kindOf st=tuples' true:=hk;rw[hk'];refine wpS_bind (wpS_lift (wpAny_attempt (Lh (hp _ hx') (hp _ hy') (hd _ hx' _ hy') ⟨rfl,?_⟩)));exact wpS_pure h
theorem Ag{a:Addr}{vs:List Value}{n:Nat}{P:PySem.Fin->Shared->Prop} (ho:s.heap.get? a=some (seqObj "list" vs.toArray n)) (hp:∀ v∈vs,PrV s.heap v) (hd:∀ u∈vs,∀ v∈vs,dg s.heap u=dg s.heap v->u=v) (line:vs.length<=sizeLine)
  (h:∀ out:List Value,out.Perm vs->out.Pairwise (fun u v=>dg s.heap u<=dg s.heap v)->P (.done (.ret .none)) { s with heap:=sortedHeap s.heap a vs out.toArray }):wpAny (model prog w) A (Builtin.«list.sort» ⟨[.ref a],[]⟩) P E s:=by
 have ha:a<s.heap.objs.size:=Heap.lt_size ho;obtain⟨e1,ho1⟩:∃ e1,(s.heap.update a (Obj.mapSeq fun _=>(#[]:Array Value))).get? a=some (seqObj "list" #[] e1):=⟨_,get?_update_seq ho fun _=>#[]⟩;have ho6:(((s.heap.update a (Obj.mapSeq fun _=>(#[]:Array Value))).push (seqObj "tuple" vs.toArray 0)).push (seqObj "list" #[] 0)).get? a=some (seqObj "list" #[] e1):=Heap.get?_push_of_some _ (Heap.get?_push_of_some _ ho1);have keep6:∀ v∈vs,∀ b o,v=.ref b->s.heap.get? b=some o->(((s.heap.update a (Obj.mapSeq fun _=>(#[]:Array Value))).push (seqObj "tuple" vs.toArray 0)).push (seqObj "list" #[] 0)).get? b=some o:=fun v hv b o eb e=>by
  have pv:=hp v hv;refine Heap.get?_push_of_some _ (Heap.get?_push_of_some _ ?_);have nb:b≠a:=fun z=>by
   obtain⟨a',o',n',x,y,tx,ty,rfl,k1,k2,_⟩:=pv
   cases eb
   rw[z,ho]at k1
   cases k1
   exact absurd k2 (by intro z2;have:=Value.type.inj z2;exact absurd this (by decide))
  rw[Heap.get?_update_ne _ _ _ _ nb];exact e
 have hp6:∀ v∈vs,PrV (((s.heap.update a (Obj.mapSeq fun _=>(#[]:Array Value))).push (seqObj "tuple" vs.toArray 0)).push (seqObj "list" #[] 0)) v:=fun v hv=>(hp v hv).keep fun b o eb e=>keep6 v hv b o eb e;have hf6:∀ v∈vs,dg (((s.heap.update a (Obj.mapSeq fun _=>(#[]:Array Value))).push (seqObj "tuple" vs.toArray 0)).push (seqObj "list" #[] 0)) v=dg s.heap v:=fun v hv=>by
  obtain⟨b,o,m,x,y,tx,ty,rfl,k1,k2,k3⟩:=hp v hv;rw[lJ k1 k3,lJ (keep6 _ hv b o rfl k1) k3]
 rw[list_sort_plain];refine wpAny_bind (listItems_at ho rfl (wpAny_bind (listUpdate_at ho rfl (wpAny_bind (seqEpoch_at ho1 rfl (wpAny_bind (wpAny_newTuple (wpAny_bind (wpAny_newList (wpAny_holding ?_) (NA _))) line)))) (by rw[M6];exact line) (NA _))))
 show wpAny (model prog w) A _ P E { s with heap:=((s.heap.update a (Obj.mapSeq fun _=>(#[]:Array Value))).push (seqObj "tuple" vs.toArray 0)).push (seqObj "list" #[] 0) };have fin:∀ out:List Value,sortedHeap s.heap a vs out.toArray=(((s.heap.update a (Obj.mapSeq fun _=>(#[]:Array Value))).push (seqObj "tuple" vs.toArray 0)).push (seqObj "list" #[] 0)).update a (Obj.mapSeq fun _=>out.toArray):=fun _=>rfl;generalize ((s.heap.update a (Obj.mapSeq fun _=>(#[]:Array Value))).push (seqObj "tuple" vs.toArray 0)).push (seqObj "list" #[] 0)=h6 at ho6 hp6 fin hf6;dsimp only;by_cases h2:vs.toArray.size<2
 ·rw[if_pos h2,if_pos h2];refine wpAny_bind (wpAny_pure ?_);rw[StateT.run_pure];refine wpAny_bind (wpAny_pure (wpAny_bind (seqEpoch_at ho6 rfl ?_)));dsimp only;have eo:(arrOf (SortSt.mk' general' (vs.toArray.zip vs.toArray) #[] 7 none)).map (·.2)=vs.toArray:=by
   show(vs.toArray.zip vs.toArray).map (·.2)=vs.toArray;apply Array.ext
   ·simp
   ·intro i h1 h2;simp
  rw[eo];refine wpAny_bind (listUpdate_at ho6 rfl ?_ (NA _) (by rw[M6];exact OI line))
  simp only[bne_self_eq_false,NG,if_false];refine wpAny_pure ?_;have one:vs.Pairwise (fun u v=>dg s.heap u<=dg s.heap v):=by
   rw[M6]at h2;match vs,h2 with
   |[],_=>exact .nil
   |[_],_=>exact OX _ _
  have:=h vs (NS _) one;rw[fin]at this;exact this
 ·rw[if_neg h2,if_neg h2];rw[M6]at h2;obtain⟨fs,f1,f2,f3⟩:=C3 (s:={ s with heap:=h6 }) (M:=model prog w) hp6;refine wpAny_bind (kat_kind f1 (by omega) f3 (by decide) ?_)
  have flag:(Value.type "int" != Value.type "tuple")=true:=by decide
  rw[flag];letI KF:PyProof.RowsP.KeyFn:=⟨dg h6,fun v=>v∈vs,tuples' true⟩;haveI LO:PyProof.RowsP.LtOk prog w A E { s with heap:=h6 }:=EC rfl hp6 fun u hu v hv e=>hd u hu v hv (by rw[← hf6 u hu,← hf6 v hv];exact e)
  have run:=PyProof.RowsP.wpS_sortAll (prog:=prog) (w:=w) (A:=A) (E:=E) (s:={ s with heap:=h6 }) (a₀:=pairsOf vs) (st:=SortSt.mk' (tuples' true) (vs.toArray.zip vs.toArray) #[] 7 none)
   (Q:=fun _ st'=>(arrOf st').Perm (pairsOf vs)/\failedOf st'=none/\PyProof.RowsP.Upl (arrOf st').toList) (fun p hp'=>?_) ⟨Qo _,rfl,rfl,rfl,NA _⟩ fun st' q1 q2 q3=>⟨q1,q2,q3⟩
  ·refine wpAny_bind (wpAny_mono run ?_ fun _ _ e=>e);rintro⟨⟨⟩,st'⟩ s' ⟨rfl,hpm,hf,hu⟩;dsimp only;have hl:(arrOf st').toList.Perm (vs.zip vs):=by rw[← pairsOf_toList];exact Oh.mp hpm
   have hmem:∀ p,p∈(arrOf st').toList->p.1=p.2/\p.1∈vs:=fun p hp'=>mem_zip_self (hl.mem_iff.mp hp');have eo:((arrOf st').map (·.2)).toList=(arrOf st').toList.map (·.2):=Array.toList_map ..;have eo2:(arrOf st').map (·.2)=((arrOf st').toList.map (·.2)).toArray:=by rw[← eo]
   have pm:((arrOf st').toList.map (·.2)).Perm vs:=by
    have z:=hl.map (·.2);rw[show(vs.zip vs).map (·.2)=vs from List.map_snd_zip (MC _)]at z;exact z
   rw[eo2];refine wpAny_bind (seqEpoch_at ho6 rfl (wpAny_bind (listUpdate_at ho6 rfl ?_ (NA _) (by rw[M6,pm.length_eq];exact OI line))))
   rw[hf];simp only[bne_self_eq_false,NG,if_false];refine wpAny_pure ?_;have up:((arrOf st').toList.map (·.2)).Pairwise (fun u v=>dg s.heap u<=dg s.heap v):=by
    refine NY.mpr (Pz (fun{x y} hx hy hxy=>?_) hu);have hxy':dg h6 x.1<=dg h6 y.1:=hxy;obtain⟨ex,mx⟩:=hmem x hx;obtain⟨ey,my⟩:=hmem y hy;rw[← ex,← ey,← hf6 _ mx,← hf6 _ my];exact hxy'
   have:=h _ pm up;rw[fin]at this;exact this
  ·show p.1∈vs;have hp2:p∈vs.zip vs:=by rw[← pairsOf_toList];exact hp'
   exact(mem_zip_self hp2).2
end
section
variable{X:Cx}{pins:List (Addr×Obj)}{σ:St}{H H':Hp}{s:Shared}{h':Heap}
theorem Inv.many{t':Nat}(I:Inv X pins σ H s)(k:∀ b o,s.heap.get? b=some o->h'.get? b=some o)(hn:∀ b,b<s.heap.objs.size->H' b=H b)(new:∀ b u,s.heap.objs.size<=b->H' b=some u->bh X.prog X.w H' h' b u):Inv X pins σ H' { s with heap:=h',toks:=t' }:=by
 have up:∀ b u,H b=some u->H' b=some u:=fun b u e=>by rw[hn b (I.hok.lt e)];exact e
 refine I.un ⟨fun b o e n _ _=>k b o e,fun b o e n _ _=>⟨o.slots,k b o e⟩,fun b o e n _=>by rw[hn b (Heap.lt_size e)];exact n,fun b o e _=>⟨o,k b o e⟩,fun b xs e=>up b _ e,fun b o u e=>up b _ e,fun b ps e=>⟨#[],by rw[up b _ e];simp⟩⟩ fun b u e=>?_
 by_cases z:b<s.heap.objs.size
 ·rw[hn b z]at e;exact(I.hok b u e).stay (fun c v _ q=>k c v q) (fun c q=>up c _ q) fun c xs q=>up c _ q
 ·exact new b u (Nat.le_of_not_lt z) e
theorem Jw{α:Type}{l:List (Addr×α)}{a:Addr}{x:α}(nd:(l.map (·.1)).Nodup)(h:(a,x)∈l):l.lookup a=some x:=by
 induction l with
 |nil=>cases h
 |cons p r ih =>
  rw[Nh,MU]at nd;rcases MG.mp h with e | h
  ·subst e;simp[OE]
  ·have ne:(a == p.1)=false:=beq_eq_false_iff_ne.mpr fun z=>nd.1 (z▸MR.mpr ⟨_,h,rfl⟩)
   simp only[OE,ne];exact ih nd.2 h
theorem GK{α:Type}{l:List (Addr×α)}{a:Addr}{x:α}(h:l.lookup a=some x):(a,x)∈l:=by
 induction l with
 |nil=>cases h
 |cons p r ih =>
  simp only[OE]at h;split at h
  ·rename_i e
   cases h
   have:=beq_iff_eq.mp e;rw[this];exact MV
  ·exact MO _ (ih h)
def rSortI:List V->Hp->VK->Prop:=fun xs H Q=>∃(v d:Addr)(kvs:List (Key×V))(ps:List (Int×Int)),xs = [.ref v]/\H v=some (dM v d)/\H d=some (.dK kvs)/\kvs=ps.map (fun e=>(Sum.inl e.1,V.int e.2))/\(ps.map (·.1)).Nodup /\
 ∀(l:Addr)(out:List V)(ps':List (Int×Int))(H':Hp),(∀ b u,H b=some u->H' b=some u)->H l=none->H' l=some (.lst out)->ps'.Perm ps->ps'.Pairwise (fun x y=>x.1<y.1)->out.length=ps'.length->(∀(i:Nat)(e:Int×Int),ps'[i]?=some e->∃ t,out[i]?=some (.ref t)/\H' t=some (.tup [.int e.1,.int e.2]))->Q (.ref l) H'
def IS(h:Heap):Value->Int
 |.ref a=>match h.get? a with
  |some o=>match o.data with
   |.seq xs _=>match(xs[1]? : Option Value) with
    |some (.int x _)=>x
    |_=>0
   |_=>0
  |none=>0
 |_=>0
theorem IQ{h:Heap}{a:Addr}{o:Obj}{n:Nat}{x y:Int}{tx ty:Tok}(h1:h.get? a=some o)(h3:o.data=.seq #[.int x tx,.int y ty] n):IS h (.ref a)=y:=by
 unfold IS;simp only[h1,h3];rfl
def adr:Value->Addr
 |.ref a=>a
 |_=>0
theorem EY(hc:X.calm=true):nG X (.builtin "sorted") rSortI:=by
 intro pins s σ H xs us Q I r h;obtain⟨v,d,kvs,ps,rfl,hv,hd,ek,nd,q⟩:=h;obtain⟨u,rfl,ru⟩:=tZ r
 cases ru
 obtain⟨vw,_,_⟩:=(show bh X.prog X.w H s.heap v (dM v d) from I.hok v _ hv);obtain⟨_,es,ep,hent,esz,hes⟩:=nN (P:=X.prog) (w:=X.w) (H:=H) (h:=s.heap) (d:=d) (u:=.dK kvs) True.intro (I.hok d _ hd);obtain⟨hz,_⟩:=(show bh X.prog X.w H s.heap d (.dK kvs) from I.hok d _ hd);have esz':es.size=ps.length:=by
  rw[esz];show kvs.length=_;rw[ek,MD]
 have kl:kvs.length=ps.length:=by rw[ek,MD]
 have ent:∀(j:Nat)(e:DictEntry),es[j]?=some e->∃ x tx ty,ps[j]?=some x/\e.key=.int x.1 tx/\e.val=.int x.2 ty:=fun j e he=>by
  obtain⟨a,b,c1,c2,c3⟩:=hes j e he;rcases c1 with⟨kvs',k,e1,e2,e3⟩ | ⟨_,_,_,e1,_⟩
  ·cases e1;rw[ek,ME]at e2;obtain⟨x,hx,e4⟩:=M0.mp e2
   cases e4
   subst e3;obtain⟨tx,e5⟩:=(show ∃ t,e.key=Value.int x.1 t from c2);obtain⟨ty,e6⟩:=(show ∃ t,e.val=Value.int x.2 t from c3);exact⟨x,tx,ty,hx,e5,e6⟩
  ·cases e1
 refine Calls.call_function_entry kind_sorted plain_sorted entry_sorted (args_sorted1 _) ?_;unfold Builtin.«sorted»;refine wpAny_bind (m:=checkCount "sorted" 1 1 _) (wpAny_pure ?_);refine wpAny_bind (wI (I.ok.hd hc) vw hent (by rw[esz',← kl];exact hz) fun g acc hk hlt htk hap=>?_)
 have hlen:acc.toList.length<=sizeLine:=by rw[Nz,htk.1,esz',← kl];exact hz
 refine wpAny_bind (wpAny_newList ?_ hlen);have hoL:(g.push (seqObj "list" acc.toList.toArray 0)).get? g.objs.size=some (seqObj "list" acc.toList.toArray 0):=Heap.get?_push_size _ rfl;show wpAny _ _ _ _ _ { s with heap:=g.push (seqObj "list" acc.toList.toArray 0) };have tk:∀ w∈acc.toList,∃(j:Nat)(t:Addr)(x:Int×Int)(tx ty:Tok),acc.toList[j]?=some w/\w=.ref t/\ps[j]?=some x/\s.heap.objs.size<=t/\g.get? t=some { cls:=.type "tuple",data:=.seq #[.int x.1 tx,.int x.2 ty] }:=fun w hw=>by
  obtain⟨j,hj⟩:=NN hw;obtain⟨t,e,a1,a2,a3,a4⟩:=htk.2 j w (by rw[← N1];exact hj)
  obtain⟨x,tx,ty,b1,b2,b3⟩:=ent j e a2;rw[b2,b3]at a4;exact⟨j,t,x,tx,ty,hj,a1,b1,a3,a4⟩
 have tk2:∀ w∈acc.toList,∃(j:Nat)(t:Addr)(x:Int×Int)(tx ty:Tok),acc.toList[j]?=some w/\w=.ref t/\ps[j]?=some x/\s.heap.objs.size<=t/\(g.push (seqObj "list" acc.toList.toArray 0)).get? t=some { cls:=.type "tuple",data:=.seq #[.int x.1 tx,.int x.2 ty] }:=fun w hw=>by
  obtain⟨j,t,x,tx,ty,a1,a2,a3,a4,a5⟩:=tk w hw;exact⟨j,t,x,tx,ty,a1,a2,a3,a4,Heap.get?_push_of_some _ a5⟩
 have keyat:∀(j:Nat)(w:Value)(x:Int×Int),acc.toList[j]?=some w->ps[j]?=some x->dg (g.push (seqObj "list" acc.toList.toArray 0)) w=x.1/\IS (g.push (seqObj "list" acc.toList.toArray 0)) w=x.2:=fun j w x hj hx=>by
  obtain⟨j',t,x',tx,ty,a1,a2,a3,a4,a5⟩:=tk2 w (My hj);have ej:j=j':=(Px (by exact(Mw.mp hj).1) hap).mp (hj.trans a1.symm)
  subst ej;rw[hx]at a3
  cases a3
  subst a2;exact⟨lJ a5 rfl,IQ a5 rfl⟩
 have hprv:∀ w∈acc.toList,PrV (g.push (seqObj "list" acc.toList.toArray 0)) w:=fun w hw=>by
  obtain⟨j,t,x,tx,ty,a1,a2,a3,a4,a5⟩:=tk2 w hw;exact⟨t,_,_,x.1,x.2,tx,ty,a2,a5,rfl,rfl⟩
 have hdst:∀ a∈acc.toList,∀ b∈acc.toList,dg (g.push (seqObj "list" acc.toList.toArray 0)) a=dg (g.push (seqObj "list" acc.toList.toArray 0)) b->a=b:=fun a ha b hb e=>by
  obtain⟨j,_,x,_,_,a1,_,a3,_⟩:=tk2 a ha;obtain⟨k,_,y,_,_,b1,_,b3,_⟩:=tk2 b hb;rw[(keyat j a x a1 a3).1,(keyat k b y b1 b3).1]at e;have h1:(ps.map (·.1))[j]?=some x.1:=by rw[ME,a3];rfl
  have h2:(ps.map (·.1))[k]?=some y.1:=by rw[ME,b3];rfl
  have ej:j=k:=(Px (Mw.mp h1).1 nd).mp (by rw[h1,h2,e])
  subst ej;rw[a1]at b1;exact MN b1
 refine wpAny_bind (wpAny_holding (wpAny_call_entry slot_list_sort ⟨_,hoL,rfl⟩ entry_list_sort (Ag hoL hprv hdst hlen fun out pm up=>⟨_,rfl,?_⟩) (args_list_sort _)));refine wpAny_pure ⟨_,rfl,?_⟩;obtain⟨ep',hel⟩:=sortedHeap_at (out:=out.toArray) hoL;have keepF:∀(b:Addr)(o:Obj),g.get? b=some o->(sortedHeap (g.push (seqObj "list" acc.toList.toArray 0)) g.objs.size acc.toList out.toArray).get? b=some o:=fun b o e=>by
  rw[sortedHeap_old (M3 (Heap.lt_size e)) (by rw[Heap.size_push];exact NX (Heap.lt_size e))]
  exact Heap.get?_push_of_some _ e
 have tkO:∀ w∈out,∃(j:Nat)(t:Addr)(x:Int×Int)(tx ty:Tok),acc.toList[j]?=some w/\w=.ref t/\ps[j]?=some x/\s.heap.objs.size<=t/\t<g.objs.size/\(sortedHeap (g.push (seqObj "list" acc.toList.toArray 0)) g.objs.size acc.toList out.toArray).get? t=some { cls:=.type "tuple",data:=.seq #[.int x.1 tx,.int x.2 ty] }:=fun w hw=>by
  obtain⟨j,t,x,tx,ty,a1,a2,a3,a4,a5⟩:=tk w (pm.mem_iff.mp hw);exact⟨j,t,x,tx,ty,a1,a2,a3,a4,Heap.lt_size a5,keepF t _ a5⟩
 obtain⟨pr,hpr⟩:∃ pr:Value->Int×Int,pr=fun w=>(dg (g.push (seqObj "list" acc.toList.toArray 0)) w,IS (g.push (seqObj "list" acc.toList.toArray 0)) w):=⟨_,rfl⟩;have prat:∀(j:Nat)(w:Value)(x:Int×Int),acc.toList[j]?=some w->ps[j]?=some x->pr w=x:=fun j w x h1 h2=>by
  rw[hpr];obtain⟨k1,k2⟩:=keyat j w x h1 h2;exact Prod.ext k1 k2
 have eps:acc.toList.map pr=ps:=by
  refine Ou fun j=>?_;rw[ME];by_cases hj:j<ps.length
  ·have hj':j<acc.toList.length:=by rw[Nz,htk.1,esz'];exact hj
   rw[Mx hj',Mx hj];show some (pr _)=_;rw[prat j _ _ (Mx hj') (Mx hj)]
  ·rw[OG (l:=acc.toList) (by rw[Nz,htk.1,esz'];omega),OG (by omega)]
   rfl
 have pmp:(out.map pr).Perm ps:=by
  have:=pm.map pr;rwa[eps]at this
 have eout:(out.map adr).map Value.ref=out:=by
  rw[NZ];refine(OT (g:=id) fun w hw=>?_).trans (List.map_id _);obtain⟨_,t,_,_,_,_,a2,_⟩:=tkO w hw;rw[a2];rfl
 have ndo:out.Nodup:=pm.nodup_iff.mpr hap;have ndt:(out.map adr).Nodup:=by
  rw[← eout]at ndo;exact(NY.mp ndo).imp fun h e=>h (by rw[e])
 have sp:(out.map pr).Pairwise (fun x y=>x.1<y.1):=by
  have h1:(out.map pr).Pairwise (fun x y=>x.1<=y.1):=by
   refine NY.mpr (up.imp fun{x y} hxy=>?_);rw[hpr];exact hxy
  have h2:(out.map pr).Pairwise (fun x y=>x.1≠y.1):=NY.mp (show((out.map pr).map Prod.fst).Pairwise Ne from((pmp.map Prod.fst).nodup_iff).mpr nd);exact(h1.and h2).imp fun⟨a,b⟩=>by omega
 have zk:((out.map adr).zip (out.map pr)).map (·.1)=out.map adr:=List.map_fst_zip (by rw[MD,MD];exact MC _)
 obtain⟨H',hH'⟩:∃ H':Hp,H'=fun b=>if b=g.objs.size then some (.lst ((out.map adr).map V.ref)) else match((out.map adr).zip (out.map pr)).lookup b with | some e=>some (.tup [.int e.1,.int e.2]) | none=>H b:=⟨_,rfl⟩
 have hat:∀(i:Nat)(e:Int×Int),(out.map pr)[i]?=some e->∃ t,((out.map adr).map V.ref)[i]?=some (.ref t)/\H' t=some (.tup [.int e.1,.int e.2])/\s.heap.objs.size<=t/\t<g.objs.size:=fun i e he=>by
  rw[ME]at he;obtain⟨w,hw,rfl⟩:=M0.mp he;obtain⟨j,t,x,tx,ty,a1,a2,a3,a4,a5,a6⟩:=tkO w (My hw);subst a2;refine⟨t,by rw[ME,ME,hw];rfl,?_,a4,a5⟩
  rw[hH'];show(if t=g.objs.size then _ else _)=_;rw[if_neg (M3 a5),Jw (by rw[zk];exact ndt) (x:=pr (.ref t)) (My (i:=i) (by rw[Qw];exact⟨by rw[ME,hw];rfl,by rw[ME,hw];rfl⟩))]
 have low:∀ b,b<s.heap.objs.size->H' b=H b:=fun b hb=>by
  rw[hH'];show(if b=g.objs.size then _ else _)=_;rw[if_neg (M3 (Nat.lt_trans hb hlt))]
  cases z:((out.map adr).zip (out.map pr)).lookup b with
  |none=>rfl
  |some e =>
   have m:=GK z;obtain⟨w,hw,ew⟩:=MR.mp (PV m).1;obtain⟨_,t,_,_,_,_,a2,_,a4,_⟩:=tkO w hw;subst a2;have:t=b:=ew;subst this;exact absurd hb (Nat.not_lt_of_le a4)
 have I2:Inv X pins σ H' { s with heap:=sortedHeap (g.push (seqObj "list" acc.toList.toArray 0)) g.objs.size acc.toList out.toArray }:=by
  refine Inv.many (t':=s.toks) I (fun b o e=>keepF b o (hk b o e)) low fun b u hb hu=>?_;by_cases zb:b=g.objs.size
  ·subst zb;have e2:H' g.objs.size=some (.lst ((out.map adr).map V.ref)):=by rw[hH'];exact if_pos rfl
   rw[e2]at hu
   cases hu
   refine⟨by rw[MD,MD,pm.length_eq];exact hlen,out,ep',?_,hel⟩
   have:∀ l:List Addr,Vals (l.map V.ref) (l.map Value.ref):=fun l=>by
    induction l with
    |nil=>exact .nil
    |cons a l ih=>exact .cons rfl ih
   have z:=this (out.map adr);rw[eout]at z;exact z
  ·have e2:H' b=(match((out.map adr).zip (out.map pr)).lookup b with | some e=>some (.tup [.int e.1,.int e.2]) | none=>H b):=by rw[hH'];exact if_neg zb
   rw[e2]at hu
   cases z:((out.map adr).zip (out.map pr)).lookup b with
   |none =>
    rw[z]at hu;have:=I.hok.lt (show H b=some u from hu);exact absurd hb (Nat.not_le_of_lt this)
   |some e =>
    rw[z]at hu
    cases hu
    have m:=GK z;obtain⟨i,hi⟩:=NN m;obtain⟨h1,h2⟩:=Qw.mp hi;rw[ME]at h1 h2;obtain⟨w,hw,e3⟩:=M0.mp h1;rw[hw]at h2
    cases h2
    obtain⟨j,t,x,tx,ty,a1,a2,a3,a4,a5,a6⟩:=tkO w (My hw);subst a2;have eb:t=b:=e3;subst eb;rw[prat j _ x a1 a3];exact⟨(by decide:(2:Nat)<=sizeLine),[.int x.1 tx,.int x.2 ty],.cons ⟨tx,rfl⟩ (.cons ⟨ty,rfl⟩ .nil),_,a6,rfl,_,rfl⟩
 refine⟨.ref g.objs.size,H',I2,rfl,q g.objs.size _ (out.map pr) H' (fun b u e=>by rw[low b (I.hok.lt e)];exact e) (I.hok.fresh (ND hlt)) (by rw[hH'];exact if_pos rfl) pmp sp (by rw[MD,MD,MD]) fun i e he=>?_⟩
 obtain⟨t,b1,b2,_⟩:=hat i e he;exact⟨t,b1,b2⟩
end
end L2
namespace L2
open PySem PySem.Spec PyProof.Rows
def DRd(H:Hp)(d:Addr)(u:HO):Prop:=vS u/\(H d=some u∨∃ o,H d=some (.frz o u))
section
variable{X:Cx}
theorem DRd.ok{P:Program}{w:World}{H:Hp}{h:Heap}{d:Addr}{u:HO}(x:DRd H d u)(k:HOk P w H h):bh P w H h d u:=by
 obtain⟨_,x | ⟨o,x⟩⟩:=x
 ·exact k d _ x
 ·exact(k d _ x).2
theorem Gv:MtR X "dict.items" (fun x xs H Q=>∃ d u,x=.ref d/\xs = []/\DRd H d u/\∀ v,H v=none->Q (.ref v) (upd H v (dM v d))):=by
 intro pins s σ H x xs v us Q I rx rv h;obtain⟨d,u,rfl,rfl,hd,q⟩:=h
 cases rx
 have hus:=rv.zero;subst hus;obtain⟨lo,es,ep,hm,_⟩:=nN hd.1 (hd.ok I.hok);refine call_meetsIn Ow hm.ty Qz (Qt _) (DC lo) ⟨⟨es,ep,hm⟩,?_⟩;have hv:(s.heap.push { cls:=.type "dict_items",data:=.fields #[.ref d] }).IsItemsView s.heap.objs.size d:=⟨_,Heap.get?_push_size _ rfl,rfl,rfl⟩;refine⟨.ref s.heap.objs.size,_,I.laid (t':=s.toks) (fun b o e=>Heap.get?_push_of_some _ e) (MC _) ?_,rfl,q _ (I.hok.fresh (MC _))⟩;exact⟨hv,⟨_,Heap.get?_push_size _ rfl⟩,fun h1 h2 x k=>let ⟨o,ho,r⟩:=x;⟨o,k _ ho,r⟩⟩
def LW(te:TE):TI:=fun σ H R=>te σ H fun x H1=>∃ vw d u,x=.ref vw/\H1 vw=some (dM vw d)/\DRd H1 d u/\∀ o,(∀ o',H1 d=some (.frz o' u)->o'=o)->R (Itd o u d) (upd H1 d (.frz o u))
theorem FZ{e:Expr}{te:TE}{es:List Expr}{k:Nat}{tp:Pos}(he:PE X e te):PI X (.Tuple es k tp) e (LW te):=by
 intro pins s σ H R I h;refine thn (he pins s σ H _ I h) fun v s1 ⟨x,H1,I1,r1,q1⟩=>?_;obtain⟨vw,d,u,rfl,hv,hd,q⟩:=q1
 cases r1
 obtain⟨hview,_,_⟩:=(show bh X.prog X.w H1 s1.heap vw (dM vw d) from I1.hok vw _ hv);obtain⟨_,ents,ep,hm,sz,_⟩:=nN hd.1 (hd.ok I1.hok);obtain⟨o,q1,q2,q3⟩:=id hm;refine wb hview hm ?_;have I2:Inv X pins σ (upd H1 d (.frz o u)) s1:=by
  obtain⟨hu,hd | ⟨o',hd⟩⟩:=hd
  ·exact I1.freeze hd hu q1
  ·have e1:=(show bh X.prog X.w H1 s1.heap d (.frz o' u) from I1.hok d _ hd).1
   rw[q1]at e1
   cases e1
   have:upd H1 d (.frz o u)=H1:=by
    funext b;by_cases z:b=d
    ·rw[z,ae,hd]
    ·rw[aq z]
   rw[this];exact I1
 have uq:∀ o',H1 d=some (.frz o' u)->o'=o:=fun o' hd'=>by
  have e1:=(show bh X.prog X.w H1 s1.heap d (.frz o' u) from I1.hok d _ hd').1;rw[q1]at e1;exact(MN e1).symm
 have ne:d≠s1.heap.objs.size:=M3 (Heap.lt_size q1);refine⟨s1.heap.objs.size,[s1.heap.objs.size],_,_,upd H1 d (.frz o u),rfl,I2.kept (t':=s1.toks) fun b u e=>Heap.get?_push_of_some _ e,sS o u d _ hd.1 ents ep q2 q3,⟨_,_,Heap.get?_push_size _ rfl⟩,fun b hb=>?_,q o uq⟩;rw[M4.mp hb];exact I2.fpOk (MC _) (I2.hok.fresh (MC _))
def KS(to:TE):TE:=fun σ H Q=>to σ H fun x H1=>∃ d u,x=.ref d/\DRd H1 d u/\∀ v,H1 v=none->Q (.ref v) (upd H1 v (dM v d))
theorem F4{o:Expr}{to:TE}{apos cpos:Pos}(ho:PE X o to) (hbase:attributeBase o "items" X.env (eval o X.env)=eval o X.env:=by rfl) (hline:(apos.endLine == cpos.line)=true:=by rfl):PE X (.Call (.Attribute o "items" apos) [] [] cpos) (KS to):=by
 intro pins s σ H Q I h;refine wpAny_Call_method0_late hbase hline (thn (ho pins s σ H _ I h) fun v s1 ⟨x,H1,I1,r1,d,u,ex,hd,q⟩=>?_);subst ex;obtain rfl:v=Value.ref d:=r1;obtain⟨_,es,ep,⟨ob,e1,e2,e3⟩,_⟩:=nN hd.1 (hd.ok I1.hok);exact⟨"dict","dict.items",Od,Ow,PF,⟨ob,e1,e2.1⟩,fun a z=>by cases z;exact⟨ob,e1,e2.2.1⟩,Calls.callWith_builtin rfl (PySem.evalArgs_none (Gv pins s1 σ H1 (.ref d) [] (.ref d) [] Q I1 rfl .nil ⟨d,u,rfl,rfl,hd,q⟩))⟩
end
end L2
namespace L2
open PySem PySem.Spec PyProof.Rows
structure WS(X:Cx)(st:Stmt)(t:TS):Prop where
 ok:PS X st t
structure WSs(X:Cx)(sts:List Stmt)(t:TS):Prop where
 ok:PSs X sts t
section
variable{X:Cx}{st:Stmt}{rest:List Stmt}{t u:TS}{e:Expr}{te:TE}{pos:Pos}{tg:Expr}
theorem KN:WSs X [] tNext:=⟨aZ⟩
theorem o7(h1:WS X st t)(h2:WSs X rest u):WSs X (st::rest) (tSeq t u):=⟨ag h1.ok h2.ok⟩
theorem zT(h1:WS X st t):WSs X [st] t:=⟨ao h1.ok⟩
theorem JX{i:Nat}{x:Str}{pos':Pos}(hN:X.N.Nodup)(hi:X.N[i]?=some x)(hx:Loc X.env.scope x)(he:PE X e te)(hs:swapsWith e (some (.Name x pos')) pos.line X.env=pure false:=by rfl)(hf:X.fn x=true∨X.env.scope.names.lookup x=some .local:=by first | exact .inl rfl | exact .inr rfl | assumption) :
  WS X (.Assign [.Name x pos'] e pos) (tAsg te (Hn i)):=⟨au hN hi hx he hs hf⟩
theorem ws_ret(he:PE X e te):WS X (.Return (some e) pos) (tRet te):=⟨aN he⟩
theorem ws_if{a b:List Stmt}{tc:TT}(hc:PT X e tc)(ha:WSs X a t)(hb:WSs X b u):WS X (.If e a b pos) (tIfS tc t u):=⟨c7 hc ha.ok hb.ok⟩
end
end L2
namespace L2
open PySem PySem.Spec PyProof.Rows
theorem C5{X:Cx}{pos:Pos}{k v:Expr}{tk tv:TE}(hk:PE X k tk)(hv:PE X v tv):PE X (.Dict [some k] [v] pos) (rT [(tk,tv)]):=Lp (Jc hk hv Lj) rfl rfl (fun z=>by cases z) (by show 1<=15;decide)
theorem pe_dd{X:Cx}{i j l:Int}{a b c:Nat}{p1 p2 p3 p4 p5:Pos}:PE X (.Dict [some (.Constant (.int i) a p1)] [.Dict [some (.Constant (.int j) b p2)] [.Constant (.int l) c p3] p4] p5) (rT [(tC (.int i),rT [(tC (.int j),tC (.int l))])]):=by
 have h0:PE X (.Constant (.int i) a p1) (tC (.int i)):=ai;have h1:PE X (.Constant (.int j) b p2) (tC (.int j)):=ai;have h2:PE X (.Constant (.int l) c p3) (tC (.int l)):=ai;with_reducible exact C5 h0 (C5 h1 h2)
theorem IZ{X:Cx}{n:Nat}{x:Str}{pos' pos:Pos}{i j l:Int}{a b c:Nat}{p1 p2 p3 p4 p5:Pos}(hN:X.N.Nodup:=by assumption)(hi:X.N[n]?=some x:=by rfl)(hx:Loc X.env.scope x:=by exact Or.inl rfl)(hf:X.fn x=true∨X.env.scope.names.lookup x=some .local:=by exact .inl rfl):PS X (.Assign [.Name x pos'] (.Dict [some (.Constant (.int i) a p1)] [.Dict [some (.Constant (.int j) b p2)] [.Constant (.int l) c p3] p4] p5) pos) (tAsg (rT [(tC (.int i),rT [(tC (.int j),tC (.int l))])]) (Hn n)):=by
 have h:PE X (.Dict [some (.Constant (.int i) a p1)] [.Dict [some (.Constant (.int j) b p2)] [.Constant (.int l) c p3] p4] p5) (rT [(tC (.int i),rT [(tC (.int j),tC (.int l))])]):=by with_reducible exact pe_dd
 have hs:swapsWith (.Dict [some (.Constant (.int i) a p1)] [.Dict [some (.Constant (.int j) b p2)] [.Constant (.int l) c p3] p4] p5) (some (.Name x pos')) pos.line X.env=pure false:=rfl;with_reducible exact au hN hi hx h hs hf
theorem Iw{X:Cx}{n:Nat}{x:Str}{pos' pos:Pos}{i j l:Int}{a b c:Nat}{p1 p2 p3 p4 p5:Pos}(hN:X.N.Nodup)(hi:X.N[n]?=some x)(hx:Loc X.env.scope x)(hf:X.fn x=true∨X.env.scope.names.lookup x=some .local):WS X (.Assign [.Name x pos'] (.Dict [some (.Constant (.int i) a p1)] [.Dict [some (.Constant (.int j) b p2)] [.Constant (.int l) c p3] p4] p5) pos) (tAsg (rT [(tC (.int i),rT [(tC (.int j),tC (.int l))])]) (Hn n)):=⟨by with_reducible exact IZ hN hi hx hf⟩
theorem KO{X:Cx}{tg iter:Expr}{body:List Stmt}{wi:TI}{g:TG}{tb:TS}{pos:Pos}(hc:X.calm=true)(hi:PI X tg iter wi)(hg:PG X.nox tg g)(hb:WSs X.nox body tb)
  (hs:∀ x,foldedSetIterable iter X.env x=pure x:=by intro _;rfl):WS X (.For tg iter body [] pos) (tFor wi g tb):=⟨FR hc hi hg hb.ok hs⟩
theorem Fj{X:Cx}{x:Str}{C:Addr}{e:Expr}{es:List Expr}{t:TA}{W:WK}{np cpos pos:Pos}(ec:ExC X.K C)(hm:X.mg x=some (.ref C))(hg:Gl X x)(ws:Wsh X W)(hx:X.ex = [])(hc:X.calm=true)(ha:PA X (e::es) t)
  (he:starEach (e::es) X.env=(false,eval e X.env)::starEach es X.env:=by rfl) (hpl:(backTo cpos (starEach es X.env)).any (·.1)=false:=by rfl) (hdb:(x == ("__debug__" : Str))=false:=by decide) :
  WS X (.Raise (some (.Call (.Name x np) (e::es) [] cpos)) none pos) (J1 C W t):=⟨xF ec hm hg ws hx hc ha he hpl hdb⟩
end L2
namespace L2
open PySem PySem.Spec PyProof.Rows
def Itv(K:Mz)(a:Addr)(n:Nat):It :=
 ⟨fun i H=>i<n/\∃ xs,SqL K H a xs/\xs.length=n,fun i H x H'=>H'=H/\∀ xs,SqL K H a xs->xs[n-1-i]?=some x,fun i _=>n<=i⟩
theorem IC{P:Program}{w:World}{K:Mz}{tg:Expr}(a it:Addr)(n:Nat):Turn P w K tg (Itv K a n) [it] it (fun i h=>i<=n/\h.IsRevIter it a ((n:Int)-1-(i:Int))) where
 mem:=by simp
 obj:=fun i h st b hb=>by
  have e:b=it:=by simpa using hb
  subst e;obtain⟨_,o,e,c,d⟩:=st;exact⟨o,e,fun v z=>by rw[d]at z;cases z⟩
 keep:=fun i h h' st k=>⟨st.1,st.2.at fun o e=>k it (by simp) o e⟩
 item:=by
  intro X hP hw hK hc i pins s σ H E I hf st hg;subst hP hw hK;obtain⟨hi,xs,hq,hx⟩:=hg;obtain⟨its,rv,p,hz⟩:=I.list hq;obtain⟨x,hxx⟩:∃ x,xs[n-1-i]?=some x:=⟨_,Mx (by omega)⟩
  obtain⟨u,hu,ru⟩:=rv.get hxx;obtain⟨f0,f1,f2,f3,f4,f5⟩:=hf it (by simp)
  have hit:=st.2;have e1:(n:Int)-1-(i:Int)=((n-1-i:Nat):Int):=by omega
  rw[e1]at hit;refine wpAny_pyNext_rev_item hit p.isList (x:=u) (by simpa using hu) fun h' st' sb=>?_
  have I1:Inv X pins σ H { s with heap:=h' }:=I.turned (t':=s.toks) (fun b o hb e=>(sb.2 b hb).trans e) f0 f1 f3 f4 f5;have e2:((n-1-i:Nat):Int)-1=(n:Int)-1-((i+1:Nat):Int):=by omega
  rw[e2]at st';obtain⟨o,e,c,d⟩:=id st';exact⟨u,rfl,JH (s:={ s with heap:=h' }) e c d (by decide) ⟨x,H,I1,ru,⟨rfl,fun ys hy=>by rw[I.list_inj hy hq];exact hxx⟩,⟨hi,st'⟩,fun b hb=>(hf b hb).1⟩⟩
 done:=by
  intro X hP hw hK hc i pins s σ H E I hf st hg;subst hP hw hK;have hg':n<=i:=hg;obtain⟨f0,f1,f2,f3,f4,f5⟩:=hf it (by simp)
  have hit:=st.2;have hi:=st.1;have e1:(n:Int)-1-(i:Int) = -1:=by omega
  rw[e1]at hit;exact wpAny_pyNext_rev_end (I.ok.hd hc) hit fun h' eb=>⟨rfl,I.turned (t':=s.toks) (fun b o hb e=>eb b o hb e) f0 f1 f3 f4 f5⟩
 self:=fun _ _ _ _ _ st h=>wpAny_pyIter_revIter st.2 h
section
variable{X:Cx}{tg:Expr}
def iRev(K:Mz)(te:TE):TI:=fun σ H R=>te σ H fun x H1=>∃ a xs,x=.ref a/\SqL K H1 a xs/\R (Itv K a xs.length) H1
theorem pi_rev{e:Expr}{te:TE}{p2 pos2:Pos} (hg2:Gl X "reversed") (hm2:X.mg "reversed" = none) (he:PE X e te) (h2:starEach [e] X.env=(false,eval e X.env)::starEach [] X.env:=by rfl) :
  PI X tg (.Call (.Name "reversed" p2) [e] [] pos2) (iRev X.K te):=by
 intro pins s σ H R I h;refine wpAny_Call_Name_kw (jZ I hg2 hm2 Cp ?_);refine PyProof.Rows.callWith_type1 ?_ h2 rfl;rw[h2];refine Calls.spliced_cons (thn (he pins s σ H _ I h) fun u s1 ⟨x,H1,I1,r1,q1⟩=>?_);obtain⟨l,ys,rfl,hq,q⟩:=q1
 cases r1
 refine Calls.spliced_nil ?_;obtain⟨its,rv,pl,hz⟩:=I1.list hq;have hn:its.toArray.size=ys.length:=by rw[M6,rv.length]
 refine call_reversed_list pl.isList ?_;have I2:Inv X pins σ H1 { s1 with heap:=s1.heap.push (revObj l ((its.toArray.size:Int)-1)) }:=I1.kept (t':=s1.toks) fun b o e=>Heap.get?_push_of_some _ e;have hit:(s1.heap.push (revObj l ((its.toArray.size:Int)-1))).IsRevIter s1.heap.objs.size l ((its.toArray.size:Int)-1):=⟨_,Heap.get?_push_size _ rfl,rfl,rfl⟩;refine wpAny_pyIter_revIter hit ?_;rw[hn]at hit;refine⟨s1.heap.objs.size,[s1.heap.objs.size],_,_,H1,rfl,I2,IC l _ ys.length,⟨NA _,by rw[hn];simpa using hit⟩,fun b hb=>?_,q⟩
 have e:b=s1.heap.objs.size:=by simpa using hb
 subst e;exact I1.fpOk (MC _) (I1.hok.fresh (MC _))
end
theorem JQ{K:Mz}{a:Addr}{xs:List V}{te:TE}{fv:St}{H1:Hp}{QQ:List V->Hp->Prop}(Pv:Nat->List V->Hp->Prop)(hz:xs.length<=sizeLine)(h0:Pv 0 [] H1)(hl:∀ i ys H,i<=xs.length->Pv i ys H->SqL K H a xs)
  (hs:∀ i x ys H,xs.reverse[i]?=some x->Pv i ys H->te (some x::fv) H fun y H2=>Pv (i+1) (ys++[y]) H2) (hd:∀ ys H,ys.length=xs.length->Pv xs.length ys H->QQ ys H)
  : pM te fv (Itv K a xs.length) H1 QQ:=by
 refine⟨fun i m ys H=>m=xs.length-i/\i<=xs.length/\ys.length=i/\Pv i ys H,⟨xs.length,by simp,NA _,rfl,h0⟩,?_⟩
 rintro i m ys H ⟨rfl,hi,hy,p⟩;have q:=hl i ys H hi p;refine⟨by omega,?_⟩
 by_cases hlt:i<xs.length
 ·refine .inr ⟨⟨hlt,xs,q,rfl⟩,fun y H2=>Pv (i+1) (ys++[y]) H2,fun y H2 p2=>⟨xs.length-(i+1),by omega,rfl,hlt,by rw[MA,hy];rfl,p2⟩,fun x H' y=>?_⟩
  obtain⟨e,y⟩:=y;subst e;refine hs i x ys _ ?_ p;rw[PY hlt];exact y xs q
 ·have e:i=xs.length:=by omega
  subst e;exact .inl ⟨MC _,hd ys H hy p⟩
def numV:Value->Int
 |.int x _=>x
 |_=>0
theorem Dd:∀{vs:List Value}{ns:List Int},IntsAre vs ns->vs.map numV=ns
 |_,_,.nil=>rfl
 |_,_,.cons n t r=>by rw[Nh,Dd r];rfl
theorem vU:∀{vs:List Value}{ns:List Int},IntsAre vs ns->∀ v∈vs,∃ t,v=.int (numV v) t
 |_,_,.nil,v,h=>by cases h
 |_,_,.cons n t r,v,h=>by
  rcases MG.mp h with e | h
  ·subst e;exact⟨t,rfl⟩
  ·exact vU r v h
theorem qJ:∀{vs:List Value},(∀ v∈vs,∃ t,v=.int (numV v) t)->IntsAre vs (vs.map numV)
 |[],_=>.nil
 |v::vs,h=>by
  obtain⟨t,e⟩:=h v MV;have r:=qJ (vs:=vs) fun u hu=>h u (MO _ hu);rw[Nh];generalize numV v=n at e ⊢;subst e;exact .cons n t r
section
variable{prog:Program}{w:World}{A:Around}{E:Value->Shared->Prop}{s:Shared}
theorem GJ{vs:List Value}(hp:∀ v∈vs,∃ t,v=.int (numV v) t):@PyProof.RowsP.LtOk prog w A E s ⟨numV,fun v=>v∈vs,oneType'⟩:=by
 refine @PyProof.RowsP.LtOk.mk prog w A E s ⟨numV,fun v=>v∈vs,oneType'⟩ ?_;intro st x y Q hk hx hy h;obtain⟨t,ex⟩:=hp x.1 hx;obtain⟨u,ey⟩:=hp y.1 hy;have h':Q (some (decide (numV x.1<numV y.1))) st:=h;have hk':kindOf st=oneType':=hk;show wpS (model prog w) A E s (lt' x y) Q st;rw[lt'_eq];refine wpS_bind (wpS_get ?_);rw[hk',keyLt'_oneType];generalize numV x.1=n at ex h';generalize numV y.1=m at ey h';rw[ex,ey];refine wpS_bind (wpS_lift (wpAny_attempt (oneLt_int ⟨rfl,?_⟩)));exact wpS_pure h'
theorem FH{a:Addr}{vs:List Value}{ns:List Int}{n:Nat}{P:PySem.Fin->Shared->Prop} (ho:s.heap.get? a=some (seqObj "list" vs.toArray n)) (hI:IntsAre vs ns) (hz:vs.length<=sizeLine)
  (h:∀(out:Array Value)(ns':List Int),IntsAre out.toList ns'->ns'.Perm ns->ns'.Pairwise (·<=·)->P (.done (.ret .none)) { s with heap:=sortedHeap s.heap a vs out }) :
  wpAny (model prog w) A (Builtin.«list.sort» ⟨[.ref a],[]⟩) P E s:=by
 by_cases h64:vs.length<64
 ·exact list_sort_tree ho hI h64 h
 obtain⟨v₁,v₂,rest,e⟩:∃ v₁ v₂ rest,vs=v₁::v₂::rest:=by
  match vs,h64 with
  |[],h64=>exact absurd (by decide) h64
  |[_],h64=>exact absurd (by show 1<64;decide) h64
  |v₁::v₂::rest,_=>exact⟨v₁,v₂,rest,rfl⟩
 have sz:vs.toArray.size=vs.length:=by simp
 have ha:a<s.heap.objs.size:=Heap.lt_size ho;rw[list_sort_plain];refine wpAny_bind (listItems_at ho rfl (wpAny_bind (listUpdate_at ho rfl ?_)));obtain⟨e1,ho1⟩:∃ e1,(s.heap.update a (Obj.mapSeq fun _=>#[])).get? a=some (seqObj "list" #[] e1):=⟨_,get?_update_seq ho (fun _=>#[])⟩;refine wpAny_bind (seqEpoch_at ho1 rfl (wpAny_bind (wpAny_newTuple (wpAny_bind (wpAny_newList (wpAny_holding ?_))))));have ho6:(((s.heap.update a (Obj.mapSeq fun _=>#[])).push (seqObj "tuple" vs.toArray 0)).push (seqObj "list" #[] 0)).get? a=some (seqObj "list" #[] e1):=by
  rw[Heap.get?_push_ne _ _ _ (by rw[size_push',Heap.size_update];exact M3 (NX ha)),Heap.get?_push_ne _ _ _ (by rw[Heap.size_update];exact M3 ha)]
  exact ho1
 show wpAny (model prog w) A _ P E { s with heap:=((s.heap.update a (Obj.mapSeq fun _=>#[])).push (seqObj "tuple" vs.toArray 0)).push (seqObj "list" #[] 0) };have n2:¬ vs.toArray.size<2:=by omega
 dsimp only;rw[if_neg n2,if_neg n2];have kk:keyKind' vs.toArray=pure oneType':=by subst e;exact keyKind_ints hI
 rw[kk];refine wpAny_bind (wpAny_pure ?_);letI KF:PyProof.RowsP.KeyFn:=⟨numV,fun v=>v∈vs,oneType'⟩;haveI LO:PyProof.RowsP.LtOk prog w A E { s with heap:=((s.heap.update a (Obj.mapSeq fun _=>#[])).push (seqObj "tuple" vs.toArray 0)).push (seqObj "list" #[] 0) }:=GJ (vU hI);have run:=PyProof.RowsP.wpS_sortAll (prog:=prog) (w:=w) (A:=A) (E:=E) (s:={ s with heap:=((s.heap.update a (Obj.mapSeq fun _=>#[])).push (seqObj "tuple" vs.toArray 0)).push (seqObj "list" #[] 0) }) (a₀:=pairsOf vs) (st:=SortSt.mk' oneType' (vs.toArray.zip vs.toArray) #[] 7 none)
  (Q:=fun _ st'=>(arrOf st').Perm (pairsOf vs)/\failedOf st'=none/\PyProof.RowsP.Upl (arrOf st').toList) (fun p hp'=>?_) ⟨Qo _,rfl,rfl,rfl,NA _⟩ fun st' q1 q2 q3=>⟨q1,q2,q3⟩
 ·refine wpAny_bind (wpAny_mono run ?_ fun _ _ e=>e);rintro⟨⟨⟩,st'⟩ s' ⟨rfl,hpm,hf,hu⟩;dsimp only;have hl:(arrOf st').toList.Perm (vs.zip vs):=by rw[← pairsOf_toList];exact Oh.mp hpm
  have hmem:∀ p,p∈(arrOf st').toList->p.1=p.2/\p.1∈vs:=fun p hp'=>mem_zip_self (hl.mem_iff.mp hp');have eo:((arrOf st').map (·.2)).toList=(arrOf st').toList.map (·.2):=Array.toList_map ..;have pm:((arrOf st').toList.map (·.2)).Perm vs:=by
   have z:=hl.map (·.2);rw[show(vs.zip vs).map (·.2)=vs from List.map_snd_zip (MC _)]at z;exact z
  refine wpAny_bind (seqEpoch_at ho6 rfl ?_);refine wpAny_bind (listUpdate_at ho6 rfl ?_ (hsz2:=by refine Nw (Nat.le_of_eq ((Array.size_map ..).trans (hpm.size_eq.trans (pairsOf_size _)))) ?_;omega))
  rw[hf];simp only[bne_self_eq_false,NG,if_false];refine wpAny_pure (h _ (((arrOf st').toList.map (·.2)).map numV) ?_ ?_ ?_)
  ·rw[eo];exact qJ fun v hv=>vU hI v (pm.mem_iff.mp hv)
  ·have:=pm.map numV
   rw[Dd hI]at this;exact this
  ·rw[NZ];refine NY.mpr (Pz (fun{x y} hx hy hxy=>?_) hu);have hxy':numV x.1<=numV y.1:=hxy;obtain⟨ex,_⟩:=hmem x hx;obtain⟨ey,_⟩:=hmem y hy;show numV x.2<=numV y.2;rw[← ex,← ey];exact hxy'
 ·show p.1∈vs;have hp2:p∈vs.zip vs:=by rw[← pairsOf_toList];exact hp'
  exact(mem_zip_self hp2).2
end
section
variable{X:Cx}
def rSortK:List V->Hp->VK->Prop:=fun xs H Q=>∃(v d:Addr)(kvs:List (Key×V))(ns:List Int),xs = [.ref v]/\H v=some (GU v d)/\H d=some (.dK kvs)/\kvs.map (·.1)=ns.map Sum.inl/\∀(l:Addr)(out:List Int),H l=none->out.Perm ns->out.Pairwise (·<=·)->Q (.ref l) (upd H l (.lst (out.map V.int)))
theorem EX(hc:X.calm=true):nG X (.builtin "sorted") rSortK:=by
 intro pins s σ H xs us Q I r h;obtain⟨v,d,kvs,ns,rfl,hv,hd,ek,q⟩:=h;obtain⟨u,rfl,ru⟩:=tZ r
 cases ru
 obtain⟨hz,lo,vs,rk,hm⟩:=(show bh X.prog X.w H s.heap d (.dK kvs) from I.hok d _ hd);obtain⟨hview,_,_⟩:=(show bh X.prog X.w H s.heap v (GU v d) from I.hok v _ hv);obtain⟨ep,hat⟩:=hm.dictAt;have hl:kvs.length=vs.length:=Paired.length rk;refine Calls.call_function_entry kind_sorted plain_sorted entry_sorted (args_sorted1 _) ?_;unfold Builtin.«sorted»;refine wpAny_bind (m:=checkCount "sorted" 1 1 _) (wpAny_pure ?_);refine wpAny_bind (Co (PySem.W.kdl_keys (knd:=bB X.prog X.w) (kvs:=vs) (ep:=ep)) (I.ok.hd hc) ⟨hview,hat⟩ (by rw[← hl];exact hz) fun h' tk acc' hk hlt hacc=>?_)
 have hvs:Vals (kvs.map fun q=>kV q.1) acc'.toList:=yt (P:=X.prog) (w:=X.w) rk (by rw[Nz];exact hacc.1) fun j v ej=>hacc.2 j v (by rw[← N1];exact ej)
 have eks:(kvs.map fun q=>kV q.1)=ns.map V.int:=by
  have:(kvs.map fun q=>kV q.1)=(kvs.map (·.1)).map kV:=by rw[NZ];rfl
  rw[this,ek,NZ];rfl
 rw[eks]at hvs;have hi:=lH hvs;have hlen:acc'.toList.length<=sizeLine:=by
  rw[Nz,hacc.1,← hl];exact hz
 refine wpAny_bind (wpAny_newList ?_ hlen);have hoL:(h'.push (seqObj "list" acc'.toList.toArray 0)).get? h'.objs.size=some (seqObj "list" acc'.toList.toArray 0):=Heap.get?_push_size _ rfl;show wpAny _ _ _ _ _ { s with heap:=h'.push (seqObj "list" acc'.toList.toArray 0),toks:=tk };have keepH:∀(out:Array Value)(b:Addr)(o:Obj),s.heap.get? b=some o->(sortedHeap (h'.push (seqObj "list" acc'.toList.toArray 0)) h'.objs.size acc'.toList out).get? b=some o:=fun out b o e=>by
  have e2:=hk b o e;rw[sortedHeap_old (M3 (Heap.lt_size e2)) (by rw[Heap.size_push];exact NX (Heap.lt_size e2))]
  exact Heap.get?_push_of_some _ e2
 have hsz:s.heap.objs.size<=h'.objs.size:=ND hlt;refine wpAny_bind (wpAny_holding (wpAny_call_entry slot_list_sort ⟨_,hoL,rfl⟩ entry_list_sort (FH hoL hi hlen fun out ns' a1 a2 a3=>⟨_,rfl,?_⟩) (args_list_sort _)));obtain⟨e,he⟩:=sortedHeap_at (out:=out) hoL;refine wpAny_pure ⟨_,rfl,?_⟩;refine⟨.ref h'.objs.size,_,I.laid (t':=tk) (keepH out) hsz (show bh X.prog X.w _ _ _ (.lst (ns'.map V.int)) from⟨?_,out.toList,e,zZ a1,?_⟩),rfl,q _ ns' (I.hok.fresh hsz) a2 a3⟩
 ·have e1:kvs.length=ns.length:=by
   have:=congrArg Qm ek;rwa[MD,MD]at this
  rw[MD,a2.length_eq,← e1];exact hz
 ·exact he
end
end L2
namespace L2
theorem len_0{α:Type}{l:List α}(h:l.length=0):l = []:=OZ.mp h
theorem GN{α:Type}{l:List α}{n:Nat}(h:l.length=n+1):∃ x r,l=x::r/\r.length=n:=by
 cases l with
 |nil=>cases h
 |cons x r=>exact⟨x,r,rfl,Qb h⟩
theorem yp{α:Type}{l:List α}(h:l.length=1):∃ a,l = [a]:=by
 obtain⟨a,r,rfl,e⟩:=GN h;exact⟨a,by rw[len_0 e]⟩
theorem gq{α:Type}{l:List α}(h:l.length=2):∃ a b,l = [a,b]:=by
 obtain⟨a,r,rfl,e⟩:=GN h;obtain⟨b,rfl⟩:=yp e;exact⟨a,b,rfl⟩
theorem qu{α:Type}{l:List α}(h:l.length=3):∃ a b c,l = [a,b,c]:=by
 obtain⟨a,r,rfl,e⟩:=GN h;obtain⟨b,c,rfl⟩:=gq e;exact⟨a,b,c,rfl⟩
theorem Jx{α:Type}{l:List α}(h:l.length=4):∃ a b c d,l = [a,b,c,d]:=by
 obtain⟨a,r,rfl,e⟩:=GN h;obtain⟨b,c,d,rfl⟩:=qu e;exact⟨a,b,c,d,rfl⟩
theorem len_5{α:Type}{l:List α}(h:l.length=5):∃ a b c d e,l = [a,b,c,d,e]:=by
 obtain⟨a,r,rfl,z⟩:=GN h;obtain⟨b,c,d,e,rfl⟩:=Jx z;exact⟨a,b,c,d,e,rfl⟩
end L2
namespace K8
theorem J2:∀{a b:List Nat},a.Nodup->(∀ x∈a,x∈b)->a.length<=b.length
 |[],_,_,_=>NA _
 |x::a,b,nd,h=>by
  obtain⟨n1,n2⟩:=MU.mp nd;have hx:=h x (by simp)
  have ih:=J2 (a:=a) (b:=b.erase x) n2 fun y hy=>(List.mem_erase_of_ne (fun e:y=x=>n1 (e▸hy))).mpr (h y (MO _ hy));rw[List.length_erase_of_mem hx]at ih;have:0<b.length:=O5 hx;rw[Nb];omega
theorem eO{a:List Nat}{N:Nat}(nd:a.Nodup)(h:∀ x∈a,x<N):a.length<=N:=by
 have:=J2 (b:=Na N) nd fun x hx=>Ny.mpr (h x hx);rwa[N0]at this
theorem Di{l:List Nat}(nd:l.Nodup){i j x:Nat}(hi:l[i]?=some x)(hj:l[j]?=some x):i=j:=by
 have p:=N8.mp nd;obtain⟨h1,e1⟩:=Mw.mp hi;obtain⟨h2,e2⟩:=Mw.mp hj;rcases Nat.lt_trichotomy i j with z | z | z
 ·exact absurd (e1.trans e2.symm) (p i j h1 h2 z)
 ·exact z
 ·exact absurd (e2.trans e1.symm) (p j i h2 h1 z)
abbrev En:=List (Nat×Nat)
structure bC(m:Nat)(es:En)(ts:List (List Nat)):Prop where
 len:ts.length=m
 ends:∀ e∈es,e.1<m/\e.2<m/\e.1≠e.2
 nd:∀(p:Nat)(l:List Nat),ts[p]?=some l->l.Nodup
 mem:∀(p:Nat)(l:List Nat),ts[p]?=some l->∀ t,t∈l↔∃ e,es[t]?=some e/\(e.1=p∨e.2=p)
theorem ID(m:Nat):bC m [] (ON m []) where
 len:=by simp
 ends:=fun e h=>by cases h
 nd:=fun p l h=>by
  rw[Ox]at h;split at h
  ·cases h;exact OO
  ·cases h
 mem:=fun p l h t=>by
  rw[Ox]at h;split at h
  ·cases h;simp
  ·cases h
def ins(l:List Nat)(k x:Nat):List Nat:=l.take k++x::l.drop k
theorem BP{l:List Nat}{k x y:Nat}:y∈ins l k x↔y=x∨y∈l:=by
 unfold ins;rw[MH,MG];have:=M9 k l;constructor
 ·rintro(h | h | h)
  ·exact .inr (NL h)
  ·exact .inl h
  ·exact .inr (NM h)
 ·rintro(h | h)
  ·exact .inr (.inl h)
  ·rw[← this]at h;rcases MH.mp h with z | z
   ·exact .inl z
   ·exact .inr (.inr z)
theorem Hc{l:List Nat}{k x:Nat}(nd:l.Nodup)(h:x∉l):(ins l k x).Nodup:=by
 unfold ins;have e:=M9 k l;rw[← e]at nd;obtain⟨a,b,c⟩:=MZ.mp nd;refine MZ.mpr ⟨a,MU.mpr ⟨fun z=>h (NM z),b⟩,fun y hy z hz=>?_⟩;rcases MG.mp hz with q | q
 ·intro w;exact h (by rw[← q,← w];exact NL hy)
 ·exact c y hy z q
theorem bC.put{m:Nat}{es:En}{ts:List (List Nat)}{one two k j:Nat}{l l':List Nat}(w:bC m es ts)(h1:one<m)(h2:two<m)(hn:one≠two)(e1:ts[one]?=some l)(e2:ts[two]?=some l') :
  bC m (es++[(one,two)]) ((ts.set one (ins l k es.length)).set two (ins l' j es.length)):=by
 have old:∀{p l},ts[p]?=some l->es.length∉l:=fun{p l} e z=>by
  obtain⟨x,hx,_⟩:=(w.mem p l e es.length).mp z;have:=(Mw.mp hx).1;omega
 have get:∀ p q,((ts.set one (ins l k es.length)).set two (ins l' j es.length))[p]?=some q->(p=two/\q=ins l' j es.length)∨(p=one/\p≠two/\q=ins l k es.length)∨(p≠one/\p≠two/\ts[p]?=some q):=fun p q e=>by
  have L:two<(ts.set one (ins l k es.length)).length:=by rw[Nt,w.len];exact h2
  have L1:one<ts.length:=by rw[w.len];exact h1
  rw[Nr]at e;by_cases z:two=p
  ·rw[if_pos z,if_pos L]at e;exact .inl ⟨z.symm,(MN e).symm⟩
  ·rw[if_neg z,Nr]at e;by_cases y:one=p
   ·rw[if_pos y,if_pos L1]at e;exact .inr (.inl ⟨y.symm,Ne.symm z,(MN e).symm⟩)
   ·rw[if_neg y]at e;exact .inr (.inr ⟨Ne.symm y,Ne.symm z,e⟩)
 have esg:∀ t x,(es++[(one,two)])[t]?=some x↔(es[t]?=some x)∨(t=es.length/\x=(one,two)):=fun t x=>by
  by_cases z:t<es.length
  ·rw[MF z];constructor
   ·exact .inl
   ·rintro(y | y)
    ·exact y
    ·omega
  ·rw[MB (by omega)]
   constructor
   ·intro y;have hl:=(Mw.mp y).1;rw[MJ]at hl;have ht:t=es.length:=by omega
    subst ht;rw[M7]at y
    cases y
    exact .inr ⟨rfl,rfl⟩
   ·rintro(y | ⟨y,rfl⟩)
    ·have:=(Mw.mp y).1;omega
    ·rw[y,M7];rfl
 refine⟨by rw[Nt,Nt];exact w.len,fun e he=>?_,fun p q e=>?_,fun p q e t=>?_⟩
 ·rcases MH.mp he with z | z
  ·exact w.ends e z
  ·have:e=(one,two):=by simpa using z
   subst this;exact⟨h1,h2,hn⟩
 ·rcases get p q e with⟨_,rfl⟩ | ⟨_,_,rfl⟩ | ⟨_,_,y⟩
  ·exact Hc (w.nd two l' e2) (old e2)
  ·exact Hc (w.nd one l e1) (old e1)
  ·exact w.nd p q y
 ·rcases get p q e with⟨rfl,rfl⟩ | ⟨rfl,np,rfl⟩ | ⟨n1,n2,y⟩
  ·rw[BP,w.mem p l' e2 t];constructor
   ·rintro(z | ⟨x,hx,hp⟩)
    ·exact⟨(one,p),(esg _ _).mpr (.inr ⟨z,rfl⟩),.inr rfl⟩
    ·exact⟨x,(esg _ _).mpr (.inl hx),hp⟩
   ·rintro⟨x,hx,hp⟩;rcases(esg _ _).mp hx with z | ⟨z,_⟩
    ·exact .inr ⟨x,z,hp⟩
    ·exact .inl z
  ·rw[BP,w.mem p l e1 t];constructor
   ·rintro(z | ⟨x,hx,hp⟩)
    ·exact⟨(p,two),(esg _ _).mpr (.inr ⟨z,rfl⟩),.inl rfl⟩
    ·exact⟨x,(esg _ _).mpr (.inl hx),hp⟩
   ·rintro⟨x,hx,hp⟩;rcases(esg _ _).mp hx with z | ⟨z,_⟩
    ·exact .inr ⟨x,z,hp⟩
    ·exact .inl z
  ·rw[w.mem p q y t];constructor
   ·rintro⟨x,hx,hp⟩;exact⟨x,(esg _ _).mpr (.inl hx),hp⟩
   ·rintro⟨x,hx,hp⟩;rcases(esg _ _).mp hx with z | ⟨z,rfl⟩
    ·exact⟨x,z,hp⟩
    ·rcases hp with hp | hp
     ·exact absurd hp.symm n1
     ·exact absurd hp.symm n2
def hd(es:En)(d:Nat):Nat:=match es[d/2]? with | some e=>if d%2=0 then e.2 else e.1 | none=>0
def tl(es:En)(d:Nat):Nat:=match es[d/2]? with | some e=>if d%2=0 then e.1 else e.2 | none=>0
def leave(es:En)(t p:Nat):Nat:=match es[t]? with | some e=>if e.1=p then 2*t else 2*t+1 | none=>0
def nxt(l:List Nat)(t:Nat):Nat:=(l[(l.idxOf t+1)%l.length]?).getD 0
def fol(es:En)(ts:List (List Nat))(d:Nat):Nat:=leave es (nxt ((ts[hd es d]?).getD []) (d/2)) (hd es d)
section
variable{m:Nat}{es:En}{ts:List (List Nat)}
theorem BQ{l:List Nat}{t:Nat}(h:t∈l):l[l.idxOf t]?=some t:=by
 have hl:=Pu.mpr h;rw[Mx hl,List.getElem_idxOf]
theorem iD{l:List Nat}{t:Nat}(h:t∈l):l[(l.idxOf t+1)%l.length]?=some (nxt l t):=by
 have hl:0<l.length:=O5 h;have:=Nat.mod_lt (l.idxOf t+1) hl;unfold nxt;rw[Mx this];rfl
theorem bC.at(w:bC m es ts){d:Nat}(h:d<2*es.length):∃ e l,es[d/2]?=some e/\hd es d=(if d%2=0 then e.2 else e.1)/\tl es d=(if d%2=0 then e.1 else e.2)/\hd es d<m/\ts[hd es d]?=some l/\d/2∈l:=by
 have hl:d/2<es.length:=by omega
 have e1:es[d/2]?=some es[d/2]:=Mx hl;have q:=w.ends _ (My e1);generalize es[d/2]=e at e1 q;have h1:hd es d=(if d%2=0 then e.2 else e.1):=by unfold hd;rw[e1]
 have h2:tl es d=(if d%2=0 then e.1 else e.2):=by unfold tl;rw[e1]
 have h3:hd es d<m:=by rw[h1];split<;>omega
 have h4:ts[hd es d]?=some (ts[hd es d]'(by rw[w.len];exact h3)):=Mx _
 refine⟨e,_,e1,h1,h2,h3,h4,(w.mem _ _ h4 _).mpr ⟨e,e1,?_⟩⟩;rw[h1];split
 ·exact .inr rfl
 ·exact .inl rfl
theorem bC.foll(w:bC m es ts){d:Nat}(h:d<2*es.length):∃ l e,ts[hd es d]?=some l/\d/2∈l/\es[nxt l (d/2)]?=some e/\(e.1=hd es d∨e.2=hd es d)/\e.1≠e.2/\fol es ts d=(if e.1=hd es d then 2*nxt l (d/2) else 2*nxt l (d/2)+1)/\fol es ts d<2*es.length/\fol es ts d/2=nxt l (d/2)/\tl es (fol es ts d)=hd es d:=by
 obtain⟨e0,l,h1,h2,h3,h4,h5,h6⟩:=w.at h;have hn:=iD h6;obtain⟨e,he,hp⟩:=(w.mem _ _ h5 _).mp (My hn);have hlt:=(Mw.mp he).1;have hne:=(w.ends e (My he)).2.2;have hf:fol es ts d=(if e.1=hd es d then 2*nxt l (d/2) else 2*nxt l (d/2)+1):=by
  unfold fol;rw[h5];show leave es (nxt l (d/2)) (hd es d)=_;unfold leave;rw[he]
 refine⟨l,e,h5,h6,he,hp,hne,hf,?_,?_,?_⟩
 ·rw[hf];split<;>omega
 ·rw[hf];split<;>omega
 ·rw[hf];by_cases z:e.1=hd es d
  ·have a1:2*nxt l (d/2)/2=nxt l (d/2):=by omega
   have a2:2*nxt l (d/2)%2=0:=by omega
   rw[if_pos z];unfold tl;rw[a1,he];show(if 2*nxt l (d/2)%2=0 then e.1 else e.2)=_;rw[if_pos a2,z]
  ·have a1:(2*nxt l (d/2)+1)/2=nxt l (d/2):=by omega
   have a2:¬ (2*nxt l (d/2)+1)%2=0:=by omega
   rw[if_neg z];unfold tl;rw[a1,he];show(if(2*nxt l (d/2)+1)%2=0 then e.1 else e.2)=_;rw[if_neg a2];exact hp.elim (fun y=>absurd y z) id
theorem bC.inj(w:bC m es ts){a b:Nat}(ha:a<2*es.length)(hb:b<2*es.length)(h:fol es ts a=fol es ts b):a=b:=by
 obtain⟨l,e,p1,p2,_,_,_,_,_,p3,p4⟩:=w.foll ha;obtain⟨l',e',q1,q2,_,_,_,_,_,q3,q4⟩:=w.foll hb;have hh:hd es a=hd es b:=by rw[← p4,← q4,h]
 rw[hh,q1]at p1
 cases p1
 have hx:nxt l (a/2)=nxt l (b/2):=by rw[← p3,← q3,h]
 have g1:=iD p2;have g2:=iD q2;rw[hx]at g1;have ii:=Di (w.nd _ _ q1) g1 g2;have i1:=Pu.mpr p2;have i2:=Pu.mpr q2;have ix:l.idxOf (a/2)=l.idxOf (b/2):=by
  generalize l.idxOf (a/2)=x at *;generalize l.idxOf (b/2)=y at *;by_cases z1:x+1=l.length
  ·by_cases z2:y+1=l.length
   ·omega
   ·rw[z1,PQ,Oi (by omega)]at ii;omega
  ·by_cases z2:y+1=l.length
   ·rw[z2,PQ,Oi (by omega)]at ii;omega
   ·rw[Oi (by omega),Oi (by omega)]at ii;omega
 have ht:a/2=b/2:=by
  have g3:=BQ p2;have g4:=BQ q2;rw[ix,g4]at g3;exact(MN g3).symm
 obtain⟨e1,_,r1,r2,_,_,_,_⟩:=w.at ha;obtain⟨e2,_,s1,s2,_,_,_,_⟩:=w.at hb;rw[ht,s1]at r1;have ee:e2=e1:=MN r1;rw[ee]at s1 s2;have hne:=(w.ends e1 (My s1)).2.2;rw[r2,s2]at hh;have:a%2=b%2:=by
  by_cases z1:a%2=0<;>by_cases z2:b%2=0
  ·omega
  ·rw[if_pos z1,if_neg z2]at hh;exact absurd hh.symm hne
  ·rw[if_neg z1,if_pos z2]at hh;exact absurd hh hne
  ·omega
 omega
end
structure Ir(f:Nat->Nat)(N:Nat):Prop where
 lt:∀ d,d<N->f d<N
 inj:∀ a b,a<N->b<N->f a=f b->a=b
structure Path(f:Nat->Nat)(N first:Nat)(r:List Nat):Prop where
 hd:r[0]?=some first
 lt:∀ d∈r,d<N
 nd:r.Nodup
 nx:∀ i x y,r[i]?=some x->r[i+1]?=some y->y=f x
theorem C6{f:Nat->Nat}{N d:Nat}(h:d<N):Path f N d [d] where
 hd:=rfl
 lt:=fun x hx=>by have:x=d:=by simpa using hx
                  rw[this];exact h
 nd:=by simp
 nx:=fun i x y h1 h2=>by
  have:=(Mw.mp h2).1;rw[MJ]at this;omega
theorem Path.snoc{f:Nat->Nat}{N d x:Nat}{r:List Nat}(p:Ir f N)(h:Path f N d (r++[x]))(hn:f x≠d):Path f N d (r++[x]++[f x]) where
 hd:=by rw[MF (by rw[MA,MJ];omega)];exact h.hd
 lt:=fun y hy=>by
  rcases MH.mp hy with z | z
  ·exact h.lt y z
  ·have:y=f x:=by simpa using z
   rw[this];exact p.lt x (h.lt x (by simp))
 nd:=by
  refine MZ.mpr ⟨h.nd,by simp,fun a ha b hb e=>?_⟩
  have eb:b=f x:=by simpa using hb
  subst eb;obtain⟨i,hi⟩:=NF.mp ha;rw[e]at hi;have hil:=(Mw.mp hi).1;rw[MA,MJ]at hil
  cases i with
  |zero =>
   rw[h.hd]at hi;exact hn (MN hi).symm
  |succ i =>
   have gi:(r++[x])[i]?=some ((r++[x])[i]'(by rw[MA,MJ];omega)):=Mx _
   have:=h.nx i _ _ gi hi;have mi:=h.lt _ (My gi);have mx:=h.lt x (by simp)
   have e2:=p.inj _ _ mx mi this;rw[← e2]at gi;have gx:(r++[x])[r.length]?=some x:=by rw[MB (MC _),M7];rfl
   have:=Di h.nd gi gx;omega
 nx:=fun i a b h1 h2=>by
  have h2l:=(Mw.mp h2).1;rw[MA,MA,MJ,MJ]at h2l;rw[MF (by rw[MA,MJ];omega)]at h1
  by_cases z:i+1<(r++[x]).length
  ·rw[MF z]at h2;exact h.nx i a b h1 h2
  ·rw[MA,MJ]at z;have ei:i=r.length:=by omega
   subst ei;rw[MB (by rw[MA,MJ];omega)]at h2
   have:r.length+1-(r++[x]).length=0:=by rw[MA,MJ];omega
   rw[this]at h2;rw[MB (MC _),M7]at h1;have e1:x=a:=MN h1;have e2:f x=b:=MN h2;rw[← e2,e1]
structure Ring(f:Nat->Nat)(N:Nat)(r:List Nat):Prop where
 lt:∀ d∈r,d<N
 nd:r.Nodup
 ne:0<r.length
 nx:∀ i x,r[i]?=some x->r[(i+1)%r.length]?=some (f x)
theorem Path.ring{f:Nat->Nat}{N d x:Nat}{r:List Nat}(p:Ir f N)(h:Path f N d (r++[x]))(he:f x=d):Ring f N (r++[x]) where
 lt:=h.lt
 nd:=h.nd
 ne:=by rw[MA,MJ];omega
 nx:=fun i y hy=>by
  have hl:=(Mw.mp hy).1;by_cases z:i+1=(r++[x]).length
  ·rw[z,PQ];have:i=r.length:=by rw[MA,MJ]at z;omega
   subst this;rw[MB (MC _),M7]at hy;have:x=y:=MN hy;subst this;rw[he];exact h.hd
  ·have l2:i+1<(r++[x]).length:=by omega
   rw[Oi l2];have g:=Mx l2;rw[g,h.nx i _ _ hy g]
theorem Ring.back{f:Nat->Nat}{N a:Nat}{r:List Nat}(p:Ir f N)(h:Ring f N r)(ha:a<N)(hf:f a∈r):a∈r:=by
 obtain⟨i,hi⟩:=NF.mp hf;have hl:=(Mw.mp hi).1;have key:∃ j,j<r.length/\(j+1)%r.length=i:=by
  cases i with
  |zero=>exact⟨r.length-1,by have:=h.ne;omega,by have:=h.ne;rw[show r.length-1+1=r.length by omega,PQ]⟩
  |succ i=>exact⟨i,by omega,Oi hl⟩
 obtain⟨j,hj,ej⟩:=key;have g:=Mx hj;have q:=h.nx j _ g;rw[ej,hi]at q;have mj:=h.lt _ (My g);have:=p.inj _ _ ha mj (MN q);rw[this];exact My g
structure fi(f:Nat->Nat)(N i:Nat)(rs:List (List Nat)):Prop where
 ring:∀ r∈rs,Ring f N r
 hdl:∀ r∈rs,∀ h,r[0]?=some h->h<i/\∀ d∈r,h<=d
 asc:∀(a b:Nat)(r r':List Nat)(h h':Nat),a<b->rs[a]?=some r->rs[b]?=some r'->r[0]?=some h->r'[0]?=some h'->h<h'
 nd:rs.flatten.Nodup
 all:∀ d,d<i->d∈rs.flatten
theorem DV(f:Nat->Nat)(N:Nat):fi f N 0 [] where
 ring:=fun r h=>by cases h
 hdl:=fun r h=>by cases h
 asc:=fun a b r r' h h' _ e=>by cases e
 nd:=by simp
 all:=fun d h=>by omega
theorem fi.skip{f:Nat->Nat}{N i:Nat}{rs:List (List Nat)}(w:fi f N i rs)(h:i∈rs.flatten):fi f N (i+1) rs where
 ring:=w.ring
 hdl:=fun r hr x hx=>⟨by have:=(w.hdl r hr x hx).1;omega,(w.hdl r hr x hx).2⟩
 asc:=w.asc
 nd:=w.nd
 all:=fun d hd=>by
  by_cases z:d=i
  ·rw[z];exact h
  ·exact w.all d (by omega)
theorem fi.put{f:Nat->Nat}{N i:Nat}{rs:List (List Nat)}{r:List Nat}(p:Ir f N)(w:fi f N i rs)(h:i∉rs.flatten)(hi:i<N)(hr:Ring f N r)(pa:Path f N i r):fi f N (i+1) (rs++[r]):=by
 have apart:∀(k x:Nat),r[k]?=some x->x∉rs.flatten:=fun k=>by
  induction k with
  |zero =>
   intro x hx;rw[pa.hd]at hx
   cases hx
   exact h
  |succ k ih =>
   intro x hx z;have hl:=(Mw.mp hx).1;have g:=Mx (show k<r.length by omega)
   have e:=pa.nx k _ _ g hx;obtain⟨q,hq,zq⟩:=NI.mp z;rw[e]at zq;exact ih _ g (NI.mpr ⟨q,hq,(w.ring q hq).back p (hr.lt _ (My g)) zq⟩)
 have least:∀ d∈r,i<=d:=fun d hd=>by
  obtain⟨k,hk⟩:=NF.mp hd;by_cases z:i<=d
  ·exact z
  ·exact absurd (w.all d (by omega)) (apart k d hk)
 refine⟨fun q hq=>?_,fun q hq x hx=>?_,fun a b q q' x x' hab ha hb hx hx'=>?_,?_,fun d hd=>?_⟩
 ·rcases MH.mp hq with z | z
  ·exact w.ring q z
  ·have:q=r:=by simpa using z
   rw[this];exact hr
 ·rcases MH.mp hq with z | z
  ·have:=w.hdl q z x hx
   exact⟨by omega,this.2⟩
  ·have e:q=r:=by simpa using z
   subst e;rw[pa.hd]at hx
   cases hx
   exact⟨by omega,least⟩
 ·have bl:=(Mw.mp hb).1
  rw[MA,MJ]at bl;rw[MF (by omega)]at ha
  by_cases z:b<rs.length
  ·rw[MF z]at hb;exact w.asc a b q q' x x' hab ha hb hx hx'
  ·have eb:b=rs.length:=by omega
   subst eb;rw[MB (MC _),M7]at hb;have e:r=q':=MN hb;subst e;rw[pa.hd]at hx'
   cases hx'
   exact(w.hdl q (My ha) x hx).1
 ·rw[NW];have e : [r].flatten=r:=by simp
  rw[e];refine MZ.mpr ⟨w.nd,hr.nd,fun a ha b hb e=>?_⟩;obtain⟨k,hk⟩:=NF.mp hb;exact apart k b hk (e▸ha)
 ·rw[NW,MH];by_cases z:d=i
  ·right;rw[z];simp;exact My pa.hd
  ·exact .inl (w.all d (by omega))
theorem Mb{rs:List (List Nat)}(nd:rs.flatten.Nodup){a b:Nat}{r r':List Nat}{d:Nat}(ha:rs[a]?=some r)(hb:rs[b]?=some r')(h1:d∈r)(h2:d∈r'):a=b:=by
 induction rs generalizing a b with
 |nil=>cases ha
 |cons q rs ih =>
  rw[Nx]at nd;obtain⟨_,n2,n3⟩:=MZ.mp nd
  cases a with
  |zero =>
   cases b with
   |zero=>rfl
   |succ b =>
    have e:q=r:=MN ha;subst e;exact absurd rfl (n3 d h1 d (NI.mpr ⟨r',My hb,h2⟩))
  |succ a =>
   cases b with
   |zero =>
    have e:q=r':=MN hb;subst e;exact absurd rfl (n3 d h2 d (NI.mpr ⟨r,My ha,h1⟩))
   |succ b=>exact congrArg Nat.succ (ih n2 ha hb)
end K8
namespace K8
def jW(f:Nat->Nat):Nat->List Nat->Nat->Prop
 |x,[],z=>f x=z
 |x,y::l,z=>f x=y/\jW f y l z
theorem hX{f:Nat->Nat}:∀{x:Nat}{l:List Nat}{y:Nat}{k:List Nat}{z:Nat},jW f x (l++y::k) z↔jW f x l y/\jW f y k z
 |x,[],y,k,z=>Iff.rfl
 |x,a::l,y,k,z=>by
  show(f x=a/\jW f a (l++y::k) z)↔(f x=a/\jW f a l y)/\jW f y k z;rw[hX,and_assoc]
theorem lO{f g:Nat->Nat}:∀{x y:Nat}{l:List Nat}{z:Nat},jW f x l z->g y=f x->(∀ t∈l,g t=f t)->jW g y l z
 |x,y,[],z,h,e,_=>e.trans h
 |x,y,a::l,z,h,e,k=>⟨e.trans h.1,lO h.2 (k a (MV ..)) fun t ht=>k t (MO _ ht)⟩
theorem zd{f g F:Nat->Nat}:∀{x:Nat}{l:List Nat}{z:Nat},jW f x l z->(∀ t∈x::l,g (F t)=F (f t))->jW g (F x) (l.map F) (F z)
 |x,[],z,h,k=>by
  show g (F x)=F z;rw[k x (MV ..),show f x=z from h]
 |x,a::l,z,h,k=>⟨by rw[k x (MV ..),h.1],zd h.2 fun t ht=>k t (MO _ ht)⟩
theorem qP{f:Nat->Nat}{S:Nat->Prop}:∀{x:Nat}{l:List Nat}{z:Nat},jW f x l z->(∀ t∈x::l,S t->S (f t))->S x->S z/\∀ t∈l,S t
 |x,[],z,h,k,s=>⟨by have:=k x (MV ..) s;rwa[show f x=z from h]at this,fun t ht=>nomatch ht⟩
 |x,a::l,z,h,k,s=>by
  have s1:S a:=by have:=k x (MV ..) s;rwa[h.1]at this
  obtain⟨h1,h2⟩:=qP h.2 (fun t ht=>k t (MO _ ht)) s1;refine⟨h1,fun t ht=>?_⟩;rcases MG.mp ht with y | y
  ·rw[y];exact s1
  ·exact h2 t y
structure CR(f:Nat->Nat)(N:Nat)(r:List Nat):Prop where
 ch:∃ x l,r=x::l/\jW f x l x
 lt:∀ d∈r,d<N
 nd:r.Nodup
theorem CR.closed{f:Nat->Nat}{N:Nat}{r:List Nat}(h:CR f N r):∀ d∈r,f d∈r:=by
 obtain⟨x,l,rfl,c⟩:=h.ch;intro d hd;rcases MG.mp hd with y | y
 ·subst y
  cases l with
  |nil=>rw[show f d=d from c];exact MV ..
  |cons a l=>rw[c.1];simp
 ·obtain⟨A,B,rfl⟩:=O1 y;have c2:=(hX.mp c).2
  cases B with
  |nil=>rw[show f d=x from c2];exact MV ..
  |cons a B=>rw[c2.1];simp
theorem CR.sub{f:Nat->Nat}{N:Nat}{r:List Nat}{S:Nat->Prop}(h:CR f N r)(k:∀ t∈r,S t->S (f t)){d:Nat}(hd:d∈r)(s:S d):∀ t∈r,S t:=by
 obtain⟨x,l,rfl,c⟩:=h.ch;have fromx:S x->∀ t∈x::l,S t:=fun sx t ht=>by
  rcases MG.mp ht with y | y
  ·rw[y];exact sx
  ·exact(qP c k sx).2 t y
 rcases MG.mp hd with y | y
 ·exact fromx (y▸s)
 ·obtain⟨A,B,rfl⟩:=O1 y;have c2:=(hX.mp c).2;exact fromx (qP c2 (fun t ht=>k t (by simp only[MG,MH]at ht ⊢;rcases ht with z | z<;>simp[z])) s).1
theorem CR.same{f:Nat->Nat}{N:Nat}{r r':List Nat}(h:CR f N r)(h':CR f N r'){d:Nat}(h1:d∈r)(h2:d∈r'):∀ t∈r,t∈r':=h.sub (S:=fun t=>t∈r') (fun t _=>h'.closed t) h1 h2
theorem CR.ne{f:Nat->Nat}{N:Nat}{r:List Nat}(h:CR f N r):∃ d,d∈r:=by
 obtain⟨x,l,rfl,_⟩:=h.ch;exact⟨x,MV ..⟩
structure Part(f:Nat->Nat)(N:Nat)(rs:List (List Nat)):Prop where
 cr:∀ r∈rs,CR f N r
 nd:rs.flatten.Nodup
 all:∀ d,d<N->d∈rs.flatten
theorem Part.pick{f:Nat->Nat}{N:Nat}{rs:List (List Nat)}(p:Part f N rs){r:List Nat}(h:CR f N r):∃ rest,Part f N (r::rest)/\rest.length+1=rs.length:=by
 obtain⟨d,hd⟩:=h.ne;obtain⟨r0,m1,m2⟩:=NI.mp (p.all d (h.lt d hd));have c0:=p.cr r0 m1;have s1:=h.same c0 hd m2;have s2:=c0.same h m2 hd;obtain⟨A,B,rfl⟩:=O1 m1;have nd:=p.nd;rw[NW,Nx]at nd;obtain⟨n1,n2,n3⟩:=MZ.mp nd;obtain⟨n4,n5,n6⟩:=MZ.mp n2;refine⟨A++B,⟨fun q hq=>?_,?_,fun y hy=>?_⟩,by simp;omega⟩
 ·rcases MG.mp hq with z | z
  ·rw[z];exact h
  ·refine p.cr q ?_;rcases MH.mp z with z | z
   ·simp[z]
   ·simp[z]
 ·rw[Nx,NW];refine MZ.mpr ⟨h.nd,MZ.mpr ⟨n1,n5,fun a ha b hb=>n3 a ha b (by simp[hb])⟩,fun a ha b hb=>?_⟩
  rcases MH.mp hb with z | z
  ·exact fun e=>n3 b z a (Ng _ (s1 a ha)) e.symm
  ·exact n6 a (s1 a ha) b z
 ·have:=p.all y hy
  rw[NW,Nx]at this;rw[Nx,NW];simp only[MH]at this ⊢;rcases this with z | z | z
  ·exact .inr (.inl z)
  ·exact .inl (s2 y z)
  ·exact .inr (.inr z)
theorem Part.same:∀{rs qs:List (List Nat)}{f:Nat->Nat}{N:Nat},Part f N rs->Part f N qs->rs.length=qs.length:=by
 have le:∀(k:Nat){rs qs:List (List Nat)}{f:Nat->Nat}{N:Nat},Part f N rs->Part f N qs->rs.length<=qs.length:=by
  intro _ rs qs f N p q;have g:∀ r∈rs,∃ i,i<qs.length/\∃ r',qs[i]?=some r'/\∀ t∈r',t∈r:=fun r hr=>by
   have c:=p.cr r hr;obtain⟨d,hd⟩:=c.ne;obtain⟨r',m1,m2⟩:=NI.mp (q.all d (c.lt d hd));obtain⟨i,hi⟩:=NF.mp m1;exact⟨i,(Mw.mp hi).1,r',hi,(q.cr r' m1).same c m2 hd⟩
  have:∀(l:List (List Nat)),(∀ r∈l,r∈rs)->l.flatten.Nodup->∃ is:List Nat,is.length=l.length/\is.Nodup/\∀ i∈is,i<qs.length/\∃ r∈l,∃ r',qs[i]?=some r'/\∀ t∈r',t∈r:=fun l=>by
   induction l with
   |nil=>intro _ _;exact⟨[],rfl,OO,fun i hi=>nomatch hi⟩
   |cons r l ih =>
    intro h nd;rw[Nx]at nd;obtain⟨n1,n2,n3⟩:=MZ.mp nd;obtain⟨is,e1,e2,e3⟩:=ih (fun r hr=>h r (MO _ hr)) n2;obtain⟨i,h1,r',h2,h3⟩:=g r (h r (MV ..));refine⟨i::is,by simp[e1],MU.mpr ⟨fun z=>?_,e2⟩,fun j hj=>?_⟩
    ·obtain⟨_,r2,m2,r3,m3,m4⟩:=e3 i z;rw[h2]at m3
     cases m3
     obtain⟨d,hd⟩:=(q.cr r' (My h2)).ne;exact n3 d (h3 d hd) d (NI.mpr ⟨r2,m2,m4 d hd⟩) rfl
    ·rcases MG.mp hj with z | z
     ·subst z;exact⟨h1,r,MV ..,r',h2,h3⟩
     ·obtain⟨k1,r2,k2,k3⟩:=e3 j z;exact⟨k1,r2,MO _ k2,k3⟩
  obtain⟨is,e1,e2,e3⟩:=this rs (fun _ h=>h) p.nd;rw[← e1];exact eO e2 fun i hi=>(e3 i hi).1
 intro rs qs f N p q;exact Nat.le_antisymm (le 0 p q) (le 0 q p)
theorem Ring.cr{f:Nat->Nat}{N:Nat}{r:List Nat}(h:Ring f N r):CR f N r:=by
 refine⟨?_,h.lt,h.nd⟩;have ne:=h.ne;match r,h,ne with
 |x::l,h,_ =>
  refine⟨x,l,rfl,?_⟩;have key:∀(k i:Nat)(y:Nat),i+k+1=(x::l).length->(x::l)[i]?=some y->jW f y ((x::l).drop (i+1)) x:=fun k=>by
   induction k with
   |zero =>
    intro i y hi hy;have e:=h.nx i y hy;rw[show(i+1)%(x::l).length=0 by rw[← hi];simp]at e
    rw[List.drop_of_length_le (by omega)]
    exact(MN e).symm
   |succ k ih =>
    intro i y hi hy;have e:=h.nx i y hy;rw[Oi (by omega)]at e
    obtain⟨hl,e2⟩:=Mw.mp e;rw[Om hl,e2];exact⟨rfl,ih (i+1) (f y) (by omega) e⟩
  exact key l.length 0 x (by simp) rfl
theorem fi.part{f:Nat->Nat}{N:Nat}{rs:List (List Nat)}(w:fi f N N rs):Part f N rs:=⟨fun r hr=>(w.ring r hr).cr,w.nd,w.all⟩
end K8
namespace K8
theorem yI{A B:List Nat}{t:Nat}(h:t∉A):(A++t::B).idxOf t=A.length:=by
 rw[List.idxOf_append,if_neg h,List.idxOf_cons_self,Nat.zero_add]
theorem a9{A B:List Nat}{t:Nat}(h:t∉A):nxt (A++t::B) t=((B++(A++t::B)).head?).getD 0:=by
 unfold nxt;rw[yI h]
 cases B with
 |nil =>
  have e:(A.length+1)%(A++[t]).length=0:=by rw[MA,MJ,PQ]
  rw[e,PX,List.head?_eq_getElem?]
 |cons b B =>
  have e:(A.length+1)%(A++t::b::B).length=A.length+1:=Oi (by simp)
  rw[e,MB (by omega)]
  rw[show A.length+1-A.length=1 by omega]
  rfl
theorem G9{A B:List Nat}{u n:Nat}(h:u∉A):ins (A++u::B) ((A++u::B).idxOf u+1) n=A++u::n::B:=by
 rw[yI h];unfold ins;have e1:(A++u::B).take (A.length+1)=A++[u]:=by
  rw[List.take_append,Nl (by omega),show A.length+1-A.length=1 by omega]
  rfl
 have e2:(A++u::B).drop (A.length+1)=B:=by simp
 rw[e1,e2];simp
theorem gy{l:List Nat}{u:Nat}(h:u∈l):∃ A B,l=A++u::B/\u∉A:=by
 induction l with
 |nil=>exact nomatch h
 |cons a l ih =>
  by_cases z:a=u
  ·subst z;exact⟨[],l,rfl,NC⟩
  ·rcases MG.mp h with y | y
   ·exact absurd y.symm z
   ·obtain⟨A,B,rfl,k⟩:=ih y;exact⟨a::A,B,rfl,fun w=>by rcases MG.mp w with w | w;exact z w.symm;exact k w⟩
theorem LI{l:List Nat}{u n:Nat}(hu:u∈l)(hn:n∉l) :
  nxt (ins l (l.idxOf u+1) n) u=n/\nxt (ins l (l.idxOf u+1) n) n=nxt l u/\∀ t∈l,t≠u->nxt (ins l (l.idxOf u+1) n) t=nxt l t:=by
 obtain⟨A,B,rfl,k⟩:=gy hu;rw[G9 k];have hnA:n∉A:=fun z=>hn (by simp[z])
 have hnu:n≠u:=fun z=>hn (by simp[z])
 refine⟨?_,?_,fun t ht htu=>?_⟩
 ·rw[a9 k];rfl
 ·have e:A++u::n::B=(A++[u])++n::B:=by simp
  rw[e,a9 (fun z=>by rcases MH.mp z with z | z;exact hnA z;exact hnu (by simpa using z)),a9 k]
  cases B<;>cases A<;>rfl
 ·rcases MH.mp ht with z | z
  ·obtain⟨A1,A2,rfl,k2⟩:=gy z;have e1:(A1++t::A2)++u::n::B=A1++t::(A2++u::n::B):=by simp
   have e2:(A1++t::A2)++u::B=A1++t::(A2++u::B):=by simp
   rw[e1,e2,a9 k2,a9 k2]
   cases A2<;>rfl
  ·have z':t∈B:=by
    rcases MG.mp z with z | z
    ·exact absurd z htu
    ·exact z
   by_cases tA:t∈A
   ·obtain⟨A1,A2,rfl,k2⟩:=gy tA;have e1:(A1++t::A2)++u::n::B=A1++t::(A2++u::n::B):=by simp
    have e2:(A1++t::A2)++u::B=A1++t::(A2++u::B):=by simp
    rw[e1,e2,a9 k2,a9 k2]
    cases A2<;>rfl
   ·obtain⟨B1,B2,rfl,k2⟩:=gy z';have tn:t≠n:=fun y=>hn (by rw[← y];simp)
    have e1:A++u::n::(B1++t::B2)=(A++u::n::B1)++t::B2:=by simp
    have e2:A++u::(B1++t::B2)=(A++u::B1)++t::B2:=by simp
    rw[e1,e2,a9 (by simp[tA,htu,tn,k2]),a9 (by simp[tA,htu,k2])]
    cases B2<;>cases A<;>rfl
theorem qw{es:En}{e:Nat×Nat}{t p:Nat}(h:t<es.length):leave (es++[e]) t p=leave es t p:=by
 unfold leave;rw[MF h]
theorem yq{es:En}{e:Nat×Nat}{p:Nat}:leave (es++[e]) es.length p=if e.1=p then 2*es.length else 2*es.length+1:=by
 unfold leave;rw[MB (MC _),M7];rfl
theorem tj{es:En}{e:Nat×Nat}{d:Nat}(h:d<2*es.length):hd (es++[e]) d=hd es d:=by
 unfold hd;rw[MF (by omega)]
theorem hd_new{es:En}{e:Nat×Nat}:hd (es++[e]) (2*es.length)=e.2/\hd (es++[e]) (2*es.length+1)=e.1:=by
 have e1:2*es.length/2=es.length:=by omega
 have e2:(2*es.length+1)/2=es.length:=by omega
 constructor
 ·unfold hd;rw[e1,MB (MC _),M7];show(if 2*es.length%2=0 then e.2 else e.1)=_;rw[if_pos (by omega)]
 ·unfold hd;rw[e2,MB (MC _),M7];show(if(2*es.length+1)%2=0 then e.2 else e.1)=_;rw[if_neg (by omega)]
theorem hd_inj{m:Nat}{es:En}{ts:List (List Nat)}(w:bC m es ts){a b:Nat}(ha:a<2*es.length)(hb:b<2*es.length)(h:hd es a=hd es b)(h2:a/2=b/2):a=b:=by
 obtain⟨e1,_,r1,r2,_⟩:=w.at ha;obtain⟨e2,_,s1,s2,_⟩:=w.at hb;rw[h2,s1]at r1
 cases r1
 have hne:=(w.ends e1 (My s1)).2.2;rw[r2,s2]at h;by_cases z1:a%2=0<;>by_cases z2:b%2=0
 ·omega
 ·rw[if_pos z1,if_neg z2]at h;exact absurd h.symm hne
 ·rw[if_neg z1,if_pos z2]at h;exact absurd h hne
 ·omega
def jV(n:Nat)(e:Nat×Nat)(p:Nat):Nat:=if e.1=p then 2*n else 2*n+1
theorem f6{es:En}{ts:List (List Nat)}{d:Nat}{l:List Nat}(h:ts[hd es d]?=some l):fol es ts d=leave es (nxt l (d/2)) (hd es d):=by
 unfold fol;rw[h];rfl
end K8
namespace K8
theorem bC.flip{m:Nat}{es:En}{ts:List (List Nat)}{a b:Nat}(w:bC m (es++[(a,b)]) ts):bC m (es++[(b,a)]) ts:=by
 have key:∀(x y:Nat)(t p:Nat),(∃ e,(es++[(x,y)])[t]?=some e/\(e.1=p∨e.2=p))->∃ e,(es++[(y,x)])[t]?=some e/\(e.1=p∨e.2=p):=fun x y t p=>by
  rintro⟨e,h1,h2⟩;by_cases z:t<es.length
  ·rw[MF z]at h1;exact⟨e,by rw[MF z];exact h1,h2⟩
  ·have hl:=(Mw.mp h1).1
   rw[MA,MJ]at hl;have z':t=es.length:=by omega
   subst z';rw[MB (MC _),M7]at h1
   cases h1
   exact⟨(y,x),by rw[MB (MC _),M7];rfl,h2.symm⟩
 refine⟨w.len,fun e he=>?_,w.nd,fun p l h t=>⟨fun z=>key a b t p ((w.mem p l h t).mp z),fun z=>(w.mem p l h t).mpr (key b a t p z)⟩⟩;rcases MH.mp he with z | z
 ·exact w.ends e (Ng _ z)
 ·have:e=(b,a):=by simpa using z
  subst this;obtain⟨h1,h2,h3⟩:=w.ends (a,b) (by simp)
  exact⟨h2,h1,fun y=>h3 y.symm⟩
theorem bC.room{m:Nat}{es:En}{ts:List (List Nat)}(w:bC m es ts):bC (m+1) es (ts++[[]]):=by
 refine⟨by rw[MA,w.len];rfl,fun e he=>?_,fun p l h=>?_,fun p l h t=>?_⟩
 ·obtain⟨h1,h2,h3⟩:=w.ends e he;exact⟨by omega,by omega,h3⟩
 all_goals by_cases z:p<ts.length
 ·rw[MF z]at h;exact w.nd p l h
 ·have hl:=(Mw.mp h).1
  rw[MA,MJ]at hl;have z':p=ts.length:=by omega
  subst z';rw[MB (MC _),M7]at h
  cases h
  exact OO
 ·rw[MF z]at h;exact w.mem p l h t
 ·have hl:=(Mw.mp h).1
  rw[MA,MJ]at hl;have z':p=ts.length:=by omega
  subst z';rw[MB (MC _),M7]at h
  cases h
  refine⟨(fun y=>nomatch y),?_⟩;rintro⟨e,h1,h2⟩;obtain⟨k1,k2,_⟩:=w.ends e (My h1);have:=w.len;omega
theorem Mi{m:Nat}{es:En}{ts:List (List Nat)}(w:bC m es ts){p:Nat}{l:List Nat}(h:ts[p]?=some l):es.length∉l:=fun z=>by
 obtain⟨x,hx,_⟩:=(w.mem p l h es.length).mp z;have:=(Mw.mp hx).1;omega
theorem BW{m:Nat}{es:En}{ts ts':List (List Nat)}{e:Nat×Nat}{p u:Nat}{l:List Nat}(w:bC m es ts)(hl:ts[p]?=some l)(hu:u<2*es.length)(hp:hd es u=p)(hl':ts'[p]?=some (ins l (l.idxOf (u/2)+1) es.length)) :
  fol (es++[e]) ts' u=jV es.length e p/\(∀ b,b/2=es.length->hd (es++[e]) b=p->fol (es++[e]) ts' b=fol es ts u)/\∀ d,d<2*es.length->d≠u->hd es d=p->fol (es++[e]) ts' d=fol es ts d:=by
 obtain⟨_,l0,_,_,_,_,g5,g6⟩:=w.at hu;rw[hp,hl]at g5
 cases g5
 have nn:=Mi w hl;obtain⟨n1,n2,n3⟩:=LI g6 nn;have lt:∀ t∈l,nxt l t<es.length:=fun t ht=>by
  obtain⟨x,hx,_⟩:=(w.mem p l hl (nxt l t)).mp (My (iD ht));exact(Mw.mp hx).1
 refine⟨?_,fun b hb hpb=>?_,fun d hd' hne hpd=>?_⟩
 ·rw[f6 (l:=ins l (l.idxOf (u/2)+1) es.length) (by rw[tj hu,hp];exact hl'),n1,tj hu,hp,yq]
  rfl
 ·rw[f6 (l:=ins l (l.idxOf (u/2)+1) es.length) (by rw[hpb];exact hl'),hb,n2,hpb,qw (lt _ g6),f6 (l:=l) (by rw[hp];exact hl),hp]
 ·obtain⟨_,l0,_,_,_,_,k5,k6⟩:=w.at hd';rw[hpd,hl]at k5
  cases k5
  have tne:d/2≠u/2:=fun z=>hne (hd_inj w hd' hu (hpd.trans hp.symm) z);rw[f6 (l:=ins l (l.idxOf (u/2)+1) es.length) (by rw[tj hd',hpd];exact hl'),n3 _ k6 tne,tj hd',hpd,qw (lt _ k6),f6 (l:=l) (by rw[hpd];exact hl),hpd]
theorem DA{m:Nat}{es:En}{ts ts':List (List Nat)}{e:Nat×Nat}(w:bC m es ts){d:Nat}(hd':d<2*es.length)(h:ts'[hd es d]?=ts[hd es d]?):fol (es++[e]) ts' d=fol es ts d:=by
 obtain⟨_,l,_,_,_,_,k5,k6⟩:=w.at hd';have lt:nxt l (d/2)<es.length:=by
  obtain⟨x,hx,_⟩:=(w.mem _ l k5 (nxt l (d/2))).mp (My (iD k6));exact(Mw.mp hx).1
 rw[f6 (l:=l) (by rw[tj hd',h];exact k5),tj hd',qw lt,f6 k5]
theorem cD(n:Nat)(e:Nat×Nat)(p:Nat):jV n e p/2=n:=by
 unfold jV;split<;>omega
theorem DG{es:En}{one two:Nat}{e:Nat×Nat}(hne:one≠two)(he:e=(one,two)∨e=(two,one)):hd (es++[e]) (jV es.length e one)=two/\hd (es++[e]) (jV es.length e two)=one/\jV es.length e one≠jV es.length e two/\∀ d,d<2*(es.length+1)->d<2*es.length∨d=jV es.length e one∨d=jV es.length e two:=by
 obtain⟨h1,h2⟩:=hd_new (es:=es) (e:=e);unfold jV;rcases he with he | he
 ·have c1:e.1=one:=by rw[he]
  have c2:¬ e.1=two:=by rw[he];exact hne
  have c3:e.2=two:=by rw[he]
  rw[if_pos c1,if_neg c2,h1,h2];exact⟨c3,c1,by omega,fun d hd=>by omega⟩
 ·have c1:e.1=two:=by rw[he]
  have c2:¬ e.1=one:=by rw[he];exact fun z=>hne z.symm
  have c3:e.2=one:=by rw[he]
  rw[if_pos c1,if_neg c2,h1,h2];exact⟨c1,c3,by omega,fun d hd=>by omega⟩
structure Gr(m:Nat)(es:En)(ts:List (List Nat)):Prop where
 w:bC m es ts
 part:∃ rs,Part (fol es ts) (2*es.length) rs/\m+rs.length=es.length+2
 conn:∀ S:Nat->Prop,(∀ e∈es,S e.1↔S e.2)->∀ p q,p<m->q<m->S p->S q
theorem CR.mono{f g:Nat->Nat}{N M:Nat}{r:List Nat}(h:CR f N r)(hN:N<=M)(k:∀ t∈r,g t=f t):CR g M r:=by
 obtain⟨x,l,rfl,c⟩:=h.ch;exact⟨⟨x,l,rfl,lO c (k x (MV ..)) fun t ht=>k t (MO _ ht)⟩,fun d hd=>Nk (h.lt d hd) hN,h.nd⟩
theorem JP{m:Nat}{es:En}{e:Nat×Nat}(c:∀ S:Nat->Prop,(∀ e∈es,S e.1↔S e.2)->∀ p q,p<m->q<m->S p->S q):∀ S:Nat->Prop,(∀ x∈es++[e],S x.1↔S x.2)->∀ p q,p<m->q<m->S p->S q :=
 fun S h=>c S fun x hx=>h x (Ng _ hx)
theorem Gr.join{m:Nat}{es:En}{ts:List (List Nat)}(g:Gr m es ts){left right one two:Nat}{e:Nat×Nat}{l l' tail:List Nat}(hl:left<2*es.length)(hr:CR (fol es ts) (2*es.length) (left::tail))(hch:jW (fol es ts) left tail left)(hm:right∈left::tail)
  (h1:hd es left=one) (h2:hd es right=two) (hne:one≠two) (he:e=(one,two)∨e=(two,one)) (e1:ts[one]?=some l) (e2:ts[two]?=some l') :
  Gr m (es++[e]) ((ts.set one (ins l (l.idxOf (left/2)+1) es.length)).set two (ins l' (l'.idxOf (right/2)+1) es.length)):=by
 have w:=g.w;have hrt:right<2*es.length:=hr.lt right hm;have hlen:=w.len;have o1:one<m:=by rw[← hlen];exact(Mw.mp e1).1
 have o2:two<m:=by rw[← hlen];exact(Mw.mp e2).1
 have W:bC m (es++[e]) ((ts.set one (ins l (l.idxOf (left/2)+1) es.length)).set two (ins l' (l'.idxOf (right/2)+1) es.length)):=by
  rcases he with rfl | rfl
  ·exact w.put o1 o2 hne e1 e2
  ·exact(w.put o1 o2 hne e1 e2).flip
 have r1:((ts.set one (ins l (l.idxOf (left/2)+1) es.length)).set two (ins l' (l'.idxOf (right/2)+1) es.length))[one]?=some (ins l (l.idxOf (left/2)+1) es.length):=by
  rw[Nr,if_neg (fun z=>hne z.symm),Nr,if_pos rfl,if_pos (by rw[hlen];exact o1)]
 have r2:((ts.set one (ins l (l.idxOf (left/2)+1) es.length)).set two (ins l' (l'.idxOf (right/2)+1) es.length))[two]?=some (ins l' (l'.idxOf (right/2)+1) es.length):=by
  rw[Nr,if_pos rfl,if_pos (by rw[Nt,hlen];exact o2)]
 have r3:∀ p,p≠one->p≠two->((ts.set one (ins l (l.idxOf (left/2)+1) es.length)).set two (ins l' (l'.idxOf (right/2)+1) es.length))[p]?=ts[p]?:=fun p n1 n2=>by
  rw[Nr,if_neg (fun z=>n2 z.symm),Nr,if_neg (fun z=>n1 z.symm)]
 generalize (ts.set one (ins l (l.idxOf (left/2)+1) es.length)).set two (ins l' (l'.idxOf (right/2)+1) es.length)=ts' at W r1 r2 r3;obtain⟨a1,a2,a3⟩:=BW (e:=e) w e1 hl h1 r1;obtain⟨b1,b2,b3⟩:=BW (e:=e) w e2 hrt h2 r2;obtain⟨d1,d2,d3,d4⟩:=DG (es:=es) hne he;have fa:=b2 _ (cD _ _ _) d1;have fb:=a2 _ (cD _ _ _) d2;have els:∀ d,d<2*es.length->d≠left->d≠right->fol (es++[e]) ts' d=fol es ts d:=fun d hd' n1 n2=>by
  by_cases z1:hd es d=one
  ·exact a3 d hd' n1 z1
  ·by_cases z2:hd es d=two
   ·exact b3 d hd' n2 z2
   ·exact DA w hd' (r3 _ z1 z2)
 generalize ha:jV es.length e one=α at *;generalize hb:jV es.length e two=β at *;have hα:α/2=es.length:=by rw[← ha];exact cD _ _ _
 have hβ:β/2=es.length:=by rw[← hb];exact cD _ _ _
 have hlr:right≠left:=fun z=>hne (by rw[← h1,← h2,z])
 have hm':right∈tail:=by
  rcases MG.mp hm with z | z
  ·exact absurd z hlr
  ·exact z
 obtain⟨xs,ys,rfl⟩:=O1 hm';obtain⟨c1,c2⟩:=hX.mp hch;have nd:=hr.nd;have ltx:∀ t∈xs,t<2*es.length/\t≠left/\t≠right:=fun t ht=>by
  refine⟨hr.lt t (by simp[ht]),fun z=>?_,fun z=>?_⟩
  ·subst z;exact(MU.mp nd).1 (by simp[ht])
  ·subst z;have:=(MZ.mp (MU.mp nd).2).2.2 t ht t (by simp)
   exact this rfl
 have lty:∀ t∈ys,t<2*es.length/\t≠left/\t≠right:=fun t ht=>by
  refine⟨hr.lt t (by simp[ht]),fun z=>?_,fun z=>?_⟩
  ·subst z;exact(MU.mp nd).1 (by simp[ht])
  ·subst z;exact(MU.mp (MZ.mp (MU.mp nd).2).2.1).1 ht
 obtain⟨rs,p,cnt⟩:=g.part;obtain⟨rest,pr,cnt2⟩:=p.pick hr;have ndr:=pr.nd;rw[Nx]at ndr;obtain⟨_,nd2,nd3⟩:=MZ.mp ndr;have ltr:∀ t∈rest.flatten,t<2*es.length/\t≠left/\t≠right:=fun t ht=>by
  obtain⟨q,q1,q2⟩:=NI.mp ht;exact⟨(pr.cr q (MO _ q1)).lt t q2,fun z=>nd3 left (by simp) t ht z.symm,fun z=>nd3 right (by simp) t ht z.symm⟩
 have hlen2:(es++[e]).length=es.length+1:=by rw[MA];rfl
 refine⟨W,⟨(left::α::ys)::(right::β::xs)::rest,⟨fun q hq=>?_,?_,fun d hd'=>?_⟩,by rw[hlen2];simp only[Nb]at cnt2 ⊢;omega⟩,JP g.conn⟩
 ·rcases MG.mp hq with z | z
  ·subst z;refine⟨⟨left,α::ys,rfl,a1,lO c2 fa fun t ht=>els t (lty t ht).1 (lty t ht).2.1 (lty t ht).2.2⟩,fun d hd'=>?_,?_⟩
   ·rw[hlen2];simp only[MG]at hd';rcases hd' with y | y | y
    ·omega
    ·omega
    ·have:=(lty d y).1;omega
   ·refine MU.mpr ⟨fun y=>?_,MU.mpr ⟨fun y=>?_,?_⟩⟩
    ·rcases MG.mp y with y | y
     ·omega
     ·exact(lty _ y).2.1 rfl
    ·have:=(lty _ y).1;omega
    ·exact(MU.mp (MZ.mp (MU.mp nd).2).2.1).2
  ·rcases MG.mp z with z | z
   ·subst z;refine⟨⟨right,β::xs,rfl,b1,lO c1 fb fun t ht=>els t (ltx t ht).1 (ltx t ht).2.1 (ltx t ht).2.2⟩,fun d hd'=>?_,?_⟩
    ·rw[hlen2];simp only[MG]at hd';rcases hd' with y | y | y
     ·omega
     ·omega
     ·have:=(ltx d y).1;omega
    ·refine MU.mpr ⟨fun y=>?_,MU.mpr ⟨fun y=>?_,?_⟩⟩
     ·rcases MG.mp y with y | y
      ·omega
      ·exact(ltx _ y).2.2 rfl
     ·have:=(ltx _ y).1;omega
     ·exact(MZ.mp (MU.mp nd).2).1
   ·refine(pr.cr q (MO _ z)).mono (by rw[hlen2];omega) fun t ht=>?_
    obtain⟨k1,k2,k3⟩:=ltr t (NI.mpr ⟨q,z,ht⟩);exact els t k1 k2 k3
 ·have dis:∀ x∈xs,∀ y∈ys,x≠y:=fun x hx y hy=>(MZ.mp (MU.mp nd).2).2.2 x hx y (by simp[hy])
  rw[Nx,Nx];refine MZ.mpr ⟨?_,MZ.mpr ⟨?_,nd2,fun a ha b hb=>?_⟩,fun a ha b hb=>?_⟩
  ·refine MU.mpr ⟨fun y=>?_,MU.mpr ⟨fun y=>?_,(MU.mp (MZ.mp (MU.mp nd).2).2.1).2⟩⟩
   ·rcases MG.mp y with y | y
    ·omega
    ·exact(lty _ y).2.1 rfl
   ·have:=(lty _ y).1;omega
  ·refine MU.mpr ⟨fun y=>?_,MU.mpr ⟨fun y=>?_,(MZ.mp (MU.mp nd).2).1⟩⟩
   ·rcases MG.mp y with y | y
    ·omega
    ·exact(ltx _ y).2.2 rfl
   ·have:=(ltx _ y).1;omega
  ·obtain⟨k1,k2,k3⟩:=ltr b hb;simp only[MG]at ha;rcases ha with y | y | y
   ·exact fun z=>k3 (z▸y)
   ·omega
   ·exact nd3 a (by simp[y]) b hb
  ·simp only[MG,MH]at ha hb;rcases hb with(y | y | y) | y
   ·rcases ha with z | z | z
    ·exact fun u=>hlr (by rw[← y,← u,z])
    ·have:=hrt;omega
    ·exact fun u=>(lty a z).2.2 (u.trans y)
   ·rcases ha with z | z | z
    ·omega
    ·omega
    ·have:=(lty a z).1;omega
   ·rcases ha with z | z | z
    ·exact fun u=>(ltx b y).2.1 (u▸z)
    ·have:=(ltx b y).1;omega
    ·exact fun u=>dis b y a z u.symm
   ·obtain⟨k1,k2,k3⟩:=ltr b y;rcases ha with z | z | z
    ·exact fun u=>k2 (u▸z)
    ·omega
    ·exact nd3 a (by simp[z]) b y
 ·rw[hlen2]at hd';simp only[Nx,MH,MG];rcases d4 d hd' with y | y | y
  ·have:=pr.all d y
   simp only[Nx,MH,MG]at this;rcases this with(z | z | z | z) | z
   ·exact .inl (.inl z)
   ·exact .inr (.inl (.inr (.inr z)))
   ·exact .inr (.inl (.inl z))
   ·exact .inl (.inr (.inr z))
   ·exact .inr (.inr z)
  ·exact .inl (.inr (.inl y))
  ·exact .inr (.inl (.inr (.inl y)))
end K8
namespace K8
theorem Gr.leaf{m:Nat}{es:En}{ts:List (List Nat)}(g:Gr m es ts){left one:Nat}{e:Nat×Nat}{l tail:List Nat}(hl:left<2*es.length)(hr:CR (fol es ts) (2*es.length) (left::tail))(hch:jW (fol es ts) left tail left)
  (h1:hd es left=one) (he:e=(one,m)∨e=(m,one)) (e1:ts[one]?=some l) :
  Gr (m+1) (es++[e]) (ts.set one (ins l (l.idxOf (left/2)+1) es.length)++[[es.length]]):=by
 have w:=g.w;have hlen:=w.len;have o1:one<m:=by rw[← hlen];exact(Mw.mp e1).1
 have hne:one≠m:=by omega
 have W:bC (m+1) (es++[e]) (ts.set one (ins l (l.idxOf (left/2)+1) es.length)++[[es.length]]):=by
  have q:=w.room.put (one:=one) (two:=m) (k:=l.idxOf (left/2)+1) (j:=0) (l:=l) (l':=[]) (by omega) (by omega) hne (by rw[MF (by omega)];exact e1) (by rw[MB (by omega),hlen,M7];rfl)
  have q2:((ts++[[]]).set one (ins l (l.idxOf (left/2)+1) es.length)).set m (ins [] 0 es.length)=ts.set one (ins l (l.idxOf (left/2)+1) es.length)++[[es.length]]:=by
   rw[List.set_append_left _ _ (by omega),PU _ _ (by rw[Nt];omega),Nt,hlen,M7]
   rfl
  rw[q2]at q;rcases he with rfl | rfl
  ·exact q
  ·exact q.flip
 have r1:(ts.set one (ins l (l.idxOf (left/2)+1) es.length)++[[es.length]])[one]?=some (ins l (l.idxOf (left/2)+1) es.length):=by
  rw[MF (by rw[Nt];omega),Nr,if_pos rfl,if_pos (by omega)]
 have r2:(ts.set one (ins l (l.idxOf (left/2)+1) es.length)++[[es.length]])[m]?=some [es.length]:=by
  rw[MB (by rw[Nt];omega),Nt,hlen,M7]
  rfl
 have r3:∀ p,p≠one->p<m->(ts.set one (ins l (l.idxOf (left/2)+1) es.length)++[[es.length]])[p]?=ts[p]?:=fun p n1 n2=>by
  rw[MF (by rw[Nt];omega),Nr,if_neg (fun z=>n1 z.symm)]
 generalize ts.set one (ins l (l.idxOf (left/2)+1) es.length)++[[es.length]]=ts' at W r1 r2 r3;obtain⟨a1,a2,a3⟩:=BW (e:=e) w e1 hl h1 r1;obtain⟨d1,d2,d3,d4⟩:=DG (es:=es) hne he;have fb:=a2 _ (cD _ _ _) d2;have fa:fol (es++[e]) ts' (jV es.length e one)=jV es.length e m:=by
  rw[f6 (l:=[es.length]) (by rw[d1];exact r2),cD,d1]
  have:nxt [es.length] es.length=es.length:=by
   unfold nxt;rw[List.idxOf_cons_self];simp
  rw[this,yq];rfl
 have els:∀ d,d<2*es.length->d≠left->fol (es++[e]) ts' d=fol es ts d:=fun d hd' n1=>by
  by_cases z1:hd es d=one
  ·exact a3 d hd' n1 z1
  ·obtain⟨_,_,_,_,_,k4,_⟩:=w.at hd';exact DA w hd' (r3 _ z1 k4)
 generalize ha:jV es.length e one=α at *;generalize hb:jV es.length e m=β at *;have hα:α/2=es.length:=by rw[← ha];exact cD _ _ _
 have hβ:β/2=es.length:=by rw[← hb];exact cD _ _ _
 have nd:=hr.nd;have ltt:∀ t∈tail,t<2*es.length/\t≠left:=fun t ht=>⟨hr.lt t (by simp[ht]),fun z=>(MU.mp nd).1 (z▸ht)⟩
 obtain⟨rs,p,cnt⟩:=g.part;obtain⟨rest,pr,cnt2⟩:=p.pick hr;have ndr:=pr.nd;rw[Nx]at ndr;obtain⟨_,nd2,nd3⟩:=MZ.mp ndr;have ltr:∀ t∈rest.flatten,t<2*es.length/\t≠left:=fun t ht=>by
  obtain⟨q,q1,q2⟩:=NI.mp ht;exact⟨(pr.cr q (MO _ q1)).lt t q2,fun z=>nd3 left (by simp) t ht z.symm⟩
 have hlen2:(es++[e]).length=es.length+1:=by rw[MA];rfl
 have nd4:(left::α::β::tail).Nodup:=by
  refine MU.mpr ⟨fun y=>?_,MU.mpr ⟨fun y=>?_,MU.mpr ⟨fun y=>?_,(MU.mp nd).2⟩⟩⟩
  ·simp only[MG]at y;rcases y with y | y | y
   ·omega
   ·omega
   ·exact(ltt _ y).2 rfl
  ·simp only[MG]at y;rcases y with y | y
   ·exact d3 y
   ·have:=(ltt _ y).1;omega
  ·have:=(ltt _ y).1;omega
 refine⟨W,⟨(left::α::β::tail)::rest,⟨fun q hq=>?_,?_,fun d hd'=>?_⟩,by rw[hlen2];simp only[Nb]at cnt2 ⊢;omega⟩,fun S hS x y hx hy sx=>?_⟩
 ·rcases MG.mp hq with z | z
  ·subst z;refine⟨⟨left,α::β::tail,rfl,a1,fa,lO hch fb fun t ht=>els t (ltt t ht).1 (ltt t ht).2⟩,fun d hd'=>?_,nd4⟩;rw[hlen2];simp only[MG]at hd';rcases hd' with y | y | y | y
   ·omega
   ·omega
   ·omega
   ·have:=(ltt d y).1;omega
  ·refine(pr.cr q (MO _ z)).mono (by rw[hlen2];omega) fun t ht=>?_
   obtain⟨k1,k2⟩:=ltr t (NI.mpr ⟨q,z,ht⟩);exact els t k1 k2
 ·rw[Nx];refine MZ.mpr ⟨nd4,nd2,fun a ha b hb=>?_⟩;obtain⟨k1,k2⟩:=ltr b hb;simp only[MG]at ha;rcases ha with y | y | y | y
  ·exact fun u=>k2 (u▸y)
  ·omega
  ·omega
  ·exact nd3 a (by simp[y]) b hb
 ·rw[hlen2]at hd';simp only[Nx,MH,MG];rcases d4 d hd' with y | y | y
  ·have:=pr.all d y
   simp only[Nx,MH,MG]at this;rcases this with(z | z) | z
   ·exact .inl (.inl z)
   ·exact .inl (.inr (.inr (.inr z)))
   ·exact .inr z
  ·exact .inl (.inr (.inl y))
  ·exact .inl (.inr (.inr (.inl y)))
 ·-- in one piece
  have hSe:S one↔S m:=by
   have:=hS e (by simp)
   rcases he with rfl | rfl
   ·exact this
   ·exact this.symm
  have old:=g.conn S fun x hx=>hS x (Ng _ hx);have toOne:S one:=by
   by_cases z:x<m
   ·exact old x one z o1 sx
   ·have:x=m:=by omega
    subst this;exact hSe.mpr sx
  by_cases z:y<m
  ·exact old one y o1 z toOne
  ·have:y=m:=by omega
   subst this;exact hSe.mp toOne
theorem gr_two:Gr 2 [(0,1)] [[0],[0]]:=by
 have W:bC 2 [(0,1)] [[0],[0]]:=by
  refine⟨rfl,fun e he=>?_,fun p l h=>?_,fun p l h t=>?_⟩
  ·have:e=(0,1):=by simpa using he
   subst this;exact⟨by decide,by decide,by decide⟩
  ·match p,h with
   |0,h=>cases h;decide
   |1,h=>cases h;decide
   |p+2,h=>cases h
  ·have key:(∃ e,([(0,1)]:En)[t]?=some e/\(e.1=p∨e.2=p))↔t=0/\(p=0∨p=1):=by
    constructor
    ·rintro⟨e,h1,h2⟩;match t,h1 with
     |0,h1=>cases h1;exact⟨rfl,h2.imp Eq.symm Eq.symm⟩
     |t+1,h1=>cases h1
    ·rintro⟨rfl,h2⟩;exact⟨(0,1),rfl,h2.imp Eq.symm Eq.symm⟩
   rw[key];match p,h with
   |0,h=>cases h;simp
   |1,h=>cases h;simp
   |p+2,h=>cases h
 refine⟨W,⟨[[0,1]],⟨fun r hr=>?_,by decide,fun d hd=>?_⟩,rfl⟩,fun S hS p q hp hq sp=>?_⟩
 ·have:r = [0,1]:=by simpa using hr
  subst this;exact⟨⟨0,[1],rfl,by decide,(by show fol [(0,1)] [[0],[0]] 1=0;decide)⟩,fun d hd=>by simp at hd ⊢;omega,by decide⟩
 ·have hd2:d<2:=hd
  simp;omega
 ·have:=hS (0,1) (by simp)
  have h01:S 0↔S 1:=this;have hp':p=0∨p=1:=by omega
  have hq':q=0∨q=1:=by omega
  rcases hp' with rfl | rfl<;>rcases hq' with rfl | rfl
  ·exact sp
  ·exact h01.mp sp
  ·exact h01.mpr sp
  ·exact sp
end K8
namespace K8
structure Bij(F:Nat->Nat)(n:Nat):Prop where
 lt:∀ k,k<n->F k<n
 inj:∀ a b,a<n->b<n->F a=F b->a=b
 sur:∀ y,y<n->∃ k,k<n/\F k=y
def ofL(o:List Nat)(k:Nat):Nat:=(o[k]?).getD 0
theorem DI{o:List Nat}{n:Nat}(hl:o.length=n)(nd:o.Nodup)(h:∀ x∈o,x<n):Bij (ofL o) n:=by
 have get:∀ k,k<n->o[k]?=some (ofL o k):=fun k hk=>by
  unfold ofL;rw[Mx (by omega)]
  rfl
 refine⟨fun k hk=>h _ (My (get k hk)),fun a b ha hb e=>Di nd (get a ha) (by rw[get b hb,e]),fun y hy=>?_⟩
 have hm:y∈o:=by
  by_cases z:y∈o
  ·exact z
  ·have:=eO (a:=y::o) (N:=n) (MU.mpr ⟨z,nd⟩) fun x hx=>by
    rcases MG.mp hx with u | u
    ·omega
    ·exact h x u
   rw[Nb]at this;omega
 obtain⟨k,hk⟩:=NF.mp hm;have hkl:=(Mw.mp hk).1;refine⟨k,by omega,?_⟩
 have:=get k (by omega)
 rw[hk]at this;exact(MN this).symm
theorem Dh{F:Nat->Nat}:∀{l:List Nat},l.Nodup->(∀ x∈l,∀ y∈l,F x=F y->x=y)->(l.map F).Nodup
 |[],_,_=>OO
 |a::l,nd,h=>by
  obtain⟨n1,n2⟩:=MU.mp nd;refine MU.mpr ⟨fun z=>?_,Dh n2 fun x hx y hy=>h x (MO _ hx) y (MO _ hy)⟩;obtain⟨x,hx,e⟩:=MR.mp z;have:=h x (MO _ hx) a (MV ..) e;exact n1 (this▸hx)
theorem LG{F:Nat->Nat}{l:List Nat}{t:Nat}(ht:t∈l)(h:∀ x∈l,F x=F t->x=t):nxt (l.map F) (F t)=F (nxt l t):=by
 obtain⟨A,B,rfl,k⟩:=gy ht;have k2:F t∉A.map F:=fun z=>by
  obtain⟨x,hx,e⟩:=MR.mp z;exact k (h x (by simp[hx]) e▸hx)
 rw[M8,Nh,a9 k2,a9 k]
 cases B<;>cases A<;>rfl
theorem LF{X Y:List Nat}{t:Nat}(nd:(X++Y).Nodup)(ht:t∈X++Y):nxt (Y++X) t=nxt (X++Y) t:=by
 obtain⟨n1,n2,n3⟩:=MZ.mp nd;rcases MH.mp ht with z | z
 ·have tY:t∉Y:=fun y=>n3 t z t y rfl
  obtain⟨A,B,rfl,k⟩:=gy z;have e1:Y++(A++t::B)=(Y++A)++t::B:=by simp
  have e2:(A++t::B)++Y=A++t::(B++Y):=by simp
  rw[e1,e2,a9 (by simp[tY,k]),a9 k]
  cases B<;>cases Y<;>cases A<;>rfl
 ·have tX:t∉X:=fun y=>n3 t y t z rfl
  obtain⟨A,B,rfl,k⟩:=gy z;have e1:(A++t::B)++X=A++t::(B++X):=by simp
  have e2:X++(A++t::B)=(X++A)++t::B:=by simp
  rw[e1,e2,a9 k,a9 (by simp[tX,k])]
  cases B<;>cases X<;>cases A<;>rfl
structure Ren(m:Nat)(es es2:En)(ts ts2:List (List Nat))(π σ:Nat->Nat):Prop where
 pi:Bij π m
 si:Bij σ es.length
 l1:es2.length=es.length
 l2:ts2.length=m
 es:∀(k:Nat)(e:Nat×Nat),es[k]?=some e->es2[σ k]?=some (π e.1,π e.2)
 ts:∀(p:Nat)(l:List Nat),ts[p]?=some l->∃ X Y,l=X++Y/\ts2[π p]?=some ((Y++X).map σ)
section
variable{m:Nat}{es es2:En}{ts ts2:List (List Nat)}{π σ:Nat->Nat}
theorem Ren.es'(R:Ren m es es2 ts ts2 π σ){j:Nat}{x:Nat×Nat}(h:es2[j]?=some x):∃ k e,σ k=j/\es[k]?=some e/\x=(π e.1,π e.2):=by
 have hj:=(Mw.mp h).1;rw[R.l1]at hj;obtain⟨k,hk,rfl⟩:=R.si.sur j hj;have e1:es[k]?=some es[k]:=Mx hk;have:=R.es k _ e1;rw[h]at this;exact⟨k,_,rfl,e1,MN this⟩
theorem Ren.ts'(R:Ren m es es2 ts ts2 π σ)(w:bC m es ts){j:Nat}{L:List Nat}(h:ts2[j]?=some L):∃ p l X Y,p<m/\π p=j/\ts[p]?=some l/\l=X++Y/\L=(Y++X).map σ:=by
 have hj:=(Mw.mp h).1;rw[R.l2]at hj;obtain⟨p,hp,rfl⟩:=R.pi.sur j hj;have e1:ts[p]?=some (ts[p]'(by rw[w.len];exact hp)):=Mx _
 obtain⟨X,Y,h1,h2⟩:=R.ts p _ e1;rw[h]at h2;exact⟨p,_,X,Y,hp,rfl,e1,h1,MN h2⟩
theorem nL(w:bC m es ts){p:Nat}{l:List Nat}(h:ts[p]?=some l){t:Nat}(ht:t∈l):t<es.length:=by
 obtain⟨x,hx,_⟩:=(w.mem p l h t).mp ht;exact(Mw.mp hx).1
theorem Ren.turn(R:Ren m es es2 ts ts2 π σ)(w:bC m es ts):bC m es2 ts2:=by
 refine⟨R.l2,fun x hx=>?_,fun j L h=>?_,fun j L h t=>?_⟩
 ·obtain⟨j,hj⟩:=NF.mp hx;obtain⟨k,e,_,h1,rfl⟩:=R.es' hj;obtain⟨a1,a2,a3⟩:=w.ends e (My h1);exact⟨R.pi.lt _ a1,R.pi.lt _ a2,fun z=>a3 (R.pi.inj _ _ a1 a2 z)⟩
 ·obtain⟨p,l,X,Y,hp,rfl,h1,rfl,rfl⟩:=R.ts' w h;have nd:=w.nd p _ h1;obtain⟨n1,n2,n3⟩:=MZ.mp nd;refine Dh (MZ.mpr ⟨n2,n1,fun a ha b hb z=>n3 b hb a ha z.symm⟩) fun x hx y hy=>R.si.inj x y (nL w h1 ?_) (nL w h1 ?_)
  ·simp only[MH]at hx ⊢;exact hx.symm
  ·simp only[MH]at hy ⊢;exact hy.symm
 ·obtain⟨p,l,X,Y,hp,rfl,h1,rfl,rfl⟩:=R.ts' w h;constructor
  ·intro z;obtain⟨k,hk,rfl⟩:=MR.mp z;obtain⟨e,h2,h3⟩:=(w.mem p _ h1 k).mp (by simp only[MH]at hk ⊢;exact hk.symm)
   exact⟨_,R.es k e h2,h3.imp (congrArg π) (congrArg π)⟩
  ·rintro⟨x,h2,h3⟩;obtain⟨k,e,rfl,h4,rfl⟩:=R.es' h2;obtain⟨a1,a2,a3⟩:=w.ends e (My h4);have hk:=(w.mem p _ h1 k).mpr ⟨e,h4,h3.imp (R.pi.inj _ _ a1 hp) (R.pi.inj _ _ a2 hp)⟩;exact MR.mpr ⟨k,by simp only[MH]at hk ⊢;exact hk.symm,rfl⟩
def Phi(σ:Nat->Nat)(d:Nat):Nat:=2*σ (d/2)+d%2
theorem pH(d:Nat):Phi σ d/2=σ (d/2):=by unfold Phi;omega
theorem Ren.hd(R:Ren m es es2 ts ts2 π σ){d:Nat}(hd':d<2*es.length):hd es2 (Phi σ d)=π (hd es d):=by
 have e1:es[d/2]?=some (es[d/2]'(by omega)):=Mx _
 have e2:=R.es _ _ e1;unfold K8.hd;rw[pH,e1,e2];have hm:Phi σ d%2=d%2:=by unfold Phi;omega
 show(if Phi σ d%2=0 then π es[d/2].2 else π es[d/2].1)=π (if d%2=0 then es[d/2].2 else es[d/2].1);rw[hm];split<;>rfl
theorem Ren.fol(R:Ren m es es2 ts ts2 π σ)(w:bC m es ts){d:Nat}(hd':d<2*es.length):fol es2 ts2 (Phi σ d)=Phi σ (fol es ts d):=by
 obtain⟨_,l,_,_,_,k4,k5,k6⟩:=w.at hd';obtain⟨X,Y,rfl,h2⟩:=R.ts _ _ k5;have nd:=w.nd _ _ k5;rw[f6 (l:=(Y++X).map σ) (by rw[R.hd hd'];exact h2),f6 k5,pH,R.hd hd']
 have k7:d/2∈Y++X:=by simp only[MH]at k6 ⊢;exact k6.symm
 rw[LG k7 fun x hx=>R.si.inj x _ (nL w k5 (by simp only[MH]at hx ⊢;exact hx.symm)) (nL w k5 k6),LF nd k6]
 have hn:=My (iD k6);have hlt:=nL w k5 hn;generalize nxt (X++Y) (d/2)=t at hlt;have e1:es[t]?=some es[t]:=Mx hlt;have a1:=(w.ends _ (My e1)).1;unfold leave;rw[R.es _ _ e1,e1];show(if π es[t].1=π (K8.hd es d) then 2*σ t else 2*σ t+1)=Phi σ (if es[t].1=K8.hd es d then 2*t else 2*t+1);by_cases z:es[t].1=K8.hd es d
 ·rw[if_pos z,if_pos (congrArg π z)];unfold Phi;rw[show 2*t/2=t by omega]
  omega
 ·rw[if_neg z,if_neg (fun y=>z (R.pi.inj _ _ a1 k4 y))];unfold Phi;rw[show(2*t+1)/2=t by omega]
  omega
theorem Iq(b:Bij σ es.length){x y:Nat}(hx:x<2*es.length)(hy:y<2*es.length)(e:Phi σ x=Phi σ y):x=y:=by
 have e1:σ (x/2)=σ (y/2):=by
  have h1:=pH (σ:=σ) x;have h2:=pH (σ:=σ) y;rw[e]at h1;exact h1.symm.trans h2
 have:=b.inj _ _ (by omega) (by omega) e1
 unfold Phi at e;omega
theorem Ren.gr(R:Ren m es es2 ts ts2 π σ)(g:Gr m es ts):Gr m es2 ts2:=by
 obtain⟨rs,p,cnt⟩:=g.part;have flt:∀ d∈rs.flatten,d<2*es.length:=fun d hd=>by
  obtain⟨r,h1,h2⟩:=NI.mp hd;exact(p.cr r h1).lt d h2
 have hfl:(rs.map (List.map (Phi σ))).flatten=rs.flatten.map (Phi σ):=List.map_flatten.symm;refine⟨R.turn g.w,⟨rs.map (List.map (Phi σ)),⟨fun q hq=>?_,?_,fun d hd=>?_⟩,by rw[MD,R.l1];exact cnt⟩,fun S hS x y hx hy sx=>?_⟩
 ·obtain⟨r,hr,rfl⟩:=MR.mp hq;have c:=p.cr r hr;obtain⟨x,l,rfl,ch⟩:=c.ch;refine⟨⟨Phi σ x,l.map (Phi σ),rfl,zd ch fun t ht=>R.fol g.w (c.lt t ht)⟩,fun d hd=>?_,Dh c.nd fun a ha b hb=>Iq R.si (c.lt a ha) (c.lt b hb)⟩;obtain⟨t,ht,rfl⟩:=MR.mp hd;have h1:=c.lt t ht;have h2:=R.si.lt (t/2) (by omega)
  rw[R.l1];unfold Phi;omega
 ·rw[hfl];exact Dh p.nd fun a ha b hb=>Iq R.si (flt a ha) (flt b hb)
 ·rw[R.l1]at hd;obtain⟨k,hk,e⟩:=R.si.sur (d/2) (by omega)
  rw[hfl];refine MR.mpr ⟨2*k+d%2,p.all _ (by omega),?_⟩
  unfold Phi;rw[show(2*k+d%2)/2=k by omega,e]
  omega
 ·obtain⟨x',hx',rfl⟩:=R.pi.sur x hx;obtain⟨y',hy',rfl⟩:=R.pi.sur y hy;refine g.conn (fun p=>S (π p)) (fun e he=>?_) x' y' hx' hy' sx;obtain⟨k,hk⟩:=NF.mp he;exact hS (π e.1,π e.2) (My (R.es k e hk))
end
end K8
namespace K8
open PySem L2
local macro_rules | `(tactic| walk_at "cc") => `(tactic| first | exact ⟨by decide, by decide⟩ | (show (0 : Int) < _; decide) | (show (0 : Int) < _; omega) | (show (0 : Int) ≤ _; omega) | exact ⟨by decide, by decide, by decide⟩ | exact ⟨by omega, by omega, by decide⟩ | exact Or.inl ⟨by decide, by decide⟩ | exact Or.inl ⟨by omega, by omega⟩)
local macro_rules | `(tactic| walk_at "rd") => `(tactic| repeat (first | refine ⟨_, rfl, ?_⟩ | refine ⟨_, _, rfl, rfl, ?_⟩ | refine ⟨rfl, ?_⟩ | (refine ⟨?cc, ?_⟩; (case cc => walk_at "cc"))))
def top(i:Nat):Stmt:=PySem.Challenge.pw_spinfloor_k71_whole_worths_turned.main.body.getD i (.Pass ⟨0,0,0,0⟩)
abbrev gg:Stmt:=top 10
abbrev bY:Stmt:=top 12
abbrev d6:Stmt:=top 14
abbrev eA:Stmt:=top 15
abbrev jz:Stmt:=top 16
abbrev cS:Stmt:=top 17
abbrev ck:Stmt:=top 19
abbrev cy:Stmt:=top 22
abbrev bz:Stmt:=top 23
abbrev jy:Stmt:=top 24
abbrev cA:Stmt:=mR (top 26) 0
abbrev eF:Stmt:=mR (top 26) 1
abbrev bA:Stmt:=mR (top 26) 2
abbrev cZ:Stmt:=mR (top 26) 3
abbrev c6:Stmt:=mR (top 28) 0
abbrev sW:Stmt:=top 30
abbrev gh:Stmt:=top 31
abbrev eB:Stmt:=top 32
abbrev cn:Stmt:=top 33
abbrev cT:Stmt:=top 34
abbrev d0:Stmt:=top 35
abbrev bX:Stmt:=top 37
abbrev bN:Stmt:=top 38
abbrev bw:Stmt:=top 39
abbrev cz:Stmt:=mR (top 40) 0
abbrev eh:Stmt:=top 42
abbrev eg:Stmt:=top 43
abbrev cx:Stmt:=top 44
abbrev cV:Stmt:=top 45
abbrev cX:Stmt:=top 46
abbrev cW:Stmt:=top 47
abbrev bo:Stmt:=top 48
abbrev cY:Stmt:=top 49
abbrev gj:Stmt:=top 50
abbrev cU:Stmt:=top 51
abbrev d8:Stmt:=top 52
abbrev cv:Stmt:=top 53
abbrev cp:Stmt:=top 54
abbrev d7:Stmt:=top 55
abbrev gk:Stmt:=top 56
abbrev cu:Stmt:=top 57
abbrev uH:Stmt:=top 58
def tf(a b s:Int):List (Str×V):=putF "strength" (.int s) (putF "two" (.int b) (putF "one" (.int a) []))
theorem lr(a b s:Int):(tf a b s).lookup ("one" : Str)=some (.int a):=by
 unfold tf;rw[aC,if_neg (by decide +kernel),aC,if_neg (by decide +kernel),aC,if_pos rfl]
theorem pL(a b s:Int):(tf a b s).lookup ("two" : Str)=some (.int b):=by
 unfold tf;rw[aC,if_neg (by decide +kernel),aC,if_pos rfl]
theorem tf_str(a b s:Int):(tf a b s).lookup ("strength" : Str)=some (.int s):=by
 unfold tf;rw[aC,if_pos rfl]
theorem IH(a b s:Int){m:Str} (h1:¬ m = "strength") (h2:¬ m = "two") (h3:¬ m = "one"):(tf a b s).lookup m=none:=by
 unfold tf;rw[aC,if_neg h1,aC,if_neg h2,aC,if_neg h3]
 all_goals rfl
theorem f1_len(a:Int):(putF "one" (.int a) []).length<1000:=by show 1<1000;decide
theorem f2_len(a b:Int):(putF "two" (.int b) (putF "one" (.int a) [])).length<1000:=by
 have e:(putF "two" (.int b) (putF "one" (.int a) []):List (Str×V))=([("one",.int a),("two",.int b)]:List (Str×V)):=by
  show(if("one" : Str) = "two" then[(("one" : Str),V.int b)] else(("one" : Str),V.int a)::putF "two" (V.int b) [])=_;rw[if_neg (by decide +kernel)]
  all_goals rfl
 rw[e];show 2<1000;decide
structure CT(K:Mz)(C:Addr):Prop where
 cl:Cls K C
 n1:fU K C "one"
 n2:fU K C "two"
 n3:fU K C "strength"
def sV(K:Mz):Sp:=fun vs H Q _=>∃(p C dx:Addr)(a b s:Int),vs = [.ref p,.int a,.int b,.int s]/\H p=some (.ins C dx [])/\CT K C/\a≠b/\0<=a/\0<=b/\0<=s /\
 ∀ H',H' p=some (.ins C dx (tf a b s))->(∀ q o,H q=some o->q≠p->H' q=some o)->Q .non H'
theorem ak{H:Hp}{p:Addr}(h:H p=none)(o:HO):Same H (upd H p o):=fun b u q=>by rw[aq (aw q h)];exact q
theorem aW{H H2:Hp}{l:Addr}(h:Same H H2)(hl:H l=none)(o:HO):Same H (upd H2 l o):=fun b u q=>by rw[aq (aw q hl)];exact h b u q
def iV(p:Nat):V:=.int (p:Int)
theorem LV{hs:List Nat}{k x:Nat}(h:hs[k]?=some x):atI (hs.map iV) (k:Int)=some (iV x):=aM (by rw[ME,h];rfl)
def cF(H:Hp)(ys:List V)(es:En):Prop:=ys.length=es.length/\∀(i:Nat)(e:Nat×Nat),es[i]?=some e->∃ p,ys[i]?=some (.ref p)/\H p=some (.tup [iV e.1,iV e.2])
theorem cF.mono{H H':Hp}{ys:List V}{es:En}(h:cF H ys es)(s:Same H H'):cF H' ys es:=⟨h.1,fun i e q=>by
 obtain⟨p,a,b⟩:=h.2 i e q
 exact⟨p,a,s _ _ b⟩⟩
def dO(K:Mz)(H:Hp)(xs:List V)(es:En):Prop:=xs.length=es.length/\∀(i:Nat)(e:Nat×Nat),es[i]?=some e->∃ p C dx s,xs[i]?=some (.ref p)/\H p=some (.ins C dx (tf (e.1:Int) (e.2:Int) s))/\CT K C
theorem dO.mono{K:Mz}{H H':Hp}{xs:List V}{es:En}(t:dO K H xs es)(h:Same H H'):dO K H' xs es:=⟨t.1,fun i e q=>by
 obtain⟨p,C,dx,s,a,b,d⟩:=t.2 i e q
 exact⟨p,C,dx,s,a,h _ _ b,d⟩⟩
def bM(H:Hp)(xs:List V)(ts:List (List Nat)):Prop:=xs.length=ts.length/\∀(i:Nat)(l:List Nat),ts[i]?=some l->∃ p,xs[i]?=some (.ref p)/\H p=some (.lst (l.map iV))
theorem bM.mono{H H':Hp}{xs:List V}{ts:List (List Nat)}(h:bM H xs ts)(s:Same H H'):bM H' xs ts:=⟨h.1,fun i e q=>by
 obtain⟨p,a,b⟩:=h.2 i e q
 exact⟨p,a,s _ _ b⟩⟩
theorem bM.snoc{H:Hp}{xs:List V}{ts:List (List Nat)}{q:Addr}{l:List Nat}(h:bM H xs ts)(e:H q=some (.lst (l.map iV))):bM H (xs++[.ref q]) (ts++[l]):=by
 refine⟨by rw[MA,MA,h.1];rfl,fun j k ej=>?_⟩
 by_cases hj:j<ts.length
 ·rw[MF hj]at ej;obtain⟨p,a1,a2⟩:=h.2 j k ej;exact⟨p,by rw[MF (by rw[h.1];exact hj)];exact a1,a2⟩
 ·rw[MB (by omega)]at ej
  have hj2:j=ts.length:=by
   have:=(Mw.mp ej).1;rw[MJ]at this;omega
  subst hj2;rw[M7]at ej
  cases ej
  exact⟨q,by rw[← h.1,MB (MC _),M7];rfl,e⟩
def cQ(S:Addr->Prop)(H:Hp)(xs:List V)(ts:List (List Nat)):Prop:=xs.length=ts.length/\∀(i:Nat)(l:List Nat),ts[i]?=some l->∃ p,xs[i]?=some (.ref p)/\¬ S p/\H p=some (.lst (l.map iV))
theorem cQ.mono{S:Addr->Prop}{H H':Hp}{xs:List V}{ts:List (List Nat)}(h:cQ S H xs ts)(s:∀ b u,¬ S b->H b=some u->H' b=some u):cQ S H' xs ts:=⟨h.1,fun i e q=>by
 obtain⟨p,a,n,b⟩:=h.2 i e q
 exact⟨p,a,n,s _ _ n b⟩⟩
theorem cQ.off{S:Addr->Prop}{H:Hp}{xs:List V}{ts:List (List Nat)}(h:cQ S H xs ts):bM H xs ts:=⟨h.1,fun i e q=>by
 obtain⟨p,a,n,b⟩:=h.2 i e q
 exact⟨p,a,b⟩⟩
theorem cQ.snoc{S:Addr->Prop}{H:Hp}{xs:List V}{ts:List (List Nat)}{q:Addr}{l:List Nat}(h:cQ S H xs ts)(n:¬ S q)(e:H q=some (.lst (l.map iV))):cQ S H (xs++[.ref q]) (ts++[l]):=by
 refine⟨by rw[MA,MA,h.1];rfl,fun j k ej=>?_⟩
 by_cases hj:j<ts.length
 ·rw[MF hj]at ej;obtain⟨p,a1,a2⟩:=h.2 j k ej;exact⟨p,by rw[MF (by rw[h.1];exact hj)];exact a1,a2⟩
 ·rw[MB (by omega)]at ej
  have hj2:j=ts.length:=by
   have:=(Mw.mp ej).1;rw[MJ]at this;omega
  subst hj2;rw[M7]at ej
  cases ej
  exact⟨q,by rw[← h.1,MB (MC _),M7];rfl,n,e⟩
theorem vZ{f:Nat->Nat}{N i:Nat}{rs:List (List Nat)}(w:fi f N i rs):rs.flatten.length<=N:=eO w.nd fun x hx=>by
 obtain⟨r,h1,h2⟩:=NI.mp hx;exact(w.ring r h1).lt x h2
theorem IW{f:Nat->Nat}{N i:Nat}{rs:List (List Nat)}(w:fi f N i rs):rs.length<=N:=by
 have h:∀(l:List (List Nat)),(∀ r∈l,0<r.length)->l.length<=l.flatten.length:=fun l=>by
  induction l with
  |nil=>intro _;exact MC _
  |cons a l ih =>
   intro h;rw[Nx,MA,Nb];have h1:=h a (MV ..);have h2:=ih fun r hr=>h r (MO _ hr);omega
 exact Nw (h rs fun r hr=>(w.ring r hr).ne) (vZ w)
structure TT(K:Mz)(H:Hp)(a b:Addr)(m:Nat)(es:En)(ts:List (List Nat)):Prop where
 xs:∃ xs,SqL K H a xs/\dO K H xs es
 ys:∃ ys,SqL K H b ys/\bM H ys ts
 w:bC m es ts
 few:es.length<=62
theorem TT.mono{K:Mz}{H H':Hp}{a b:Addr}{m:Nat}{es:En}{ts:List (List Nat)}(t:TT K H a b m es ts)(s:Same H H'):TT K H' a b m es ts:=by
 obtain⟨⟨xs,h1,h2⟩,⟨ys,h3,h4⟩,w,f⟩:=t;exact⟨⟨xs,s.seq h1,h2.mono s⟩,⟨ys,s.seq h3,h4.mono s⟩,w,f⟩
theorem js{m:Nat}{es:En}{ts:List (List Nat)}(w:bC m es ts)(f:es.length<=62){p:Nat}{l:List Nat}(h:ts[p]?=some l):(∀ t∈l,t<62)/\l.length<=62:=by
 have a:∀ t∈l,t<es.length:=fun t ht=>by
  obtain⟨e,he,_⟩:=(w.mem p l h t).mp ht;exact(Mw.mp he).1
 exact⟨fun t ht=>by have:=a t ht;omega,Nw (eO (w.nd p l h) a) f⟩
theorem perm{m:Nat}{es:En}{ts:List (List Nat)}(w:bC m es ts):Ir (fol es ts) (2*es.length):=⟨fun d h=>by
 obtain⟨_,_,_,_,_,_,_,_,z,_⟩:=w.foll h
 exact z,fun a b ha hb h=>w.inj ha hb h⟩
def FE(K:Mz):Sp:=fun vs H Q _=>∃(a:Addr)(xs:List V)(es:En)(d:Nat),vs = [.ref a,.int (d:Int)]/\SqL K H a xs/\dO K H xs es/\d<2*es.length/\Q (iV (hd es d)) H
def FC(K:Mz):Sp:=fun vs H Q _=>∃(a:Addr)(xs:List V)(es:En)(t p:Nat)(e:Nat×Nat),vs = [.ref a,.int (t:Int),.int (p:Int)]/\SqL K H a xs/\dO K H xs es/\es[t]?=some e/\Q (iV (if e.1=p then 2*t else 2*t+1)) H
def K5(K:Mz):Sp:=fun vs H Q _=>∃(a b:Addr)(m:Nat)(es:En)(ts:List (List Nat))(d:Nat),vs = [.ref a,.ref b,.int (d:Int)]/\TT K H a b m es ts/\d<2*es.length/\Q (iV (fol es ts d)) H
def FF(K:Mz):Sp:=fun vs H Q _=>∃(a b:Addr)(m:Nat)(es:En)(ts:List (List Nat))(d:Nat),vs = [.ref a,.ref b,.int (d:Int)]/\TT K H a b m es ts/\d<2*es.length /\
 ∀ q r H',Same H H'->H q=none->H' q=some (.lst (r.map iV))->Path (fol es ts) (2*es.length) d r->Ring (fol es ts) (2*es.length) r->Q (.ref q) H'
def ug(K:Mz):Sp:=fun vs H Q _=>∃(a b:Addr)(m:Nat)(es:En)(ts:List (List Nat)),vs = [.ref a,.ref b]/\TT K H a b m es ts /\
 ∀ q ys rs H',Same H H'->H' q=some (.lst ys)->bM H' ys rs->fi (fol es ts) (2*es.length) (2*es.length) rs->Q (.ref q) H'
def nF(H:Hp)(ys:List V)(n:Nat)(rs:List (List Nat)):Prop:=ys.length=n/\∀ i,i<n->∃ p a b r r',ys[i]?=some (.ref p)/\H p=some (.tup [iV a,iV b])/\rs[a]?=some r/\2*i∈r/\rs[b]?=some r'/\2*i+1∈r'
def z9(K:Mz):Sp:=fun vs H Q _=>∃(a b:Addr)(xs ys:List V)(es:En)(f:Nat->Nat)(rs:List (List Nat)),vs = [.ref a,.ref b]/\SqL K H a xs/\dO K H xs es/\es.length<=62/\SqL K H b ys/\bM H ys rs/\fi f (2*es.length) (2*es.length) rs /\
 ∀ q zs H',Same H H'->H' q=some (.lst zs)->nF H' zs es.length rs->Q (.ref q) H'
def oY(ns:List Int)(k:Nat):Int:=ns.getD k 0
def C2(K:Mz):Sp:=fun vs H Q _=>∃(a:Addr)(k:Nat)(ns:List Int),vs = [.ref a,.int (k:Int)]/\SqL K H a (ns.map V.int)/\Q (.int (oY ns k)) H
def ur(K:Mz):Sp:=fun vs H Q _=>∃(a b:Addr)(ys xs:List V)(m:Nat)(es:En)(ts:List (List Nat))(d:Nat),vs = [.ref a,.ref b,.int (d:Int)]/\SqL K H a ys/\cF H ys es/\SqL K H b xs/\bM H xs ts/\bC m es ts/\es.length<=62/\d<2*es.length/\Q (iV (fol es ts d)) H
def K3:Sp:=fun vs H Q _=>∃ i:Int,vs = [.int i]/\Q (.bl true) H
def IM(K:Mz):Sp:=fun vs H Q _=>∃(a:Addr)(ns:List Int),vs = [.ref a]/\SqL K H a (ns.map V.int)/\ns.length<=63/\∀ H',Q (.bl true) H'
structure Txt(mg:Str->Option Value):Prop where
 n_max:mg "max" = none
 n_all:mg "all" = none
 n_zip:mg "zip" = none
 n_any:mg "any" = none
 n_len:mg "len" = none
 n_int:mg "int" = none
 n_bool:mg "bool" = none
 n_list:mg "list" = none
 n_tuple:mg "tuple" = none
 n_range:mg "range" = none
 n_enumerate:mg "enumerate" = none
 n_isinstance:mg "isinstance" = none
 n_min:mg "min" = none
 n_sum:mg "sum" = none
 n_sorted:mg "sorted" = none
section
variable{P:Program}{w:World}{K:Mz}{mg:Str->Option Value}{base:Heap}
theorem FL:aG ["ties","dart","tie"] ["ties","dart"] (aj sW):=⟨rfl,rfl,rfl,by decide +kernel,rfl,by decide +kernel,by decide +kernel⟩
theorem Lx{f:Addr}{fd:FuncData} (F:Fun K "head" "head" sW f fd):FnOk P w K mg base CX0 1 f fd ["ties","dart"] (FE K):=by
 refine F.ok FL (fun vs H Q E h=>?_) (fun cdv A outer s H vs Q E hr h=>?_)
 ·obtain⟨a,xs,es,d,rfl,_⟩:=h;rfl
 obtain⟨a,xs,es,d,rfl,hS,hT,hdl,k⟩:=h;have hl:d/2<es.length:=by omega
 have e1:es[d/2]?=some es[d/2]:=Mx hl;obtain⟨p,C,dx,s',x1,x2,x3⟩:=hT.2 _ _ e1;have hh:hd es d=if d%2=0 then es[d/2].2 else es[d/2].1:=by unfold hd;rw[e1]
 have ed:(d:Int)/2=((d/2:Nat):Int):=by omega
 refine⟨_,(ag (au (i:=2) FL.nd rfl (Or.inl rfl) (aE aP (pv 0) (av dw (pv 1) ai) (fun _ _=>rfl)))
   (ao (aN (uX (aL qg (av bI (pv 1) ai) ai (aV _)) (cJ (pv 2) rfl) (cJ (pv 2) rfl))))),?_⟩
 refine⟨_,rfl,_,rfl,_,_,rfl,rfl,⟨by decide,by decide⟩,a,xs,_,_,rfl,rfl,hS,(by rw[ed];exact aM x1),?_⟩
 refine⟨_,rfl,_,_,rfl,rfl,(by show(0:Int)<2;decide),rfl,_,rfl,?_⟩
 refine ite2 (fun q=>?_) (fun q=>?_)
 ·have q':(d:Int)%2=0:=V.int.inj (of_decide_eq_true q)
  refine⟨_,rfl,p,C,dx,_,_,rfl,x2,x3.cl,x3.n2,pL _ _ _,?_⟩;rw[hh,if_pos (by omega)]at k
  exact k
 ·have q':¬ (d:Int)%2=0:=fun z=>q (decide_eq_true (congrArg V.int z))
  refine⟨_,rfl,p,C,dx,_,_,rfl,x2,x3.cl,x3.n1,lr _ _ _,?_⟩;rw[hh,if_neg (by omega)]at k
  exact k
theorem DT:aG ["ties","number","place"] ["ties","number","place"] (aj gh):=⟨rfl,rfl,rfl,by decide +kernel,rfl,by decide +kernel,by decide +kernel⟩
theorem D9{f:Addr}{fd:FuncData} (F:Fun K "leaving" "leaving" gh f fd):FnOk P w K mg base CX0 1 f fd ["ties","number","place"] (FC K):=by
 refine F.ok DT (fun vs H Q E h=>?_) (fun cdv A outer s H vs Q E hr h=>?_)
 ·obtain⟨a,xs,es,t,p,e,rfl,_⟩:=h;rfl
 obtain⟨a,xs,es,t,pl,e,rfl,hS,hT,he,k⟩:=h;obtain⟨p,C,dx,s',x1,x2,x3⟩:=hT.2 _ _ he;have m2:CMul 2 (t:Int):=.inl ⟨by decide,by decide⟩
 refine⟨_,(ao (aN (uX (aL qg (cJ (aE aP (pv 0) (pv 1) (fun _ _=>rfl)) rfl) (pv 2) (aV _)) (av dI ai (pv 1)) (av bJ (av dI ai (pv 1)) ai)))),?_⟩;refine⟨_,rfl,_,rfl,a,xs,_,_,rfl,rfl,hS,aM x1,p,C,dx,_,_,rfl,x2,x3.cl,x3.n1,lr _ _ _,_,rfl,rfl,_,rfl,?_⟩;refine ite2 (fun q=>?_) (fun q=>?_)
 ·have q':(e.1:Int)=(pl:Int):=V.int.inj (of_decide_eq_true q)
  refine⟨_,rfl,_,_,rfl,rfl,m2,?_⟩;rw[if_pos (by omega)]at k
  exact k
 ·have q':¬ (e.1:Int)=(pl:Int):=fun z=>q (decide_eq_true (congrArg V.int z))
  refine⟨_,rfl,_,_,rfl,rfl,m2,_,_,rfl,rfl,?_⟩;rw[if_neg (by omega)]at k
  exact k
theorem gD:aG ["ties","turns","dart","place","about","behind"] ["ties","turns","dart"] (aj eB):=⟨rfl,rfl,rfl,by decide +kernel,rfl,by decide +kernel,by decide +kernel⟩
theorem AX{f fh fl:Addr}{fd fdh fdl:FuncData} (F:Fun K "follower" "follower" eB f fd) (T:Txt mg) (G_head:Cal P w K mg base 1 "head" ["ties","dart"] (FE K) fh fdh) (G_leaving:Cal P w K mg base 1 "leaving" ["ties","number","place"] (FC K) fl fdl):FnOk P w K mg base CX0 2 f fd ["ties","turns","dart"] (K5 K):=by
 refine F.ok gD (fun vs H Q E h=>?_) (fun cdv A outer s H vs Q E hr h=>?_)
 ·obtain⟨a,b,m,es,ts,d,rfl,_⟩:=h;rfl
 obtain⟨a,b,m,es,ts,d,rfl,tt,hdl,k⟩:=h;obtain⟨⟨xs,h1,h2⟩,⟨ys,h3,h4⟩,w',few⟩:=tt;obtain⟨l,e,p1,p2,p3,p4,p5,p6,p7,p8,p9⟩:=w'.foll hdl;obtain⟨small,len⟩:=js w' few p1;obtain⟨q,y1,y2⟩:=h4.2 _ _ p1;have ed:(d:Int)/2=((d/2:Nat):Int):=by omega
 refine⟨_,(ag (au (i:=3) gD.nd rfl (Or.inl rfl) (ar G_head.ok (hr.mono (by decide)) rfl G_head.mg G_head.kp G_head.bn .nil aR (aa (pv 0) (aa (pv 2) ah))))
   (ag (au (i:=4) gD.nd rfl (Or.inl rfl) (aE aP (pv 1) (pv 3) (fun _ _=>rfl)))
   (ag (au (i:=5) gD.nd rfl (Or.inl rfl) (av bI (av bJ (fX M5 OW OV pj (pv 4) (aa (av dw (pv 2) ai) ah)) ai) (aF ay (by rfl) T.n_len bL (aa (pv 4) ah))))
   (ao (aN (ar G_leaving.ok (hr.mono (by decide)) rfl G_leaving.mg G_leaving.kp G_leaving.bn .nil aR (aa (pv 0) (aa (aE aP (pv 4) (pv 5) (fun _ _=>rfl)) (aa (pv 3) ah))))))))),?_⟩
 refine⟨_,rfl,_,rfl,a,xs,es,d,rfl,h1,h2,hdl,?_⟩;refine⟨_,rfl,_,rfl,b,ys,_,_,rfl,rfl,h3,aM y1,?_⟩;have hlen:(l.map iV).length=l.length:=MD _;have hl0:0<l.length:=O5 p2;have hmod:(((l.idxOf (d/2):Nat):Int)+1)%((l.map iV).length:Int)=(((l.idxOf (d/2)+1)%l.length:Nat):Int):=by rw[hlen];rfl
 refine⟨_,rfl,.inl ⟨rfl,_,SqL.of y2⟩,_,rfl,_,_,rfl,rfl,⟨by decide,by decide⟩,q,l,d/2,rfl,congrArg (fun z=>[V.int z]) ed,SqL.of y2,fun p hp=>by have:=small p hp;omega,by omega,p2,_,_,rfl,rfl,_,rfl,q,_,rfl,.inl (SqL.of y2),_,_,rfl,rfl,(by show(0:Int)<((l.map iV).length:Int);rw[hlen];omega),?_⟩
 refine⟨_,rfl,_,rfl,_,rfl,q,_,_,_,rfl,rfl,SqL.of y2,(by rw[hmod];exact LV (iD p2)),_,rfl,a,xs,es,nxt l (d/2),hd es d,e,rfl,h1,h2,p3,?_⟩
 rw[p6]at k;exact k
theorem dP:aG ["ties","turns","first","row","dart"] ["ties","turns","first"] (aj cn):=⟨rfl,rfl,rfl,by decide +kernel,rfl,by decide +kernel,by decide +kernel⟩
theorem Ly{f ff:Addr}{fd fdf:FuncData} (F:Fun K "round_from" "round_from" cn f fd) (G_follower:Cal P w K mg base 2 "follower" ["ties","turns","dart"] (K5 K) ff fdf):FnOk P w K mg base CX0 3 f fd ["ties","turns","first"] (FF K):=by
 refine F.ok dP (fun vs H Q E h=>?_) (fun cdv A outer s H vs Q E hr h=>?_)
 ·obtain⟨a,b,m,es,ts,d,rfl,_⟩:=h;rfl
 obtain⟨a,b,m,es,ts,d,rfl,tt,hdl,k⟩:=h;have pm:=perm tt.w
 refine⟨_,(ag (au (i:=3) dP.nd rfl (Or.inl rfl) (dH (aa (pv 2) ah)))
   (ag (au (i:=4) dP.nd rfl (Or.inl rfl) (ar G_follower.ok (hr.mono (by decide)) rfl G_follower.mg G_follower.kp G_follower.bn .nil aR (aa (pv 0) (aa (pv 1) (aa (pv 2) ah)))))
   (ag (uK PassesOwn.never (aL qd (pv 4) (pv 2) (aV _)) (ag (bt (fX M5 Np Nn br (pv 3) (aa (pv 4) ah)))
   (ao (au (i:=4) dP.nd rfl (Or.inl rfl) (ar G_follower.ok (hr.mono (by decide)) rfl G_follower.mg G_follower.kp G_follower.bn .nil aR (aa (pv 0) (aa (pv 1) (aa (pv 4) ah))))))))
   (ao (aN (pv 3)))))),?_⟩
 refine⟨_,rfl,(by show 1<=sizeLine;decide),fun q hq=>?_⟩
 have s1:=ak hq (.lst [.int (d:Int)]);refine⟨_,rfl,_,rfl,_,rfl,a,b,m,es,ts,d,rfl,tt.mono s1,hdl,?_⟩;refine tW (fun σ H2=>∃(r:List Nat)(x:Nat),σ = [some (.ref a),some (.ref b),some (.int (d:Int)),some (.ref q),some (iV (fol es ts x))]/\Same H H2/\H2 q=some (.lst ((r++[x]).map iV))/\Path (fol es ts) (2*es.length) d (r++[x]))
  (fun σ H2=>match H2 q with | some (.lst xs)=>200-xs.length | _=>0) ⟨[],d,rfl,s1,ae,C6 hdl⟩ ?_ ?_
 ·rintro σ H2 ⟨r,x,rfl,s2,hq2,pa⟩;refine⟨_,rfl,_,rfl,rfl,_,rfl,?_⟩;have few:=tt.few;have hlen:=eO pa.nd pa.lt;refine ite2 (fun c=>?_) (fun c=>?_)
  ·have c':fol es ts x≠d:=fun z=>by
    rw[decide_eq_true (show iV (fol es ts x)=V.int (d:Int) by rw[z];rfl)]at c
    cases c
   have pa2:=pa.snoc pm c';have hlen2:=eO pa2.nd pa2.lt;have lt2:fol es ts x<2*es.length:=pa2.lt _ (by simp)
   refine⟨_,rfl,.inl ⟨rfl,_,SqL.of hq2⟩,_,rfl,q,_,_,rfl,rfl,hq2,ax (by rw[MD];omega),?_⟩
   have s3:=aW s2 hq (.lst ((r++[x]).map iV++[iV (fol es ts x)]));refine⟨_,rfl,_,rfl,_,rfl,a,b,m,es,ts,fol es ts x,rfl,tt.mono s3,lt2,?_⟩;refine⟨⟨r++[x],fol es ts x,rfl,s3,?_,pa2⟩,?_⟩
   ·rw[ae,show((r++[x]++[fol es ts x]).map iV)=(r++[x]).map iV++[iV (fol es ts x)] from by rw[M8];rfl]
   ·show(match(upd H2 q (.lst ((r++[x]).map iV++[iV (fol es ts x)]))) q with | some (.lst xs)=>200-xs.length | _=>0)<(match H2 q with | some (.lst xs)=>200-xs.length | _=>0)
    rw[ae,hq2];show 200-((r++[x]).map iV++[iV (fol es ts x)]).length<200-((r++[x]).map iV).length;rw[MA,MD,MJ];omega
  ·have c':fol es ts x=d:=by
    by_cases z:fol es ts x=d
    ·exact z
    ·exact absurd (by rw[decide_eq_false (fun y=>z (by have:=V.int.inj y;omega))];rfl) c
   refine⟨_,rfl,?_⟩;exact k q _ H2 s2 hq hq2 pa (pa.ring pm c')
 ·rintro σ H2 Q1 Q2 hi ⟨v',e,b',e2,z1,c',e3,q'⟩;exact⟨v',e,b',e2,z1,c',e3,hi _ _ q'⟩
theorem b9:aG ["ties","turns","rounds","seen","dart","row","gone"] ["ties","turns"] (aj cT):=⟨rfl,rfl,rfl,by decide +kernel,rfl,by decide +kernel,by decide +kernel⟩
theorem Gg{f ff:Addr}{fd fdf:FuncData} (F:Fun K "rounds_of" "rounds_of" cT f fd) (T:Txt mg) (G_round_from:Cal P w K mg base 3 "round_from" ["ties","turns","first"] (FF K) ff fdf):FnOk P w K mg base CX0 4 f fd ["ties","turns"] (ug K):=by
 refine F.ok b9 (fun vs H Q E h=>?_) (fun cdv A outer s H vs Q E hr h=>?_)
 ·obtain⟨a,b,m,es,ts,rfl,_⟩:=h;rfl
 obtain⟨a,b,m,es,ts,rfl,tt,k⟩:=h;have hu:=BR hr;have pm:=perm tt.w;have few:=tt.few;obtain⟨xs,h1,h2⟩:=tt.xs
 refine⟨_,(ag (au (i:=2) b9.nd rfl (Or.inl rfl) (dH ah))
   (ag (au (i:=3) b9.nd rfl (Or.inl rfl) lx)
   (ag (bP PassesOwn.never rfl (b4 rfl T.n_range (aa (av dI ai (aF ay (by rfl) T.n_len bL (aa (pv 0) ah))) ah)) (aK (i:=4) b9.nd rfl (Or.inl rfl)) (ao (c7 (pt_cmp (F6 hu (pv 4) (pv 3))) (ag (au (i:=5) b9.nd rfl (Or.inl rfl) (ar G_round_from.ok (hr.mono (by decide)) rfl G_round_from.mg G_round_from.kp G_round_from.bn .nil aR (aa (pv 0) (aa (pv 1) (aa (pv 4) ah)))))
   (ag (bt (fX M5 Np Nn br (pv 2) (aa (pv 5) ah)))
   (ao (bP PassesOwn.never rfl (aX (pv 5)) (aK (i:=6) b9.nd rfl (Or.inl rfl)) (ao (pV hu (pv 3) (pv 6) sh rfl)))))) aZ)))
   (ao (aN (pv 2)))))),?_⟩
 refine⟨(by show 0<=sizeLine;decide),fun qr hqr=>fun qs hqs=>?_⟩
 have s1:=(ak hqr (.lst [])).trans (ak hqs (.dK []));have hqs0:H qs=none:=by
  cases z:H qs with
  |none=>rfl
  |some o=>rw[ak hqr (.lst []) qs o z]at hqs;cases hqs
 have hne:qr≠qs:=fun z=>by rw[← z,ae]at hqs;cases hqs
 have hxl:xs.length=es.length:=h2.1;have hN:(2*(xs.length:Int)).toNat=2*es.length:=by omega
 refine⟨_,rfl,a,xs,rfl,.inl (s1.seq h1),_,_,rfl,rfl,.inl ⟨by decide,by decide⟩,_,rfl,by omega,by omega,dv (n:=(2*(xs.length:Int)).toNat) (fun i σ H2=>∃ v4 v5 v6 ys rs kvs,σ = [some (.ref a),some (.ref b),some (.ref qr),some (.ref qs),v4,v5,v6]/\Same H H2/\H2 qr=some (.lst ys)/\cQ (fun p=>p=qr∨p=qs) H2 ys rs/\H2 qs=some (.dK kvs)/\kvs.length<=rs.flatten.length/\(∀ d:Nat,(valV kvs (Sum.inl (d:Int))).isSome=true↔d∈rs.flatten)/\fi (fol es ts) (2*es.length) i rs)
  ⟨_,_,_,[],[],[],rfl,s1,by rw[aq hne,ae],⟨rfl,fun i l e=>by simp at e⟩,ae,MC _,fun d=>by simp[valV],DV _ _⟩ ?_ ?_⟩
 ·rintro i σ H2 hi ⟨v4,v5,v6,ys,rs,kvs,rfl,s2,e1,rx,e2,kl,km,ro⟩;rw[hN]at hi;have e0:(0:Int)+(i:Int)=(i:Int):=NO _;rw[e0];have fl:=vZ ro;have rl:=IW ro;refine⟨_,rfl,_,rfl,_,_,rfl,DGet.k (k:=Sum.inl (i:Int)) e2,_,rfl,?_⟩;refine ite2 (fun c=>?_) (fun c=>?_)
  ·have hni:i∉rs.flatten:=fun z=>by
    rw[(km i).mpr z]at c
    cases c
   refine⟨_,rfl,_,rfl,_,rfl,a,b,m,es,ts,i,rfl,tt.mono s2,hi,fun q r H3 s3 hq hq3 pa ri=>?_⟩;have s23:=s2.trans s3;have nq:¬ (q=qr∨q=qs):=by
    rintro(z | z)
    ·rw[z,e1]at hq;cases hq
    ·rw[z,e2]at hq;cases hq
   refine⟨_,rfl,.inl ⟨rfl,_,SqL.of (s3 _ _ e1)⟩,_,rfl,qr,_,_,rfl,rfl,s3 _ _ e1,ax (by rw[rx.1];omega),?_⟩
   have s4:=aW s23 hqr (.lst (ys++[.ref q]));have hrq:∀{H5:Hp},cQ (fun p=>p=qr∨p=qs) H5 (ys++[.ref q]) (rs++[r])->H5 q=some (.lst (r.map iV)):=fun h=>by
    obtain⟨p,z1,_,z2⟩:=h.2 rs.length r (by rw[MB (MC _),M7];rfl)
    rw[← rx.1,MB (MC _),M7]at z1
    cases z1
    exact z2
   have rx4:cQ (fun p=>p=qr∨p=qs) (upd H3 qr (.lst (ys++[.ref q]))) (ys++[.ref q]) (rs++[r]):=by
    refine(rx.mono fun p o n z=>?_).snoc nq ?_
    ·rw[aq (fun z=>n (.inl z))];exact s3 _ _ z
    ·rw[aq (fun z=>nq (.inl z))];exact hq3
   have rl:r.length<=2*es.length:=eO ri.nd ri.lt
   refine⟨_,rfl,q,rfl,⟨_,SqL.of (hrq rx4)⟩,b6 (xs:=r.map iV) (fun j σ H5=>∃ v6 kvs',σ = [some (.ref a),some (.ref b),some (.ref qr),some (.ref qs),some (.int (i:Int)),some (.ref q),v6]/\Same H H5/\H5 qr=some (.lst (ys++[.ref q]))/\cQ (fun p=>p=qr∨p=qs) H5 (ys++[.ref q]) (rs++[r])/\H5 qs=some (.dK kvs')/\kvs'.length<=rs.flatten.length+j/\∀ d:Nat,(valV kvs' (Sum.inl (d:Int))).isSome=true↔d∈rs.flatten∨d∈r.take j)
    ⟨_,kvs,rfl,s4,ae,rx4,by rw[aq hne.symm];exact s3 _ _ e2,kl,fun d=>by rw[km d];simp⟩ (fun j σ H5 _ p=>?_) ?_ ?_⟩
   ·obtain⟨_,_,_,_,_,z,_⟩:=p;exact SqL.of (hrq z)
   ·rintro j x σ H5 hx ⟨v6,kvs',rfl,s5,f1,rx5,f2,kl5,km5⟩;rw[ME]at hx;obtain⟨g,hg,rfl⟩:=M0.mp hx;have hjl:j<r.length:=(Mw.mp hg).1;refine⟨_,rfl,_,rfl,qs,_,rfl,DPut.k (k:=Sum.inl (g:Int)) f2 (ax (by omega)),?_⟩
    refine⟨_,_,rfl,aW s5 hqs0 _,by rw[aq hne];exact f1,rx5.mono fun p o n z=>by rw[aq (fun z=>n (.inr z))];exact z,ae,by have:=df kvs' (Sum.inl (g:Int)) (V.bl true);omega,fun d=>?_⟩
    rw[t8];have tk:r.take (j+1)=r.take j++[g]:=by rw[M1,hg];rfl
    rw[tk];by_cases z:d=g
    ·subst z;simp
    ·rw[if_neg (fun y=>z (by have:=Sum.inl.inj y;omega)),km5 d]
     simp[z]
   ·rintro σ H5 ⟨v6,kvs',rfl,s5,f1,rx5,f2,kl5,km5⟩;rw[MD]at kl5 km5;refine⟨_,_,_,_,rs++[r],kvs',rfl,s5,f1,rx5,f2,by rw[NW,MA];simpa using kl5,fun d=>?_,ro.put pm hni hi ri pa⟩
    rw[km5 d,Ni,NW,MH];simp
  ·have hii:i∈rs.flatten:=(km i).mp (by
    cases z:(valV kvs (Sum.inl (i:Int))).isSome with
    |true=>rfl
    |false=>exact absurd (by rw[z];rfl) c)
   exact⟨_,_,_,ys,rs,kvs,rfl,s2,e1,rx,e2,kl,km,ro.skip hii⟩
 ·rintro σ H2 ⟨v4,v5,v6,ys,rs,kvs,rfl,s2,e1,rx,e2,kl,km,ro⟩;rw[hN]at ro;exact⟨_,rfl,k qr ys rs H2 s2 e1 rx.off ro⟩
theorem eJ:aG ["ties","rounds","number_at","number","row","dart"] ["ties","rounds"] (aj d0):=⟨rfl,rfl,rfl,by decide +kernel,rfl,by decide +kernel,by decide +kernel⟩
theorem Jm{f:Addr}{fd:FuncData} (F:Fun K "sides_of" "sides_of" d0 f fd) (T:Txt mg):FnOk P w K mg base CX0 1 f fd ["ties","rounds"] (z9 K):=by
 refine F.ok eJ (fun vs H Q E h=>?_) (fun cdv A outer s H vs Q E hr h=>?_)
 ·obtain⟨a,b,xs,ys,es,g,rs,rfl,_⟩:=h;rfl
 obtain⟨a,b,xs,ys,es,g,rs,rfl,hS,hT,few,hB,hR,ro,k⟩:=h;have hu:=BR hr;have fl:=vZ ro
 refine⟨_,(ag (au (i:=2) eJ.nd rfl (Or.inr rfl) lx)
   (ag (bP PassesOwn.never rfl (F1 rfl T.n_enumerate (aa (pv 1) ah)) (nK rfl (bq (aK (i:=3) eJ.nd rfl (Or.inl rfl)) (bq (aK (i:=4) eJ.nd rfl (Or.inl rfl)) iC))) (ao (bP PassesOwn.never rfl (aX (pv 4)) (aK (i:=5) eJ.nd rfl (Or.inl rfl)) (ao (pV hu (pv 2) (pv 5) (pv 3) rfl)))))
   (ao (aN (c8 rfl (fr:=[("number_at",2)]) (by exact bH.one (by rfl) (by decide +kernel) (by rfl) (by decide +kernel) (by rfl) (by decide +kernel) (by rfl) (by rfl) (by decide +kernel) (by rfl)) (b4 rfl T.n_range (aa (aF ay (by rfl) T.n_len bL (aa (pv 0) ah)) ah)) (fun C ex s H=>(cB (aa (u4 hu (pv 1) (av dI ai (pv 0)) (fun _ _=>rfl)) (aa (u4 hu (pv 1) (av bJ (av dI ai (pv 0)) ai) (fun _ _=>rfl)) ah))))))))),?_⟩
 intro q hq;have s1:=ak hq (.dK []);have kF:∀ i,(rs.take i).flatten.length<=rs.flatten.length:=fun i=>by
  have:=congrArg (fun z=>z.flatten.length) (M9 i rs);simp only[NW,MA]at this;omega
 refine⟨_,rfl,b,rfl,⟨_,s1.seq hB⟩,Dy (K:=K) (xs:=ys) (fun i σ H2=>∃ v3 v4 v5 kvs,σ = [some (.ref a),some (.ref b),some (.ref q),v3,v4,v5]/\Same H H2/\H2 q=some (.dK kvs)/\kvs.length<=(rs.take i).flatten.length/\∀(d c:Nat)(r:List Nat),c<i->rs[c]?=some r->d∈r->valV kvs (Sum.inl (d:Int))=some (iV c))
  ⟨_,_,_,[],rfl,s1,ae,NA _,fun d c r z=>absurd z (OD _)⟩ (fun i σ H2 _ ⟨_,_,_,_,_,s2,_⟩=>s2.seq hB) ?_ ?_⟩
 ·rintro i x σ H2 T2 hx ⟨v3,v4,v5,kvs,rfl,s2,e1,kl,km⟩ hT2;have hil:i<rs.length:=by
   have:=(Mw.mp hx).1;rw[hR.1]at this;exact this
  have hr':rs[i]?=some rs[i]:=Mx hil;obtain⟨p,x1,x2⟩:=hR.2 i _ hr';rw[hx]at x1
  cases x1
  generalize rs[i]=r at hr' x2;have s3:Same H (upd H2 T2 (.tup [.int (i:Int),.ref p])):=s2.trans (ak hT2 _);have f1:(rs.take (i+1)).flatten=(rs.take i).flatten++r:=by rw[M1,hr'];simp
  have f2:=kF (i+1);rw[f1,MA]at f2;refine⟨T2,_,rfl,SqT.of ae,rfl,_,_,rfl,_,_,rfl,rfl,?_⟩
  refine⟨_,rfl,p,rfl,⟨_,SqL.of (s3 _ _ x2)⟩,b6 (xs:=r.map iV) (fun j σ H5=>∃ v5 kvs',σ = [some (.ref a),some (.ref b),some (.ref q),some (.int (i:Int)),some (.ref p),v5]/\Same H H5/\H5 q=some (.dK kvs')/\kvs'.length<=(rs.take i).flatten.length+j/\(∀(d c:Nat)(r:List Nat),c<i->rs[c]?=some r->d∈r->valV kvs' (Sum.inl (d:Int))=some (iV c))/\∀ d∈r.take j,valV kvs' (Sum.inl (d:Int))=some (iV i))
   ⟨_,kvs,rfl,s3,ak hT2 _ _ _ e1,kl,km,fun d hd=>by simp at hd⟩ (fun j σ H5 _ ⟨_,_,_,z,_⟩=>SqL.of (z _ _ x2)) ?_ ?_⟩
  ·rintro j x σ H5 hx2 ⟨v5,kvs',rfl,s5,g1,kl5,km5,kn5⟩;rw[ME]at hx2;obtain⟨g,hg,rfl⟩:=M0.mp hx2;have hjl:j<r.length:=(Mw.mp hg).1;refine⟨_,rfl,_,rfl,_,rfl,q,_,rfl,DPut.k (k:=Sum.inl (g:Int)) g1 (ax (by omega)),?_⟩
   refine⟨_,_,rfl,aW s5 hq _,ae,by have:=df kvs' (Sum.inl (g:Int)) (V.int (i:Int));omega,fun d c r' hc hrc hd=>?_,fun d hd=>?_⟩
   ·rw[t8,if_neg (fun z=>?_)]
    ·exact km5 d c r' hc hrc hd
    ·have z':d=g:=by have:=Sum.inl.inj z;omega
     subst z';have:=Mb ro.nd hrc hr' hd (My hg);omega
   ·rw[t8];by_cases z:d=g
    ·subst z;rw[if_pos rfl];rfl
    ·rw[if_neg (fun y=>z (by have:=Sum.inl.inj y;omega))]
     refine kn5 d ?_;rw[M1,hg]at hd;simpa[z] using hd
  ·rintro σ H5 ⟨v5,kvs',rfl,s5,g1,kl5,km5,kn5⟩;rw[MD]at kl5 kn5;rw[Ni]at kn5;refine⟨_,_,_,kvs',rfl,s5,g1,by rw[f1,MA];exact kl5,fun d c r' hc hrc hd=>?_⟩
   by_cases z:c=i
   ·subst z;rw[hr']at hrc
    cases hrc
    exact kn5 d hd
   ·exact km5 d c r' (by omega) hrc hd
 ·rintro σ H2 ⟨v3,v4,v5,kvs,rfl,s2,e1,kl,km⟩;rw[hR.1]at km;have get:∀ d,d<2*es.length->∃ c r,rs[c]?=some r/\d∈r/\valV kvs (Sum.inl (d:Int))=some (iV c):=fun d hd=>by
   obtain⟨r,z1,z2⟩:=NI.mp (ro.all d hd);obtain⟨c,z3⟩:=NF.mp z1;exact⟨c,r,z3,z2,km d c r (Mw.mp z3).1 z3 z2⟩
  have hxl:xs.length=es.length:=hT.1;refine⟨_,rfl,a,xs,rfl,.inl (s2.seq hS),_,rfl,by omega,by omega,tq (fun i zs H3=>Same H2 H3/\nF H3 zs i rs) (by rw[Nc,hxl];exact ND (ax (by omega))) ⟨fun _ _ e=>e,rfl,fun i hi=>absurd hi (OD _)⟩ ?_ ?_⟩
  ·rintro i zs H3 hi ⟨s3,sd⟩;have e0:(0:Int)+(i:Int)=(i:Int):=NO _;rw[e0];rw[Nc,hxl]at hi;obtain⟨c1,r1,z1,z2,z3⟩:=get (2*i) (by omega)
   obtain⟨c2,r2,y1,y2,y3⟩:=get (2*i+1) (by omega)
   have m2:CMul 2 (i:Int):=.inl ⟨by decide,by decide⟩
   have d1:DGet H3 q (V.int (2*(i:Int))) (some (iV c1)):=by
    rw[← z3,show((2*i:Nat):Int)=2*(i:Int) by omega]
    exact DGet.k (k:=Sum.inl (2*(i:Int))) (s3 _ _ e1)
   have d2:DGet H3 q (V.int (2*(i:Int)+1)) (some (iV c2)):=by
    rw[← y3,show((2*i+1:Nat):Int)=2*(i:Int)+1 by omega]
    exact DGet.k (k:=Sum.inl (2*(i:Int)+1)) (s3 _ _ e1)
   refine⟨_,rfl,_,rfl,_,_,rfl,rfl,m2,q,_,rfl,d1,_,rfl,_,rfl,_,_,rfl,rfl,m2,_,_,rfl,rfl,q,_,rfl,d2,(by show 2<=sizeLine;decide),fun t ht=>?_⟩
   have s4:=ak ht (.tup [iV c1,iV c2]);refine⟨s3.trans s4,by rw[MA,sd.1];rfl,fun j hj=>?_⟩
   by_cases z:j=i
   ·subst z;exact⟨t,c1,c2,r1,r2,by rw[← sd.1,MB (MC _),M7];rfl,ae,z1,z2,y1,y2⟩
   ·obtain⟨p,a',b',r,r',w1,w2,w3⟩:=sd.2 j (by omega)
    exact⟨p,a',b',r,r',by rw[MF (by rw[sd.1];omega)];exact w1,s4 _ _ w2,w3⟩
  ·rintro zs H3 hzl ⟨s3,sd⟩ D hD;rw[Nc,hxl]at sd
   exact k D zs _ ((s2.trans s3).trans (ak hD _)) ae ⟨sd.1,fun i hi=>by
    obtain⟨p,a',b',r,r',w1,w2,w3⟩:=sd.2 i hi
    exact⟨p,a',b',r,r',w1,ak hD _ _ _ w2,w3⟩⟩
theorem uG:aG ["self","one","two","strength"] ["self","one","two","strength"] (aj cA):=⟨rfl,rfl,rfl,by decide +kernel,rfl,by decide +kernel,by decide +kernel⟩
theorem Lv{f:Addr}{fd:FuncData} (F:Fun K "__init__" "Tie.__init__" cA f fd):FnOk P w K mg base CX0 1 f fd ["self","one","two","strength"] (sV K):=by
 refine F.ok uG (fun vs H Q E h=>?_) (fun cdv A outer s H vs Q E hr h=>?_)
 ·obtain⟨p,C,dx,a,b,s,rfl,_⟩:=h;rfl
 obtain⟨p,C,dx,a,b,st,rfl,hp,T,hne,ha,hb,hs,k⟩:=h
 refine⟨_,(ag (c7 (aL qg (pv 1) (pv 2) (aV _)) (ao gF) aZ)
   (ag (c7 (PW.pt (rZ (aL F7 (pv 1) ai (aV _)) (nH (aL F7 (pv 2) ai (aV _))))) (ao gF) aZ)
   (ag (c7 (aL F7 (pv 3) ai (aV _)) (ao gF) aZ)
   (ag (nJ (pv 0) (pv 1) rfl)
   (ag (nJ (pv 0) (pv 2) rfl)
   (ao (nJ (pv 0) (pv 3) rfl))))))),?_⟩
 walk_at "rd";refine ite2 (fun c=>absurd (V.int.inj (of_decide_eq_true c)) hne) (fun _=>?_);walk_at "rd";refine ite2 (fun c=>absurd (of_decide_eq_true c) (by omega)) (fun _=>?_)
 walk_at "rd";refine ite2 (fun c=>absurd (of_decide_eq_true c) (by omega)) (fun _=>?_)
 walk_at "rd";refine ite2 (fun c=>absurd (of_decide_eq_true c) (by omega)) (fun _=>?_)
 refine⟨_,rfl,_,rfl,p,C,dx,[],rfl,hp,T.cl,T.n1,(by show 0<1000;decide),?_⟩
 refine⟨_,rfl,_,rfl,p,C,dx,_,rfl,ae,T.cl,T.n2,f1_len a,?_⟩;refine⟨_,rfl,_,rfl,p,C,dx,_,rfl,ae,T.cl,T.n3,f2_len a b,?_⟩;exact k _ ae fun q o e hq=>by rw[aq hq,aq hq,aq hq];exact e
theorem Av:aG ["script","k"] ["script","k"] (aj eh):=⟨rfl,rfl,rfl,by decide +kernel,rfl,by decide +kernel,by decide +kernel⟩
theorem Lz{f:Addr}{fd:FuncData} (F:Fun K "_law_cell" "_law_cell" eh f fd) (T:Txt mg):FnOk P w K mg base CX0 1 f fd ["script","k"] (C2 K):=by
 refine F.ok Av (fun vs H Q E h=>?_) (fun cdv A outer s H vs Q E hr h=>?_)
 ·obtain⟨a,k,ns,rfl,_⟩:=h;rfl
 obtain⟨a,k,ns,rfl,hS,q⟩:=h
 refine⟨_,(ag (c7 (aL F7 (pv 1) (aF ay (by rfl) T.n_len bL (aa (pv 0) ah)) (aV _)) (ao (aN (aE aP (pv 0) (pv 1) (fun _ _=>rfl)))) aZ)
   (ao (aN ai))),?_⟩
 refine⟨_,rfl,_,rfl,a,_,rfl,.inl hS,_,_,rfl,rfl,_,rfl,?_⟩;refine ite2 (fun c=>?_) (fun c=>?_)
 ·have c':(k:Int)<((ns.map V.int).length:Int):=of_decide_eq_true c
  rw[MD]at c';have hk:k<ns.length:=by omega
  have hat:atI (ns.map V.int) (k:Int)=some (.int (oY ns k)):=aM (by rw[ME,Mx hk];unfold oY;rw[NJ,Mx hk];rfl)
  exact⟨_,rfl,_,rfl,a,_,_,_,rfl,rfl,hS,hat,q⟩
 ·have c':¬ (k:Int)<((ns.map V.int).length:Int):=fun z=>c (decide_eq_true z)
  rw[MD]at c';have e:oY ns k=0:=by unfold oY;rw[NJ,OG (by omega)];rfl
  rw[e]at q;exact q
theorem at0{u v:V}:atI [u,v] 0=some u:=rfl
theorem at1{u v:V}:atI [u,v] 1=some v:=rfl
theorem LJ{H:Hp}{a:Addr}{ps:List Nat}(h:SqL K H a (ps.map iV)):RdD K H (.ref a) (.list ((ps.map fun(p:Nat)=>((p:Nat):Int)).map PyData.int)):=by
 refine RdD.lst h (by simp) fun i x d e1 e2=>?_
 rw[ME]at e1;rw[ME,ME]at e2
 cases z:ps[i]? with
 |none=>rw[z]at e1;cases e1
 |some n =>
  rw[z]at e1 e2
  cases e1
  cases e2
  exact .int _
theorem G8(l:List Int):(PyData.list (l.map PyData.int)).canLay0=true/\(PyData.list (l.map PyData.int)).depth<=10:=by
 have h1:∀ d∈l.map PyData.int,d.canLay0=true/\d.depth<=1:=fun d hd=>by
  obtain⟨x,_,rfl⟩:=MR.mp hd;exact⟨by simp[PyData.canLay0],by simp[PyData.depth]⟩
 have h2:=i0 fun d hd=>(h1 d hd).1;have h3:=kJ fun d hd=>(h1 d hd).2;exact⟨by simp only[PyData.canLay0];exact h2,by simp only[PyData.depth];omega⟩
theorem qH(l:List Int):SeqAt.shaped (.list (l.map PyData.int))=true:=j9 fun d hd=>by
 obtain⟨x,_,rfl⟩:=MR.mp hd;exact⟨by simp[PyData.canLay0],by simp[PyData.depth]⟩
theorem cF.put{H:Hp}{ys:List V}{es:En}{q:Addr}{zs:List V}{o:HO}(t:cF H ys es)(h:H q=some (.lst zs)):cF (upd H q o) ys es:=⟨t.1,fun i e z=>by
 obtain⟨p,a,b⟩:=t.2 i e z;refine⟨p,a,?_⟩;rw[aq (fun z=>by rw[z,h]at b;cases b)]
 exact b⟩
theorem cF.snoc{H:Hp}{xs:List V}{es:En}{e:Nat×Nat}{p:Addr}(t:cF H xs es)(h:H p=some (.tup [iV e.1,iV e.2])):cF H (xs++[.ref p]) (es++[e]):=by
 refine⟨by rw[MA,MA,t.1];rfl,fun j k ej=>?_⟩
 by_cases hj:j<es.length
 ·rw[MF hj]at ej;obtain⟨p,a1,a2⟩:=t.2 j k ej;exact⟨p,by rw[MF (by rw[t.1];exact hj)];exact a1,a2⟩
 ·rw[MB (by omega)]at ej
  have hj2:j=es.length:=by
   have:=(Mw.mp ej).1;rw[MJ]at this;omega
  subst hj2;rw[M7]at ej
  cases ej
  exact⟨p,by rw[← t.1,MB (MC _),M7];rfl,h⟩
theorem LS{l:List Nat}{k n:Nat}:(ins l k n).length=l.length+1:=by
 unfold ins;rw[MA,Nb,Nf,Nu];omega
theorem Kh(X:Int)(n:Nat):0<=X%((n:Int)+1)/\X%((n:Int)+1)<=(n:Int):=⟨Og _ (by omega),by have:=Oc X (show(0:Int)<(n:Int)+1 by omega);omega⟩
def Dist(xs:List V):Prop:=∀(i j:Nat)(p:Addr),xs[i]?=some (.ref p)->xs[j]?=some (.ref p)->i=j
theorem cQ.set{S:Addr->Prop}{H:Hp}{xs:List V}{ts:List (List Nat)}{i:Nat}{p:Addr}{l':List Nat}(h:cQ S H xs ts)(D:Dist xs)(e:xs[i]?=some (.ref p)):cQ S (upd H p (.lst (l'.map iV))) xs (ts.set i l'):=by
 refine⟨by rw[Nt];exact h.1,fun j l z=>?_⟩
 have hi:i<ts.length:=by rw[← h.1];exact(Mw.mp e).1
 rw[Nr]at z;by_cases hj:i=j
 ·subst hj;rw[if_pos rfl,if_pos hi]at z
  cases z
  obtain⟨p',a1,a2,a3⟩:=h.2 i _ (Mx hi);rw[e]at a1
  cases a1
  exact⟨p,e,a2,ae⟩
 ·rw[if_neg hj]at z;obtain⟨p',a1,a2,a3⟩:=h.2 j l z;exact⟨p',a1,a2,by rw[aq (fun y=>by rw[y]at a1;exact hj (D i j p e a1))];exact a3⟩
theorem insV{l:List Nat}{k n:Nat}:(l.map iV).take k++V.int (n:Int)::(l.map iV).drop k=(ins l k n).map iV:=by
 unfold ins;rw[M8,Nh,QF,P7];rfl
theorem FP{H:Hp}{a:Addr}{xs:List V}{ts:List (List Nat)}(h:SqL K H a xs)(hR:bM H xs ts):RdD K H (.ref a) (.list (ts.map fun l=>PyData.list ((l.map fun(p:Nat)=>((p:Nat):Int)).map PyData.int))):=by
 refine RdD.lst h (by rw[MD];exact hR.1) fun i x d e1 e2=>?_
 rw[ME]at e2;obtain⟨l,hl,rfl⟩:=M0.mp e2;obtain⟨p,a1,a2⟩:=hR.2 i l hl;rw[e1]at a1
 cases a1
 exact LJ (SqL.of a2)
theorem Az(ts:List (List Nat)):SeqAt.shaped (.list (ts.map fun l=>PyData.list ((l.map fun(p:Nat)=>((p:Nat):Int)).map PyData.int)))=true:=j9 fun d hd=>by
 obtain⟨l,_,rfl⟩:=MR.mp hd;exact G8 _
end
end K8
namespace K8
open PySem L2
local macro_rules | `(tactic| walk_at "cc") => `(tactic| first | exact ⟨by decide, by decide⟩ | (show (0 : Int) < _; decide) | (show (0 : Int) < _; omega) | (show (0 : Int) ≤ _; omega) | exact ⟨by decide, by decide, by decide⟩ | exact ⟨by omega, by omega, by decide⟩ | exact Or.inl ⟨by decide, by decide⟩ | exact Or.inl ⟨by omega, by omega⟩)
local macro_rules | `(tactic| walk_at "rd") => `(tactic| repeat (first | refine ⟨_, rfl, ?_⟩ | refine ⟨_, _, rfl, rfl, ?_⟩ | refine ⟨rfl, ?_⟩ | (refine ⟨?cc, ?_⟩; (case cc => walk_at "cc"))))
def um(K:Mz):Sp:=fun vs H Q _=>∃(a:Addr)(ys:List V)(es:En)(d:Nat),vs = [.ref a,.int (d:Int)]/\SqL K H a ys/\cF H ys es/\d<2*es.length/\Q (iV (hd es d)) H
def uk(K:Mz):Sp:=fun vs H Q _=>∃(a b:Addr)(ys xs:List V)(m:Nat)(es:En)(ts:List (List Nat))(d:Nat),vs = [.ref a,.ref b,.int (d:Int)]/\SqL K H a ys/\cF H ys es/\SqL K H b xs/\bM H xs ts/\bC m es ts/\es.length<=62/\d<2*es.length /\
 ∀ q r H',Same H H'->H q=none->H' q=some (.lst (r.map iV))->Path (fol es ts) (2*es.length) d r->Ring (fol es ts) (2*es.length) r->Q (.ref q) H'
section
variable{P:Program}{w:World}{K:Mz}{mg:Str->Option Value}{base:Heap}
theorem Au:aG ["ends","dart"] ["ends","dart"] (aj eg):=⟨rfl,rfl,rfl,by decide +kernel,rfl,by decide +kernel,by decide +kernel⟩
theorem Jq{f:Addr}{fd:FuncData} (F:Fun K "_law_head" "_law_head" eg f fd):FnOk P w K mg base CX0 1 f fd ["ends","dart"] (um K):=by
 refine F.ok Au (fun vs H Q E h=>?_) (fun cdv A outer s H vs Q E hr h=>?_)
 ·obtain⟨a,ys,es,d,rfl,_⟩:=h;rfl
 obtain⟨a,ys,es,d,rfl,hS,hE,hdl,k⟩:=h;have hl:d/2<es.length:=by omega
 have e1:es[d/2]?=some es[d/2]:=Mx hl;obtain⟨p,x1,x2⟩:=hE.2 _ _ e1;have hh:hd es d=if d%2=0 then es[d/2].2 else es[d/2].1:=by unfold hd;rw[e1]
 have ed:(d:Int)/2=((d/2:Nat):Int):=by omega
 have hat:atI [iV es[d/2].1,iV es[d/2].2] (1-(d:Int)%2)=some (iV (hd es d)):=by
  by_cases z:d%2=0
  ·rw[hh,if_pos z,show(1-(d:Int)%2)=1 by omega];rfl
  ·rw[hh,if_neg z,show(1-(d:Int)%2)=0 by omega];rfl
 refine⟨_,(ao (aN (aE aH (aE aP (pv 0) (av dw (pv 1) ai) (fun _ _=>rfl)) (av pZ ai (av bI (pv 1) ai)) (fun _ _=>rfl)))),?_⟩;exact⟨_,rfl,_,rfl,_,_,rfl,rfl,⟨by decide,by decide⟩,a,ys,_,_,rfl,rfl,hS,(by rw[ed];exact aM x1),_,rfl,_,_,rfl,rfl,(by show(0:Int)<2;decide),_,_,rfl,rfl,p,_,_,_,rfl,rfl,SqT.of x2,hat,k⟩
theorem dR:aG ["ends","turns","dart","place","row","tie"] ["ends","turns","dart"] (aj cx):=⟨rfl,rfl,rfl,by decide +kernel,rfl,by decide +kernel,by decide +kernel⟩
theorem Ea{f fh:Addr}{fd fdh:FuncData} (F:Fun K "_law_behind" "_law_behind" cx f fd) (T:Txt mg) (G_law_head:Cal P w K mg base 1 "_law_head" ["ends","dart"] (um K) fh fdh):FnOk P w K mg base CX0 2 f fd ["ends","turns","dart"] (ur K):=by
 refine F.ok dR (fun vs H Q E h=>?_) (fun cdv A outer s H vs Q E hr h=>?_)
 ·obtain⟨a,b,ys,xs,m,es,ts,d,rfl,_⟩:=h;rfl
 obtain⟨a,b,ys,xs,m,es,ts,d,rfl,hS,hE,hB,hR,w',few,hdl,kk⟩:=h;obtain⟨l,e,p1,p2,p3,p4,p5,p6,p7,p8,p9⟩:=w'.foll hdl;obtain⟨small,len⟩:=js w' few p1;obtain⟨q,y1,y2⟩:=hR.2 _ _ p1;obtain⟨p',x1',x2'⟩:=hE.2 _ _ p3;have ed:(d:Int)/2=((d/2:Nat):Int):=by omega
 have hl0:0<l.length:=O5 p2;have hlen:(l.map iV).length=l.length:=MD _;have hmod:(((l.idxOf (d/2):Nat):Int)+1)%((l.map iV).length:Int)=(((l.idxOf (d/2)+1)%l.length:Nat):Int):=by rw[hlen];rfl
 have m2:CMul 2 ((nxt l (d/2):Nat):Int):=.inl ⟨by decide,by decide⟩
 refine⟨_,(ag (au (i:=3) dR.nd rfl (Or.inl rfl) (ar G_law_head.ok (hr.mono (by decide)) rfl G_law_head.mg G_law_head.kp G_law_head.bn .nil aR (aa (pv 0) (aa (pv 2) ah))))
   (ag (au (i:=4) dR.nd rfl (Or.inl rfl) (aE aP (pv 1) (pv 3) (fun _ _=>rfl)))
   (ag (au (i:=5) dR.nd rfl (Or.inl rfl) (aE aP (pv 4) (av bI (av bJ (fX M5 OW OV pj (pv 4) (aa (av dw (pv 2) ai) ah)) ai) (aF ay (by rfl) T.n_len bL (aa (pv 4) ah))) (fun _ _=>rfl)))
   (ao (aN (av bJ (av dI ai (pv 5)) (dq Ia (by rfl) T.n_int Ks (aa (AV qd (aE aH (aE aP (pv 0) (pv 5) (fun _ _=>rfl)) ai (fun _ _=>rfl)) (pv 3) (aV _)) ah)))))))),?_⟩
 refine⟨_,rfl,_,rfl,a,ys,es,d,rfl,hS,hE,hdl,?_⟩;refine⟨_,rfl,_,rfl,b,xs,_,_,rfl,rfl,hB,aM y1,?_⟩;refine⟨_,rfl,_,rfl,.inl ⟨rfl,_,SqL.of y2⟩,_,rfl,_,_,rfl,rfl,⟨by decide,by decide⟩,q,l,d/2,rfl,congrArg (fun z=>[V.int z]) ed,SqL.of y2,fun p hp=>by have:=small p hp;omega,by omega,p2,_,_,rfl,rfl,_,rfl,q,_,rfl,.inl (SqL.of y2),_,_,rfl,rfl,(by show(0:Int)<((l.map iV).length:Int);rw[hlen];omega),q,_,_,_,rfl,rfl,SqL.of y2,(by rw[hmod];exact LV (iD p2)),?_⟩
 refine⟨_,rfl,_,_,rfl,rfl,m2,_,rfl,_,rfl,a,ys,_,_,rfl,rfl,hS,aM x1',p',_,0,_,rfl,rfl,SqT.of x2',at0,_,rfl,rfl,.inr ⟨_,rfl,_,_,rfl,rfl,?_⟩⟩;rw[p6]at kk;by_cases c:e.1=hd es d
 ·rw[if_pos c]at kk;rw[decide_eq_true (congrArg iV c)];simpa[iV] using kk
 ·rw[if_neg c]at kk;rw[decide_eq_false (fun z=>c (by have:=V.int.inj z;omega))]
  simpa[iV] using kk
theorem fu:aG ["ends","turns","dart","row","at"] ["ends","turns","dart"] (aj cV):=⟨rfl,rfl,rfl,by decide +kernel,rfl,by decide +kernel,by decide +kernel⟩
theorem Gi{f ff:Addr}{fd fdf:FuncData} (F:Fun K "_law_round" "_law_round" cV f fd) (G_law_behind:Cal P w K mg base 2 "_law_behind" ["ends","turns","dart"] (ur K) ff fdf):FnOk P w K mg base CX0 3 f fd ["ends","turns","dart"] (uk K):=by
 refine F.ok fu (fun vs H Q E h=>?_) (fun cdv A outer s H vs Q E hr h=>?_)
 ·obtain⟨a,b,ys,xs,m,es,ts,d,rfl,_⟩:=h;rfl
 obtain⟨a,b,ys,xs,m,es,ts,d,rfl,hS,hE,hB,hR,w',few,hdl,k⟩:=h;have pm:=perm w'
 refine⟨_,(ag (au (i:=3) fu.nd rfl (Or.inl rfl) (dH (aa (pv 2) ah)))
   (ag (au (i:=4) fu.nd rfl (Or.inl rfl) (ar G_law_behind.ok (hr.mono (by decide)) rfl G_law_behind.mg G_law_behind.kp G_law_behind.bn .nil aR (aa (pv 0) (aa (pv 1) (aa (pv 2) ah)))))
   (ag (uK PassesOwn.never (aL qd (pv 4) (pv 2) (aV _)) (ag (bt (fX M5 Np Nn br (pv 3) (aa (pv 4) ah)))
   (ao (au (i:=4) fu.nd rfl (Or.inl rfl) (ar G_law_behind.ok (hr.mono (by decide)) rfl G_law_behind.mg G_law_behind.kp G_law_behind.bn .nil aR (aa (pv 0) (aa (pv 1) (aa (pv 4) ah))))))))
   (ao (aN (pv 3)))))),?_⟩
 refine⟨_,rfl,(by show 1<=sizeLine;decide),fun q hq=>?_⟩
 have s1:=ak hq (.lst [.int (d:Int)]);refine⟨_,rfl,_,rfl,_,rfl,a,b,ys,xs,m,es,ts,d,rfl,s1.seq hS,hE.mono s1,s1.seq hB,hR.mono s1,w',few,hdl,?_⟩;refine tW (fun σ H2=>∃(r:List Nat)(x:Nat),σ = [some (.ref a),some (.ref b),some (.int (d:Int)),some (.ref q),some (iV (fol es ts x))]/\Same H H2/\H2 q=some (.lst ((r++[x]).map iV))/\Path (fol es ts) (2*es.length) d (r++[x]))
  (fun σ H2=>match H2 q with | some (.lst xs)=>200-xs.length | _=>0) ⟨[],d,rfl,s1,ae,C6 hdl⟩ ?_ ?_
 ·rintro σ H2 ⟨r,x,rfl,s2,hq2,pa⟩;refine⟨_,rfl,_,rfl,rfl,_,rfl,?_⟩;have hlen:=eO pa.nd pa.lt;refine ite2 (fun c=>?_) (fun c=>?_)
  ·have c':fol es ts x≠d:=fun z=>by
    rw[decide_eq_true (show iV (fol es ts x)=V.int (d:Int) by rw[z];rfl)]at c
    cases c
   have pa2:=pa.snoc pm c';have hlen2:=eO pa2.nd pa2.lt;have lt2:fol es ts x<2*es.length:=pa2.lt _ (by simp)
   refine⟨_,rfl,.inl ⟨rfl,_,SqL.of hq2⟩,_,rfl,q,_,_,rfl,rfl,hq2,ax (by rw[MD];omega),?_⟩
   have s3:=aW s2 hq (.lst ((r++[x]).map iV++[iV (fol es ts x)]));refine⟨_,rfl,_,rfl,_,rfl,a,b,ys,xs,m,es,ts,fol es ts x,rfl,s3.seq hS,hE.mono s3,s3.seq hB,hR.mono s3,w',few,lt2,?_⟩;refine⟨⟨r++[x],fol es ts x,rfl,s3,?_,pa2⟩,?_⟩
   ·rw[ae,show((r++[x]++[fol es ts x]).map iV)=(r++[x]).map iV++[iV (fol es ts x)] from by rw[M8];rfl]
   ·show(match(upd H2 q (.lst ((r++[x]).map iV++[iV (fol es ts x)]))) q with | some (.lst xs)=>200-xs.length | _=>0)<(match H2 q with | some (.lst xs)=>200-xs.length | _=>0)
    rw[ae,hq2];show 200-((r++[x]).map iV++[iV (fol es ts x)]).length<200-((r++[x]).map iV).length;rw[MA,MD,MJ];omega
  ·have c':fol es ts x=d:=by
    by_cases z:fol es ts x=d
    ·exact z
    ·exact absurd (by rw[decide_eq_false (fun y=>z (by have:=V.int.inj y;omega))];rfl) c
   refine⟨_,rfl,?_⟩;exact k q _ H2 s2 hq hq2 pa (pa.ring pm c')
 ·rintro σ H2 Q1 Q2 hi ⟨v',e,b',e2,z1,c',e3,q'⟩;exact⟨v',e,b',e2,z1,c',e3,hi _ _ q'⟩
end
end K8
namespace K8
open PySem L2
local macro_rules | `(tactic| walk_at "cc") => `(tactic| first | exact ⟨by decide, by decide⟩ | (show (0 : Int) < _; decide) | (show (0 : Int) < _; omega) | (show (0 : Int) ≤ _; omega) | exact ⟨by decide, by decide, by decide⟩ | exact ⟨by omega, by omega, by decide⟩ | exact Or.inl ⟨by decide, by decide⟩ | exact Or.inl ⟨by omega, by omega⟩)
local macro_rules | `(tactic| walk_at "rd") => `(tactic| repeat (first | refine ⟨_, rfl, ?_⟩ | refine ⟨_, _, rfl, rfl, ?_⟩ | refine ⟨rfl, ?_⟩ | (refine ⟨?cc, ?_⟩; (case cc => walk_at "cc"))))
def ui:Sp:=fun vs H Q _=>∃(c:Int)(m:Nat),vs = [.int c,.int (m:Int)]/\m<=100/\∀(q:Addr)(o:List Nat)(H':Hp),Same H H'->H q=none->H' q=some (.lst (o.map iV))->o.length=m->o.Nodup->(∀ x∈o,x<m)->Q (.ref q) H'
def Ae(K:Mz):Sp:=fun vs H Q _=>∃(a:Addr)(cs:List Int),vs = [.ref a]/\SqL K H a (cs.map V.int)/\cs.length<=8 /\
 ∀(t pe pt:Addr)(ys xs:List V)(m:Nat)(es:En)(ts:List (List Nat))(H':Hp),Same H H'->H' t=some (.tup [.ref pe,.ref pt])->H' pe=some (.lst ys)->cF H' ys es->H' pt=some (.lst xs)->bM H' xs ts->Gr m es ts->es.length=cs.length+1->Q (.ref t) H'
def Mv(H:Hp)(a pe pt:Addr)(i:Nat)(σ:St)(H5:Hp):Prop:=∃ v3 v4 v5 v6 v7 v8 v9 v10 ys xs m es ts,σ = [some (.ref a),some (.ref pe),some (.ref pt),v3,v4,v5,v6,v7,v8,v9,v10]/\Same H H5/\H5 pe=some (.lst ys)/\cF H5 ys es/\H5 pt=some (.lst xs)/\cQ (fun p=>p=pe∨p=pt∨H p≠none) H5 xs ts/\Dist xs/\Gr m es ts/\es.length=i+1
theorem pC{H H7:Hp}{a pe pt:Addr}{i m':Nat}{ys xs:List V}{es:En}{e:Nat×Nat}{ts':List (List Nat)}(npe:pe≠pt)(hpe:H pe=none)(s7:Same H H7)(h1:H7 pe=some (.lst ys))(h2:cF H7 ys es)(h3:H7 pt=some (.lst xs))(h4:cQ (fun p=>p=pe∨p=pt∨H p≠none) H7 xs ts')(h5:Dist xs)(h6:Gr m' (es++[e]) ts')(hi:es.length=i+1)
  {t:Addr} (ht:H7 t=none) {x y:V} (hx:x=iV e.1) (hy:y=iV e.2) (v3 v4 v5 v6 v7 v8 v9 v10:Option V):Mv H a pe pt (i+1) [some (.ref a),some (.ref pe),some (.ref pt),v3,v4,v5,v6,v7,v8,v9,v10] (upd (upd H7 t (.tup [x,y])) pe (.lst (ys++[.ref t]))):=by
 subst hx hy;have sn:=ak ht (.tup [iV e.1,iV e.2]);refine⟨_,_,_,_,_,_,_,_,_,xs,m',es++[e],ts',rfl,aW (s7.trans sn) hpe _,ae,((h2.mono sn).snoc ae).put (sn _ _ h1),by rw[aq npe.symm];exact sn _ _ h3,h4.mono fun p o n z=>?_,h5,h6,by rw[MA,hi];rfl⟩
 rw[aq (fun z=>n (.inl z))];exact sn _ _ z
theorem yK{S:Addr->Prop}{H:Hp}{xs:List V}{ts:List (List Nat)}{q:Addr}(h:cQ S H xs ts)(D:Dist xs)(hq:H q=none):Dist (xs++[.ref q]):=by
 have old:∀(j:Nat)(p:Addr),j<xs.length->(xs++[V.ref q])[j]?=some (.ref p)->xs[j]?=some (.ref p)/\p≠q:=fun j p hj e=>by
  rw[MF hj]at e;obtain⟨p',a1,_,a3⟩:=h.2 j _ (Mx (by rw[← h.1];exact hj))
  rw[e]at a1
  cases a1
  exact⟨e,aw a3 hq⟩
 have new:∀(j:Nat)(p:Addr),¬ j<xs.length->(xs++[V.ref q])[j]?=some (.ref p)->j=xs.length/\p=q:=fun j p hj e=>by
  have:=(Mw.mp e).1;rw[MA,MJ]at this;have hj2:j=xs.length:=by omega
  subst hj2;rw[MB (MC _),M7]at e
  cases e
  exact⟨rfl,rfl⟩
 intro j k p e1 e2;by_cases hj:j<xs.length
 ·obtain⟨u1,u2⟩:=old j p hj e1;by_cases hk:k<xs.length
  ·exact D j k p u1 (old k p hk e2).1
  ·exact absurd (new k p hk e2).2 u2
 ·obtain⟨u1,u2⟩:=new j p hj e1;by_cases hk:k<xs.length
  ·exact absurd u2 (old k p hk e2).2
  ·rw[u1,(new k p hk e2).1]
theorem Dw{m:Nat}{es:En}{ts:List (List Nat)}(g:Gr m es ts):m<=es.length+2:=by
 obtain⟨rs,_,c⟩:=g.part;omega
section
variable{P:Program}{w:World}{K:Mz}{mg:Str->Option Value}{base:Heap}
theorem dm:aG ["cell","many","order","mixed","k"] ["cell","many"] (aj cW):=⟨rfl,rfl,rfl,by decide +kernel,rfl,by decide +kernel,by decide +kernel⟩
theorem Jp{f:Addr}{fd:FuncData} (F:Fun K "_law_order" "_law_order" cW f fd) (T:Txt mg):FnOk P w K mg base CX0 1 f fd ["cell","many"] ui:=by
 refine F.ok dm (fun vs H Q E h=>?_) (fun cdv A outer s H vs Q E hr h=>?_)
 ·obtain⟨c,m,rfl,_⟩:=h;rfl
 obtain⟨c,m,rfl,hm,k⟩:=h
 refine⟨_,(ag (au (i:=2) dm.nd rfl (Or.inl rfl) (dH ah))
   (ag (au (i:=3) dm.nd rfl (Or.inl rfl) (av bI (pv 0) ai))
   (ag (bP PassesOwn.never rfl (b4 rfl T.n_range (aa (pv 1) ah)) (aK (i:=4) dm.nd rfl (Or.inl rfl)) (ag (au (i:=3) dm.nd rfl (Or.inl rfl) (av bI (av dI (pv 3) ai) ai))
   (ao (bt (fX M5 Pt Pq qk (pv 2) (aa (av bI (pv 3) (av bJ (pv 4) ai)) (aa (pv 4) ah)))))))
   (ao (aN (pv 2)))))),?_⟩
 refine⟨(by show 0<=sizeLine;decide),fun q hq=>?_⟩
 refine⟨_,rfl,_,_,rfl,rfl,(by show(0:Int)<1000000007;decide),?_⟩
 refine⟨_,rfl,_,rfl,by omega,by omega,dv (n:=(m:Int).toNat) (fun i σ H2=>∃(M:Int),∃ v4 o,σ = [some (.int c),some (.int (m:Int)),some (.ref q),some (.int M),v4]/\Same H H2/\H2 q=some (.lst (o.map iV))/\o.length=i/\o.Nodup/\∀ x∈o,x<i) ⟨_,_,[],rfl,ak hq _,ae,rfl,OO,fun x hx=>nomatch hx⟩ ?_ ?_⟩
 ·rintro i σ H2 hi ⟨M,v4,o,rfl,s2,hq2,ol,nd,lt⟩;rw[Nc]at hi;have e0:(0:Int)+(i:Int)=(i:Int):=NO _;rw[e0];have hlen:(o.map iV).length=i:=by rw[MD];exact ol
  refine⟨_,rfl,_,_,rfl,rfl,.inr ⟨by decide,by decide⟩,_,_,rfl,rfl,(by show(0:Int)<2147483647;decide),?_⟩
  refine⟨_,rfl,.inl ⟨rfl,_,SqL.of hq2⟩,_,rfl,_,rfl,_,_,rfl,rfl,_,_,rfl,rfl,(by show(0:Int)<(i:Int)+1;omega),_,rfl,q,_,_,_,rfl,rfl,hq2,(Kh _ _).1,(by rw[hlen];exact(Kh _ _).2),ax (by omega),?_⟩
  rw[insV];refine⟨_,_,_,rfl,aW s2 hq _,ae,by rw[LS,ol],Hc nd fun z=>by have:=lt i z;omega,fun x hx=>?_⟩
  rcases BP.mp hx with z | z
  ·omega
  ·have:=lt x z;omega
 ·rintro σ H2 ⟨M,v4,o,rfl,s2,hq2,ol,nd,lt⟩;rw[Nc]at ol lt;exact⟨_,rfl,k q o H2 s2 hq hq2 ol nd lt⟩
theorem aU:aG ["cells","ends","turns","cell","mixed","fresh","left","row","right","one","two"] ["cells"] (aj cX):=⟨rfl,rfl,rfl,by decide +kernel,rfl,by decide +kernel,by decide +kernel⟩
theorem Jr{f fr fh:Addr}{fd fdr fdh:FuncData} (F:Fun K "_law_grown" "_law_grown" cX f fd) (T:Txt mg) (G_law_round:Cal P w K mg base 3 "_law_round" ["ends","turns","dart"] (uk K) fr fdr) (G_law_head:Cal P w K mg base 1 "_law_head" ["ends","dart"] (um K) fh fdh) :
  FnOk P w K mg base CX0 4 f fd ["cells"] (Ae K):=by
 refine F.ok aU (fun vs H Q E h=>?_) (fun cdv A outer s H vs Q E hr h=>?_)
 ·obtain⟨a,cs,rfl,_⟩:=h;rfl
 obtain⟨a,cs,rfl,hS,h30,kk⟩:=h;have hcl:(cs.map V.int).length=cs.length:=MD _
 refine⟨_,(ag (au (i:=1) aU.nd rfl (Or.inl rfl) (dH (aa (cB (aa ai (aa ai ah))) ah)))
   (ag (au (i:=2) aU.nd rfl (Or.inl rfl) (dH (aa (dH (aa ai ah)) (aa (dH (aa ai ah)) ah))))
   (ag (bP PassesOwn.never rfl (aX (pv 0)) (aK (i:=3) aU.nd rfl (Or.inl rfl)) (ag (au (i:=4) aU.nd rfl (Or.inl rfl) (av bI (av dI (av bI (pv 3) ai) ai) ai))
   (ag (au (i:=5) aU.nd rfl (Or.inl rfl) (aF ay (by rfl) T.n_len bL (aa (pv 1) ah)))
   (ag (au (i:=6) aU.nd rfl (Or.inl rfl) (av bI (av dw (pv 4) ai) (av dI ai (pv 5))))
   (ag (au (i:=7) aU.nd rfl (Or.inl rfl) (ar G_law_round.ok (hr.mono (by decide)) rfl G_law_round.mg G_law_round.kp G_law_round.bn .nil aR (aa (pv 1) (aa (pv 2) (aa (pv 6) ah)))))
   (ag (au (i:=8) aU.nd rfl (Or.inl rfl) (aE aP (pv 7) (av bI (av bI (av dI (pv 4) (pv 4)) ai) (aF ay (by rfl) T.n_len bL (aa (pv 7) ah))) (fun _ _=>rfl)))
   (ag (au (i:=9) aU.nd rfl (Or.inl rfl) (ar G_law_head.ok (hr.mono (by decide)) rfl G_law_head.mg G_law_head.kp G_law_head.bn .nil aR (aa (pv 1) (aa (pv 6) ah))))
   (ag (au (i:=10) aU.nd rfl (Or.inl rfl) (ar G_law_head.ok (hr.mono (by decide)) rfl G_law_head.mg G_law_head.kp G_law_head.bn .nil aR (aa (pv 1) (aa (pv 8) ah))))
   (ag (bt (fX M5 Pt Pq qk (aE aP (pv 2) (pv 9) (fun _ _=>rfl)) (aa (av bJ (fX M5 OW OV pj (aE aP (pv 2) (pv 9) (fun _ _=>rfl)) (aa (av dw (pv 6) ai) ah)) ai) (aa (pv 5) ah))))
   (ag (c7 (PW.pt (rZ (aL qg (av bI (pv 4) ai) ai (aV _)) (nH (aL qg (pv 9) (pv 10) (aV _))))) (ag (au (i:=10) aU.nd rfl (Or.inl rfl) (aF ay (by rfl) T.n_len bL (aa (pv 2) ah)))
   (ao (bt (fX M5 Np Nn br (pv 2) (aa (dH (aa (pv 5) ah)) ah))))) (ao (bt (fX M5 Pt Pq qk (aE aP (pv 2) (pv 10) (fun _ _=>rfl)) (aa (av bJ (fX M5 OW OV pj (aE aP (pv 2) (pv 10) (fun _ _=>rfl)) (aa (av dw (pv 8) ai) ah)) ai) (aa (pv 5) ah))))))
   (ao (c7 (aL qg (av bI (av dw (pv 3) ai) ai) ai (aV _)) (ao (bt (fX M5 Np Nn br (pv 1) (aa (cB (aa (pv 10) (aa (pv 9) ah))) ah)))) (ao (bt (fX M5 Np Nn br (pv 1) (aa (cB (aa (pv 9) (aa (pv 10) ah))) ah))))))))))))))))
   (ao (aN (cB (aa (pv 1) (aa (pv 2) ah)))))))),?_⟩
 refine⟨(by show 2<=sizeLine;decide),fun t0 ht0=>⟨(by show 1<=sizeLine;decide),fun pe hpe=>?_⟩⟩
 have s1:=ak ht0 (.tup [.int 0,.int 1]);have s2:=s1.trans (ak hpe (.lst [.ref t0]));refine⟨(by show 1<=sizeLine;decide),fun p0 hp0=>⟨(by show 1<=sizeLine;decide),fun p1 hp1=>⟨(by show 2<=sizeLine;decide),fun pt hpt=>?_⟩⟩⟩
 have s3:=ak hp0 (.lst [.int 0]);have s4:=ak hp1 (.lst [.int 0]);have s5:=ak hpt (.lst [.ref p0,.ref p1]);have s05:=((s2.trans s3).trans s4).trans s5;have none_of:∀{G:Hp}{p:Addr},Same H G->G p=none->H p=none:=fun{G p} sm z=>by
  cases y:H p with
  |none=>rfl
  |some o=>rw[sm _ _ y]at z;cases z
 have hpe0:=none_of s1 hpe;have hpt0:=none_of ((s2.trans s3).trans s4) hpt;have hp00:=none_of s2 hp0;have hp10:=none_of (s2.trans s3) hp1;have g1:=s3.trans (s4.trans s5);have hpe5:=g1 _ _ (ae (H:=upd H t0 (.tup [.int 0,.int 1])) (a:=pe) (o:=.lst [.ref t0]));have hp05:=(s4.trans s5) _ _ (ae (a:=p0) (o:=.lst [.int 0]));have hp15:=s5 _ _ (ae (a:=p1) (o:=.lst [.int 0]));have n01:p0≠p1:=aw (ae (a:=p0) (o:=.lst [.int 0])) hp1;have npe:pe≠pt:=aw ((s3.trans s4) _ _ (ae (a:=pe) (o:=.lst [.ref t0]))) hpt;have n0e:p0≠pe:=fun z=>by rw[z,ae]at hp0;cases hp0
 have n1e:p1≠pe:=fun z=>by rw[z,s3 _ _ (ae (a:=pe) (o:=.lst [.ref t0]))]at hp1;cases hp1
 have n0t:p0≠pt:=aw (s4 _ _ (ae (a:=p0) (o:=.lst [.int 0]))) hpt;have n1t:p1≠pt:=aw (ae (a:=p1) (o:=.lst [.int 0])) hpt;have init:Mv H a pe pt 0 [some (.ref a),some (.ref pe),some (.ref pt),none,none,none,none,none,none,none,none] (upd (upd (upd (upd (upd H t0 (.tup [.int 0,.int 1])) pe (.lst [.ref t0])) p0 (.lst [.int 0])) p1 (.lst [.int 0])) pt (.lst [.ref p0,.ref p1])):=by
  refine⟨_,_,_,_,_,_,_,_,[.ref t0],[.ref p0,.ref p1],2,[(0,1)],[[0],[0]],rfl,s05,hpe5,⟨rfl,fun i e z=>?_⟩,ae,⟨rfl,fun i l z=>?_⟩,fun i j p z1 z2=>?_,gr_two,rfl⟩
  ·match i,z with
   |0,z=>cases z;exact⟨t0,rfl,((ak hpe _).trans g1) _ _ ae⟩
   |i+1,z=>cases z
  ·match i,z with
   |0,z=>cases z;exact⟨p0,rfl,by rintro(y | y | y);exact n0e y;exact n0t y;exact y hp00,hp05⟩
   |1,z=>cases z;exact⟨p1,rfl,by rintro(y | y | y);exact n1e y;exact n1t y;exact y hp10,hp15⟩
   |i+2,z=>cases z
  ·match i,z1,j,z2 with
   |0,z1,0,z2=>rfl
   |1,z1,1,z2=>rfl
   |0,z1,1,z2=>cases z1;cases z2;exact absurd rfl n01
   |1,z1,0,z2=>cases z1;cases z2;exact absurd rfl n01
   |i+2,z1,_,_=>cases z1
   |0,_,j+2,z2=>cases z2
   |1,_,j+2,z2=>cases z2
 refine⟨_,rfl,a,rfl,⟨_,s05.seq hS⟩,b6 (xs:=cs.map V.int) (fun i σ H5=>Mv H a pe pt i σ H5) init (fun i σ H5 _ ⟨_,_,_,_,_,_,_,_,_,_,_,_,_,_,z,_⟩=>z.seq hS) ?_ ?_⟩
 ·rintro i x σ H5 hx ⟨v3,v4,v5,v6,v7,v8,v9,v10,ys,xs,m,es,ts,rfl,s5,hpe5,en,hpt5,rx5,D,g,hi⟩;rw[ME]at hx;obtain⟨c,hc,rfl⟩:=M0.mp hx;have hil:i<cs.length:=(Mw.mp hc).1;have hyl:ys.length=es.length:=en.1;have few:es.length<=62:=by omega
  have w':=g.w;have tlen:=w'.len;have mfew:=Dw g;have o0:(0:Int)<=c%1000000007*48271%2147483647:=Og _ (by decide)
  have o1:c%1000000007*48271%2147483647<2147483647:=Oc _ (by decide)
  refine⟨_,rfl,_,_,rfl,rfl,(by show(0:Int)<1000000007;decide),_,_,rfl,rfl,.inr ⟨by decide,by decide⟩,_,_,rfl,rfl,(by show(0:Int)<2147483647;decide),?_⟩
  refine⟨_,rfl,pe,ys,rfl,.inl (SqL.of hpe5),?_⟩;have hfr:(0:Int)<2*(ys.length:Int):=by omega
  refine⟨_,rfl,_,_,rfl,rfl,⟨by decide,by decide⟩,_,rfl,_,_,rfl,rfl,.inl ⟨by decide,by decide⟩,_,_,rfl,rfl,hfr,?_⟩
  have l0:=Og (c%1000000007*48271%2147483647/2) (show 2*(ys.length:Int)≠0 by omega)
  have l1:=Oc (c%1000000007*48271%2147483647/2) hfr;obtain⟨L,hL⟩:∃ L:Nat,c%1000000007*48271%2147483647/2%(2*(ys.length:Int))=(L:Int):=⟨_,(Ph l0).symm⟩;have hLl:L<2*es.length:=by omega
  refine⟨_,rfl,_,rfl,_,rfl,pe,pt,ys,xs,m,es,ts,L,congrArg (fun z=>[V.ref pe,V.ref pt,V.int z]) hL,SqL.of hpe5,en,SqL.of hpt5,rx5.off,w',few,hLl,fun q r H6 s6 hq hq6 pa ri=>?_⟩;have hrlen:(r.map iV).length=r.length:=MD _;have hr0:=ri.ne;have hrp:(0:Int)<((r.map iV).length:Int):=by omega
  have j0:=Og (c%1000000007*48271%2147483647*(c%1000000007*48271%2147483647)%1000003) (show((r.map iV).length:Int)≠0 by omega)
  have j1:=Oc (c%1000000007*48271%2147483647*(c%1000000007*48271%2147483647)%1000003) hrp;obtain⟨J,hJ⟩:∃ J:Nat,c%1000000007*48271%2147483647*(c%1000000007*48271%2147483647)%1000003%((r.map iV).length:Int)=(J:Int):=⟨_,(Ph j0).symm⟩;have hJl:J<r.length:=by omega
  obtain⟨R,hR⟩:∃ R,r[J]?=some R:=⟨_,Mx hJl⟩;have hRm:=My hR;have hRl:=ri.lt R hRm;refine⟨_,rfl,_,rfl,_,rfl,_,_,rfl,rfl,.inl ⟨by show -(2^64:Int)<c%1000000007*48271%2147483647;omega,by show c%1000000007*48271%2147483647<(2^64:Int);omega⟩,_,_,rfl,rfl,(by show(0:Int)<1000003;decide),_,rfl,q,_,rfl,.inl (SqL.of hq6),_,_,rfl,rfl,hrp,q,_,_,_,rfl,rfl,SqL.of hq6,(by rw[hJ];exact LV hR),?_⟩
  have s06:=s5.trans s6;have hpe6:=s6 _ _ hpe5;have hpt6:=s6 _ _ hpt5;have en6:=en.mono s6;have rx6:cQ (fun p=>p=pe∨p=pt∨H p≠none) H6 xs ts:=rx5.mono fun p o _ z=>s6 _ _ z;refine⟨_,rfl,_,rfl,pe,ys,es,L,congrArg (fun z=>[V.ref pe,V.int z]) hL,SqL.of hpe6,en6,hLl,?_⟩;refine⟨_,rfl,_,rfl,pe,ys,es,R,rfl,SqL.of hpe6,en6,hRl,?_⟩;obtain⟨_,l,_,_,_,k4,k5,k6⟩:=w'.at hLl;obtain⟨_,l',_,_,_,k4',k5',k6'⟩:=w'.at hRl;obtain⟨p1,y1,y2,y3⟩:=rx6.2 _ _ k5;obtain⟨p2,z1,z2,z3⟩:=rx6.2 _ _ k5';obtain⟨sm1,f1⟩:=js w' few k5;obtain⟨sm2,f2⟩:=js w' few k5';have len1:(l.map iV).length=l.length:=MD _;have len2:(l'.map iV).length=l'.length:=MD _;have ix1:l.idxOf (L/2)<l.length:=Qn k6;have ix2:l'.idxOf (R/2)<l'.length:=Qn k6';have ne_S:∀{p q:Addr},¬ (p=pe∨p=pt∨H p≠none)->(q=pe∨q=pt)->q≠p:=fun n y z=>n (by rw[← z];rcases y with y | y<;>simp[y])
  have no_S:∀{p:Addr},¬ (p=pe∨p=pt∨H p≠none)->H p=none:=fun{p} n=>by
   cases y:H p with
   |none=>rfl
   |some o=>exact absurd (.inr (.inr (by rw[y];exact fun z=>nomatch z))) n
  have hp1:=no_S y2;have hp2:=no_S z2;have eL:c%1000000007*48271%2147483647/2%(2*(ys.length:Int))/2=((L/2:Nat):Int):=by rw[hL];omega
  have eR:(R:Int)/2=((R/2:Nat):Int):=by omega
  refine⟨_,rfl,_,rfl,pt,xs,_,_,rfl,rfl,SqL.of hpt6,aM y1,.inl ⟨rfl,_,SqL.of y3⟩,_,rfl,_,rfl,pt,xs,_,_,rfl,rfl,SqL.of hpt6,aM y1,.inl ⟨rfl,_,SqL.of y3⟩,_,rfl,_,_,rfl,rfl,⟨by decide,by decide⟩,p1,l,L/2,rfl,congrArg (fun z=>[V.int z]) eL,SqL.of y3,fun p hp=>by have:=sm1 p hp;omega,by omega,k6,_,_,rfl,rfl,_,rfl,p1,_,_,_,rfl,rfl,y3,by omega,by omega,ax (by omega),?_⟩
  rw[hyl,insV,show(((l.idxOf (L/2):Nat):Int)+1).toNat=l.idxOf (L/2)+1 by omega]
  have s07:=aW s06 hp1 (.lst ((ins l (l.idxOf (L/2)+1) es.length).map iV));have hpe7:(upd H6 p1 (.lst ((ins l (l.idxOf (L/2)+1) es.length).map iV))) pe=some (.lst ys):=by rw[aq (ne_S y2 (.inl rfl))];exact hpe6
  have hpt7:(upd H6 p1 (.lst ((ins l (l.idxOf (L/2)+1) es.length).map iV))) pt=some (.lst xs):=by rw[aq (ne_S y2 (.inr rfl))];exact hpt6
  have en7:=en6.put (o:=.lst ((ins l (l.idxOf (L/2)+1) es.length).map iV)) y3;have rx7:=rx6.set (l':=ins l (l.idxOf (L/2)+1) es.length) D y1;have z7:hd es L≠hd es R->(upd H6 p1 (.lst ((ins l (l.idxOf (L/2)+1) es.length).map iV))) p2=some (.lst (l'.map iV)):=fun n=>by
   rw[aq (fun y=>by rw[y]at z1;exact n (D _ _ p1 y1 z1))];exact z3
  generalize hH7:upd H6 p1 (.lst ((ins l (l.idxOf (L/2)+1) es.length).map iV))=H7 at s07 hpe7 hpt7 en7 rx7 z7;obtain⟨x0,tail,rfl,ch⟩:=ri.cr.ch;have hx0:x0=L:=by
   have:=pa.hd;exact MN this
  subst hx0;have xl:xs.length=m:=by rw[rx5.1,tlen]
  have hcr:=ri.cr;refine⟨_,rfl,_,_,rfl,rfl,(by show(0:Int)<2;decide),rfl,_,rfl,ite2 (fun c=>iteT ?_) (fun c=>⟨_,rfl,_,rfl,rfl,_,rfl,ite2 (fun c2=>?_) (fun c2=>?_)⟩)⟩
  rotate_left 2
  ·have n:hd es x0≠hd es R:=fun z=>c2 (decide_eq_true (by rw[z]))
   have z7:=z7 n;refine⟨_,rfl,_,rfl,pt,xs,_,_,rfl,rfl,SqL.of hpt7,aM z1,.inl ⟨rfl,_,SqL.of z7⟩,_,rfl,_,rfl,pt,xs,_,_,rfl,rfl,SqL.of hpt7,aM z1,.inl ⟨rfl,_,SqL.of z7⟩,_,rfl,_,_,rfl,rfl,⟨by decide,by decide⟩,p2,l',R/2,rfl,congrArg (fun z=>[V.int z]) eR,SqL.of z7,fun p hp=>by have:=sm2 p hp;omega,by omega,k6',_,_,rfl,rfl,_,rfl,p2,_,_,_,rfl,rfl,z7,by omega,by omega,ax (by omega),?_⟩
   rw[insV,show(((l'.idxOf (R/2):Nat):Int)+1).toNat=l'.idxOf (R/2)+1 by omega]
   have s08:=aW s07 hp2 (.lst ((ins l' (l'.idxOf (R/2)+1) es.length).map iV));have hpe8:(upd H7 p2 (.lst ((ins l' (l'.idxOf (R/2)+1) es.length).map iV))) pe=some (.lst ys):=by rw[aq (ne_S z2 (.inl rfl))];exact hpe7
   have hpt8:(upd H7 p2 (.lst ((ins l' (l'.idxOf (R/2)+1) es.length).map iV))) pt=some (.lst xs):=by rw[aq (ne_S z2 (.inr rfl))];exact hpt7
   have en8:=en7.put (o:=.lst ((ins l' (l'.idxOf (R/2)+1) es.length).map iV)) z7;have rx8:=rx7.set (l':=ins l' (l'.idxOf (R/2)+1) es.length) D z1;refine⟨_,rfl,_,_,rfl,rfl,⟨by decide,by decide⟩,_,_,rfl,rfl,(by show(0:Int)<2;decide),rfl,_,rfl,ite2 (fun _=>?_) (fun _=>?_)⟩
   ·refine⟨_,rfl,.inl ⟨rfl,_,SqL.of hpe8⟩,_,rfl,_,rfl,(by show 2<=sizeLine;decide),fun t ht=>⟨pe,ys,_,rfl,rfl,ak ht _ _ _ hpe8,ax (by omega),?_⟩⟩
    exact pC npe hpe0 s08 hpe8 en8 hpt8 rx8 D (g.join (e:=(hd es R,hd es x0)) hLl hcr ch hRm rfl rfl n (.inr rfl) k5 k5') hi ht rfl rfl _ _ _ _ _ _ _ _
   ·refine⟨_,rfl,.inl ⟨rfl,_,SqL.of hpe8⟩,_,rfl,_,rfl,(by show 2<=sizeLine;decide),fun t ht=>⟨pe,ys,_,rfl,rfl,ak ht _ _ _ hpe8,ax (by omega),?_⟩⟩
    exact pC npe hpe0 s08 hpe8 en8 hpt8 rx8 D (g.join (e:=(hd es x0,hd es R)) hLl hcr ch hRm rfl rfl n (.inl rfl) k5 k5') hi ht rfl rfl _ _ _ _ _ _ _ _
  all_goals
   refine⟨_,rfl,pt,xs,rfl,.inl (SqL.of hpt7),?_⟩
   refine⟨_,rfl,.inl ⟨rfl,_,SqL.of hpt7⟩,_,rfl,(by show 1<=sizeLine;decide),fun pn hpn=>⟨pt,xs,_,rfl,rfl,ak hpn _ _ _ hpt7,ax (by omega),?_⟩⟩
   have sn:=ak hpn (.lst [V.int (es.length:Int)])
   have s08:=aW (s07.trans sn) hpt0 (.lst (xs++[.ref pn]))
   have hpe8:(upd (upd H7 pn (.lst [V.int (es.length:Int)])) pt (.lst (xs++[.ref pn]))) pe=some (.lst ys):=by rw[aq npe];exact sn _ _ hpe7
   have hpt8:(upd (upd H7 pn (.lst [V.int (es.length:Int)])) pt (.lst (xs++[.ref pn]))) pt=some (.lst (xs++[.ref pn])):=ae
   have en8:=(en7.mono sn).put (o:=.lst (xs++[.ref pn])) (sn _ _ hpt7)
   have npt:pn≠pt:=fun z=>by rw[z,hpt7]at hpn;cases hpn
   have npn:pn≠pe:=fun z=>by rw[z,hpe7]at hpn;cases hpn
   have hpn0:H pn=none:=none_of s07 hpn
   have rx8:cQ (fun p=>p=pe∨p=pt∨H p≠none) (upd (upd H7 pn (.lst [V.int (es.length:Int)])) pt (.lst (xs++[.ref pn]))) (xs++[.ref pn]) (ts.set (hd es x0) (ins l (l.idxOf (x0/2)+1) es.length)++[[es.length]]):=by
    refine(rx7.mono fun p o n z=>?_).snoc (by rintro(y | y | y);exact npn y;exact npt y;exact y hpn0) ?_
    ·rw[aq (fun z=>n (.inr (.inl z)))];exact sn _ _ z
    ·rw[aq npt];exact ae
   have D8:=yK rx7 D hpn
   have hxm:V.int (xs.length:Int)=iV m:=by rw[xl];rfl
   refine⟨_,rfl,_,_,rfl,rfl,⟨by decide,by decide⟩,_,_,rfl,rfl,(by show(0:Int)<2;decide),rfl,_,rfl,ite2 (fun _=>?_) (fun _=>?_)⟩
   ·refine⟨_,rfl,.inl ⟨rfl,_,SqL.of hpe8⟩,_,rfl,_,rfl,(by show 2<=sizeLine;decide),fun t ht=>⟨pe,ys,_,rfl,rfl,ak ht _ _ _ hpe8,ax (by omega),?_⟩⟩
    exact pC npe hpe0 s08 hpe8 en8 hpt8 rx8 D8 (g.leaf (e:=(m,hd es x0)) hLl hcr ch rfl (.inr rfl) k5) hi ht hxm rfl _ _ _ _ _ _ _ _
   ·refine⟨_,rfl,.inl ⟨rfl,_,SqL.of hpe8⟩,_,rfl,_,rfl,(by show 2<=sizeLine;decide),fun t ht=>⟨pe,ys,_,rfl,rfl,ak ht _ _ _ hpe8,ax (by omega),?_⟩⟩
    exact pC npe hpe0 s08 hpe8 en8 hpt8 rx8 D8 (g.leaf (e:=(hd es x0,m)) hLl hcr ch rfl (.inl rfl) k5) hi ht rfl hxm _ _ _ _ _ _ _ _
 ·rintro σ H5 ⟨v3,v4,v5,v6,v7,v8,v9,v10,ys,xs,m,es,ts,rfl,s5,hpe5,en,hpt5,rx5,D,g,hi⟩;rw[hcl]at hi;refine⟨_,rfl,_,rfl,(by show 2<=sizeLine;decide),fun t ht=>?_⟩
  have s6:=ak ht (.tup [.ref pe,.ref pt]);exact kk t pe pt ys xs m es ts _ (s5.trans s6) ae (s6 _ _ hpe5) (en.mono s6) (s6 _ _ hpt5) (rx5.off.mono s6) g hi
end
end K8
namespace K8
open PySem L2
local macro_rules | `(tactic| walk_at "cc") => `(tactic| first | exact ⟨by decide, by decide⟩ | (show (0 : Int) < _; decide) | (show (0 : Int) < _; omega) | (show (0 : Int) ≤ _; omega) | exact ⟨by decide, by decide, by decide⟩ | exact ⟨by omega, by omega, by decide⟩ | exact Or.inl ⟨by decide, by decide⟩ | exact Or.inl ⟨by omega, by omega⟩)
local macro_rules | `(tactic| walk_at "rd") => `(tactic| repeat (first | refine ⟨_, rfl, ?_⟩ | refine ⟨_, _, rfl, rfl, ?_⟩ | refine ⟨rfl, ?_⟩ | (refine ⟨?cc, ?_⟩; (case cc => walk_at "cc"))))
def cutp(c:Int)(p n:Nat):Nat:=(c%1009*((p:Int)+1)%(n:Int)).toNat
def rowN(c:Int)(o2:List Nat)(p:Nat)(l:List Nat):List Nat:=(l.drop (cutp c p l.length)++l.take (cutp c p l.length)).map (ofL o2)
def en2(o1 o2:List Nat)(es:En):En:=(Na es.length).map fun j=>(ofL o1 ((es[o2.idxOf j]?).getD (0,0)).1,ofL o1 ((es[o2.idxOf j]?).getD (0,0)).2)
def ts2(c:Int)(o1 o2:List Nat)(ts:List (List Nat)):List (List Nat):=(Na ts.length).map fun j=>rowN c o2 (o1.idxOf j) ((ts[o1.idxOf j]?).getD [])
theorem Hf{o:List Nat}(nd:o.Nodup){k:Nat}(h:k<o.length):o.idxOf (ofL o k)=k:=by
 have e:o[k]?=some (ofL o k):=by unfold ofL;rw[Mx h];rfl
 exact Di nd (BQ (My e)) e
theorem ren_of{m:Nat}{es:En}{ts:List (List Nat)}{c:Int}{o1 o2:List Nat}(w:bC m es ts)(l1:o1.length=m)(n1:o1.Nodup)(b1:∀ x∈o1,x<m)(l2:o2.length=es.length)(n2:o2.Nodup)(b2:∀ x∈o2,x<es.length) :
  Ren m es (en2 o1 o2 es) ts (ts2 c o1 o2 ts) (ofL o1) (ofL o2):=by
 have B1:=DI l1 n1 b1;have B2:=DI l2 n2 b2;refine⟨B1,B2,by simp[en2],by simp[ts2,w.len],fun k e h=>?_,fun p l h=>?_⟩
 ·have hk:=(Mw.mp h).1
  unfold en2;rw[ME,OU (B2.lt k hk)];show some (ofL o1 ((es[o2.idxOf (ofL o2 k)]?).getD (0,0)).1,ofL o1 ((es[o2.idxOf (ofL o2 k)]?).getD (0,0)).2)=_;rw[Hf n2 (by omega),h]
  rfl
 ·have hp:p<m:=by rw[← w.len];exact(Mw.mp h).1
  refine⟨l.take (cutp c p l.length),l.drop (cutp c p l.length),(M9 _ _).symm,?_⟩;unfold ts2;rw[ME,OU (by rw[w.len];exact B1.lt p hp)]
  show some (rowN c o2 (o1.idxOf (ofL o1 p)) ((ts[o1.idxOf (ofL o1 p)]?).getD []))=_;rw[Hf n1 (by omega),h]
  rfl
theorem Gr.rows{m:Nat}{es:En}{ts:List (List Nat)}(g:Gr m es ts)(h2:2<=m){p:Nat}{l:List Nat}(h:ts[p]?=some l):0<l.length:=by
 have hp:p<m:=by rw[← g.w.len];exact(Mw.mp h).1
 cases l with
 |cons a l=>exact Nat.succ_pos _
 |nil =>
  exfalso;have no:∀ e∈es,e.1≠p/\e.2≠p:=fun e he=>by
   obtain⟨t,ht⟩:=NF.mp he;refine⟨fun z=>?_,fun z=>?_⟩
   ·exact nomatch (g.w.mem p [] h t).mpr ⟨e,ht,.inl z⟩
   ·exact nomatch (g.w.mem p [] h t).mpr ⟨e,ht,.inr z⟩
  have:=g.conn (fun x=>x=p) (fun e he=>⟨fun z=>absurd z (no e he).1,fun z=>absurd z (no e he).2⟩) p (if p=0 then 1 else 0) hp (by split<;>omega) rfl
  have this':(if p=0 then 1 else 0)=p:=this;split at this'<;>omega
theorem cut_hi{xs:List V}{c:Nat}(h:c<=xs.length):cutV xs (some (c:Int)) none=xs.drop c:=by
 unfold cutV;rw[HT.sIx_nat,Of h];show(xs.drop c).take (xs.length-c)=_;exact Nl (by rw[Nu];exact MC _)
theorem cut_lo{xs:List V}{c:Nat}(h:c<=xs.length):cutV xs none (some (c:Int))=xs.take c:=by
 unfold cutV;rw[HT.sIx_nat,Of h];show(xs.drop 0).take (c-0)=_;rw[Pp,Nat.sub_zero]
structure WebP(H:Hp)(pe pt:Addr)(m:Nat)(es:En)(ts:List (List Nat)):Prop where
 en:∃ ys,H pe=some (.lst ys)/\cF H ys es
 tu:∃ xs,H pt=some (.lst xs)/\bM H xs ts
 g:Gr m es ts
theorem WebP.mono{H H':Hp}{pe pt:Addr}{m:Nat}{es:En}{ts:List (List Nat)}(h:WebP H pe pt m es ts)(s:Same H H'):WebP H' pe pt m es ts:=by
 obtain⟨⟨ys,a,b⟩,⟨xs,c,d⟩,g⟩:=h;exact⟨⟨ys,s _ _ a,b.mono s⟩,⟨xs,s _ _ c,d.mono s⟩,g⟩
def K1:Sp:=fun vs H Q _=>∃(t pe pt:Addr)(c:Int)(m:Nat)(es:En)(ts:List (List Nat)),vs = [.ref t,.int c]/\H t=some (.tup [.ref pe,.ref pt])/\WebP H pe pt m es ts/\2<=m/\es.length<=31 /\
 ∀(t' pe' pt':Addr)(es':En)(ts':List (List Nat))(H':Hp),Same H H'->H' t'=some (.tup [.ref pe',.ref pt'])->WebP H' pe' pt' m es' ts'->es'.length=es.length->Q (.ref t') H'
section
variable{P:Program}{w:World}{K:Mz}{mg:Str->Option Value}{base:Heap}
theorem aO:aG ["grown","cell","places","ties","ends","k","turns","p","row","cut"] ["grown","cell"] (aj bo):=⟨rfl,rfl,rfl,by decide +kernel,rfl,by decide +kernel,by decide +kernel⟩
theorem ok_ren{f fo:Addr}{fd fdo:FuncData} (F:Fun K "_law_renumbered" "_law_renumbered" bo f fd) (T:Txt mg) (G_law_order:Cal P w K mg base 1 "_law_order" ["cell","many"] ui fo fdo):FnOk P w K mg base CX0 2 f fd ["grown","cell"] K1:=by
 refine F.ok aO (fun vs H Q E h=>?_) (fun cdv A outer s H vs Q E hr h=>?_)
 ·obtain⟨t,pe,pt,c,m,es,ts,rfl,_⟩:=h;rfl
 obtain⟨t,pe,pt,c,m,es,ts,rfl,ht,⟨⟨ys,hpe,en⟩,⟨xs,hpt,tu⟩,g⟩,h2,h31,kk⟩:=h;have w':=g.w;have mf:=Dw g;have hyl:ys.length=es.length:=en.1;have hxl:xs.length=m:=by rw[tu.1,w'.len]
 refine⟨_,(ag (au (i:=2) aO.nd rfl (Or.inl rfl) (ar G_law_order.ok (hr.mono (by decide)) rfl G_law_order.mg G_law_order.kp G_law_order.bn .nil aR (aa (pv 1) (aa (aF ay (by rfl) T.n_len bL (aa (aE aH (pv 0) ai (fun _ _=>rfl)) ah)) ah))))
   (ag (au (i:=3) aO.nd rfl (Or.inr rfl) (ar G_law_order.ok (hr.mono (by decide)) rfl G_law_order.mg G_law_order.kp G_law_order.bn .nil aR (aa (av dw (pv 1) ai) (aa (aF ay (by rfl) T.n_len bL (aa (aE aH (pv 0) ai (fun _ _=>rfl)) ah)) ah))))
   (ag (au (i:=4) aO.nd rfl (Or.inl rfl) (dq cE (by rfl) T.n_list ic (aa (aE aH (pv 0) ai (fun _ _=>rfl)) ah)))
   (ag (bP PassesOwn.never rfl (b4 rfl T.n_range (aa (aF ay (by rfl) T.n_len bL (aa (aE aH (pv 0) ai (fun _ _=>rfl)) ah)) ah)) (aK (i:=5) aO.nd rfl (Or.inl rfl)) (ao (FT (cB (aa (aE aP (pv 2) (aE aH (aE aP (aE aH (pv 0) ai (fun _ _=>rfl)) (pv 5) (fun _ _=>rfl)) ai (fun _ _=>rfl)) (fun _ _=>rfl)) (aa (aE aP (pv 2) (aE aH (aE aP (aE aH (pv 0) ai (fun _ _=>rfl)) (pv 5) (fun _ _=>rfl)) ai (fun _ _=>rfl)) (fun _ _=>rfl)) ah))) (F2 (pv 4) (aE aP (pv 3) (pv 5) (fun _ _=>rfl)) uE))))
   (ag (au (i:=6) aO.nd rfl (Or.inl rfl) (dq cE (by rfl) T.n_list ic (aa (aE aH (pv 0) ai (fun _ _=>rfl)) ah)))
   (ag (bP PassesOwn.never rfl (b4 rfl T.n_range (aa (aF ay (by rfl) T.n_len bL (aa (aE aH (pv 0) ai (fun _ _=>rfl)) ah)) ah)) (aK (i:=7) aO.nd rfl (Or.inl rfl)) (ag (mz (i:=8) rfl aO.nd rfl rfl (fr:=[("ties",3)]) (by exact bH.one (by rfl) (by decide +kernel) (by rfl) (by decide +kernel) (by rfl) (by decide +kernel) (by rfl) (by rfl) (by decide +kernel) (by rfl)) (aX (aE aP (aE aH (pv 0) ai (fun _ _=>rfl)) (pv 7) (fun _ _=>rfl))) (fun C ex s H=>(aE (pB (K:=K) rfl) (pv 1) (pv 0) (fun _ _=>rfl))))
   (ag (au (i:=9) aO.nd rfl (Or.inl rfl) (av bI (av dI (av bI (pv 1) ai) (av bJ (pv 7) ai)) (aF ay (by rfl) T.n_len bL (aa (pv 8) ah))))
   (ao (FT (av op_cat (uW Ak (pv 8) (AB (pv 9)) AD) (uW Ak (pv 8) AD (AB (pv 9)))) (F2 (pv 6) (aE aP (pv 2) (pv 7) (fun _ _=>rfl)) uE))))))
   (ao (aN (cB (aa (pv 4) (aa (pv 6) ah))))))))))),?_⟩
 refine⟨_,rfl,_,rfl,t,_,1,_,rfl,rfl,SqT.of ht,at1,pt,xs,rfl,.inl (SqL.of hpt),c,m,(by rw[hxl];rfl),by omega,fun q1 o1 H1 s1 _ h1 l1 n1 b1=>?_⟩
 refine⟨_,rfl,_,_,rfl,rfl,⟨by decide,by decide⟩,_,rfl,t,_,0,_,rfl,rfl,SqT.of (s1 _ _ ht),at0,pe,ys,rfl,.inl (SqL.of (s1 _ _ hpe)),_,es.length,(by rw[hyl];rfl),by omega,fun q2 o2 H2 s2 _ h2' l2 n2 b2=>?_⟩
 have s12:=s1.trans s2;have R:=ren_of (c:=c) w' l1 n1 b1 l2 n2 b2;have h1':=s2 _ _ h1;refine⟨_,rfl,t,_,0,_,rfl,rfl,SqT.of (s12 _ _ ht),at0,pe,ys,rfl,.inl (SqL.of (s12 _ _ hpe)),fun qe hqe=>?_⟩;have s3:=ak hqe (.lst ys);have s13:=s12.trans s3;have h23:=s3 _ _ h2';have h13:=s3 _ _ h1';have get1:∀ k,k<m->(o1.map iV)[k]?=some (iV (ofL o1 k)):=fun k hk=>by
  rw[ME];unfold ofL;rw[Mx (by omega)];rfl
 have get2:∀ k,k<es.length->(o2.map iV)[k]?=some (iV (ofL o2 k)):=fun k hk=>by
  rw[ME];unfold ofL;rw[Mx (by omega)];rfl
 have hqe0:H qe=none:=by
  cases y:H qe with
  |none=>rfl
  |some o=>rw[s12 _ _ y]at hqe;cases hqe
 refine⟨_,rfl,t,_,0,_,rfl,rfl,SqT.of (s13 _ _ ht),at0,pe,ys,rfl,.inl (SqL.of (s13 _ _ hpe)),_,rfl,by omega,by omega,dv (n:=(ys.length:Int).toNat) (fun i σ H5=>∃ v5 v6 v7 v8 v9 zs,σ = [some (.ref t),some (.int c),some (.ref q1),some (.ref q2),some (.ref qe),v5,v6,v7,v8,v9]/\Same H2 H5/\H5 qe=some (.lst zs)/\zs.length=es.length/\∀(k:Nat)(e:Nat×Nat),k<i->es[k]?=some e->∃ p,zs[ofL o2 k]?=some (.ref p)/\H5 p=some (.tup [iV (ofL o1 e.1),iV (ofL o1 e.2)]))
  ⟨_,_,_,_,_,ys,rfl,s3,ae,hyl,fun k e z=>absurd z (OD _)⟩ ?_ ?_⟩
 ·rintro i σ H5 hi ⟨v5,v6,v7,v8,v9,zs,rfl,s5,hz,zl,inv⟩;rw[Nc,hyl]at hi;have e0:(0:Int)+(i:Int)=(i:Int):=NO _;rw[e0];have s15:=s12.trans s5;obtain⟨e,he⟩:∃ e,es[i]?=some e:=⟨_,Mx hi⟩;obtain⟨p,x1,x2⟩:=(en.mono s15).2 i e he;obtain⟨a1,a2,_⟩:=w'.ends e (My he);have b2':=R.si.lt i hi;refine⟨_,rfl,_,rfl,t,_,0,_,rfl,rfl,SqT.of (s15 _ _ ht),at0,_,rfl,pe,ys,_,_,rfl,rfl,SqL.of (s15 _ _ hpe),aM x1,p,_,0,_,rfl,rfl,SqT.of x2,at0,q1,_,_,_,rfl,rfl,SqL.of (s5 _ _ h1'),aM (get1 _ a1),_,rfl,_,rfl,t,_,0,_,rfl,rfl,SqT.of (s15 _ _ ht),at0,_,rfl,pe,ys,_,_,rfl,rfl,SqL.of (s15 _ _ hpe),aM x1,p,_,1,_,rfl,rfl,SqT.of x2,at1,q1,_,_,_,rfl,rfl,SqL.of (s5 _ _ h1'),aM (get1 _ a2),(by show 2<=sizeLine;decide),fun tt htt=>?_⟩
  have sn:=ak htt (.tup [iV (ofL o1 e.1),iV (ofL o1 e.2)]);refine⟨_,rfl,_,rfl,_,rfl,q2,_,_,_,rfl,rfl,SqL.of (sn _ _ (s5 _ _ h2')),aM (get2 _ hi),qe,zs,_,ofL o2 i,rfl,rfl,sn _ _ hz,BN (by omega),?_⟩
  refine⟨_,_,_,_,_,_,rfl,aW (s5.trans sn) hqe _,ae,by rw[Nt];exact zl,fun k e' hk hek=>?_⟩
  by_cases z:k=i
  ·subst z;rw[he]at hek
   cases hek
   exact⟨tt,by rw[Nr,if_pos rfl,if_pos (by omega)],by rw[aq (fun z=>by rw[z,hz]at htt;cases htt)];exact ae⟩
  ·obtain⟨p',u1,u2⟩:=inv k e' (by omega) hek
   have hkl:k<es.length:=(Mw.mp hek).1;refine⟨p',by rw[Nr,if_neg (fun y=>z (R.si.inj _ _ hkl hi y.symm))];exact u1,?_⟩
   rw[aq (fun z=>by rw[z,hz]at u2;cases u2)]
   exact sn _ _ u2
 rintro σ H5 ⟨v5,v6,v7,v8,v9,zs,rfl,s5,hz,zl,inv⟩;rw[Nc,hyl]at inv;have s15:=s12.trans s5
 have enN:cF H5 zs (en2 o1 o2 es):=⟨by rw[zl,R.l1],fun j x h=>by
  obtain⟨k,e,rfl,h4,rfl⟩:=R.es' h
  exact inv k e (Mw.mp h4).1 h4⟩
 refine⟨_,rfl,t,_,1,_,rfl,rfl,SqT.of (s15 _ _ ht),at1,pt,xs,rfl,.inl (SqL.of (s15 _ _ hpt)),fun qt hqt=>?_⟩;have s6:=ak hqt (.lst xs);have s16:=s15.trans s6
 refine⟨_,rfl,t,_,1,_,rfl,rfl,SqT.of (s16 _ _ ht),at1,pt,xs,rfl,.inl (SqL.of (s16 _ _ hpt)),_,rfl,by omega,by omega,dv (n:=(xs.length:Int).toNat) (fun i σ H7=>∃ v5 v7 v8 v9 ws,σ = [some (.ref t),some (.int c),some (.ref q1),some (.ref q2),some (.ref qe),v5,some (.ref qt),v7,v8,v9]/\Same H5 H7/\H7 qt=some (.lst ws)/\ws.length=m/\∀(p:Nat)(l:List Nat),p<i->ts[p]?=some l->∃ q,ws[ofL o1 p]?=some (.ref q)/\H7 q=some (.lst ((rowN c o2 p l).map iV))/\q≠qt)
  ⟨_,_,_,_,xs,rfl,s6,ae,hxl,fun k e z=>absurd z (OD _)⟩ ?_ ?_⟩
 ·rintro i σ H7 hi ⟨w5,w7,w8,w9,ws,rfl,s7,hw,wl,inv2⟩;rw[Nc,hxl]at hi;have e0:(0:Int)+(i:Int)=(i:Int):=NO _;rw[e0];have s17:=s15.trans s7;have s27:=s5.trans s7;obtain⟨l,hl⟩:∃ l,ts[i]?=some l:=⟨_,Mx (by rw[w'.len];exact hi)⟩
  obtain⟨p,x1,x2⟩:=(tu.mono s17).2 i l hl;have lpos:=g.rows h2 hl;have llt:∀ k∈l,k<es.length:=fun k hk=>nL w' hl hk;have lle:l.length<=es.length:=eO (w'.nd _ _ hl) llt;have llen:(l.map iV).length=l.length:=MD _;refine⟨_,rfl,t,_,1,_,rfl,rfl,SqT.of (s17 _ _ ht),at1,_,rfl,pt,xs,_,_,rfl,rfl,SqL.of (s17 _ _ hpt),aM x1,p,rfl,⟨_,SqL.of x2⟩,bK (K:=K) (xs:=l.map iV) (fun j zs H8=>H8=H7/\zs=((l.map (ofL o2)).map iV).take j) (by rw[llen];exact ND (ax (by omega))) ⟨rfl,rfl⟩ (fun j zs H8 _ z=>z.1▸SqL.of x2) ?_ ?_⟩
  ·rintro j x zs H8 hx ⟨rfl,rfl⟩;rw[ME]at hx;obtain⟨k,hk,rfl⟩:=M0.mp hx;refine⟨_,rfl,_,rfl,q2,_,_,_,rfl,rfl,SqL.of (s27 _ _ h2'),aM (get2 _ (llt k (My hk))),rfl,?_⟩;rw[M1,ME,ME,hk];rfl
  rintro zs H8 hzl ⟨rfl,rfl⟩ D hD;rw[llen,Nl (by rw[MD,MD];exact MC _)]
  have sD:=ak hD (.lst ((l.map (ofL o2)).map iV));have dlen:((l.map (ofL o2)).map iV).length=l.length:=by rw[MD,MD]
  have dpos:(0:Int)<(((l.map (ofL o2)).map iV).length:Int):=by omega
  have c0:=Og c (show(1009:Int)≠0 by decide)
  have c1:=Oc c (show(0:Int)<1009 by decide)
  refine⟨_,rfl,_,_,rfl,rfl,(by show(0:Int)<1009;decide),_,rfl,_,_,rfl,rfl,_,_,rfl,rfl,.inl ⟨by show -(2^64:Int)<c%1009;omega,by show c%1009<(2^64:Int);omega⟩,_,rfl,D,_,rfl,.inl (SqL.of ae),_,_,rfl,rfl,dpos,?_⟩
  have u0:=Og (c%1009*((i:Int)+1)) (show(((l.map (ofL o2)).map iV).length:Int)≠0 by omega)
  have u1:=Oc (c%1009*((i:Int)+1)) dpos;have hcut:c%1009*((i:Int)+1)%(((l.map (ofL o2)).map iV).length:Int)=((cutp c i l.length:Nat):Int):=by
   unfold cutp;rw[dlen]at u0 ⊢;exact(Ph u0).symm
  have cle:cutp c i l.length<=((l.map (ofL o2)).map iV).length:=by omega
  refine⟨_,rfl,_,rfl,_,rfl,D,_,rfl,SqL.of ae,fun b1' hb1=>?_⟩;rw[hcut,cut_hi cle];have sB:=ak hb1 (.lst (((l.map (ofL o2)).map iV).drop (cutp c i l.length)));refine⟨_,rfl,_,rfl,_,rfl,D,_,rfl,SqL.of (sB _ _ ae),fun b2' hb2=>?_⟩;rw[hcut,cut_lo cle];have sC:=ak hb2 (.lst (((l.map (ofL o2)).map iV).take (cutp c i l.length)));refine⟨b1',b2',_,_,rfl,rfl,sC _ _ ae,ae,by rw[Nu,Nf];exact ND (ax (by omega)),fun b3 hb3=>?_⟩
  have hrow:((l.map (ofL o2)).map iV).drop (cutp c i l.length)++((l.map (ofL o2)).map iV).take (cutp c i l.length)=(rowN c o2 i l).map iV:=by
   unfold rowN;rw[M8,M8,P7,P7,QF,QF]
  rw[hrow];have sE:=ak hb3 (.lst ((rowN c o2 i l).map iV));have sAll:=((sD.trans sB).trans sC).trans sE;refine⟨_,rfl,_,rfl,_,rfl,q1,_,_,_,rfl,rfl,SqL.of (sAll _ _ (s27 _ _ h1')),aM (get1 _ hi),qt,ws,_,ofL o1 i,rfl,rfl,sAll _ _ hw,BN (by rw[wl];exact R.pi.lt i hi),?_⟩
  have b3t:b3≠qt:=fun z=>by rw[z,((sD.trans sB).trans sC) _ _ hw]at hb3;cases hb3
  refine⟨_,_,_,_,_,rfl,aW (s7.trans sAll) hqt _,ae,by rw[Nt];exact wl,fun p' l' hp' hl'=>?_⟩
  by_cases z:p'=i
  ·subst z;rw[hl]at hl'
   cases hl'
   exact⟨b3,by rw[Nr,if_pos rfl,if_pos (by rw[wl];exact R.pi.lt p' hi)],by rw[aq b3t];exact ae,b3t⟩
  ·obtain⟨q,u1,u2,u3⟩:=inv2 p' l' (by omega) hl'
   have hpl:p'<m:=by rw[← w'.len];exact(Mw.mp hl').1
   exact⟨q,by rw[Nr,if_neg (fun y=>z (R.pi.inj _ _ hpl hi y.symm))];exact u1,by rw[aq u3];exact sAll _ _ u2,u3⟩
 rintro σ H7 ⟨w5,w7,w8,w9,ws,rfl,s7,hw,wl,inv2⟩;rw[Nc,hxl]at inv2
 have tuN:bM H7 ws (ts2 c o1 o2 ts):=⟨by rw[wl,R.l2],fun j L h=>by
  have hj:j<m:=by rw[← R.l2];exact(Mw.mp h).1
  obtain⟨p,hp,rfl⟩:=R.pi.sur j hj;obtain⟨l,hl⟩:∃ l,ts[p]?=some l:=⟨_,Mx (by rw[w'.len];exact hp)⟩
  obtain⟨q,z1,z2,_⟩:=inv2 p l hp hl;refine⟨q,z1,?_⟩;unfold ts2 at h;rw[ME,OU (by rw[w'.len];exact R.pi.lt p hp)]at h
  have h':some (rowN c o2 (o1.idxOf (ofL o1 p)) ((ts[o1.idxOf (ofL o1 p)]?).getD []))=some L:=h;rw[Hf n1 (by omega),hl]at h'
  cases h'
  exact z2⟩
 refine⟨_,rfl,_,rfl,(by show 2<=sizeLine;decide),fun t' ht'=>?_⟩
 have s8:=ak ht' (.tup [.ref qe,.ref qt]);exact kk t' qe qt (en2 o1 o2 es) (ts2 c o1 o2 ts) _ ((s15.trans s7).trans s8) ae ⟨⟨zs,s8 _ _ (s7 _ _ hz),(enN.mono s7).mono s8⟩,⟨ws,s8 _ _ hw,tuN.mono s8⟩,R.gr g⟩ R.l1
end
end K8
namespace K8
open PySem L2
local macro_rules | `(tactic| walk_at "cc") => `(tactic| first | exact ⟨by decide, by decide⟩ | (show (0 : Int) < _; decide) | (show (0 : Int) < _; omega) | (show (0 : Int) ≤ _; omega) | exact ⟨by decide, by decide, by decide⟩ | exact ⟨by omega, by omega, by decide⟩ | exact Or.inl ⟨by decide, by decide⟩ | exact Or.inl ⟨by omega, by omega⟩)
local macro_rules | `(tactic| walk_at "rd") => `(tactic| repeat (first | refine ⟨_, rfl, ?_⟩ | refine ⟨_, _, rfl, rfl, ?_⟩ | refine ⟨rfl, ?_⟩ | (refine ⟨?cc, ?_⟩; (case cc => walk_at "cc"))))
theorem bt_min:bootBuiltins "min" = some (.builtin "min"):=by decide +kernel
abbrev Kn:=List (Int×Int)
def gw(H:Hp)(ws:List V)(ks:Kn):Prop:=ws.length=ks.length/\∀(i:Nat)(k:Int×Int),ks[i]?=some k->(k.1=0∨k.1=1)/\0<=k.2/\∃ p,ws[i]?=some (.ref p)/\H p=some (.tup [.int k.1,.int k.2])
theorem gw.mono{H H':Hp}{ws:List V}{ks:Kn}(h:gw H ws ks)(s:Same H H'):gw H' ws ks:=⟨h.1,fun i k z=>by
 obtain⟨a,b,p,c,d⟩:=h.2 i k z
 exact⟨a,b,p,c,s _ _ d⟩⟩
theorem gw.put{H:Hp}{ws:List V}{ks:Kn}{q:Addr}{zs:List V}{o:HO}(t:gw H ws ks)(h:H q=some (.lst zs)):gw (upd H q o) ws ks:=⟨t.1,fun i e z=>by
 obtain⟨u,v,p,a,b⟩:=t.2 i e z;refine⟨u,v,p,a,?_⟩;rw[aq (fun z=>by rw[z,h]at b;cases b)]
 exact b⟩
theorem gw.snoc{H:Hp}{ws:List V}{ks:Kn}{k:Int×Int}{p:Addr}(t:gw H ws ks)(h:H p=some (.tup [.int k.1,.int k.2]))(h1:k.1=0∨k.1=1)(h2:0<=k.2):gw H (ws++[.ref p]) (ks++[k]):=by
 refine⟨by rw[MA,MA,t.1];rfl,fun j x ej=>?_⟩
 by_cases hj:j<ks.length
 ·rw[MF hj]at ej;obtain⟨u,v,p,a1,a2⟩:=t.2 j x ej;exact⟨u,v,p,by rw[MF (by rw[t.1];exact hj)];exact a1,a2⟩
 ·rw[MB (by omega)]at ej
  have hj2:j=ks.length:=by
   have:=(Mw.mp ej).1;rw[MJ]at this;omega
  subst hj2;rw[M7]at ej
  cases ej
  exact⟨h1,h2,p,by rw[← t.1,MB (MC _),M7];rfl,h⟩
structure iz(H:Hp)(t pe pt pk:Addr)(m:Nat)(es:En)(ts:List (List Nat))(ks:Kn):Prop where
 t:H t=some (.tup [.ref pe,.ref pt,.ref pk])
 w:WebP H pe pt m es ts
 k:∃ ws,H pk=some (.lst ws)/\gw H ws ks
 few:es.length<=8
 kl:ks.length=es.length
theorem iz.mono{H H':Hp}{t pe pt pk:Addr}{m:Nat}{es:En}{ts:List (List Nat)}{ks:Kn}(h:iz H t pe pt pk m es ts ks)(s:Same H H'):iz H' t pe pt pk m es ts ks:=by
 obtain⟨a,b,⟨ws,c,d⟩,e,f⟩:=h;exact⟨s _ _ a,b.mono s,⟨ws,s _ _ c,d.mono s⟩,e,f⟩
theorem Gr.two{m:Nat}{es:En}{ts:List (List Nat)}(g:Gr m es ts)(h:0<es.length):2<=m:=by
 obtain⟨a,b,c⟩:=g.w.ends _ (My (Mx h));omega
def uo(K:Mz):Sp:=fun vs H Q _=>∃(a:Addr)(ns:List Int),vs = [.ref a,.int 1,.int 8]/\SqL K H a (ns.map V.int)/\ns.length<=63 /\
 ∀(t pe pt pk:Addr)(m:Nat)(es:En)(ts:List (List Nat))(ks:Kn)(H':Hp),Same H H'->iz H' t pe pt pk m es ts ks->Q (.ref t) H'
section
variable{P:Program}{w:World}{K:Mz}{mg:Str->Option Value}{base:Heap}
theorem at30{u v x:V}:atI [u,v,x] 0=some u:=rfl
theorem at31{u v x:V}:atI [u,v,x] 1=some v:=rfl
theorem at32{u v x:V}:atI [u,v,x] 2=some x:=rfl
theorem cj:aG ["script","first","most","cells","grown","told","k","cell"] ["script","first","most"] (aj cY):=⟨rfl,rfl,rfl,by decide +kernel,rfl,by decide +kernel,by decide +kernel⟩
theorem Gk{f fg fr fc:Addr}{fd fdg fdr fdc:FuncData} (F:Fun K "_law_built" "_law_built" cY f fd) (T:Txt mg) (G_law_grown:Cal P w K mg base 4 "_law_grown" ["cells"] (Ae K) fg fdg) (G_law_renumbered:Cal P w K mg base 2 "_law_renumbered" ["grown","cell"] K1 fr fdr) (G_law_cell:Cal P w K mg base 1 "_law_cell" ["script","k"] (C2 K) fc fdc) :
  FnOk P w K mg base CX0 5 f fd ["script","first","most"] (uo K):=by
 refine F.ok cj (fun vs H Q E h=>?_) (fun cdv A outer s H vs Q E hr h=>?_)
 ·obtain⟨a,ns,rfl,_⟩:=h;rfl
 obtain⟨a,ns,rfl,hS,h63,kk⟩:=h;have hlen:(ns.map V.int).length=ns.length:=MD _
 refine⟨_,(ag (mz (i:=3) rfl cj.nd rfl rfl (fr:=[("script",0)]) (by exact bH.one (by rfl) (by decide +kernel) (by rfl) (by decide +kernel) (by rfl) (by decide +kernel) (by rfl) (by rfl) (by decide +kernel) (by rfl)) (FY rfl T.n_range (aa (av bJ (pv 1) ai) (aa (aF (HZ rfl) (by rfl) T.n_min bt_min (aa (av pZ (aF ay (by rfl) T.n_len bL (aa (pv 0) ah)) ai) (aa (av pZ (av bJ (pv 1) (av dI ai (pv 2))) ai) ah))) (aa ai ah)))) (fun C ex s H=>(aE (pB (K:=K) rfl) (pv 1) (pv 0) (fun _ _=>rfl))))
   (ag (au (i:=4) cj.nd rfl (Or.inl rfl) (ar G_law_renumbered.ok (hr.mono (by decide)) rfl G_law_renumbered.mg G_law_renumbered.kp G_law_renumbered.bn .nil aR (aa (ar G_law_grown.ok (hr.mono (by decide)) rfl G_law_grown.mg G_law_grown.kp G_law_grown.bn .nil aR (aa (pv 3) ah)) (aa (ar G_law_cell.ok (hr.mono (by decide)) rfl G_law_cell.mg G_law_cell.kp G_law_cell.bn .nil aR (aa (pv 0) (aa (pv 1) ah))) ah))))
   (ag (au (i:=5) cj.nd rfl (Or.inl rfl) (dH ah))
   (ag (bP PassesOwn.never rfl (b4 rfl T.n_range (aa (aF ay (by rfl) T.n_len bL (aa (aE aH (pv 4) ai (fun _ _=>rfl)) ah)) ah)) (aK (i:=6) cj.nd rfl (Or.inl rfl)) (ag (au (i:=7) cj.nd rfl (Or.inl rfl) (ar G_law_cell.ok (hr.mono (by decide)) rfl G_law_cell.mg G_law_cell.kp G_law_cell.bn .nil aR (aa (pv 0) (aa (av bJ (pv 1) (av dI ai (pv 6))) ah))))
   (ao (bt (fX M5 Np Nn br (pv 5) (aa (cB (aa (av bI (pv 7) ai) (aa (av bI (av dw (pv 7) ai) (av bJ (av op_pow ai ai) ai)) ah))) ah))))))
   (ao (aN (cB (aa (aE aH (pv 4) ai (fun _ _=>rfl)) (aa (aE aH (pv 4) ai (fun _ _=>rfl)) (aa (pv 5) ah)))))))))),?_⟩
 have hn:Builtin.Range.rangeSize (1+1) (if(1+2*8-2:Int)<((ns.map V.int).length:Int)-1 then 1+2*8-2 else((ns.map V.int).length:Int)-1) 2=(((Builtin.Range.rangeSize (1+1) (if(1+2*8-2:Int)<((ns.map V.int).length:Int)-1 then 1+2*8-2 else((ns.map V.int).length:Int)-1) 2).toNat:Nat):Int):=by
  refine(Ph ?_).symm;unfold Builtin.Range.rangeSize;rw[if_pos (by decide)]
  split<;>omega
 have hb:∀ i:Nat,i<(Builtin.Range.rangeSize (1+1) (if(1+2*8-2:Int)<((ns.map V.int).length:Int)-1 then 1+2*8-2 else((ns.map V.int).length:Int)-1) 2).toNat->i<7/\2+2*i<ns.length:=fun i hi=>by
  rw[hlen]at hi;unfold Builtin.Range.rangeSize at hi;rw[if_pos (by decide)]at hi
  split at hi<;>split at hi<;>omega
 have hz:(Builtin.Range.rangeSize (1+1) (if(1+2*8-2:Int)<((ns.map V.int).length:Int)-1 then 1+2*8-2 else((ns.map V.int).length:Int)-1) 2).toNat<=7:=by
  by_cases z:(Builtin.Range.rangeSize (1+1) (if(1+2*8-2:Int)<((ns.map V.int).length:Int)-1 then 1+2*8-2 else((ns.map V.int).length:Int)-1) 2).toNat<=7
  ·exact z
  ·have:=(hb 7 (by omega)).1;omega
 refine⟨_,rfl,_,_,rfl,rfl,_,rfl,a,_,rfl,.inl hS,_,_,rfl,rfl,_,rfl,_,rfl,_,_,rfl,rfl,.inl ⟨by decide,by decide⟩,_,_,rfl,rfl,_,_,rfl,rfl,_,_,rfl,_,_,_,_,rfl,by decide,by decide,(by split<;>omega),(by split<;>omega),⟨by decide,by decide⟩,hn,?_⟩
 generalize (Builtin.Range.rangeSize (1+1) (if(1+2*8-2:Int)<((ns.map V.int).length:Int)-1 then 1+2*8-2 else((ns.map V.int).length:Int)-1) 2).toNat=N at hb hz;refine Cn (fun i ys H2=>H2=H/\∃ cs:List Int,ys=cs.map V.int/\cs.length=i) (ND (ax (by omega))) ⟨rfl,[],rfl,rfl⟩ ?_ ?_
 ·rintro i ys H2 hi ⟨rfl,cs,rfl,cl⟩;have hb':=(hb i hi).2;have e0:(1+1:Int)+(i:Int)*2=((2+2*i:Nat):Int):=by omega
  rw[e0];refine⟨_,rfl,_,rfl,a,_,_,_,rfl,rfl,hS,aM (v:=.int ns[2+2*i]) (by rw[ME,Mx hb'];rfl),rfl,cs++[ns[2+2*i]],?_,by rw[MA,cl];rfl⟩
  rw[M8];rfl
 rintro ys H2 _ ⟨rfl,cs,rfl,cl⟩ b hb0;have s1:=ak hb0 (.lst (cs.map V.int));refine⟨_,rfl,b,cs,rfl,SqL.of ae,by omega,fun t pe pt ys xs m es ts H3 s3 ht hpe hE hpt hR g hel=>?_⟩
 have s13:=s1.trans s3;refine⟨_,rfl,_,rfl,a,1,ns,rfl,s13.seq hS,t,pe,pt,_,m,es,ts,rfl,ht,⟨⟨ys,hpe,hE⟩,⟨xs,hpt,hR⟩,g⟩,g.two (by omega),by omega,fun t' pe' pt' es' ts' H4 s4 ht' wp hel'=>?_⟩
 have s14:=s13.trans s4;have hel2:es'.length<=8:=by omega
 refine⟨(by show 0<=sizeLine;decide),fun q hq=>?_⟩
 have s5:=ak hq (.lst []);obtain⟨zs,hz1,hz2⟩:=wp.en;have hzl:zs.length=es'.length:=hz2.1;refine⟨_,rfl,t',_,0,_,rfl,rfl,SqT.of (s5 _ _ ht'),at0,pe',zs,rfl,.inl (SqL.of (s5 _ _ hz1)),_,rfl,by omega,by omega,dv (n:=(zs.length:Int).toNat) (fun i σ H5=>∃ v6 v7 ws ks,σ = [some (.ref a),some (.int 1),some (.int 8),some (.ref b),some (.ref t'),some (.ref q),v6,v7]/\Same H4 H5/\H5 q=some (.lst ws)/\gw H5 ws ks/\ks.length=i) ⟨_,_,[],[],rfl,s5,ae,⟨rfl,fun i k z=>by simp at z⟩,rfl⟩ ?_ ?_⟩
 ·rintro i σ H5 hi ⟨v6,v7,ws,ks,rfl,s6,hw,tk,kl⟩;rw[Nc,hzl]at hi;have e0:(0:Int)+(i:Int)=(i:Int):=NO _;rw[e0];have wl:=tk.1;refine⟨_,rfl,_,rfl,_,rfl,_,_,rfl,rfl,.inl ⟨by decide,by decide⟩,_,_,rfl,rfl,a,1+2*i,ns,(by rw[show((1+2*i:Nat):Int)=1+2*(i:Int) by omega];rfl),(s14.trans s6).seq hS,?_⟩
  refine⟨_,rfl,.inl ⟨rfl,_,SqL.of hw⟩,_,rfl,_,_,rfl,rfl,(by show(0:Int)<2;decide),_,rfl,_,_,rfl,rfl,⟨by decide,by decide⟩,_,_,rfl,rfl,⟨by decide,by decide,by decide⟩,_,_,rfl,rfl,_,_,rfl,rfl,(by show(0:Int)<10^(30:Int).toNat+1;decide),(by show 2<=sizeLine;decide),fun tt htt=>?_⟩
  have sn:=ak htt (.tup [.int (oY ns (1+2*i)%2),.int (oY ns (1+2*i)/2%(10^(30:Int).toNat+1))]);refine⟨q,ws,_,rfl,rfl,sn _ _ hw,ax (by omega),?_⟩
  refine⟨_,_,_,ks++[(oY ns (1+2*i)%2,oY ns (1+2*i)/2%(10^(30:Int).toNat+1))],rfl,aW (s6.trans sn) hq _,ae,((tk.mono sn).snoc ae (by show oY ns (1+2*i)%2=0∨oY ns (1+2*i)%2=1;omega) (Og _ (by decide))).put (sn _ _ hw),by rw[MA,kl];rfl⟩
 ·rintro σ H5 ⟨v6,v7,ws,ks,rfl,s6,hw,tk,kl⟩;rw[Nc,hzl]at kl;refine⟨_,rfl,t',_,0,_,rfl,rfl,SqT.of (s6 _ _ ht'),at0,_,rfl,t',_,1,_,rfl,rfl,SqT.of (s6 _ _ ht'),at1,_,rfl,(by show 3<=sizeLine;decide),fun tt htt=>?_⟩
  have sn:=ak htt (.tup [.ref pe',.ref pt',.ref q]);exact kk tt pe' pt' q m es' ts' ks _ ((s14.trans s6).trans sn) ⟨ae,(wp.mono s6).mono sn,⟨ws,sn _ _ hw,tk.mono sn⟩,hel2,kl⟩
end
end K8
namespace K8
open PySem L2
local macro_rules | `(tactic| walk_at "cc") => `(tactic| first | exact ⟨by decide, by decide⟩ | (show (0 : Int) < _; decide) | (show (0 : Int) < _; omega) | (show (0 : Int) ≤ _; omega) | exact ⟨by decide, by decide, by decide⟩ | exact ⟨by omega, by omega, by decide⟩ | exact Or.inl ⟨by decide, by decide⟩ | exact Or.inl ⟨by omega, by omega⟩)
local macro_rules | `(tactic| walk_at "rd") => `(tactic| repeat (first | refine ⟨_, rfl, ?_⟩ | refine ⟨_, _, rfl, rfl, ?_⟩ | refine ⟨rfl, ?_⟩ | (refine ⟨?cc, ?_⟩; (case cc => walk_at "cc"))))
theorem andN(a b:Nat):Builtin.bitAnd (a:Int) (b:Int)=((a&&&b:Nat):Int):=by
 rw[PyProof.Rows.bitAnd_pp (Pk _) (Pk _),Nc,Nc]
theorem orN(a b:Nat):Builtin.bitOr (a:Int) (b:Int)=((a|||b:Nat):Int):=by
 rw[PyProof.Rows.bitOr_and,andN];have q:=PyProof.Rows.nat_or_add_and a b;omega
theorem shlN(p:Nat):(1:Int)*2^((p:Nat):Int).toNat=((2^p:Nat):Int):=by
 rw[Int.one_mul,Nc,Int.natCast_pow];rfl
theorem IB{M p q:Nat}:(M&&&(2^p|||2^q)=0↔M.testBit p=false/\M.testBit q=false)/\(M|||(2^p|||2^q)=M->M.testBit p=true/\M.testBit q=true):=by
 have b1:∀ i,(2^p|||2^q).testBit i=(decide (p=i)||decide (q=i)):=fun i=>by rw[NQ,Nq,Nq]
 refine⟨⟨fun h=>?_,fun⟨h1,h2⟩=>?_⟩,fun h=>?_⟩
 ·have h1:=congrArg (fun z=>Ql z p) h
  have h2:=congrArg (fun z=>Ql z q) h;simp only[Oe,b1,NT]at h1 h2;constructor
  ·simpa using h1
  ·simpa using h2
 ·refine NR fun i=>?_;rw[Oe,b1,NT];by_cases z1:p=i
  ·subst z1;rw[h1];rfl
  ·by_cases z2:q=i
   ·subst z2;rw[h2];rfl
   ·simp[z1,z2]
 ·have h1:=congrArg (fun z=>Ql z p) h
  have h2:=congrArg (fun z=>Ql z q) h;simp only[NQ (x:=M),b1]at h1 h2;constructor
  ·simpa using h1.symm
  ·simpa using h2.symm
theorem Hq{M m:Nat}(h:M<2^m)(k:∀ p,p<m->M.testBit p=true):M=2^m-1:=by
 refine NR fun i=>?_;rw[Qk];by_cases z:i<m
 ·rw[k i z,decide_eq_true z]
 ·rw[decide_eq_false z];exact O4 (Nk h (OL (by decide) (by omega)))
def Ab(K:Mz):Sp:=fun vs H Q _=>∃(a:Addr)(ys:List V)(m:Nat)(es:En)(ts:List (List Nat)),vs = [.int 0,.ref a]/\SqL K H a ys/\cF H ys es/\Gr m es ts/\2<=m/\m<=40/\Q (.int ((2^m-1:Nat):Int)) H
section
variable{P:Program}{w:World}{K:Mz}{mg:Str->Option Value}{base:Heap}
theorem cb:aG ["start","pairs","mask","ahead","one","two","ends"] ["start","pairs"] (aj gg):=⟨rfl,rfl,rfl,by decide +kernel,rfl,by decide +kernel,by decide +kernel⟩
theorem D5{f:Addr}{fd:FuncData} (F:Fun K "reached" "reached" gg f fd):FnOk P w K mg base CX0 1 f fd ["start","pairs"] (Ab K):=by
 refine F.ok cb (fun vs H Q E h=>?_) (fun cdv A outer s H vs Q E hr h=>?_)
 ·obtain⟨a,ys,m,es,ts,rfl,_⟩:=h;rfl
 obtain⟨a,ys,m,es,ts,rfl,hS,hE,g,m2,m40,kk⟩:=h
 refine⟨_,(ag (au (i:=2) cb.nd rfl (Or.inl rfl) (av fx ai (pv 0)))
   (ag (au (i:=3) cb.nd rfl (Or.inl rfl) ai)
   (ag (uK PassesOwn.never (aL qd (pv 2) (pv 3) (aV _)) (ag (au (i:=3) cb.nd rfl (Or.inl rfl) (pv 2))
   (ao (bP PassesOwn.never rfl (aX (pv 1)) (nK rfl (bq (aK (i:=4) cb.nd rfl (Or.inl rfl)) (bq (aK (i:=5) cb.nd rfl (Or.inl rfl)) iC))) (ag (au (i:=6) cb.nd rfl (Or.inl rfl) (av AW (av fx ai (pv 4)) (av fx ai (pv 5))))
   (ao (c7 (aL qd (av sZ (pv 2) (pv 6)) ai (aV _)) (ao (au (i:=2) cb.nd rfl (Or.inl rfl) (av AW (pv 2) (pv 6)))) aZ)))))))
   (ao (aN (pv 2)))))),?_⟩
 refine⟨_,rfl,_,_,rfl,rfl,⟨by decide,by decide,by decide⟩,?_⟩
 have p2:∀ p,p<m->2^p<2^m:=fun p hp=>Nat.pow_lt_pow_right (by decide) hp
 refine tW (fun σ H2=>∃(M Ah:Nat),∃ v4 v5 v6,H2=H/\σ = [some (.int 0),some (.ref a),some (.int (M:Int)),some (.int (Ah:Int)),v4,v5,v6]/\M.testBit 0=true/\M<2^m/\(M=Ah->∀ e∈es,M.testBit e.1=M.testBit e.2))
  (fun σ _=>match σ with | [_,_,some (.int M),some (.int Ah),_,_,_]=>2*((2^m:Nat)-M).toNat+(if M=Ah then 0 else 1) | _=>0) ⟨1,0,_,_,_,rfl,rfl,by decide,Nat.one_lt_two_pow (by omega),fun z=>absurd z (by decide)⟩ ?_ ?_
 ·rintro σ H2 ⟨M,Ah,v4,v5,v6,rfl,rfl,b0,hM,cl⟩;refine⟨_,rfl,_,rfl,rfl,_,rfl,?_⟩;refine ite2 (fun c=>?_) (fun c=>?_)
  ·have c':M≠Ah:=fun z=>by
    rw[decide_eq_true (show V.int (M:Int)=V.int (Ah:Int) by rw[z])]at c
    cases c
   refine⟨_,rfl,?_⟩;refine⟨_,rfl,a,rfl,⟨_,hS⟩,b6 (K:=K) (xs:=ys) (fun i σ H3=>∃(M':Nat),∃ v4 v5 v6,H3=H2/\σ = [some (.int 0),some (.ref a),some (.int (M':Int)),some (.int (M:Int)),v4,v5,v6]/\M'.testBit 0=true/\M'<2^m/\M<=M'/\(M'=M->∀(j:Nat)(e:Nat×Nat),j<i->es[j]?=some e->M.testBit e.1=M.testBit e.2)) ⟨M,_,_,_,rfl,rfl,b0,hM,MC _,fun _ j e z=>absurd z (OD _)⟩ (fun i σ H3 _ ⟨_,_,_,_,z,_⟩=>z▸hS) ?_ ?_⟩
   ·rintro i x σ H3 hx ⟨M',v4,v5,v6,rfl,rfl,b0',hM',hle,cl'⟩;have hi:i<es.length:=by rw[← hE.1];exact(Mw.mp hx).1
    obtain⟨e,he⟩:∃ e,es[i]?=some e:=⟨_,Mx hi⟩;obtain⟨p,x1,x2⟩:=hE.2 i e he;rw[hx]at x1
    cases x1
    obtain⟨e1,e2,_⟩:=g.w.ends e (My he);obtain⟨t1,t2⟩:=IB (M:=M') (p:=e.1) (q:=e.2);refine⟨p,_,rfl,SqT.of x2,rfl,_,_,rfl,_,_,rfl,rfl,?_⟩;refine⟨_,rfl,_,_,rfl,rfl,⟨by omega,by omega,by decide⟩,_,rfl,_,_,rfl,rfl,⟨by omega,by omega,by decide⟩,_,_,rfl,rfl,?_⟩
    have eo:Builtin.bitOr (1*2^((e.1:Nat):Int).toNat) (1*2^((e.2:Nat):Int).toNat)=((2^e.1|||2^e.2:Nat):Int):=by rw[shlN,shlN,orN]
    refine⟨_,rfl,_,rfl,_,_,rfl,rfl,rfl,_,rfl,?_⟩;have step:∀ M'':Nat,M'<=M''->(M''=M'->M'.testBit e.1=M'.testBit e.2)->M''=M->∀(j:Nat)(x:Nat×Nat),j<i+1->es[j]?=some x->M.testBit x.1=M.testBit x.2:=fun M'' h1 h2 h3 j x hj hx'=>by
     have e3:M'=M:=by omega
     by_cases z:j=i
     ·subst z;rw[he]at hx'
      cases hx'
      have:=h2 (by omega)
      rwa[e3]at this
     ·exact cl' e3 j x (by omega) hx'
    refine ite2 (fun c=>?_) (fun c=>?_)
    ·refine⟨_,rfl,_,rfl,_,_,rfl,rfl,?_⟩;refine⟨M'|||(2^e.1|||2^e.2),some (iV e.1),some (iV e.2),some (V.int (Builtin.bitOr (1*2^((e.1:Nat):Int).toNat) (1*2^((e.2:Nat):Int).toNat))),rfl,?_,?_,Nat.or_lt_two_pow hM' (Nat.or_lt_two_pow (p2 _ e1) (p2 _ e2)),Nw hle Nat.left_le_or,step _ Nat.left_le_or fun z=>?_⟩
     ·show[some (V.int 0),some (V.ref a),some (V.int (Builtin.bitOr (M':Int) (Builtin.bitOr (1*2^((e.1:Nat):Int).toNat) (1*2^((e.2:Nat):Int).toNat)))),some (V.int (M:Int)),some (iV e.1),some (iV e.2),some (V.int (Builtin.bitOr (1*2^((e.1:Nat):Int).toNat) (1*2^((e.2:Nat):Int).toNat)))]=_;rw[eo,orN]
     ·rw[NQ,b0'];rfl
     ·obtain⟨u1,u2⟩:=t2 z;rw[u1,u2]
    ·refine⟨M',_,_,_,rfl,rfl,b0',hM',hle,step M' (MC _) fun _=>?_⟩;have c3:M'&&&(2^e.1|||2^e.2)=0:=by
      by_cases z:M'&&&(2^e.1|||2^e.2)=0
      ·exact z
      ·refine absurd ?_ c;rw[decide_eq_false (fun y=>z ?_)]
       ·rfl
       ·have y':=V.int.inj y
        rw[eo,andN]at y';omega
     obtain⟨u1,u2⟩:=t1.mp c3;rw[u1,u2]
   ·rintro σ H3 ⟨M',v4,v5,v6,rfl,rfl,b0',hM',hle,cl'⟩;rw[hE.1]at cl';refine⟨⟨M',M,_,_,_,rfl,rfl,b0',hM',fun z e he=>?_⟩,?_⟩
    ·obtain⟨j,hj⟩:=NF.mp he;have:=cl' z j e (Mw.mp hj).1 hj;rw[z];exact this
    ·show 2*(((2^m:Nat):Int)-(M':Int)).toNat+(if(M':Int)=(M:Int) then 0 else 1)<2*(((2^m:Nat):Int)-(M:Int)).toNat+(if(M:Int)=(Ah:Int) then 0 else 1);rw[if_neg (show ¬ (M:Int)=(Ah:Int) from fun z=>c' (by omega))]
     have hMi:(M':Int)<((2^m:Nat):Int):=by exact_mod_cast hM'
     have hMj:(M:Int)<=(M':Int):=by omega
     generalize ((2^m:Nat):Int)=Z at hMi ⊢;split<;>omega
  ·have c':M=Ah:=by
    by_cases z:M=Ah
    ·exact z
    ·exact absurd (by rw[decide_eq_false (fun y=>z (by have:=V.int.inj y;omega))];rfl) c
   have full:=Hq hM fun p hp=>by
    have:=g.conn (fun x=>M.testBit x=true) (fun e he=>by rw[cl c' e he]) 0 p (by omega) hp b0
    exact this
   refine⟨_,rfl,?_⟩;rw[full];exact kk
 ·rintro σ H2 Q1 Q2 hi ⟨v',e,b',e2,z1,c',e3,q'⟩;exact⟨v',e,b',e2,z1,c',e3,hi _ _ q'⟩
end
end K8
namespace K8
open PySem L2
local macro_rules | `(tactic| walk_at "cc") => `(tactic| first | exact ⟨by decide, by decide⟩ | (show (0 : Int) < _; decide) | (show (0 : Int) < _; omega) | (show (0 : Int) ≤ _; omega) | exact ⟨by decide, by decide, by decide⟩ | exact ⟨by omega, by omega, by decide⟩ | exact Or.inl ⟨by decide, by decide⟩ | exact Or.inl ⟨by omega, by omega⟩)
local macro_rules | `(tactic| walk_at "rd") => `(tactic| repeat (first | refine ⟨_, rfl, ?_⟩ | refine ⟨_, _, rfl, rfl, ?_⟩ | refine ⟨rfl, ?_⟩ | (refine ⟨?cc, ?_⟩; (case cc => walk_at "cc"))))
theorem mv:∀{a b:List Int},a.Perm b->a.Pairwise (·<=·)->b.Pairwise (·<=·)->a=b
 |[],b,h,_,_=>(List.nil_perm.mp h).symm▸rfl
 |x::a,[],h,_,_=>absurd h.length_eq (by simp)
 |x::a,y::b,h,pa,pb=>by
  obtain⟨a1,a2⟩:=Oj.mp pa;obtain⟨b1,b2⟩:=Oj.mp pb;have h1:x<=y:=by
   rcases MG.mp (h.mem_iff.mpr (MV ..):y∈x::a)with z | z
   ·rw[z];exact N3 _
   ·exact a1 y z
  have h2:y<=x:=by
   rcases MG.mp (h.mem_iff.mp (MV ..):x∈y::b)with z | z
   ·rw[z];exact N3 _
   ·exact b1 x z
  have e:x=y:=Int.le_antisymm h1 h2;subst e;rw[mv (List.Perm.cons_inv h) a2 b2]
def cI(l:List Nat):List Int:=l.map fun(p:Nat)=>((p:Nat):Int)
theorem cI_V(l:List Nat):(cI l).map V.int=l.map iV:=by unfold cI;rw[NZ];rfl
theorem K6{l r:List Nat}{out:List Int}(hp:out.Perm (cI l))(hs:out.Pairwise (·<=·))(nl:l.Nodup)(pr:r.Pairwise (· < ·))(hm:∀ t,t∈l↔t∈r):out=cI r:=by
 have nr:r.Nodup:=pr.imp fun h=>M3 h;have q:(cI l).Perm (cI r):=((N5 nl nr).mpr hm).map _;refine mv (hp.trans q) hs ?_;unfold cI;exact O3.map _ (fun a b h=>by omega) pr
theorem Hd{l:List Nat}{n:Nat}:ins l l.length n=l++[n]:=by
 unfold ins;rw[Ni,List.drop_length]
def Ad(K:Mz):Sp:=fun vs H Q _=>∃(a:Addr)(xs:List V)(m:Nat)(es:En),vs = [.int (m:Int),.ref a]/\SqL K H a xs/\dO K H xs es/\(∀ e∈es,e.1<m/\e.2<m)/\Q .non H
def uh(K:Mz):Sp:=fun vs H Q _=>∃(a b:Addr)(xs zs:List V)(m:Nat)(es:En)(ts:List (List Nat)),vs = [.int (m:Int),.ref a,.ref b]/\SqL K H a xs/\dO K H xs es/\SqL K H b zs/\bM H zs ts/\bC m es ts/\es.length<=8/\m<=40/\∀ H',Same H H'->Q .non H'
def Ac(K:Mz):Sp:=fun vs H Q _=>∃(a:Addr)(xs:List V)(m:Nat)(es:En)(ts:List (List Nat)),vs = [.int (m:Int),.ref a]/\SqL K H a xs/\dO K H xs es/\Gr m es ts/\2<=m/\m<=40/\es.length<=8/\∀ H',Same H H'->Q .non H'
section
variable{P:Program}{w:World}{K:Mz}{mg:Str->Option Value}{base:Heap}
theorem jY:aG ["many","ties","tie"] ["many","ties"] (aj bX):=⟨rfl,rfl,rfl,by decide +kernel,rfl,by decide +kernel,by decide +kernel⟩
theorem Jo{f:Addr}{fd:FuncData} (F:Fun K "refuse_ends" "refuse_ends" bX f fd):FnOk P w K mg base CX0 1 f fd ["many","ties"] (Ad K):=by
 refine F.ok jY (fun vs H Q E h=>?_) (fun cdv A outer s H vs Q E hr h=>?_)
 ·obtain⟨a,xs,m,es,rfl,_⟩:=h;rfl
 obtain⟨a,xs,m,es,rfl,hS,hT,hm,k⟩:=h;refine⟨_,(ao (bP PassesOwn.never rfl (aX (pv 1)) (aK (i:=2) jY.nd rfl (Or.inl rfl)) (ao (c7 (PW.pt (rZ (aL op_ge (cJ (pv 2) rfl) (pv 0) (aV _)) (nH (aL op_ge (cJ (pv 2) rfl) (pv 0) (aV _))))) (ao gF) aZ)))),?_⟩;refine⟨_,rfl,a,rfl,⟨_,hS⟩,b6 (K:=K) (xs:=xs) (fun i σ H2=>∃ v2,σ = [some (.int (m:Int)),some (.ref a),v2]/\H2=H) ⟨_,rfl,rfl⟩ (fun i σ H2 _ ⟨_,_,z⟩=>z▸hS) ?_ ?_⟩
 ·rintro i x σ H2 hx ⟨v2,rfl,rfl⟩;have hi:i<es.length:=by rw[← hT.1];exact(Mw.mp hx).1
  obtain⟨e,he⟩:∃ e,es[i]?=some e:=⟨_,Mx hi⟩;obtain⟨p,C,dx,st,x1,x2,x3⟩:=hT.2 i e he;rw[hx]at x1
  cases x1
  obtain⟨e1,e2⟩:=hm e (My he);refine⟨_,rfl,p,C,dx,_,_,rfl,x2,x3.cl,x3.n1,lr _ _ _,_,rfl,_,_,rfl,rfl,_,rfl,?_⟩;refine ite2 (fun c=>absurd (of_decide_eq_true c) (by omega)) (fun _=>?_)
  refine⟨_,rfl,p,C,dx,_,_,rfl,x2,x3.cl,x3.n2,pL _ _ _,_,rfl,_,_,rfl,rfl,_,rfl,?_⟩;refine ite2 (fun c=>absurd (of_decide_eq_true c) (by omega)) (fun _=>?_)
  exact⟨_,rfl,rfl⟩
 ·rintro σ H2 ⟨v2,rfl,rfl⟩;exact k
theorem cH:aG ["many","ties","turns","ending","number","tie"] ["many","ties","turns"] (aj bN):=⟨rfl,rfl,rfl,by decide +kernel,rfl,by decide +kernel,by decide +kernel⟩
theorem Gd{f:Addr}{fd:FuncData} (F:Fun K "refuse_turns" "refuse_turns" bN f fd) (T:Txt mg):FnOk P w K mg base CX0 1 f fd ["many","ties","turns"] (uh K):=by
 refine F.ok cH (fun vs H Q E h=>?_) (fun cdv A outer s H vs Q E hr h=>?_)
 ·obtain⟨a,b,xs,zs,m,es,ts,rfl,_⟩:=h;rfl
 obtain⟨a,b,xs,zs,m,es,ts,rfl,hS,hT,hB,hR,w',few,m40,kk⟩:=h;have hu64:=hr.units
 refine⟨_,(ag (mz (i:=3) rfl cH.nd rfl rfl (fr:=[]) (by exact bH.plain (by rfl) (by decide +kernel) (by rfl) (by decide +kernel) (by rfl) (by decide +kernel)) (b4 rfl T.n_range (aa (pv 0) ah)) (fun C ex s H=>(dH ah)))
   (ag (bP PassesOwn.never rfl (F1 rfl T.n_enumerate (aa (pv 1) ah)) (nK rfl (bq (aK (i:=4) cH.nd rfl (Or.inl rfl)) (bq (aK (i:=5) cH.nd rfl (Or.inl rfl)) iC))) (ag (bt (fX M5 Np Nn br (aE aP (pv 3) (cJ (pv 5) rfl) (fun _ _=>rfl)) (aa (pv 4) ah)))
   (ao (bt (fX M5 Np Nn br (aE aP (pv 3) (cJ (pv 5) rfl) (fun _ _=>rfl)) (aa (pv 4) ah))))))
   (ao (c7 (aL (C7 hu64) (c8 rfl (fr:=[]) (by exact bH.plain (by rfl) (by decide +kernel) (by rfl) (by decide +kernel) (by rfl) (by decide +kernel)) (aX (pv 2)) (fun C ex s H=>(aF (zg (K:=K) rfl) (by rfl) T.n_sorted lY (aa (pv 0) ah)))) (pv 3) (aV _)) (ao gF) aZ)))),?_⟩
 refine⟨_,rfl,_,rfl,by omega,by omega,tq (n:=(m:Int).toNat) (fun i ys H2=>Same H H2/\cQ (fun p=>H p≠none) H2 ys (ON i [])/\Dist ys) (by rw[Nc];exact ND (ax (by omega))) ⟨fun _ _ e=>e,⟨rfl,fun i l e=>by simp at e⟩,fun i j p e=>by simp at e⟩ ?_ ?_⟩
 ·rintro i ys H2 hi ⟨s2,rx,D⟩;refine⟨(by show 0<=sizeLine;decide),fun l hl=>?_⟩
  have s3:=ak hl (.lst []);refine⟨s2.trans s3,?_,yK rx D hl⟩;rw[List.replicate_succ'];refine(rx.mono fun b u _ z=>s3 _ _ z).snoc (fun z=>z ?_) ae
  cases y:H l with
  |none=>rfl
  |some o=>rw[s2 _ _ y]at hl;cases hl
 rintro ys H2 hyl ⟨s2,rx,D⟩ pn hpn;rw[Nc]at rx;have s3:=ak hpn (.lst ys);have hpn0:H pn=none:=by
  cases y:H pn with
  |none=>rfl
  |some o=>rw[s2 _ _ y]at hpn;cases hpn
 have rx3:cQ (fun p=>p=pn∨H p≠none) (upd H2 pn (.lst ys)) ys (ON m []):=⟨rx.1,fun i l z=>by
  obtain⟨p,a1,a2,a3⟩:=rx.2 i l z;have n2:p≠pn:=aw a3 hpn
  exact⟨p,a1,by rintro(y | y);exact n2 y;exact a2 y,s3 _ _ a3⟩⟩
 refine⟨_,rfl,a,rfl,⟨_,(s2.trans s3).seq hS⟩,Dy (K:=K) (xs:=xs) (fun i σ H5=>∃ v4 v5 rows,σ = [some (.int (m:Int)),some (.ref a),some (.ref b),some (.ref pn),v4,v5]/\Same H H5/\H5 pn=some (.lst ys)/\cQ (fun p=>p=pn∨H p≠none) H5 ys rows/\bC m (es.take i) rows/\∀ r∈rows,r.Pairwise (· < ·))
  ⟨_,_,_,rfl,s2.trans s3,ae,rx3,ID m,fun r hr=>by rw[(List.mem_replicate.mp hr).2];exact Qa⟩ (fun i σ H5 _ ⟨_,_,_,_,z,_⟩=>z.seq hS) ?_ ?_⟩
 ·rintro i x σ H5 T2 hx ⟨v4,v5,rows,rfl,s5,hpn5,rx5,w5,pw⟩ hT2;have hi:i<es.length:=by rw[← hT.1];exact(Mw.mp hx).1
  obtain⟨e,he⟩:∃ e,es[i]?=some e:=⟨_,Mx hi⟩;obtain⟨p,C,dx,st,x1,x2,x3⟩:=hT.2 i e he;rw[hx]at x1
  cases x1
  have sT:=ak hT2 (.tup [.int (i:Int),.ref p]);have s6:=s5.trans sT;have x6:=s6 _ _ x2;obtain⟨e1,e2,e3⟩:=w'.ends e (My he);have til:(es.take i).length=i:=by rw[Nf];omega
  have rlen:=w5.len;obtain⟨l,hl⟩:∃ l,rows[e.1]?=some l:=⟨_,Mx (by omega)⟩
  obtain⟨l',hl'⟩:∃ l,rows[e.2]?=some l:=⟨_,Mx (by omega)⟩
  have rx6:cQ (fun p=>p=pn∨H p≠none) (upd H5 T2 (.tup [.int (i:Int),.ref p])) ys rows:=rx5.mono fun b u _ z=>sT _ _ z;obtain⟨p1,y1,y2,y3⟩:=rx6.2 _ _ hl;obtain⟨p2,z1,z2,z3⟩:=rx6.2 _ _ hl';have no_S:∀{p:Addr},¬ (p=pn∨H p≠none)->H p=none/\p≠pn:=fun{p} n=>by
   refine⟨?_,fun z=>n (.inl z)⟩
   cases y:H p with
   |none=>rfl
   |some o=>exact absurd (.inr (by rw[y];exact fun z=>nomatch z)) n
  obtain⟨hp1,np1⟩:=no_S y2;obtain⟨hp2,np2⟩:=no_S z2;have n12:p2≠p1:=fun y=>by rw[y]at z1;exact e3 (D _ _ p1 y1 z1)
  have ll:∀{q:Nat}{r:List Nat},rows[q]?=some r->∀ t∈r,t<i:=fun{q r} h t ht=>by
   have:=nL w5 h ht;omega
  have lle:∀{q:Nat}{r:List Nat},rows[q]?=some r->r.length<=8:=fun{q r} h=>by
   have:=eO (w5.nd _ _ h) (ll h);omega
  have f1:=lle hl;have f2:=lle hl';have hpn6:=sT _ _ hpn5;refine⟨T2,_,rfl,SqT.of ae,rfl,_,_,rfl,_,_,rfl,rfl,?_⟩;refine⟨_,rfl,_,rfl,p,C,dx,_,_,rfl,x6,x3.cl,x3.n1,lr _ _ _,pn,ys,_,_,rfl,rfl,SqL.of hpn6,aM y1,.inl ⟨rfl,_,SqL.of y3⟩,_,rfl,p1,_,_,rfl,rfl,y3,ax (by rw[MD];omega),?_⟩
  have e1':(l.map iV)++[V.int (i:Int)]=(l++[i]).map iV:=by rw[M8];rfl
  rw[e1'];have x7:(upd (upd H5 T2 (.tup [.int (i:Int),.ref p])) p1 (.lst ((l++[i]).map iV))) p=some (.ins C dx (tf (e.1:Int) (e.2:Int) st)):=by rw[aq (fun z=>by rw[z]at x2;rw[x2]at hp1;cases hp1)];exact x6
  have hpn7:(upd (upd H5 T2 (.tup [.int (i:Int),.ref p])) p1 (.lst ((l++[i]).map iV))) pn=some (.lst ys):=by rw[aq np1.symm];exact hpn6
  have z7:(upd (upd H5 T2 (.tup [.int (i:Int),.ref p])) p1 (.lst ((l++[i]).map iV))) p2=some (.lst (l'.map iV)):=by rw[aq n12];exact z3
  refine⟨_,rfl,_,rfl,p,C,dx,_,_,rfl,x7,x3.cl,x3.n2,pL _ _ _,pn,ys,_,_,rfl,rfl,SqL.of hpn7,aM z1,.inl ⟨rfl,_,SqL.of z7⟩,_,rfl,p2,_,_,rfl,rfl,z7,ax (by rw[MD];omega),?_⟩
  have e2':(l'.map iV)++[V.int (i:Int)]=(l'++[i]).map iV:=by rw[M8];rfl
  rw[e2'];refine⟨_,_,(rows.set e.1 (l++[i])).set e.2 (l'++[i]),rfl,aW (aW s6 hp1 _) hp2 _,by rw[aq np2.symm];exact hpn7,(rx6.set D y1).set D z1,?_,fun r hr=>?_⟩
  ·have q:=w5.put (k:=l.length) (j:=l'.length) e1 e2 e3 hl hl'
   rw[Hd,Hd,til]at q;rw[M1,he];exact q
  ·have app:∀{q:Nat}{r:List Nat},rows[q]?=some r->(r++[i]).Pairwise (· < ·):=fun{q r} h=>NB.mpr ⟨pw r (My h),OX _ _,fun x hx y hy=>by
    have:=ll h x hx;have:y=i:=by simpa using hy
    omega⟩
   rcases Qv hr with z | z
   ·rcases Qv z with z | z
    ·exact pw r z
    ·rw[z];exact app hl
   ·rw[z];exact app hl'
 rintro σ H5 ⟨v4,v5,rows,rfl,s5,hpn5,rx5,w5,pw⟩;rw[hT.1,Ni]at w5;have hzl:zs.length=m:=by rw[hR.1,w'.len]
 refine⟨_,rfl,b,rfl,⟨_,s5.seq hB⟩,bK (K:=K) (xs:=zs) (fun i vs H6=>Same H5 H6/\bM H6 vs (rows.take i)) (ND (ax (by omega))) ⟨fun _ _ e=>e,rfl,fun i l e=>by simp at e⟩ (fun i vs H6 _ z=>(s5.trans z.1).seq hB) ?_ ?_⟩
 ·rintro i x vs H6 hx ⟨s6,rz⟩;have hi:i<ts.length:=by rw[← hR.1];exact(Mw.mp hx).1
  obtain⟨l,hl⟩:∃ l,ts[i]?=some l:=⟨_,Mx hi⟩;obtain⟨r,hr'⟩:∃ r,rows[i]?=some r:=⟨_,Mx (by rw[w5.len,← w'.len];exact hi)⟩
  obtain⟨p,a1,a2⟩:=(hR.mono (s5.trans s6)).2 i l hl;rw[hx]at a1
  cases a1
  have hll:l.length<=8:=Nw (eO (w'.nd _ _ hl) fun t ht=>nL w' hl ht) few;refine⟨_,rfl,p,cI l,rfl,(by rw[cI_V];exact SqL.of a2),(by unfold cI;rw[MD];omega),fun q out hq hp hs=>?_⟩
  have eo:=K6 hp hs (w'.nd _ _ hl) (pw r (My hr')) fun t=>(w'.mem i l hl t).trans (w5.mem i r hr' t).symm;subst eo;have s7:=ak hq (.lst ((cI r).map V.int));refine⟨s6.trans s7,?_⟩;rw[show rows.take (i+1)=rows.take i++[r] by rw[M1,hr'];rfl]
  exact(rz.mono s7).snoc (by rw[ae,cI_V])
 rintro vs H6 _ ⟨s6,rz⟩ D' hD';rw[hzl,← w5.len,Ni]at rz;have s7:=ak hD' (.lst vs);have s67:=s6.trans s7;refine⟨_,rfl,_,FP (SqL.of ae) (rz.mono s7),FP (SqL.of (s67 _ _ hpn5)) (rx5.off.mono s67),Az rows,_,rfl,iteF ?_⟩;exact kk _ (s5.trans s67)
theorem oA:aG ["many","ties"] ["many","ties"] (aj bw):=⟨rfl,rfl,rfl,by decide +kernel,rfl,by decide +kernel,by decide +kernel⟩
theorem Jn{f fr:Addr}{fd fdr:FuncData} (F:Fun K "refuse_parted" "refuse_parted" bw f fd) (G_reached:Cal P w K mg base 1 "reached" ["start","pairs"] (Ab K) fr fdr):FnOk P w K mg base CX0 2 f fd ["many","ties"] (Ac K):=by
 refine F.ok oA (fun vs H Q E h=>?_) (fun cdv A outer s H vs Q E hr h=>?_)
 ·obtain⟨a,xs,m,es,ts,rfl,_⟩:=h;rfl
 obtain⟨a,xs,m,es,ts,rfl,hS,hT,g,m2,m40,few,kk⟩:=h;have hul:xs.length=es.length:=hT.1;refine⟨_,(ao (c7 (aL qd (ar G_reached.ok (hr.mono (by decide)) rfl G_reached.mg G_reached.kp G_reached.bn .nil aR (aa ai (aa (c8 rfl (fr:=[]) (by exact bH.plain (by rfl) (by decide +kernel) (by rfl) (by decide +kernel) (by rfl) (by decide +kernel)) (aX (pv 1)) (fun C ex s H=>(cB (aa (uY (K:=K) rfl (pv 0) rfl) (aa (uY (K:=K) rfl (pv 0) rfl) ah))))) ah))) (av pZ (av fx ai (pv 0)) ai) (aV _)) (ao gF) aZ)),?_⟩
 refine⟨_,rfl,a,rfl,⟨_,hS⟩,bK (K:=K) (xs:=xs) (fun i zs H11=>Same H H11/\cF H11 zs (es.take i)) (ND (ax (by omega))) ⟨fun _ _ e=>e,rfl,fun i l e=>by simp at e⟩ (fun i zs H11 _ z=>z.1.seq hS) ?_ ?_⟩
 ·rintro i x zs H11 hx ⟨s11,ez⟩;have hi:i<es.length:=by rw[← hT.1];exact(Mw.mp hx).1
  obtain⟨e,he⟩:∃ e,es[i]?=some e:=⟨_,Mx hi⟩;obtain⟨p,C,dx,st,a1,a2,a3⟩:=(hT.mono s11).2 i e he;rw[hx]at a1
  cases a1
  refine⟨_,rfl,p,C,dx,_,_,rfl,a2,a3.cl,a3.n1,lr _ _ _,_,rfl,p,C,dx,_,_,rfl,a2,a3.cl,a3.n2,pL _ _ _,(by show 2<=sizeLine;decide),fun g hg=>?_⟩
  have s12:=ak hg (.tup [iV e.1,iV e.2]);refine⟨s11.trans s12,?_⟩;rw[show es.take (i+1)=es.take i++[e] by rw[M1,he];rfl]
  exact(ez.mono s12).snoc ae
 rintro zs H11 _ ⟨s11,ez⟩ D hD;rw[hT.1,Ni]at ez;have s12:=ak hD (.lst zs);refine⟨D,zs,m,es,ts,rfl,SqL.of ae,ez.mono s12,g,m2,m40,_,rfl,_,_,rfl,rfl,⟨by omega,by omega,by decide⟩,_,_,rfl,rfl,rfl,_,rfl,?_⟩
 refine G1 ?_ (kk _ (s11.trans s12));show V.int _=V.int _;rw[shlN];have:=PN m;congr 1;omega
end
end K8
namespace K8
open PySem L2
local macro_rules | `(tactic| walk_at "cc") => `(tactic| first | exact ⟨by decide, by decide⟩ | (show (0 : Int) < _; decide) | (show (0 : Int) < _; omega) | (show (0 : Int) ≤ _; omega) | exact ⟨by decide, by decide, by decide⟩ | exact ⟨by omega, by omega, by decide⟩ | exact Or.inl ⟨by decide, by decide⟩ | exact Or.inl ⟨by omega, by omega⟩)
local macro_rules | `(tactic| walk_at "rd") => `(tactic| repeat (first | refine ⟨_, rfl, ?_⟩ | refine ⟨_, _, rfl, rfl, ?_⟩ | refine ⟨rfl, ?_⟩ | (refine ⟨?cc, ?_⟩; (case cc => walk_at "cc"))))
def cls(PL PS:Addr)(push:Bool):Addr:=if push=true then PS else PL
def xb(PL PS:Addr)(H:Hp)(xs:List V)(es:En)(ks:Kn):Prop:=xs.length=es.length/\∀(i:Nat)(e:Nat×Nat)(k:Int×Int),es[i]?=some e->ks[i]?=some k->∃ p dx,xs[i]?=some (.ref p)/\H p=some (.ins (cls PL PS (decide (k.1=1))) dx (tf (e.1:Int) (e.2:Int) k.2))
theorem xb.mono{PL PS:Addr}{H H':Hp}{xs:List V}{es:En}{ks:Kn}(t:xb PL PS H xs es ks)(h:Same H H'):xb PL PS H' xs es ks:=⟨t.1,fun i e k q r=>by
 obtain⟨p,dx,a,b⟩:=t.2 i e k q r
 exact⟨p,dx,a,h _ _ b⟩⟩
structure CW(K:Mz)(C:Addr):Prop where
 cl:Cls K C
 n1:fU K C "many"
 n2:fU K C "ties"
 n3:fU K C "turns"
 n4:fU K C "rounds"
 n5:fU K C "sides"
theorem jA(k:Str)(v:V):∀ fs:List (Str×V),(putF k v fs).length<=fs.length+1
 |[]=>MC _
 | (a,b)::r=>by
  show(if a=k then(a,v)::r else(a,b)::putF k v r).length<=_;have:=jA k v r;split<;>simp only[Nb]<;>omega
theorem none_of{H H':Hp}{b:Addr}(s:Same H H')(z:H' b=none):H b=none:=by
 cases y:H b with
 |none=>rfl
 |some o=>rw[s _ _ y]at z;cases z
structure WebG(S:Addr->Prop)(H:Hp)(fs:List (Str×V))(m:Nat)(es:En)(ts rs:List (List Nat)):Prop where
 many:fs.lookup ("many" : Str)=some (.int (m:Int))
 turns:∃ q z,fs.lookup ("turns" : Str)=some (.ref q)/\¬ S q/\H q=some (.lst z)/\cQ S H z ts
 rounds:∃ q z,fs.lookup ("rounds" : Str)=some (.ref q)/\H q=some (.lst z)/\bM H z rs
 sides:∃ q z,fs.lookup ("sides" : Str)=some (.ref q)/\H q=some (.lst z)/\nF H z es.length rs
 part:fi (fol es ts) (2*es.length) (2*es.length) rs
theorem nF.mono{H H':Hp}{z:List V}{n:Nat}{rs:List (List Nat)}(h:nF H z n rs)(s:Same H H'):nF H' z n rs:=⟨h.1,fun i hi=>by
 obtain⟨t,a,b,r,r',y1,y2,y3⟩:=h.2 i hi
 exact⟨t,a,b,r,r',y1,s _ _ y2,y3⟩⟩
theorem WebG.mono{S S':Addr->Prop}{H H':Hp}{fs:List (Str×V)}{m:Nat}{es:En}{ts rs:List (List Nat)}(h:WebG S H fs m es ts rs)(s:Same H H')(i:∀ a,S' a->S a):WebG S' H' fs m es ts rs:=by
 obtain⟨a,⟨q,z,b1,b0,b2,b3⟩,⟨q',z',c1,c2,c3⟩,⟨q2,z2,d1,d2,d3⟩,e⟩:=h;refine⟨a,⟨q,z,b1,fun y=>b0 (i _ y),s _ _ b2,b3.1,fun j l y=>?_⟩,⟨q',z',c1,s _ _ c2,c3.mono s⟩,⟨q2,z2,d1,s _ _ d2,d3.mono s⟩,e⟩;obtain⟨r,y1,y2,y3⟩:=b3.2 j l y;exact⟨r,y1,fun x=>y2 (i _ x),s _ _ y3⟩
def uf(K:Mz):Sp:=fun vs H Q _=>∃(p C dx qt qh:Addr)(m:Nat)(xs zs:List V)(es:En)(ts:List (List Nat)),vs = [.ref p,.int (m:Int),.ref qt,.ref qh]/\H p=some (.ins C dx [])/\CW K C/\H qt=some (.lst xs)/\dO K H xs es/\H qh=some (.lst zs)/\bM H zs ts/\Gr m es ts/\0<es.length/\es.length<=8 /\
 ∀(fs:List (Str×V))(q1:Addr)(rs:List (List Nat))(H':Hp),H' p=some (.ins C dx fs)->WebG (fun a=>H a≠none) H' fs m es ts rs->H q1=none->fs.lookup ("ties" : Str)=some (.ref q1)->H' q1=some (.lst xs)->(∀ q o,H q=some o->q≠p->H' q=some o)->Q .non H'
theorem dO.keep{K:Mz}{H G:Hp}{xs:List V}{es:En}{p C dx:Addr}(t:dO K H xs es)(hp:H p=some (.ins C dx []))(k:∀ q u,q≠p->H q=some u->G q=some u):dO K G xs es:=⟨t.1,fun i e z=>by
 obtain⟨q,C',dx',s,a,b,d⟩:=t.2 i e z;refine⟨q,C',dx',s,a,k _ _ (fun z=>?_) b,d⟩;rw[z,hp]at b;have e1:([]:List (Str×V))=tf (e.1:Int) (e.2:Int) s:=by
  injection b with b;injection b
 have e2:=lr (e.1:Int) (e.2:Int) s;rw[← e1]at e2
 cases e2⟩
section
variable{P:Program}{w:World}{K:Mz}{mg:Str->Option Value}{base:Heap}
theorem lu:aG ["self","many","ties","turns","rounds"] ["self","many","ties","turns"] (aj cz):=⟨rfl,rfl,rfl,by decide +kernel,rfl,by decide +kernel,by decide +kernel⟩
theorem Jj{f f1 f2 f3 f4 f5:Addr}{fd d1 d2 d3 d4 d5:FuncData} (F:Fun K "__init__" "Web.__init__" cz f fd) (T:Txt mg) (G_refuse_ends:Cal P w K mg base 1 "refuse_ends" ["many","ties"] (Ad K) f1 d1) (G_refuse_turns:Cal P w K mg base 1 "refuse_turns" ["many","ties","turns"] (uh K) f2 d2) (G_refuse_parted:Cal P w K mg base 2 "refuse_parted" ["many","ties"] (Ac K) f3 d3) (G_rounds_of:Cal P w K mg base 4 "rounds_of" ["ties","turns"] (ug K) f4 d4) (G_sides_of:Cal P w K mg base 1 "sides_of" ["ties","rounds"] (z9 K) f5 d5) :
  FnOk P w K mg base CX0 5 f fd ["self","many","ties","turns"] (uf K):=by
 refine F.ok lu (fun vs H Q E h=>?_) (fun cdv A outer s H vs Q E hr h=>?_)
 ·obtain⟨p,C,dx,qt,qh,m,xs,zs,es,ts,rfl,_⟩:=h;rfl
 obtain⟨p,C,dx,qt,qh,m,xs,zs,es,ts,rfl,hp,cw,hqt,hT,hqh,hR,g,e0,few,kk⟩:=h;have w':=g.w;have m2:=g.two e0;have mf:=Dw g;have hul:xs.length=es.length:=hT.1;have hzl:zs.length=m:=by rw[hR.1,w'.len]
 have pl:∀{q:Addr}{ys:List V},H q=some (.lst ys)->q≠p:=fun{q ys} h z=>by rw[z,hp]at h;cases h
 refine⟨_,(ag (bt (ar G_refuse_ends.ok (hr.mono (by decide)) rfl G_refuse_ends.mg G_refuse_ends.kp G_refuse_ends.bn .nil aR (aa (pv 1) (aa (pv 2) ah))))
   (ag (bt (ar G_refuse_turns.ok (hr.mono (by decide)) rfl G_refuse_turns.mg G_refuse_turns.kp G_refuse_turns.bn .nil aR (aa (pv 1) (aa (pv 2) (aa (pv 3) ah)))))
   (ag (bt (ar G_refuse_parted.ok (hr.mono (by decide)) rfl G_refuse_parted.mg G_refuse_parted.kp G_refuse_parted.bn .nil aR (aa (pv 1) (aa (pv 2) ah))))
   (ag (au (i:=4) lu.nd rfl (Or.inl rfl) (ar G_rounds_of.ok (hr.mono (by decide)) rfl G_rounds_of.mg G_rounds_of.kp G_rounds_of.bn .nil aR (aa (pv 2) (aa (pv 3) ah))))
   (ag (c7 (aL qd (av bJ (av pZ (pv 1) (aF ay (by rfl) T.n_len bL (aa (pv 2) ah))) (aF ay (by rfl) T.n_len bL (aa (pv 4) ah))) ai (aV _)) (ao gF) aZ)
   (ag (nJ (pv 0) (pv 1) rfl)
   (ag (nJ (pv 0) (dq cE (by rfl) T.n_list ic (aa (pv 2) ah)) rfl)
   (ag (nJ (pv 0) (c8 rfl (fr:=[]) (by exact bH.plain (by rfl) (by decide +kernel) (by rfl) (by decide +kernel) (by rfl) (by decide +kernel)) (aX (pv 3)) (fun C ex s H=>(dq (tH (K:=K) rfl) (by rfl) T.n_list ic (aa (pv 0) ah)))) rfl)
   (ag (nJ (pv 0) (pv 4) rfl)
   (ao (nJ (pv 0) (ar G_sides_of.ok (hr.mono (by decide)) rfl G_sides_of.mg G_sides_of.kp G_sides_of.bn .nil aR (aa (pv 2) (aa (pv 4) ah))) rfl))))))))))),?_⟩
 refine⟨_,rfl,_,rfl,qt,xs,m,es,rfl,SqL.of hqt,hT,fun e he=>⟨(w'.ends e he).1,(w'.ends e he).2.1⟩,?_⟩;refine⟨_,rfl,_,rfl,_,rfl,qt,qh,xs,zs,m,es,ts,rfl,SqL.of hqt,hT,SqL.of hqh,hR,w',few,by omega,fun H1 s1=>?_⟩
 refine⟨_,rfl,_,rfl,qt,xs,m,es,ts,rfl,SqL.of (s1 _ _ hqt),hT.mono s1,g,m2,by omega,few,fun H2 s2=>?_⟩
 have s12:=s1.trans s2;refine⟨_,rfl,_,rfl,qt,qh,m,es,ts,rfl,⟨⟨xs,SqL.of (s12 _ _ hqt),hT.mono s12⟩,⟨zs,SqL.of (s12 _ _ hqh),hR.mono s12⟩,w',by omega⟩,fun qr vs rs H3 s3 hqr hrs ro=>?_⟩
 have s13:=s12.trans s3;have cnt:m+rs.length=es.length+2:=by
  obtain⟨rs',p',c⟩:=g.part;rw[← p'.same ro.part];exact c
 have hvl:vs.length=rs.length:=hrs.1;refine⟨_,rfl,_,rfl,qt,xs,rfl,.inl (SqL.of (s13 _ _ hqt)),_,_,rfl,rfl,_,rfl,qr,vs,rfl,.inl (SqL.of hqr),_,_,rfl,rfl,rfl,_,rfl,?_⟩;refine G1 (congrArg V.int (by omega)) ?_
 have hp3:=s13 _ _ hp;refine⟨_,rfl,_,rfl,p,C,dx,[],rfl,hp3,cw.cl,cw.n1,(by show 0<1000;decide),?_⟩
 have keep:∀{G:Hp}{o:HO}{q:Addr}{u:HO},q≠p->G q=some u->(upd G p o) q=some u:=fun n z=>by rw[aq n];exact z
 refine⟨_,rfl,qt,xs,rfl,.inl (SqL.of (keep (pl hqt) (s13 _ _ hqt))),fun q1 hq1=>?_⟩;have n1p:q1≠p:=fun z=>by rw[z,ae]at hq1;cases hq1
 have t4:=ak hq1 (.lst xs);refine⟨_,rfl,p,C,dx,_,rfl,t4 _ _ ae,cw.cl,cw.n2,?_,?_⟩
 ·have:=jA "many" (.int (m:Int)) ([]:List (Str×V));simp only[OF]at this;omega
 have t1:∀ q u,q≠p->H3 q=some u->(upd (upd (upd H3 p (.ins C dx (putF "many" (.int (m:Int)) []))) q1 (.lst xs)) p (.ins C dx (putF "ties" (.ref q1) (putF "many" (.int (m:Int)) [])))) q=some u:=fun q u n z=>keep n (t4 _ _ (keep n z));have q1a:(upd (upd (upd H3 p (.ins C dx (putF "many" (.int (m:Int)) []))) q1 (.lst xs)) p (.ins C dx (putF "ties" (.ref q1) (putF "many" (.int (m:Int)) [])))) q1=some (.lst xs):=keep n1p ae;have pa:(upd (upd (upd H3 p (.ins C dx (putF "many" (.int (m:Int)) []))) q1 (.lst xs)) p (.ins C dx (putF "ties" (.ref q1) (putF "many" (.int (m:Int)) [])))) p=some (.ins C dx (putF "ties" (.ref q1) (putF "many" (.int (m:Int)) []))):=ae;generalize upd (upd (upd H3 p (.ins C dx (putF "many" (.int (m:Int)) []))) q1 (.lst xs)) p (.ins C dx (putF "ties" (.ref q1) (putF "many" (.int (m:Int)) [])))=H4 at t1 q1a pa;have lk:(putF "ties" (.ref q1) (putF "many" (.int (m:Int)) []):List (Str×V)).lookup ("ties" : Str)=some (.ref q1):=by rw[aC,if_pos rfl]
 have ln:(putF "ties" (.ref q1) (putF "many" (.int (m:Int)) []):List (Str×V)).length<=2:=by
  have a1:=jA "many" (.int (m:Int)) ([]:List (Str×V));have a2:=jA "ties" (.ref q1) (putF "many" (.int (m:Int)) ([]:List (Str×V)));simp only[OF]at a1;omega
 have lkm:(putF "ties" (.ref q1) (putF "many" (.int (m:Int)) []):List (Str×V)).lookup ("many" : Str)=some (.int (m:Int)):=by rw[aC,if_neg (by decide +kernel),aC,if_pos rfl]
 generalize (putF "ties" (.ref q1) (putF "many" (.int (m:Int)) []):List (Str×V))=fs at pa lk ln lkm;have hqh4:=t1 _ _ (pl hqh) (s13 _ _ hqh);have new4:∀{b:Addr},H4 b=none->H b=none:=fun{b} z=>by
  cases y:H b with
  |none=>rfl
  |some o =>
   by_cases n:b=p
   ·rw[n,pa]at z;cases z
   ·rw[t1 _ _ n (s13 _ _ y)]at z;cases z
 have new1:H q1=none:=by
  cases y:H q1 with
  |none=>rfl
  |some o=>rw[keep n1p (s13 _ _ y)]at hq1;cases hq1
 refine⟨_,rfl,qh,rfl,⟨_,SqL.of hqh4⟩,bK (K:=K) (xs:=zs) (fun i ys H5=>Same H4 H5/\cQ (fun a=>H a≠none) H5 ys (ts.take i)) (ND (ax (by omega))) ⟨fun _ _ e=>e,rfl,fun i l e=>by simp at e⟩ (fun i _ H5 _ z=>SqL.of (z.1 _ _ hqh4)) ?_ ?_⟩
 ·rintro i x ys H5 hx ⟨s5,rz⟩;have hi:i<ts.length:=by rw[← hR.1];exact(Mw.mp hx).1
  obtain⟨l,hl⟩:∃ l,ts[i]?=some l:=⟨_,Mx hi⟩;obtain⟨r,a1,a2⟩:=hR.2 i l hl;rw[hx]at a1
  cases a1
  refine⟨_,rfl,r,_,rfl,.inl (SqL.of (s5 _ _ (t1 _ _ (pl a2) (s13 _ _ a2)))),fun g hg=>⟨s5.trans (ak hg _),?_⟩⟩;rw[show ts.take (i+1)=ts.take i++[l] by rw[M1,hl];rfl]
  exact(rz.mono fun b u _ z=>ak hg _ _ _ z).snoc (fun z=>z (new4 (none_of s5 hg))) ae
 rintro ys H5 _ ⟨s5,rz⟩ D hD;rw[hR.1,Ni]at rz;have hDp:D≠p:=fun z=>by rw[z,s5 _ _ pa]at hD;cases hD
 have s6:=s5.trans (ak hD (.lst ys));refine⟨_,rfl,p,C,dx,fs,rfl,s6 _ _ pa,cw.cl,cw.n3,by omega,?_⟩
 have ln1:=jA "turns" (.ref D) fs;have lk1:(putF "turns" (.ref D) fs).lookup ("ties" : Str)=some (.ref q1):=by rw[aC,if_neg (by decide +kernel)];exact lk
 refine⟨_,rfl,_,rfl,p,C,dx,_,rfl,ae,cw.cl,cw.n4,by omega,?_⟩
 have ln2:=jA "rounds" (.ref qr) (putF "turns" (.ref D) fs);have lk2:(putF "rounds" (.ref qr) (putF "turns" (.ref D) fs)).lookup ("ties" : Str)=some (.ref q1):=by rw[aC,if_neg (by decide +kernel)];exact lk1
 have t7:∀ q u,q≠p->H3 q=some u->(upd (upd (upd H5 D (.lst ys)) p (.ins C dx (putF "turns" (.ref D) fs))) p (.ins C dx (putF "rounds" (.ref qr) (putF "turns" (.ref D) fs)))) q=some u:=fun q u n z=>keep n (keep n (s6 _ _ (t1 q u n z)));have q17:(upd (upd (upd H5 D (.lst ys)) p (.ins C dx (putF "turns" (.ref D) fs))) p (.ins C dx (putF "rounds" (.ref qr) (putF "turns" (.ref D) fs)))) q1=some (.lst xs):=keep n1p (keep n1p (s6 _ _ q1a));have p7:(upd (upd (upd H5 D (.lst ys)) p (.ins C dx (putF "turns" (.ref D) fs))) p (.ins C dx (putF "rounds" (.ref qr) (putF "turns" (.ref D) fs)))) p=some (.ins C dx (putF "rounds" (.ref qr) (putF "turns" (.ref D) fs))):=ae;have D7:(upd (upd (upd H5 D (.lst ys)) p (.ins C dx (putF "turns" (.ref D) fs))) p (.ins C dx (putF "rounds" (.ref qr) (putF "turns" (.ref D) fs)))) D=some (.lst ys):=keep hDp (keep hDp ae);have u7:∀ q u,q≠p->H5 q=some u->(upd (upd (upd H5 D (.lst ys)) p (.ins C dx (putF "turns" (.ref D) fs))) p (.ins C dx (putF "rounds" (.ref qr) (putF "turns" (.ref D) fs)))) q=some u:=fun q u n z=>keep n (keep n (ak hD _ _ _ z));generalize upd (upd (upd H5 D (.lst ys)) p (.ins C dx (putF "turns" (.ref D) fs))) p (.ins C dx (putF "rounds" (.ref qr) (putF "turns" (.ref D) fs)))=H7 at t7 q17 p7 D7 u7;have pl3:∀{q:Addr}{ys:List V},H3 q=some (.lst ys)->q≠p:=fun{q ys} h z=>by rw[z,hp3]at h;cases h
 have rs7:bM H7 vs rs:=⟨hrs.1,fun i l z=>by
  obtain⟨r,a1,a2⟩:=hrs.2 i l z
  exact⟨r,a1,t7 _ _ (pl3 a2) a2⟩⟩
 have T7:dO K H7 xs es:=(hT.mono s13).keep hp3 t7;refine⟨_,rfl,_,rfl,qt,qr,xs,vs,es,_,rs,rfl,SqL.of (t7 _ _ (pl hqt) (s13 _ _ hqt)),T7,by omega,SqL.of (t7 _ _ (pl3 hqr) hqr),rs7,ro,fun q5 z5 H8 s8 hq5 hs5=>?_⟩
 refine⟨_,rfl,p,C,dx,_,rfl,s8 _ _ p7,cw.cl,cw.n5,by omega,?_⟩
 have n5p:q5≠p:=fun z=>by rw[z,s8 _ _ p7]at hq5;cases hq5
 have hqr7:=t7 _ _ (pl3 hqr) hqr;refine kk _ q1 rs _ ae ⟨?_,⟨D,ys,?_,fun z=>z (new4 (none_of s5 hD)),keep hDp (s8 _ _ D7),rz.1,fun i l z=>?_⟩,⟨qr,vs,?_,keep (pl3 hqr) (s8 _ _ hqr7),hrs.1,fun i l z=>?_⟩,⟨q5,z5,?_,keep n5p hq5,hs5.1,fun i hi=>?_⟩,ro⟩ new1 (by rw[aC,if_neg (by decide +kernel)];exact lk2) (keep n1p (s8 _ _ q17)) fun q o z n=>keep n (s8 _ _ (t7 q o n (s13 _ _ z)))
 ·rw[aC,if_neg (by decide +kernel),aC,if_neg (by decide +kernel),aC,if_neg (by decide +kernel)]
  exact lkm
 ·rw[aC,if_neg (by decide +kernel),aC,if_neg (by decide +kernel),aC,if_pos rfl]
 ·obtain⟨r,a1,a0,a2⟩:=rz.2 i l z;have nr:r≠p:=fun z=>by rw[z,s5 _ _ pa]at a2;cases a2
  exact⟨r,a1,a0,keep nr (s8 _ _ (u7 r _ nr a2))⟩
 ·rw[aC,if_neg (by decide +kernel),aC,if_pos rfl]
 ·obtain⟨r,a1,a2⟩:=hrs.2 i l z;exact⟨r,a1,keep (pl3 a2) (s8 _ _ (t7 _ _ (pl3 a2) a2))⟩
 ·rw[aC,if_pos rfl]
 ·obtain⟨t,a,b,r,r',y1,y2,y3⟩:=hs5.2 i hi;exact⟨t,a,b,r,r',y1,keep (fun z=>by rw[z,s8 _ _ p7]at y2;cases y2) y2,y3⟩
theorem xb.at{PL PS:Addr}{H:Hp}{xs:List V}{es:En}{ks:Kn}(t:xb PL PS H xs es ks)(kl:ks.length=es.length)(TL:CT K PL)(TS:CT K PS):dO K H xs es:=⟨t.1,fun i e z=>by
 have hi:=(Mw.mp z).1;obtain⟨k,hk⟩:∃ k,ks[i]?=some k:=⟨_,Mx (by omega)⟩
 obtain⟨p,dx,a,b⟩:=t.2 i e k z hk;refine⟨p,_,dx,k.2,a,b,?_⟩;unfold cls;split
 ·exact TS
 ·exact TL⟩
def WebF(S:Addr->Prop)(PL PS WC:Addr)(H:Hp)(p:Addr)(m:Nat)(es:En)(ts rs:List (List Nat))(ks:Kn):Prop:=∃ dx fs q1 xs,H p=some (.ins WC dx fs)/\WebG S H fs m es ts rs/\¬ S q1/\fs.lookup ("ties" : Str)=some (.ref q1)/\H q1=some (.lst xs)/\xb PL PS H xs es ks
def FD(PL PS WC:Addr):Sp:=fun vs H Q _=>∃(t pe pt pk:Addr)(m:Nat)(es:En)(ts:List (List Nat))(ks:Kn),vs = [.ref t]/\iz H t pe pt pk m es ts ks/\0<es.length /\
 ∀(p:Addr)(rs:List (List Nat))(H':Hp),Same H H'->WebF (fun a=>H a≠none) PL PS WC H' p m es ts rs ks->Q (.ref p) H'
theorem jw:aG ["built","ties","k","end"] ["built"] (aj gj):=⟨rfl,rfl,rfl,by decide +kernel,rfl,by decide +kernel,by decide +kernel⟩
theorem Lu{f fI PL PS WC fW:Addr}{fd fdI fdW:FuncData} (F:Fun K "_law_web" "_law_web" gj f fd) (T:Txt mg) (M_Pull:Mak P w K mg base 1 "Pull" ["self","one","two","strength"] (sV K) PL fI fdI) (M_Push:Mak P w K mg base 1 "Push" ["self","one","two","strength"] (sV K) PS fI fdI) (TL:CT K PL) (TS:CT K PS)
  (M_Web:Mak P w K mg base 5 "Web" ["self","many","ties","turns"] (uf K) WC fW fdW) (cw:CW K WC):FnOk P w K mg base CX0 7 f fd ["built"] (FD PL PS WC):=by
 refine F.ok jw (fun vs H Q E h=>?_) (fun cdv A outer s H vs Q E hr h=>?_)
 ·obtain⟨t,pe,pt,pk,m,es,ts,ks,rfl,_⟩:=h;rfl
 obtain⟨t,pe,pt,pk,m,es,ts,ks,rfl,bp,e0',kk⟩:=h;obtain⟨ht,⟨⟨ys,hpe,hE⟩,⟨xs,hpt,hR⟩,g⟩,⟨ws,hpk,tk⟩,few,kl⟩:=bp;have hyl:ys.length=es.length:=hE.1;have mf:=Dw g;have hxm:xs.length=m:=by rw[hR.1,g.w.len]
 refine⟨_,(ag (au (i:=1) jw.nd rfl (Or.inl rfl) (dH ah))
   (ag (bP PassesOwn.never rfl (b4 rfl T.n_range (aa (aF ay (by rfl) T.n_len bL (aa (aE aH (pv 0) ai (fun _ _=>rfl)) ah)) ah)) (aK (i:=2) jw.nd rfl (Or.inl rfl)) (ag (au (i:=3) jw.nd rfl (Or.inl rfl) (aE aP (aE aH (pv 0) ai (fun _ _=>rfl)) (pv 2) (fun _ _=>rfl)))
   (ao (c7 (aL qg (aE aH (aE aP (aE aH (pv 0) ai (fun _ _=>rfl)) (pv 2) (fun _ _=>rfl)) ai (fun _ _=>rfl)) ai (aV _)) (ao (bt (fX M5 Np Nn br (pv 1) (aa (AU M_Push.mkc M_Push.ok (hr.mono (by decide)) rfl M_Push.mg M_Push.bn .nil aR (aa (aE aH (pv 3) ai (fun _ _=>rfl)) (aa (aE aH (pv 3) ai (fun _ _=>rfl)) (aa (aE aH (aE aP (aE aH (pv 0) ai (fun _ _=>rfl)) (pv 2) (fun _ _=>rfl)) ai (fun _ _=>rfl)) ah)))) ah)))) (ao (bt (fX M5 Np Nn br (pv 1) (aa (AU M_Pull.mkc M_Pull.ok (hr.mono (by decide)) rfl M_Pull.mg M_Pull.bn .nil aR (aa (aE aH (pv 3) ai (fun _ _=>rfl)) (aa (aE aH (pv 3) ai (fun _ _=>rfl)) (aa (aE aH (aE aP (aE aH (pv 0) ai (fun _ _=>rfl)) (pv 2) (fun _ _=>rfl)) ai (fun _ _=>rfl)) ah)))) ah))))))))
   (ao (aN (AU M_Web.mkc M_Web.ok (hr.mono (by decide)) rfl M_Web.mg M_Web.bn .nil aR (aa (aF ay (by rfl) T.n_len bL (aa (aE aH (pv 0) ai (fun _ _=>rfl)) ah)) (aa (pv 1) (aa (c8 rfl (fr:=[]) (by exact bH.plain (by rfl) (by decide +kernel) (by rfl) (by decide +kernel) (by rfl) (by decide +kernel)) (aX (aE aH (pv 0) ai (fun _ _=>rfl))) (fun C ex s H=>(dq (tH (K:=K) rfl) (by rfl) T.n_list ic (aa (pv 0) ah)))) ah)))))))),?_⟩
 refine⟨(by show 0<=sizeLine;decide),fun q hq=>?_⟩
 have s1:=ak hq (.lst []);refine⟨_,rfl,t,_,0,_,rfl,rfl,SqT.of (s1 _ _ ht),at30,pe,ys,rfl,.inl (SqL.of (s1 _ _ hpe)),_,rfl,by omega,by omega,dv (n:=(ys.length:Int).toNat) (fun i σ H2=>∃ v2 v3 us,σ = [some (.ref t),some (.ref q),v2,v3]/\Same H H2/\H2 q=some (.lst us)/\xb PL PS H2 us (es.take i) ks) ⟨_,_,[],rfl,s1,ae,rfl,fun i e k z=>by simp at z⟩ ?_ ?_⟩
 ·rintro i σ H2 hi ⟨v2,v3,us,rfl,s2,hq2,tt⟩;rw[Nc,hyl]at hi;have e0:(0:Int)+(i:Int)=(i:Int):=NO _;rw[e0];obtain⟨e,he⟩:∃ e,es[i]?=some e:=⟨_,Mx hi⟩;obtain⟨k,hk⟩:∃ k,ks[i]?=some k:=⟨_,Mx (by omega)⟩
  obtain⟨_,_,ne⟩:=g.w.ends e (My he);obtain⟨p,x1,x2⟩:=(hE.mono s2).2 i e he;obtain⟨k1,k2,pk',y1,y2⟩:=(tk.mono s2).2 i k hk;have ul:us.length=i:=by rw[tt.1,Nf];omega
  refine⟨_,rfl,t,_,0,_,rfl,rfl,SqT.of (s2 _ _ ht),at30,_,rfl,pe,ys,_,_,rfl,rfl,SqL.of (s2 _ _ hpe),aM x1,?_⟩;refine⟨_,rfl,t,_,2,_,rfl,rfl,SqT.of (s2 _ _ ht),at32,_,rfl,pk,ws,_,_,rfl,rfl,SqL.of (s2 _ _ hpk),aM y1,pk',_,0,_,rfl,rfl,SqT.of y2,at0,rfl,_,rfl,?_⟩;have fin:∀(x dx:Addr)(H':Hp),Same H2 H'->H' x=some (.ins (cls PL PS (decide (k.1=1))) dx (tf (e.1:Int) (e.2:Int) k.2))->∃ v2 v3 zs,([some (.ref t),some (.ref q),some (.int (i:Int)),some (.ref p)]:St) = [some (.ref t),some (.ref q),v2,v3]/\Same H (upd H' q (.lst (us++[.ref x])))/\(upd H' q (.lst (us++[.ref x]))) q=some (.lst zs)/\xb PL PS (upd H' q (.lst (us++[.ref x]))) zs (es.take (i+1)) ks:=fun x dx H' s4 h1=>by
   refine⟨_,_,_,rfl,aW (s2.trans s4) hq _,ae,by rw[MA,ul,Nf];simp;omega,fun j e' k' hj hk'=>?_⟩
   have hqn:∀{b:Addr}{C dx:Addr}{fs:List (Str×V)},H' b=some (.ins C dx fs)->b≠q:=fun z y=>by rw[y,s4 _ _ hq2]at z;cases z
   rw[Ol]at hj;by_cases z:j<i
   ·rw[if_pos (by omega)]at hj
    obtain⟨p',dx',a1,a2⟩:=(tt.mono s4).2 j e' k' (by rw[Ol,if_pos z];exact hj) hk'
    exact⟨p',dx',by rw[MF (by omega)];exact a1,by rw[aq (hqn a2)];exact a2⟩
   ·by_cases z2:j=i
    ·subst z2;rw[if_pos (by omega),he]at hj
     cases hj
     rw[hk]at hk'
     cases hk'
     exact⟨x,dx,by rw[← ul,MB (MC _),M7];rfl,by rw[aq (hqn h1)];exact h1⟩
    ·rw[if_neg (by omega)]at hj
     cases hj
  refine ite2 (fun c=>?_) (fun c=>?_)
  ·have c':k.1=1:=V.int.inj (of_decide_eq_true c)
   refine⟨_,rfl,.inl ⟨rfl,_,SqL.of hq2⟩,_,rfl,p,_,0,_,rfl,rfl,SqT.of x2,at0,_,rfl,p,_,1,_,rfl,rfl,SqT.of x2,at1,_,rfl,t,_,2,_,rfl,rfl,SqT.of (s2 _ _ ht),at32,_,rfl,pk,ws,_,_,rfl,rfl,SqL.of (s2 _ _ hpk),aM y1,pk',_,1,_,rfl,rfl,SqT.of y2,at1,?_⟩;intro x dx nx ndx nex;refine⟨x,PS,dx,_,_,_,rfl,ae,TS,by omega,by omega,by omega,k2,fun H' h1 h2=>?_⟩
   have s4:Same H2 H':=fun b o z=>h2 b o (by rw[aq (aw z nx),aq (aw z ndx)];exact z) (aw z nx)
   refine⟨rfl,q,us,_,rfl,rfl,s4 _ _ hq2,ax (by omega),fin x dx H' s4 ?_⟩
   rw[decide_eq_true c'];exact h1
  ·have c':¬ k.1=1:=fun z=>c (decide_eq_true (by rw[z]))
   refine⟨_,rfl,.inl ⟨rfl,_,SqL.of hq2⟩,_,rfl,p,_,0,_,rfl,rfl,SqT.of x2,at0,_,rfl,p,_,1,_,rfl,rfl,SqT.of x2,at1,_,rfl,t,_,2,_,rfl,rfl,SqT.of (s2 _ _ ht),at32,_,rfl,pk,ws,_,_,rfl,rfl,SqL.of (s2 _ _ hpk),aM y1,pk',_,1,_,rfl,rfl,SqT.of y2,at1,?_⟩;intro x dx nx ndx nex;refine⟨x,PL,dx,_,_,_,rfl,ae,TL,by omega,by omega,by omega,k2,fun H' h1 h2=>?_⟩
   have s4:Same H2 H':=fun b o z=>h2 b o (by rw[aq (aw z nx),aq (aw z ndx)];exact z) (aw z nx)
   refine⟨rfl,q,us,_,rfl,rfl,s4 _ _ hq2,ax (by omega),fin x dx H' s4 ?_⟩
   rw[decide_eq_false c'];exact h1
 rintro σ H2 ⟨v2,v3,us,rfl,s2,hq2,tt⟩;rw[Nc,hyl,Ni]at tt;have hpt2:=s2 _ _ hpt;refine⟨_,rfl,t,_,1,_,rfl,rfl,SqT.of (s2 _ _ ht),at31,pt,xs,rfl,.inl (SqL.of hpt2),_,rfl,_,rfl,t,_,1,_,rfl,rfl,SqT.of (s2 _ _ ht),at31,pt,rfl,⟨_,SqL.of hpt2⟩,bK (K:=K) (xs:=xs) (fun i zs H3=>Same H2 H3/\bM H3 zs (ts.take i)) (ND (ax (by omega))) ⟨fun _ _ e=>e,rfl,fun i l e=>by simp at e⟩ (fun i zs H3 _ z=>SqL.of (z.1 _ _ hpt2)) ?_ ?_⟩
 ·rintro i x zs H3 hx ⟨s3,rz⟩;have hi:i<ts.length:=by rw[← hR.1];exact(Mw.mp hx).1
  obtain⟨l,hl⟩:∃ l,ts[i]?=some l:=⟨_,Mx hi⟩;obtain⟨p,a1,a2⟩:=(hR.mono (s2.trans s3)).2 i l hl;rw[hx]at a1
  cases a1
  refine⟨_,rfl,p,_,rfl,.inl (SqL.of a2),fun g hg=>?_⟩;have s4:=ak hg (.lst (l.map iV));refine⟨s3.trans s4,?_⟩;rw[show ts.take (i+1)=ts.take i++[l] by rw[M1,hl];rfl]
  exact(rz.mono s4).snoc ae
 rintro zs H3 _ ⟨s3,rz⟩ D hD;rw[hR.1,Ni]at rz;have s4:=ak hD (.lst zs);have s24:=s3.trans s4;intro x dx nx ndx nex;have up:∀ b o,(upd H3 D (.lst zs)) b=some o->(upd (upd (upd H3 D (.lst zs)) dx (.own x)) x (.ins WC dx [])) b=some o:=fun b o z=>by rw[aq (aw z nx),aq (aw z ndx)];exact z
 refine⟨x,WC,dx,q,D,m,us,zs,es,ts,(by rw[hxm];rfl),ae,cw,up _ _ (s24 _ _ hq2),((tt.at kl TL TS).mono s24).mono up,up _ _ ae,(rz.mono s4).mono up,g,e0',few,fun fs q1 rs H' h1 hg hn h2 h3 h4=>⟨rfl,?_⟩⟩
 have s5:Same H2 H':=fun b o z=>h4 b o (up _ _ (s24 _ _ z)) (aw (s24 _ _ z) nx)
 have up0:∀ a,H a≠none->(upd (upd (upd H3 D (.lst zs)) dx (.own x)) x (.ins WC dx [])) a≠none:=fun a z y=>z (by
  cases u:H a with
  |none=>rfl
  |some o=>rw[up _ _ (s24 _ _ (s2 _ _ u))]at y;cases y)
 exact kk x rs H' (s2.trans s5) ⟨dx,fs,q1,us,h1,hg.mono (fun _ _ z=>z) up0,fun z=>up0 _ z hn,h2,h3,tt.mono s5⟩
end
end K8
namespace K8
open PySem L2
local macro_rules | `(tactic| walk_at "cc") => `(tactic| first | exact ⟨by decide, by decide⟩ | (show (0 : Int) < _; decide) | (show (0 : Int) < _; omega) | (show (0 : Int) ≤ _; omega) | exact ⟨by decide, by decide, by decide⟩ | exact ⟨by omega, by omega, by decide⟩ | exact Or.inl ⟨by decide, by decide⟩ | exact Or.inl ⟨by omega, by omega⟩)
local macro_rules | `(tactic| walk_at "rd") => `(tactic| repeat (first | refine ⟨_, rfl, ?_⟩ | refine ⟨_, _, rfl, rfl, ?_⟩ | refine ⟨rfl, ?_⟩ | (refine ⟨?cc, ?_⟩; (case cc => walk_at "cc"))))
def bit(l a:Int):Int:=l/2^a.toNat%2
theorem bitN(N a:Nat):bit (N:Int) (a:Int)=if N.testBit a=true then 1 else 0:=by
 unfold bit;rw[Nc,Nat.testBit_eq_decide_div_mod_eq];have e:((N:Int)/2^a%2)=((N/2^a%2:Nat):Int):=by
  rw[Int.natCast_emod,Int.natCast_ediv,Int.natCast_pow];rfl
 rw[e];by_cases z:N/2^a%2=1
 ·rw[z,decide_eq_true rfl];rfl
 ·rw[decide_eq_false z];have:N/2^a%2=0:=by omega
  rw[this];rfl
def WebT(PL PS WC:Addr)(H:Hp)(p:Addr)(m:Nat)(es:En)(ts:List (List Nat))(ks:Kn):Prop:=∃ dx fs q1 xs q3 z3,H p=some (.ins WC dx fs)/\fs.lookup ("many" : Str)=some (.int (m:Int))/\fs.lookup ("ties" : Str)=some (.ref q1)/\H q1=some (.lst xs)/\xb PL PS H xs es ks/\fs.lookup ("turns" : Str)=some (.ref q3)/\H q3=some (.lst z3)/\bM H z3 ts
theorem WebT.mono{PL PS WC p:Addr}{H H':Hp}{m:Nat}{es:En}{ts:List (List Nat)}{ks:Kn}(h:WebT PL PS WC H p m es ts ks)(s:Same H H'):WebT PL PS WC H' p m es ts ks:=by
 obtain⟨dx,fs,q1,xs,q3,z3,a,b,c,d,e,f,g,i⟩:=h;exact⟨dx,fs,q1,xs,q3,z3,s _ _ a,b,c,s _ _ d,e.mono s,f,s _ _ g,i.mono s⟩
theorem WebF.t{S:Addr->Prop}{PL PS WC p:Addr}{H:Hp}{m:Nat}{es:En}{ts rs:List (List Nat)}{ks:Kn}(h:WebF S PL PS WC H p m es ts rs ks):WebT PL PS WC H p m es ts ks:=by
 obtain⟨dx,fs,q1,xs,a,b,_,c,d,e⟩:=h;obtain⟨q3,z3,b1,_,b2,b3⟩:=b.turns;exact⟨dx,fs,q1,xs,q3,z3,a,b.many,c,d,e,b1,b2,b3.off⟩
theorem and1(x:Int):Builtin.bitAnd x 1=x%2:=PySem.W.kbt_mask x 1
def pf(K:Mz):Sp:=fun vs H Q _=>∃(p C dx:Addr)(a b s l:Int),vs = [.ref p,.int l]/\H p=some (.ins C dx (tf a b s))/\CT K C/\0<=a/\0<=b/\Q (.int (bit l a+bit l b)) H
def atF(N x:Nat)(e:Nat×Nat):Bool:=(e.1 == x&&!N.testBit e.2)||(e.2 == x&&!N.testBit e.1)
def cP(es:En)(N M:Nat):Prop:=∀ x,M.testBit x=(N.testBit x&&es.any (atF N x))
theorem cP.z(N:Nat):cP [] N 0:=fun x=>by rw[NT,List.any_nil,Qx]
theorem KQ(a b x:Nat):(2^a|||2^b).testBit x=(a == x||b == x):=by
 rw[NQ,Nq,Nq]
 cases h:a == x<;>cases h':b == x<;>simp_all
theorem cP.put{es:En}{N M:Nat}{e:Nat×Nat}(h:cP es N M)(one:N.testBit e.1≠N.testBit e.2):cP (es++[e]) N (M|||(N&&&(2^e.1|||2^e.2))):=fun x=>by
 rw[NQ,h x,Oe,KQ,List.any_append,PH,List.any_nil,Pe];unfold atF;by_cases h1:e.1=x
 ·by_cases h2:e.2=x
  ·rw[h1,h2]at one;exact absurd rfl one
  ·rw[h1]at one;have e1:(e.1 == x)=true:=by simpa using h1
   have e2:(e.2 == x)=false:=by simpa using h2
   rw[e1,e2]
   cases z:N.testBit x
   ·simp
   ·rw[z]at one;have:N.testBit e.2=false:=by cases y:N.testBit e.2 with | false=>rfl | true=>rw[y]at one;exact absurd rfl one
    rw[this];simp
 ·have e1:(e.1 == x)=false:=by simpa using h1
  by_cases h2:e.2=x
  ·rw[h2]at one;have e2:(e.2 == x)=true:=by simpa using h2
   rw[e1,e2]
   cases z:N.testBit x
   ·simp
   ·rw[z]at one;have:N.testBit e.1=false:=by cases y:N.testBit e.1 with | false=>rfl | true=>rw[y]at one;exact absurd rfl one
    rw[this];simp
  ·have e2:(e.2 == x)=false:=by simpa using h2
   rw[e1,e2];simp
theorem cP.skip{es:En}{N M:Nat}{e:Nat×Nat}(h:cP es N M)(one:N.testBit e.1=N.testBit e.2):cP (es++[e]) N M:=fun x=>by
 rw[h x,List.any_append,PH,List.any_nil,Pe];unfold atF
 cases z:N.testBit x
 ·simp
 ·by_cases h1:e.1=x
  ·rw[h1,z]at one;have:(e.2 == x&&!N.testBit e.1)=false:=by rw[h1,z];simp
   rw[this,← one];simp
  ·have e1:(e.1 == x)=false:=by simpa using h1
   by_cases h2:e.2=x
   ·rw[h2,z]at one;rw[e1,one];simp
   ·have e2:(e.2 == x)=false:=by simpa using h2
    rw[e1,e2];simp
theorem cP.one{es:En}{N M M':Nat}(h:cP es N M)(h':cP es N M'):M=M':=NR fun x=>by rw[h x,h' x]
def Af(PL PS WC:Addr):Sp:=fun vs H Q _=>∃(p:Addr)(N m m0:Nat)(es:En)(ts:List (List Nat))(ks:Kn),vs = [.ref p,.int (N:Int)]/\WebT PL PS WC H p m0 es ts ks/\ks.length=es.length/\m<=40/\(∀ e∈es,e.1<m/\e.2<m)/\∀ M:Nat,cP es N M->Q (.int (M:Int)) H
section
variable{P:Program}{w:World}{K:Mz}{mg:Str->Option Value}{base:Heap}
theorem rY:aG ["tie","patch"] ["tie","patch"] (aj bY):=⟨rfl,rfl,rfl,by decide +kernel,rfl,by decide +kernel,by decide +kernel⟩
theorem F9{f:Addr}{fd:FuncData} (F:Fun K "ends_within" "ends_within" bY f fd):FnOk P w K mg base CX0 1 f fd ["tie","patch"] (pf K):=by
 refine F.ok rY (fun vs H Q E h=>?_) (fun cdv A outer s H vs Q E hr h=>?_)
 ·obtain⟨p,C,dx,a,b,s,l,rfl,_⟩:=h;rfl
 obtain⟨p,C,dx,a,b,st,l,rfl,hp,T,ha,hb,kk⟩:=h;refine⟨_,(ao (aN (av bJ (av sZ (av qc (pv 1) (cJ (pv 0) rfl)) ai) (av sZ (av qc (pv 1) (cJ (pv 0) rfl)) ai)))),?_⟩;refine⟨_,rfl,_,rfl,p,C,dx,_,_,rfl,hp,T.cl,T.n1,lr _ _ _,_,_,rfl,rfl,ha,_,_,rfl,rfl,_,rfl,_,rfl,p,C,dx,_,_,rfl,hp,T.cl,T.n2,pL _ _ _,_,_,rfl,rfl,hb,_,_,rfl,rfl,_,_,rfl,rfl,?_⟩;show Q (V.int (Builtin.bitAnd (l/2^a.toNat) 1+Builtin.bitAnd (l/2^b.toNat) 1)) H;rw[and1,and1];exact kk
theorem xB:aG ["found"] ["found"] (aj cU):=⟨rfl,rfl,rfl,by decide +kernel,rfl,by decide +kernel,by decide +kernel⟩
theorem Jk{f:Addr}{fd:FuncData} (F:Fun K "_law_whole" "_law_whole" cU f fd) (T:Txt mg):FnOk P w K mg base CX0 1 f fd ["found"] K3:=by
 refine F.ok xB (fun vs H Q E h=>?_) (fun cdv A outer s H vs Q E hr h=>?_)
 ·obtain⟨i,rfl,_⟩:=h;rfl
 obtain⟨i,rfl,k⟩:=h;refine⟨_,(ao (aN (Kg (aF pG (by rfl) T.n_isinstance dZ (aa (pv 0) (aa (u6 (v:=.ty "int") rfl T.n_int Ks rfl) ah))) (Kf (pe_not (aF pG (by rfl) T.n_isinstance dZ (aa (pv 0) (aa (u6 (v:=.ty "bool") rfl T.n_bool Mr rfl) ah)))))))),?_⟩
 refine⟨_,rfl,_,_,_,_,_,rfl,TyOf.int i,Or.inl ⟨_,rfl,rfl⟩,kit_ii K,_,rfl,iteT ?_⟩;exact⟨_,rfl,_,_,_,_,_,rfl,TyOf.int i,Or.inl ⟨_,rfl,rfl⟩,kit_ib K,_,rfl,k⟩
theorem gC:aG ["web","behind","front","tie"] ["web","behind"] (aj eA):=⟨rfl,rfl,rfl,by decide +kernel,rfl,by decide +kernel,by decide +kernel⟩
theorem Js{f fw PL PS WC:Addr}{fd fdw:FuncData} (F:Fun K "front_of" "front_of" eA f fd) (cw:CW K WC) (TL:CT K PL) (TS:CT K PS) (G_ends_within:Cal P w K mg base 1 "ends_within" ["tie","patch"] (pf K) fw fdw):FnOk P w K mg base CX0 2 f fd ["web","behind"] (Af PL PS WC):=by
 refine F.ok gC (fun vs H Q E h=>?_) (fun cdv A outer s H vs Q E hr h=>?_)
 ·obtain⟨p,N,m,m0,es,ts,ks,rfl,_⟩:=h;rfl
 obtain⟨p,N,m,m0,es,ts,ks,rfl,⟨dx,fs,q1,xs,q3,z3,hp,_,hlk,hq1,tk,_⟩,kl,m40,hbd,kk⟩:=h;have hxl:xs.length=es.length:=tk.1;have ct:∀ b,CT K (cls PL PS b):=fun b=>by
  unfold cls;split
  ·exact TS
  ·exact TL
 refine⟨_,(ag (au (i:=2) gC.nd rfl (Or.inl rfl) ai)
   (ag (bP PassesOwn.never rfl (aX (cJ (pv 0) rfl)) (aK (i:=3) gC.nd rfl (Or.inl rfl)) (ao (c7 (aL qg (ar G_ends_within.ok (hr.mono (by decide)) rfl G_ends_within.mg G_ends_within.kp G_ends_within.bn .nil aR (aa (pv 3) (aa (pv 1) ah))) ai (aV _)) (ao (au (i:=2) gC.nd rfl (Or.inl rfl) (av AW (pv 2) (av sZ (pv 1) (av AW (av fx ai (cJ (pv 3) rfl)) (av fx ai (cJ (pv 3) rfl))))))) aZ)))
   (ao (aN (pv 2))))),?_⟩
 refine⟨_,rfl,p,WC,dx,fs,_,rfl,hp,cw.cl,cw.n2,hlk,q1,rfl,⟨_,SqL.of hq1⟩,b6 (K:=K) (xs:=xs) (fun i σ H2=>∃ v3 M,σ = [some (.ref p),some (.int (N:Int)),some (.int ((M:Nat):Int)),v3]/\H2=H/\cP (es.take i) N M) ⟨_,0,rfl,rfl,cP.z N⟩ (fun i σ H2 _ ⟨_,_,_,z,_⟩=>by rw[z];exact SqL.of hq1) ?_ ?_⟩
 ·rintro i x σ H2 hx ⟨v3,M,rfl,rfl,fr⟩;have hi:i<es.length:=by rw[← tk.1];exact(Mw.mp hx).1
  obtain⟨e,he⟩:∃ e,es[i]?=some e:=⟨_,Mx hi⟩;obtain⟨k,hk⟩:∃ k,ks[i]?=some k:=⟨_,Mx (by omega)⟩
  obtain⟨p',dx',x1,x2⟩:=tk.2 i e k he hk;rw[hx]at x1
  cases x1
  obtain⟨b1,b2⟩:=hbd e (My he);have et:es.take (i+1)=es.take i++[e]:=by rw[M1,he];rfl
  have hin:(bit (N:Int) (e.1:Int)+bit (N:Int) (e.2:Int)=1)↔N.testBit e.1≠N.testBit e.2:=by
   rw[bitN,bitN]
   cases N.testBit e.1<;>cases N.testBit e.2<;>decide
  refine⟨_,rfl,_,rfl,p',_,dx',_,_,_,_,rfl,x2,ct _,by omega,by omega,rfl,_,rfl,?_⟩
  refine ite2 (fun c=>?_) (fun c=>?_)
  ·have c':=hin.mp (V.int.inj (of_decide_eq_true c))
   refine⟨_,rfl,_,rfl,_,rfl,p',_,dx',_,_,rfl,x2,(ct _).cl,(ct _).n1,lr _ _ _,_,_,rfl,rfl,⟨by omega,by omega,by decide⟩,_,rfl,p',_,dx',_,_,rfl,x2,(ct _).cl,(ct _).n2,pL _ _ _,_,_,rfl,rfl,⟨by omega,by omega,by decide⟩,_,_,rfl,rfl,_,_,rfl,rfl,_,_,rfl,rfl,?_⟩
   refine⟨some (.ref p'),M|||(N&&&(2^e.1|||2^e.2)),?_,rfl,by rw[et];exact fr.put c'⟩
   have eo:Builtin.bitOr (M:Int) (Builtin.bitAnd (N:Int) (Builtin.bitOr (1*2^((e.1:Nat):Int).toNat) (1*2^((e.2:Nat):Int).toNat)))=((M|||(N&&&(2^e.1|||2^e.2)):Nat):Int):=by rw[shlN,shlN,orN,andN,orN]
   show[some (V.ref p),some (V.int (N:Int)),some (V.int (Builtin.bitOr (M:Int) (Builtin.bitAnd (N:Int) (Builtin.bitOr (1*2^((e.1:Nat):Int).toNat) (1*2^((e.2:Nat):Int).toNat))))),some (V.ref p')]=_;rw[eo]
  ·have c':N.testBit e.1=N.testBit e.2:=by
    cases h1:N.testBit e.1<;>cases h2:N.testBit e.2
    ·rfl
    ·exact absurd (decide_eq_true (congrArg V.int (hin.mpr (by rw[h1,h2];decide)))) c
    ·exact absurd (decide_eq_true (congrArg V.int (hin.mpr (by rw[h1,h2];decide)))) c
    ·rfl
   exact⟨some (.ref p'),M,rfl,rfl,by rw[et];exact fr.skip c'⟩
 rintro σ H2 ⟨v3,M,rfl,rfl,fr⟩;rw[hxl,Ni]at fr;exact⟨_,rfl,kk M fr⟩
end
end K8
namespace K8
open PySem L2
local macro_rules | `(tactic| walk_at "cc") => `(tactic| first | exact ⟨by decide, by decide⟩ | (show (0 : Int) < _; decide) | (show (0 : Int) < _; omega) | (show (0 : Int) ≤ _; omega) | exact ⟨by decide, by decide, by decide⟩ | exact ⟨by omega, by omega, by decide⟩ | exact Or.inl ⟨by decide, by decide⟩ | exact Or.inl ⟨by omega, by omega⟩)
local macro_rules | `(tactic| walk_at "rd") => `(tactic| repeat (first | refine ⟨_, rfl, ?_⟩ | refine ⟨_, _, rfl, rfl, ?_⟩ | refine ⟨rfl, ?_⟩ | (refine ⟨?cc, ?_⟩; (case cc => walk_at "cc"))))
def rI(m:Nat):List Int:=(Na m).map fun(i:Nat)=>((i:Nat):Int)
theorem rI_V(m:Nat):((Na m).map fun(i:Nat)=>V.int ((i:Nat):Int))=(rI m).map V.int:=by unfold rI;rw[NZ];rfl
theorem rI_pw(m:Nat):(rI m).Pairwise (·<=·):=by
 unfold rI;refine O3.map _ (fun a b h=>?_) List.pairwise_lt_range;omega
theorem G7{K:Mz}{H:Hp}{a:Addr}{ns:List Int}(h:SqL K H a (ns.map V.int)):RdD K H (.ref a) (.list (ns.map PyData.int)):=by
 refine RdD.lst h (by rw[MD,MD]) fun i x d e1 e2=>?_
 rw[ME]at e1 e2
 cases q:ns[i]? with
 |none=>rw[q]at e1;cases e1
 |some z=>rw[q]at e1 e2;cases e1;cases e2;exact .int _
structure ErrC(K:Mz)(mg:Str->Option Value)(x:Str)(C:Addr):Prop where
 mg:mg x=some (.ref C)
 ec:ExC K C
def Told(m:Nat)(v:V)(H:Hp)(ns:List Int):Prop:=(v=.non/\ns=rI m)∨∃ o,v=.ref o/\H o=some (.lst (ns.map V.int))/\ns.length<=50
theorem Told.mono{m:Nat}{v:V}{H H':Hp}{ns:List Int}(h:Told m v H ns)(s:Same H H'):Told m v H' ns:=by
 rcases h with h | ⟨o,a,b,c⟩
 ·exact .inl h
 ·exact .inr ⟨o,a,s _ _ b,c⟩
def C1(BO WC:Addr):Sp:=fun vs H Q E=>∃(p dx:Addr)(fs:List (Str×V))(m:Nat)(v:V)(ns:List Int),vs = [.ref p,v]/\H p=some (.ins WC dx fs)/\fs.lookup ("many" : Str)=some (.int (m:Int))/\m<=40/\Told m v H ns /\
 (¬ ns.Perm (rI m)->∀ H',Same H H'->E (.ref BO) none H')/\(ns.Perm (rI m)->∀ q H',Same H H'->H q=none->H' q=some (.lst (ns.map V.int))->Q (.ref q) H')
def mk(l:List Nat):Nat:=l.foldl (fun a x=>a|||2^x) 0
theorem Gw(l:List Nat)(x:Nat):mk (l++[x])=mk l|||2^x:=by unfold mk;rw[List.foldl_append];rfl
def zL(es:En)(od ms:List Nat):Prop:=ms.length=od.length+1/\∀ k M,ms[k]?=some M->cP es (mk (od.take k)) M
theorem Ko(es:En):cP es 0 0:=fun x=>by rw[NT];rfl
theorem zL.snoc{es:En}{od ms:List Nat}{x M:Nat}(h:zL es od ms)(hM:cP es (mk (od++[x])) M):zL es (od++[x]) (ms++[M]):=by
 refine⟨by rw[MA,MA,h.1];rfl,fun k N e=>?_⟩
 by_cases hk:k<ms.length
 ·rw[MF hk]at e;have hk2:k<=od.length:=by have:=h.1;omega
  rw[Pb hk2];exact h.2 k N e
 ·rw[MB (by omega)]at e
  have hk2:k=ms.length:=by
   have:=(Mw.mp e).1;rw[MJ]at this;omega
  subst hk2;rw[M7]at e
  cases e
  rw[Nl (by rw[MA,MJ,h.1];exact MC _)]
  exact hM
theorem C4{ns:List Int}{m:Nat}(h:ns.Perm (rI m)):∃ od:List Nat,ns=cI od/\∀ x∈od,x<m:=by
 have hb:∀ x∈ns,0<=x/\x<(m:Int):=fun x hx=>by
  have:=h.mem_iff.mp hx;unfold rI at this;obtain⟨i,hi,rfl⟩:=MR.mp this;have:=Ny.mp hi;omega
 refine⟨ns.map Int.toNat,?_,fun x hx=>?_⟩
 ·unfold cI;rw[NZ];symm;refine(OT fun x hx=>?_).trans (List.map_id _);have:=hb x hx;show((x.toNat:Nat):Int)=x;omega
 ·obtain⟨y,hy,rfl⟩:=MR.mp hx;have:=hb y hy;omega
def K4(BO PL PS WC:Addr):Sp:=fun vs H Q E=>∃(p:Addr)(m:Nat)(es:En)(ts:List (List Nat))(ks:Kn)(v:V)(ns:List Int),vs = [.ref p,v]/\WebT PL PS WC H p m es ts ks/\ks.length=es.length/\(∀ e∈es,e.1<m/\e.2<m)/\m<=40/\Told m v H ns /\
 (¬ ns.Perm (rI m)->∀ H',Same H H'->E (.ref BO) none H')/\(∀ od:List Nat,ns=cI od->ns.Perm (rI m)->∀ q ms H',Same H H'->H' q=some (.lst (ms.map iV))->zL es od ms->Q (.ref q) H')
section
variable{P:Program}{w:World}{K:Mz}{mg:Str->Option Value}{base:Heap}
theorem pR:aG ["web","order","places"] ["web","order"] (aj d6):=⟨rfl,rfl,rfl,by decide +kernel,rfl,by decide +kernel,by decide +kernel⟩
theorem ok_ord{f BO WC:Addr}{fd:FuncData} (F:Fun K "order_of" "order_of" d6 f fd) (T:Txt mg) (cw:CW K WC) (X_BadOrder:ErrC K mg "BadOrder" BO):FnOk P w K mg base (CXr P w) 1 f fd ["web","order"] (C1 BO WC):=by
 refine F.okX pR (fun vs H Q E h=>?_) (fun cdv A outer s H vs Q E hr h=>?_)
 ·obtain⟨p,dx,fs,m,v,ns,rfl,_⟩:=h;rfl
 obtain⟨p,dx,fs,m,v,ns,rfl,hp,lk,m40,td,kb,k⟩:=h;have hu64:=hr.units
 refine⟨_,(ag (au (i:=2) pR.nd rfl (Or.inl rfl) (xQ rfl rfl T.n_list rfl T.n_range (cJ (pv 0) rfl)))
   (ag (c7 (aL op_isN (pv 1) pe_non (aV _)) (ao (aN (pv 2))) aZ)
   (ag (c7 (aL (op_neG hu64) (aF qZ (by rfl) T.n_sorted lY (aa (pv 1) ah)) (pv 2) (aV _)) (ao (xF X_BadOrder.ec X_BadOrder.mg rfl xg rfl rfl (aa Ke ah))) aZ)
   (ao (aN (dq cE (by rfl) T.n_list ic (aa (pv 1) ah))))))),?_⟩
 refine⟨_,rfl,p,WC,dx,fs,_,rfl,hp,cw.cl,cw.n1,lk,m,rfl,by omega,fun q hq=>?_⟩
 rw[rI_V];have s1:=ak hq (.lst ((rI m).map V.int));rcases td with⟨rfl,rfl⟩ | ⟨o,rfl,ho,hl⟩
 ·refine⟨_,rfl,rfl,_,rfl,iteT ?_⟩;exact⟨_,rfl,k (NS _) q _ s1 hq ae⟩
 refine⟨_,rfl,rfl,_,rfl,iteF ?_⟩;refine⟨_,rfl,o,ns,rfl,SqL.of (s1 _ _ ho),by omega,fun l out hl' hp' hs=>?_⟩
 have s2:=ak hl' (.lst (out.map V.int));have s12:=s1.trans s2;refine⟨_,rfl,_,_,G7 (SqL.of ae),G7 (SqL.of (s2 _ _ ae)),qH _,qH _,_,rfl,?_⟩;rw[JK];refine ite2 (fun c=>?_) (fun c=>?_)
 ·have c':out≠rI m:=fun z=>by rw[decide_eq_true z]at c;cases c
  refine⟨(by decide:(1:Nat)<=sizeLine),kb (fun z=>c' (mv (hp'.trans z) hs (rI_pw m))) _ s12⟩
 ·have c':out=rI m:=by
   by_cases z:out=rI m
   ·exact z
   ·exact absurd (by rw[decide_eq_false z];rfl) c
  refine⟨_,rfl,o,_,rfl,.inl (SqL.of (s12 _ _ ho)),fun r hr'=>?_⟩
  exact k (c'▸hp'.symm) r _ (s12.trans (ak hr' _)) (by
   cases y:H r with
   |none=>rfl
   |some u=>rw[s12 _ _ y]at hr';cases hr') ae
theorem iB:aG ["web","order","found","behind","place"] ["web","order"] (aj jz):=⟨rfl,rfl,rfl,by decide +kernel,rfl,by decide +kernel,by decide +kernel⟩
theorem Gm{f fo ff BO PL PS WC:Addr}{fd fdo fdf:FuncData} (F:FunD K "fronts" "fronts" jz f fd #[.none]) (G_order_of:CalX P w K mg base 1 "order_of" ["web","order"] (C1 BO WC) fo fdo) (G_front_of:Cal P w K mg base 2 "front_of" ["web","behind"] (Af PL PS WC) ff fdf):FnOk P w K mg base (CXr P w) 3 f fd ["web","order"] (K4 BO PL PS WC):=by
 refine F.okX iB (fun vs H Q E h=>?_) (fun cdv A outer s H vs Q E hr h=>?_)
 ·obtain⟨p,m,es,ts,ks,v,ns,rfl,_⟩:=h;rfl
 obtain⟨p,m,es,ts,ks,v,ns,rfl,wm,kl,hbd,m40,td,kb,kk⟩:=h
 refine⟨_,(ag (au (i:=2) iB.nd rfl (Or.inl rfl) (dH (aa ai ah)))
   (ag (au (i:=3) iB.nd rfl (Or.inl rfl) ai)
   (ag (FR rfl (aX (u5 G_order_of.ok (hr.mono (by decide)) rfl G_order_of.mg G_order_of.kp G_order_of.bn .nil xg rfl (aa (pv 0) (aa (pv 1) ah)))) (aK (i:=4) iB.nd rfl (Or.inl rfl)) (ag (au (i:=3) iB.nd rfl (Or.inl rfl) (av AW (pv 3) (av fx ai (pv 4))))
   (ao (bt (fX M5 Np Nn br (pv 2) (aa (ar G_front_of.ok (hr.mono (by decide)) rfl G_front_of.mg G_front_of.kp G_front_of.bn .nil aR (aa (pv 0) (aa (pv 3) ah))) ah))))))
   (ao (aN (pv 2)))))),?_⟩
 refine⟨(by show 1<=sizeLine;decide),fun qf hqf=>?_⟩
 have s1:=ak hqf (.lst [.int 0]);obtain⟨dx,fs,_,_,_,_,hp,lk,_⟩:=id wm;refine⟨_,rfl,_,rfl,p,dx,fs,m,v,ns,rfl,s1 _ _ hp,lk,m40,td.mono s1,fun z H' s'=>kb z _ (s1.trans s'),fun pm q H2 s2 nq hq=>?_⟩;obtain⟨od,rfl,ob⟩:=C4 pm;have nqf:q≠qf:=fun z=>by rw[z,ae]at nq;cases nq
 have ol:(cI od).length=od.length:=by unfold cI;rw[MD]
 have s12:=s1.trans s2;have ol40:od.length<=40:=by
  have:=pm.length_eq;unfold rI at this;rw[ol,MD,N0]at this;omega
 refine⟨q,rfl,⟨_,SqL.of hq⟩,b6 (K:=K) (xs:=(cI od).map V.int) (fun i σ H3=>∃ v4 ms,σ = [some (.ref p),some v,some (.ref qf),some (.int ((mk (od.take i):Nat):Int)),v4]/\Same H H3/\H3 q=some (.lst ((cI od).map V.int))/\H3 qf=some (.lst (ms.map iV))/\zL es (od.take i) ms) ⟨_,[0],rfl,s12,hq,s2 _ _ ae,rfl,fun k M e=>?_⟩ (fun i σ H3 _ ⟨_,_,_,_,z,_⟩=>SqL.of z) ?_ ?_⟩
 ·match k with
  |0=>cases e;exact Ko es
  |k+1=>cases e
 ·rintro i x σ H3 hx ⟨v4,ms,rfl,s3,hq3,hf3,fr⟩;rw[ME]at hx;obtain⟨y,hy,rfl⟩:=M0.mp hx;unfold cI at hy;rw[ME]at hy;obtain⟨pl,hpl,rfl⟩:=M0.mp hy;have hb:=ob pl (My hpl);have et:od.take (i+1)=od.take i++[pl]:=by rw[M1,hpl];rfl
  have ml:ms.length<=41:=by
   have:=fr.1;rw[Nf]at this;omega
  refine⟨_,rfl,_,rfl,_,_,rfl,rfl,⟨by omega,by omega,by decide⟩,_,_,rfl,rfl,?_⟩
  have eo:Builtin.bitOr ((mk (od.take i):Nat):Int) (1*2^((pl:Nat):Int).toNat)=((mk (od.take (i+1)):Nat):Int):=by rw[et,Gw,shlN,orN]
  refine⟨_,rfl,.inl ⟨rfl,_,SqL.of hf3⟩,_,rfl,_,rfl,p,mk (od.take (i+1)),m,m,es,ts,ks,congrArg (fun z=>[V.ref p,V.int z]) eo,wm.mono s3,kl,m40,hbd,fun M hM=>?_⟩;refine⟨qf,_,_,rfl,rfl,hf3,ax (by rw[MD];omega),?_⟩
  refine⟨some (.int (pl:Int)),ms++[M],?_,aW s3 hqf _,by rw[aq nqf];exact hq3,by rw[ae,M8];rfl,by rw[et]at hM ⊢;exact fr.snoc hM⟩
  show[some (V.ref p),some v,some (V.ref qf),some (V.int (Builtin.bitOr ((mk (od.take i):Nat):Int) (1*2^((pl:Nat):Int).toNat))),some (V.int (pl:Int))]=_;rw[eo]
 ·rintro σ H3 ⟨v4,ms,rfl,s3,hq3,hf3,fr⟩;rw[MD,ol,Ni]at fr;exact⟨_,rfl,kk od rfl pm qf ms H3 s3 hf3 fr⟩
end
end K8
namespace K8
open PySem L2
local macro_rules | `(tactic| walk_at "cc") => `(tactic| first | exact ⟨by decide, by decide⟩ | (show (0 : Int) < _; decide) | (show (0 : Int) < _; omega) | (show (0 : Int) ≤ _; omega) | exact ⟨by decide, by decide, by decide⟩ | exact ⟨by omega, by omega, by decide⟩ | exact Or.inl ⟨by decide, by decide⟩ | exact Or.inl ⟨by omega, by omega⟩)
local macro_rules | `(tactic| walk_at "rd") => `(tactic| repeat (first | refine ⟨_, rfl, ?_⟩ | refine ⟨_, _, rfl, rfl, ?_⟩ | refine ⟨rfl, ?_⟩ | (refine ⟨?cc, ?_⟩; (case cc => walk_at "cc"))))
theorem pe_or{X:Cx}{e:Expr}{t1 t2:TE}(h1:PE X e t1)(h2:PE X e t2):PE X e (fun σ H Q=>t1 σ H Q∨t2 σ H Q):=fun pins s σ H Q I h=>h.elim (h1 pins s σ H Q I) (h2 pins s σ H Q I)
theorem KL(x y:Int):Builtin.bitAnd (Builtin.bitXor x y) 1=(x%2+y%2)%2:=by
 have e:Builtin.bitAnd (Builtin.bitXor x y) 1=Builtin.bitXor x y%2:=PySem.W.kbt_mask _ 1;rw[e,PyProof.Rows.bitXor_and];omega
def unp(push:Bool)(a b l:Int):Bool:=!decide (V.int ((bit l a+bit l b)%2)=V.int (if push=true then 1 else 0))
def xj(push:Bool):Sp:=fun vs H Q _=>∃ p,vs = [.ref p]/\Q (.int (if push=true then 1 else 0)) H
def TieAt(H:Hp)(p C:Addr)(a b s:Int):Prop:=∃ dx,H p=some (.ins C dx (tf a b s))
def C0(C:Addr)(push:Bool):Sp:=fun vs H Q _=>∃ p a b s l,vs = [.ref p,.int l]/\TieAt H p C a b s/\0<=a/\0<=b/\Q (.bl (unp push a b l)) H
def pP(C:Addr)(push:Bool):Sp:=fun vs H Q _=>∃ p a b s l,vs = [.ref p,.int l]/\TieAt H p C a b s/\0<=a/\0<=b/\Q (.int (if unp push a b l=true then s else 0)) H
def U(es:En)(ks:Kn)(l:Int)(t:Nat):Bool:=match es[t]?,ks[t]? with | some e,some k=>unp (decide (k.1=1)) (e.1:Int) (e.2:Int) l | _,_=>false
theorem U_at{es:En}{ks:Kn}{l:Int}{t:Nat}{e:Nat×Nat}{k:Int×Int}(h1:es[t]?=some e)(h2:ks[t]?=some k):U es ks l t=unp (decide (k.1=1)) (e.1:Int) (e.2:Int) l:=by unfold U;rw[h1,h2]
def stg(ks:Kn)(t:Nat):Int:=match ks[t]? with | some k=>k.2 | none=>0
section
variable{P:Program}{w:World}{K:Mz}{mg:Str->Option Value}{base:Heap}
theorem Aw:aG ["self"] ["self"] (aj eF):=⟨rfl,rfl,rfl,by decide +kernel,rfl,by decide +kernel,by decide +kernel⟩
theorem Ji{f:Addr}{fd:FuncData} (F:Fun K "wish" "Tie.wish" eF f fd):FnOk P w K mg base CX0 1 f fd ["self"] (xj false):=by
 refine F.ok Aw (fun vs H Q E h=>?_) (fun cdv A outer s H vs Q E hr h=>?_)
 ·obtain⟨p,rfl,_⟩:=h;rfl
 obtain⟨p,rfl,k⟩:=h;exact⟨_,(ao (aN ai)),k⟩
theorem xD:aG ["self"] ["self"] (aj c6):=⟨rfl,rfl,rfl,by decide +kernel,rfl,by decide +kernel,by decide +kernel⟩
theorem Jh{f:Addr}{fd:FuncData} (F:Fun K "wish" "Push.wish" c6 f fd):FnOk P w K mg base CX0 1 f fd ["self"] (xj true):=by
 refine F.ok xD (fun vs H Q E h=>?_) (fun cdv A outer s H vs Q E hr h=>?_)
 ·obtain⟨p,rfl,_⟩:=h;rfl
 obtain⟨p,rfl,k⟩:=h;exact⟨_,(ao (aN ai)),k⟩
theorem iq:aG ["self","laying","unlike"] ["self","laying"] (aj bA):=⟨rfl,rfl,rfl,by decide +kernel,rfl,by decide +kernel,by decide +kernel⟩
theorem Gb{f C fw:Addr}{fd fdw:FuncData}{push:Bool} (F:Fun K "unpleased" "Tie.unpleased" bA f fd) (T:CT K C) (m_wish:Met P w K mg base 1 C "wish" ["self"] (xj push) fw fdw):FnOk P w K mg base CX0 2 f fd ["self","laying"] (C0 C push):=by
 refine F.ok iq (fun vs H Q E h=>?_) (fun cdv A outer s H vs Q E hr h=>?_)
 ·obtain⟨p,a,b,s,l,rfl,_⟩:=h;rfl
 obtain⟨p,a,b,st,l,rfl,⟨dx,hp⟩,ha,hb,k⟩:=h;have CL:=T.cl
 refine⟨_,(ag (au (i:=2) iq.nd rfl (Or.inl rfl) (av sZ (av op_xor (av qc (pv 1) (cJ (pv 0) rfl)) (av qc (pv 1) (cJ (pv 0) rfl))) ai))
   (ao (aN (AV qd (pv 2) (Je (pv 0) CL m_wish.me m_wish.ok (hr.mono (by decide)) m_wish.bn .nil aR) (aV _))))),?_⟩
 refine⟨_,rfl,_,rfl,p,C,dx,_,_,rfl,hp,T.cl,T.n1,lr _ _ _,_,_,rfl,rfl,ha,?_⟩;refine⟨_,rfl,_,rfl,p,C,dx,_,_,rfl,hp,T.cl,T.n2,pL _ _ _,_,_,rfl,rfl,hb,?_⟩;refine⟨_,_,rfl,rfl,_,_,rfl,rfl,?_⟩;refine⟨_,rfl,_,rfl,p,dx,_,rfl,hp,IH _ _ _ (by decide +kernel) (by decide +kernel) (by decide +kernel),p,rfl,?_⟩
 refine⟨rfl,?_⟩;have e:=KL (l/2^a.toNat) (l/2^b.toNat);have k':Q (V.bl (unp push a b l)) H:=k;unfold unp bit at k';rw[← e]at k';exact k'
theorem xC:aG ["self","laying"] ["self","laying"] (aj cZ):=⟨rfl,rfl,rfl,by decide +kernel,rfl,by decide +kernel,by decide +kernel⟩
theorem Dc{f C fw:Addr}{fd fdw:FuncData}{push:Bool} (F:Fun K "price" "Tie.price" cZ f fd) (T:CT K C) (m_unpleased:Met P w K mg base 2 C "unpleased" ["self","laying"] (C0 C push) fw fdw):FnOk P w K mg base CX0 3 f fd ["self","laying"] (pP C push):=by
 refine F.ok xC (fun vs H Q E h=>?_) (fun cdv A outer s H vs Q E hr h=>?_)
 ·obtain⟨p,a,b,s,l,rfl,_⟩:=h;rfl
 obtain⟨p,a,b,st,l,rfl,⟨dx,hp⟩,ha,hb,k⟩:=h;have CL:=T.cl;refine⟨_,(ao (aN (uX (nI (AS (pv 0) CL m_unpleased.me m_unpleased.ok (hr.mono (by decide)) m_unpleased.bn .nil aR (aa (pv 1) ah))) (cJ (pv 0) rfl) ai))),?_⟩
 refine⟨_,rfl,p,dx,_,rfl,hp,IH _ _ _ (by decide +kernel) (by decide +kernel) (by decide +kernel),_,rfl,p,a,b,st,l,rfl,⟨dx,hp⟩,ha,hb,_,rfl,?_⟩
 refine ite2 (fun c=>?_) (fun c=>?_)
 ·refine⟨_,rfl,p,C,dx,_,_,rfl,hp,T.cl,T.n3,tf_str _ _ _,?_⟩;rw[if_pos c]at k;exact k
 ·rw[if_neg c]at k;exact k
end
end K8
namespace K8
open PySem L2
local macro_rules | `(tactic| walk_at "cc") => `(tactic| first | exact ⟨by decide, by decide⟩ | (show (0 : Int) < _; decide) | (show (0 : Int) < _; omega) | (show (0 : Int) ≤ _; omega) | exact ⟨by decide, by decide, by decide⟩ | exact ⟨by omega, by omega, by decide⟩ | exact Or.inl ⟨by decide, by decide⟩ | exact Or.inl ⟨by omega, by omega⟩)
local macro_rules | `(tactic| walk_at "rd") => `(tactic| repeat (first | refine ⟨_, rfl, ?_⟩ | refine ⟨_, _, rfl, rfl, ?_⟩ | refine ⟨rfl, ?_⟩ | (refine ⟨?cc, ?_⟩; (case cc => walk_at "cc"))))
def sumL{α:Type}(l:List α)(f:α->Int):Int:=(l.map f).sum
theorem cG{α:Type}(f:α->Int):sumL [] f=0:=rfl
theorem aA{α:Type}(x:α)(l:List α)(f:α->Int):sumL (x::l) f=f x+sumL l f:=by unfold sumL;rw[Nh,QE]
theorem fm{α:Type}(l:List α)(f g:α->Int):sumL l (fun x=>f x+g x)=sumL l f+sumL l g:=by
 induction l with
 |nil=>rfl
 |cons x l ih=>rw[aA,aA,aA,ih];omega
theorem bO{α:Type}(l:List α):sumL l (fun _=>0)=0:=by
 induction l with
 |nil=>rfl
 |cons x l ih=>rw[aA,ih];rfl
theorem az{α:Type}{l:List α}{f g:α->Int}(h:∀ x∈l,f x=g x):sumL l f=sumL l g:=by
 induction l with
 |nil=>rfl
 |cons x l ih=>rw[aA,aA,h x (by simp),ih fun y hy=>h y (by simp[hy])]
theorem gf{α β:Type}(l:List α)(r:List β)(f:α->β->Int):sumL l (fun x=>sumL r (f x))=sumL r (fun y=>sumL l (fun x=>f x y)):=by
 induction l with
 |nil=>rw[cG];exact(bO r).symm
 |cons x l ih =>
  rw[aA,ih,← fm];exact az fun y _=>(aA x l fun x=>f x y).symm
abbrev Pr:=Int×Int
def PrAt(H:Hp)(v:V)(p:Pr):Prop:=∃ t,v=.ref t/\H t=some (.tup [.int p.1,.int p.2])
theorem PrAt.mono{H H':Hp}{v:V}{p:Pr}(h:PrAt H v p)(s:Same H H'):PrAt H' v p:=by
 obtain⟨t,e,z⟩:=h;exact⟨t,e,s _ _ z⟩
theorem fk{α:Type}(l r:List α)(f:α->Int):sumL (l++r) f=sumL l f+sumL r f:=by
 induction l with
 |nil=>rw[PX,cG,NO]
 |cons x l ih=>rw[List.cons_append,aA,aA,ih];omega
theorem uc{α β:Type}(l:List α)(g:α->β)(f:β->Int):sumL (l.map g) f=sumL l fun x=>f (g x):=by
 unfold sumL;rw[NZ];rfl
theorem ju{α β:Type} [DecidableEq β] (k:α->β):∀{l:List α}{x:α}(g:α->Int),(l.map k).Nodup->x∈l->sumL l (fun y=>if k x=k y then g y else 0)=g x
 |y::l,x,g,nd,h=>by
  rw[Nh,MU]at nd;rw[aA];rcases MG.mp h with rfl | h
  ·rw[if_pos rfl];have z:sumL l (fun y=>if k x=k y then g y else 0)=0:=by
    refine(az fun y hy=>?_).trans (bO l);rw[if_neg];intro e;exact nd.1 (e▸MR.mpr ⟨y,hy,rfl⟩)
   rw[z,NP]
  ·have ne:¬ k x=k y:=fun e=>nd.1 (by rw[← e];exact MR.mpr ⟨x,h,rfl⟩)
   rw[if_neg ne,NO];exact ju k g nd.2 h
theorem KW{n:Nat}{l:List Nat}(nd:l.Nodup)(hl:∀ t∈l,t<n)(g:Nat->Int):sumL (Na n) (fun t=>if t∈l then g t else 0)=sumL l g:=by
 have e:∀ t∈Na n,(if t∈l then g t else 0)=sumL l fun u=>if t=u then g u else 0:=fun t _=>by
  by_cases h:t∈l
  ·rw[if_pos h];exact(ju (fun x=>x) g (by rw[List.map_id'];exact nd) h).symm
  ·rw[if_neg h];refine((az fun u hu=>?_).trans (bO l)).symm;have ne:¬ t=u:=fun e=>h (by rw[e];exact hu)
   rw[if_neg ne]
 rw[az e,gf];refine az fun u hu=>?_;have q:=ju (fun x:Nat=>x) (l:=Na n) (x:=u) g (by rw[List.map_id'];exact Oz) (Ny.mpr (hl u hu))
 refine(az fun t _=>?_).trans q;by_cases h:t=u
 ·rw[if_pos h,if_pos h.symm,h]
 ·have ne:¬ u=t:=fun e=>h e.symm
  rw[if_neg h,if_neg ne]
def layK(ps:List Nat)(w:Nat):Nat->Nat
 |0=>0
 |k+1=>if w.testBit k=true then layK ps w k|||2^(ps.getD k 0) else layK ps w k
def yr(ps:List Nat)(w:Nat):Nat:=layK ps w ps.length
def lays(ps:List Nat):List Nat:=(Na (2^ps.length)).map (yr ps)
theorem BA{ps qs:List Nat}{w v:Nat}:∀{k:Nat},(∀ i,i<k->ps.getD i 0=qs.getD i 0/\w.testBit i=v.testBit i)->layK ps w k=layK qs v k
 |0,_=>rfl
 |k+1,h=>by
  obtain⟨a,b⟩:=h k (NU k);rw[layK,layK,a,b,BA fun i hi=>h i (NX hi)]
theorem Dx{ps:List Nat}{p i:Nat}(h:i<ps.length):(ps++[p]).getD i 0=ps.getD i 0:=by
 rw[NJ,NJ,MF h]
theorem LN{ps:List Nat}{p w:Nat}(hw:w<2^ps.length):yr (ps++[p]) w=yr ps w:=by
 unfold yr;rw[MA,MJ,layK,if_neg (by rw[O4 hw];exact MQ)]
 exact BA fun i hi=>⟨Dx hi,rfl⟩
theorem JB{ps:List Nat}{p w:Nat}(hw:w<2^ps.length):yr (ps++[p]) (2^ps.length+w)=yr ps w|||2^p:=by
 unfold yr;rw[MA,MJ,layK];have tb:(2^ps.length+w).testBit ps.length=true:=by
  rw[Nat.testBit_two_pow_add_eq,O4 hw];rfl
 have gp:(ps++[p]).getD ps.length 0=p:=by
  rw[NJ,MB (MC _),M7];rfl
 rw[if_pos tb,gp];congr 1;refine BA fun i hi=>⟨Dx hi,?_⟩;exact Nat.testBit_two_pow_add_gt hi w
theorem lC(ps:List Nat)(p:Nat):lays (ps++[p])=lays ps++(lays ps).map (·|||2^p):=by
 unfold lays;have e:2^(ps++[p]).length=2^ps.length+2^ps.length:=by rw[MA,MJ,Nat.pow_succ];omega
 rw[e,List.range_add,M8,NZ,NZ];congr 1
 ·exact OT fun w hw=>LN (Ny.mp hw)
 ·exact OT fun w hw=>JB (Ny.mp hw)
theorem IK(ps:List Nat)(p:Nat)(f:Nat->Int):sumL (lays (ps++[p])) f=sumL (lays ps) (fun L=>f L+f (L|||2^p)):=by
 rw[lC,fk,uc,fm]
theorem dJ(l:List Nat)(x:Nat):(mk l).testBit x=decide (x∈l):=by
 have go:∀(l:List Nat)(a:Nat),(l.foldl (fun a x=>a|||2^x) a).testBit x=(a.testBit x||decide (x∈l)):=by
  intro l;induction l with
  |nil=>intro a;simp
  |cons y l ih =>
   intro a;rw[List.foldl_cons,ih,NQ,Nq];by_cases h:y=x
   ·subst h;simp
   ·have h':¬ x=y:=fun e=>h e.symm
    simp[h,h',MG]
 unfold mk;rw[go,NT,Bool.false_or]
theorem pq{ps:List Nat}{L:Nat}(h:L∈lays ps){x:Nat}(hx:L.testBit x=true):x∈ps:=by
 unfold lays at h;obtain⟨w,_,rfl⟩:=MR.mp h;unfold yr at hx;have go:∀ k,k<=ps.length->(layK ps w k).testBit x=true->x∈ps:=fun k=>by
  induction k with
  |zero=>intro _ h;rw[layK,NT]at h;cases h
  |succ k ih =>
   intro hk h;rw[layK]at h;split at h
   ·rw[NQ,Nq]at h;rcases Bool.or_eq_true_iff.mp h with h | h
    ·exact ih (by omega) h
    ·have e:ps.getD k 0=x:=of_decide_eq_true h
     rw[← e,NJ,Mx (by omega)]
     exact N4 _
   ·exact ih (by omega) h
 exact go _ (MC _) hx
def insT(es:En)(B t:Nat):Bool:=match es[t]? with | some e=>B.testBit e.1&&B.testBit e.2 | none=>false
theorem mQ{es:En}{B t:Nat}{e:Nat×Nat}(h:es[t]?=some e):insT es B t=(B.testBit e.1&&B.testBit e.2):=by unfold insT;rw[h]
def cstB(es:En)(pr:Nat->Nat->Int)(B L:Nat):Int:=sumL (Na es.length) fun t=>if insT es B t=true then pr t L else 0
def Loc(es:En)(pr:Nat->Nat->Int):Prop:=∀(t:Nat)(e:Nat×Nat),es[t]?=some e->∀ L L':Nat,L.testBit e.1=L'.testBit e.1->L.testBit e.2=L'.testBit e.2->pr t L=pr t L'
def jX(es:En)(B:Nat)(row:List Nat):List Nat:=row.filter (insT es B)
theorem ly(L p x:Nat)(b:Bool):(L|||(if b=true then 2^p else 0)).testBit x=(L.testBit x||(b&&decide (p=x))):=by
 rw[NQ]
 cases b
 ·simp
 ·simp[Nq]
def hsg(s p:Nat)(b:Bool):Nat:=s|||(if b=true then 2^p else 0)
section
variable{m:Nat}{es:En}{ts:List (List Nat)}{pr:Nat->Nat->Int}{ps row:List Nat}{p F F' L:Nat}
theorem Hr(h:cP es (mk ps) F)(h':cP es (mk (ps++[p])) F'){x:Nat}(hx:F'.testBit x=true):x=p∨F.testBit x=true:=by
 rw[h' x,dJ]at hx;rw[h x,dJ];obtain⟨h1,h2⟩:=Oq.mp hx;by_cases e:x=p
 ·exact .inl e
 ·right;have hm:x∈ps:=by
   rcases MH.mp (of_decide_eq_true h1)with z | z
   ·exact z
   ·exact absurd (M4.mp z) e
  rw[decide_eq_true hm,OJ];obtain⟨t,ht,hat⟩:=OA.mp h2;refine OA.mpr ⟨t,ht,?_⟩;have dn:∀ y,(mk (ps++[p])).testBit y=false->(mk ps).testBit y=false:=fun y z=>by
   rw[dJ]at z ⊢;exact decide_eq_false fun q=>of_decide_eq_false z (Ng _ q)
  unfold atF at hat ⊢;rcases Bool.or_eq_true_iff.mp hat with z | z
  ·obtain⟨a,b⟩:=Oq.mp z;have b':=dn t.2 (by simpa using b)
   rw[a,b'];rfl
  ·obtain⟨a,b⟩:=Oq.mp z;have b':=dn t.1 (by simpa using b)
   rw[a,b'];simp
theorem Ht(h:cP es (mk ps) F)(h':cP es (mk (ps++[p])) F')(hp:p∉ps)(hL:L∈lays ps)(b:Bool):hsg (L&&&F) p b&&&F'=hsg L p b&&&F':=by
 apply NR;intro x;unfold hsg;rw[Oe,Oe,ly,ly,Oe]
 cases z:F'.testBit x
 ·simp
 ·rcases Hr h h' z with e | e
  ·subst e;have:L.testBit x=false:=by
    cases q:L.testBit x with
    |false=>rfl
    |true=>exact absurd (pq hL q) hp
   rw[this];rfl
  ·rw[e];simp
theorem DW(T:bC m es ts)(lc:Loc es pr)(h:cP es (mk ps) F)(hp:p∉ps)(hL:L∈lays ps)(b:Bool)(hrow:ts[p]?=some row){t:Nat}(ht:t∈jX es (mk (ps++[p])) row):pr t (hsg (L&&&F) p b)=pr t (hsg L p b):=by
 obtain⟨h1,h2⟩:=OY.mp ht;obtain⟨e,he,hep⟩:=(T.mem p row hrow t).mp h1;obtain⟨_,_,hne⟩:=T.ends e (My he);rw[mQ he,dJ,dJ]at h2;obtain⟨i1,i2⟩:=Oq.mp h2;have hpB:(mk ps).testBit p=false:=by rw[dJ];exact decide_eq_false hp
 have inF:∀ y,y∈ps++[p]->y≠p->(e.1=y/\e.2=p∨e.1=p/\e.2=y)->F.testBit y=true:=fun y hy hn hc=>by
  have hy':y∈ps:=by
   rcases MH.mp hy with z | z
   ·exact z
   ·exact absurd (M4.mp z) hn
  rw[h y,dJ,decide_eq_true hy',OJ];refine OA.mpr ⟨e,My he,?_⟩;unfold atF;rcases hc with⟨a,c⟩ | ⟨a,c⟩
  ·rw[a,c,hpB];simp
  ·rw[a,c,hpB];simp
 have pb:(L&&&F).testBit p=false/\L.testBit p=false:=by
  have:L.testBit p=false:=by
   cases q:L.testBit p with
   |false=>rfl
   |true=>exact absurd (pq hL q) hp
  exact⟨by rw[Oe,this];rfl,this⟩
 have atp:(hsg (L&&&F) p b).testBit p=(hsg L p b).testBit p:=by unfold hsg;rw[ly,ly,pb.1,pb.2]
 have aty:∀ y,F.testBit y=true->(hsg (L&&&F) p b).testBit y=(hsg L p b).testBit y:=fun y hy=>by unfold hsg;rw[ly,ly,Oe,hy,Bool.and_true]
 rcases hep with z | z
 ·refine lc t e he _ _ (by rw[z];exact atp) (aty _ (inF e.2 (of_decide_eq_true i2) (fun q=>hne (z.trans q.symm)) (.inr ⟨z,rfl⟩)))
 ·refine lc t e he _ _ (aty _ (inF e.1 (of_decide_eq_true i1) (fun q=>hne (q.trans z.symm)) (.inl ⟨rfl,z⟩))) (by rw[z];exact atp)
theorem HU(T:bC m es ts)(lc:Loc es pr)(h:cP es (mk ps) F)(hp:p∉ps)(hL:L∈lays ps)(b:Bool)(hrow:ts[p]?=some row) :
  cstB es pr (mk (ps++[p])) (hsg L p b)=cstB es pr (mk ps) L+sumL (jX es (mk (ps++[p])) row) (fun t=>pr t (hsg (L&&&F) p b)):=by
 have hb:∀ t∈jX es (mk (ps++[p])) row,t<es.length:=fun t ht=>by
  obtain⟨e,he,_⟩:=(T.mem p row hrow t).mp (OY.mp ht).1;exact(Mw.mp he).1
 rw[az (fun t ht=>DW T lc h hp hL b hrow ht),← KW (show(jX es (mk (ps++[p])) row).Nodup from(T.nd p row hrow).filter _) hb];unfold cstB;rw[← fm];refine az fun t ht=>?_;obtain⟨e,he⟩:∃ e,es[t]?=some e:=⟨_,Mx (Ny.mp ht)⟩;have mb:t∈jX es (mk (ps++[p])) row↔(e.1=p∨e.2=p)/\insT es (mk (ps++[p])) t=true:=by
  unfold jX;rw[OY,T.mem p row hrow t];constructor
  ·rintro⟨⟨e',he',q⟩,z⟩;rw[he]at he'
   cases he'
   exact⟨q,z⟩
  ·rintro⟨q,z⟩;exact⟨⟨e,he,q⟩,z⟩
 by_cases hin:insT es (mk ps) t=true
 ·rw[if_pos hin];have hin0:=hin;rw[mQ he,dJ,dJ]at hin;obtain⟨i1,i2⟩:=Oq.mp hin;have m1:=of_decide_eq_true i1;have m2:=of_decide_eq_true i2;have n1:e.1≠p:=fun z=>hp (z▸m1);have n2:e.2≠p:=fun z=>hp (z▸m2);have hin':insT es (mk (ps++[p])) t=true:=by
   rw[mQ he,dJ,dJ,decide_eq_true (Ng _ m1),decide_eq_true (Ng _ m2)];rfl
  rw[if_pos hin',if_neg (fun z=>(mb.mp z).1.elim n1 n2),NP];refine lc t e he _ _ ?_ ?_
  ·unfold hsg;rw[ly,decide_eq_false (fun z=>n1 z.symm),Qx,Pe]
  ·unfold hsg;rw[ly,decide_eq_false (fun z=>n2 z.symm),Qx,Pe]
 ·rw[if_neg hin,NO];by_cases hin':insT es (mk (ps++[p])) t=true
  ·have hep:e.1=p∨e.2=p:=by
    rw[mQ he,dJ,dJ]at hin hin';obtain⟨i1,i2⟩:=Oq.mp hin';rcases MH.mp (of_decide_eq_true i1)with z1 | z1
    ·rcases MH.mp (of_decide_eq_true i2)with z2 | z2
     ·exact absurd (by rw[decide_eq_true z1,decide_eq_true z2];rfl) hin
     ·exact .inr (M4.mp z2)
    ·exact .inl (M4.mp z1)
   rw[if_pos hin',if_pos (mb.mpr ⟨hep,hin'⟩)]
  ·rw[if_neg hin',if_neg fun z=>hin' (mb.mp z).2]
end
theorem GP{ps:List Nat}{p L:Nat}(b:Bool)(h:L∈lays ps):hsg L p b∈lays (ps++[p]):=by
 rw[lC];unfold hsg
 cases b
 ·rw[if_neg MQ,P4];exact Ng _ h
 ·rw[if_pos rfl];exact MK _ (MR.mpr ⟨L,h,rfl⟩)
theorem LL{ps:List Nat}{p L':Nat}(h:L'∈lays (ps++[p])):∃ L b,L∈lays ps/\L'=hsg L p b:=by
 rw[lC]at h;rcases MH.mp h with h | h
 ·exact⟨L',false,h,by unfold hsg;rw[if_neg MQ,P4]⟩
 ·obtain⟨L,hL,rfl⟩:=MR.mp h;exact⟨L,true,hL,by unfold hsg;rw[if_pos rfl]⟩
theorem t9{kvs:List (Key×V)}(nd:(kvs.map (·.1)).Nodup){k:Key}{v:V}(h:(k,v)∈kvs):valV kvs k=some v:=by
 induction kvs with
 |nil=>cases h
 |cons p r ih =>
  rw[Nh,MU]at nd;rcases MG.mp h with e | h
  ·rw[← e];exact bT rfl
  ·have ne:¬ p.1=k:=fun z=>nd.1 (by rw[z];exact MR.mpr ⟨_,h,rfl⟩)
   rw[bV ne];exact ih nd.2 h
theorem CY{kvs:List (Key×V)}{k:Key}{v:V}(h:valV kvs k=some v):∃ j:Nat,kvs[j]?=some (k,v):=by
 induction kvs with
 |nil=>cases h
 |cons p r ih =>
  by_cases e:p.1=k
  ·rw[bT e]at h
   cases h
   exact⟨0,by rw[← e];rfl⟩
  ·rw[bV e]at h;obtain⟨j,hj⟩:=ih h;exact⟨j+1,hj⟩
def DcAt{α:Type}(R:V->α->Prop)(kvs:List (Key×V))(T:List (Nat×α)):Prop:=kvs.length=T.length/\∀(i:Nat)(s:Nat)(a:α),T[i]?=some (s,a)->∃ v,kvs[i]?=some ((.inl (s:Int):Key),v)/\R v a
section
variable{α:Type}{R R':V->α->Prop}{kvs:List (Key×V)}{T:List (Nat×α)}{s:Nat}{a:α}{v:V}{i:Nat}
theorem DcAt.imp(h:DcAt R kvs T)(k:∀ v a,R v a->R' v a):DcAt R' kvs T:=⟨h.1,fun i s a e=>by
 obtain⟨v,e1,e2⟩:=h.2 i s a e
 exact⟨v,e1,k v a e2⟩⟩
theorem DcAt.nil:DcAt R [] ([]:List (Nat×α)):=⟨rfl,fun i s a e=>by simp at e⟩
theorem DcAt.keys(h:DcAt R kvs T):kvs.map (·.1)=(T.map (·.1)).map fun(x:Nat)=>(Sum.inl (x:Int):Key):=by
 apply Ou;intro i;rw[ME,ME,ME];by_cases hi:i<T.length
 ·obtain⟨⟨s,a⟩,e⟩:∃ e,T[i]?=some e:=⟨_,Mx hi⟩;obtain⟨v,e1,_⟩:=h.2 i s a e;rw[e,e1];rfl
 ·rw[OG (by have:=h.1;omega),OG (by omega)]
  rfl
theorem He{x y:Nat}(h:(Sum.inl (x:Int):Key)=Sum.inl (y:Int)):x=y:=by
 have:=Sum.inl.inj h;omega
theorem DcAt.nd(h:DcAt R kvs T)(n:(T.map (·.1)).Nodup):(kvs.map (·.1)).Nodup:=by
 rw[h.keys];exact O3.map _ (fun x y hne e=>hne (He e)) n
theorem DcAt.atK(h:DcAt R kvs T){k:Key}(e:kvs[i]?=some (k,v)):∃(s:Nat)(a:α),k=.inl (s:Int)/\T[i]?=some (s,a)/\R v a:=by
 have hi:i<T.length:=by rw[← h.1];exact(Mw.mp e).1
 obtain⟨⟨s,a⟩,e2⟩:∃ e,T[i]?=some e:=⟨_,Mx hi⟩;obtain⟨v',e3,r⟩:=h.2 i s a e2;rw[e]at e3;obtain⟨e4,e5⟩:=Prod.mk.inj (MN e3);subst e5;exact⟨s,a,e4,e2,r⟩
theorem DcAt.val(h:DcAt R kvs T)(e:valV kvs (.inl (s:Int))=some v):∃(i:Nat)(a:α),T[i]?=some (s,a)/\kvs[i]?=some ((.inl (s:Int):Key),v)/\R v a:=by
 obtain⟨i,hi⟩:=CY e;obtain⟨s',a,e1,e2,r⟩:=h.atK hi;have:=He e1;subst this;exact⟨i,a,e2,hi,r⟩
theorem DcAt.no(h:DcAt R kvs T)(e:valV kvs (.inl (s:Int))=none):s∉T.map (·.1):=fun hm=>by
 have:=Iz e;rw[h.keys]at this;exact this (MR.mpr ⟨s,hm,rfl⟩)
theorem DcAt.get(h:DcAt R kvs T)(n:(T.map (·.1)).Nodup)(e:(s,a)∈T):∃ v,valV kvs (.inl (s:Int))=some v/\R v a:=by
 obtain⟨i,hi⟩:=NN e;obtain⟨v,e1,r⟩:=h.2 i s a hi;exact⟨v,t9 (h.nd n) (My e1),r⟩
theorem DcAt.snoc(h:DcAt R kvs T)(r:R v a):DcAt R (kvs++[((.inl (s:Int):Key),v)]) (T++[(s,a)]):=by
 refine⟨by rw[MA,MA,h.1];rfl,fun j s' a' e=>?_⟩
 by_cases hj:j<T.length
 ·rw[MF hj]at e;obtain⟨v',e1,r'⟩:=h.2 j s' a' e;exact⟨v',by rw[MF (by rw[h.1];exact hj)];exact e1,r'⟩
 ·rw[MB (by omega)]at e
  have hj2:j=T.length:=by
   have:=(Mw.mp e).1;rw[MJ]at this;omega
  subst hj2;rw[M7]at e
  cases e
  exact⟨v,by rw[← h.1,MB (MC _),M7];rfl,r⟩
theorem DcAt.putN(h:DcAt R kvs T)(e:valV kvs (.inl (s:Int))=Option.none)(r:R v a):DcAt R (putK kvs (.inl (s:Int)) v) (T++[(s,a)]):=by
 rw[ph v e];exact h.snoc r
theorem IY{kvs:List (Key×V)}(nd:(kvs.map (·.1)).Nodup){k:Key}{u v:V}{i:Nat}(e:kvs[i]?=some (k,u)):putK kvs k v=kvs.set i (k,v):=by
 unfold putK;rw[if_pos (by rw[OA];exact⟨_,My e,decide_eq_true rfl⟩)]
 apply Ou;intro j;rw[ME,Nr];by_cases hj:i=j
 ·subst hj;rw[if_pos rfl,if_pos (Mw.mp e).1,e];simp
 ·rw[if_neg hj]
  cases hx:kvs[j]? with
  |none=>rfl
  |some q =>
   have:¬ q.1=k:=fun z=>hj (by
    have n1:(kvs.map (·.1))[i]?=some k:=by rw[ME,e];rfl
    have n2:(kvs.map (·.1))[j]?=some k:=by rw[ME,hx];exact congrArg some z
    obtain⟨h1,e1⟩:=Mw.mp n1;obtain⟨h2,e2⟩:=Mw.mp n2;rcases Nat.lt_trichotomy i j with z | z | z
    ·exact absurd (e1.trans e2.symm) (N8.mp nd i j h1 h2 z)
    ·exact z
    ·exact absurd (e2.trans e1.symm) (N8.mp nd j i h2 h1 z))
   show some (if q.1=k then(q.1,v) else q)=some q;rw[if_neg this]
end
theorem IU{α:Type}{T:List (Nat×α)}{i s:Nat}{a a':α}(e:T[i]?=some (s,a)):(T.set i (s,a')).map (·.1)=T.map (·.1):=by
 apply Ou;intro j;rw[ME,ME,Nr];by_cases hj:i=j
 ·subst hj;rw[if_pos rfl,if_pos (Mw.mp e).1,e];rfl
 ·rw[if_neg hj]
theorem Dt(ps:List Nat):(lays ps).length=2^ps.length:=by unfold lays;rw[MD,N0]
theorem ud:∀(n:Nat)(qs:List Nat)(s:Nat),qs.length=n->(∀ x,s.testBit x=true->x∈qs)->s∈lays qs
 |0,qs,s,hn,h=>by
  have e:qs = []:=OZ.mp hn;subst e;have z:s=0:=NR fun x=>by
   rw[NT]
   cases q:s.testBit x with
   |false=>rfl
   |true=>exact absurd (h x q) (NC)
  subst z;exact MR.mpr ⟨0,Ny.mpr (by decide),rfl⟩
 |n+1,qs,s,hn,h=>by
  have ne:qs≠[]:=fun e=>by rw[e]at hn;cases hn
  have eq:qs.dropLast++[qs.getLast ne]=qs:=Qh ne;generalize qs.getLast ne=q at eq;have hl:qs.dropLast.length=n:=by rw[List.length_dropLast,hn];rfl
  generalize qs.dropLast=r at eq hl;subst eq;by_cases b:s.testBit q=true
  ·have hs:s^^^2^q∈lays r:=ud n r _ hl fun x hx=>by
    rw[Pg,Nq]at hx;by_cases e:q=x
    ·subst e;rw[b]at hx;simp at hx
    ·rw[decide_eq_false e,Bool.xor_false]at hx;rcases MH.mp (h x hx)with z | z
     ·exact z
     ·exact absurd (M4.mp z).symm e
   have e:s=hsg (s^^^2^q) q true:=NR fun x=>by
    unfold hsg;rw[ly,Pg,Nq];by_cases e:q=x
    ·subst e;rw[b];simp
    ·rw[decide_eq_false e];simp
   rw[e];exact GP true hs
  ·have hs:s∈lays r:=ud n r _ hl fun x hx=>by
    rcases MH.mp (h x hx)with z | z
    ·exact z
    ·exact absurd (by rw[← M4.mp z];exact hx) b
   have:=GP (p:=q) false hs;unfold hsg at this;rw[if_neg MQ,P4]at this;exact this
theorem JO(es:En)(pr:Nat->Nat->Int)(L:Nat):cstB es pr 0 L=0:=by
 unfold cstB;refine(az fun t _=>?_).trans (bO _);rw[if_neg];unfold insT;split
 ·rw[NT];exact MQ
 ·exact MQ
section
variable{l:List Nat}{q:Nat->Prop} [DecidablePred q] {f:Nat->Int} {L:Nat} {v:Pr}
end
def prT(es:En)(ks:Kn)(t L:Nat):Int:=if U es ks (L:Int) t=true then stg ks t else 0
theorem Li{es:En}{ks:Kn}(kl:ks.length=es.length):Loc es (prT es ks):=fun t e he L L' h1 h2=>by
 obtain⟨k,hk⟩:∃ k,ks[t]?=some k:=⟨_,Mx (by have:=(Mw.mp he).1;omega)⟩
 unfold prT;rw[U_at he hk,U_at he hk];unfold unp;rw[bitN,bitN,bitN,bitN,h1,h2]
def tJ(PL PS:Addr)(H:Hp)(es:En)(ks:Kn)(xs:List V)(bk:List Nat):Prop:=xs.length=bk.length/\∀(j t:Nat),bk[j]?=some t->∃ e k p dx,es[t]?=some e/\ks[t]?=some k/\xs[j]?=some (.ref p)/\H p=some (.ins (cls PL PS (decide (k.1=1))) dx (tf ((e.1:Nat):Int) ((e.2:Nat):Int) k.2))
theorem tJ.mono{PL PS:Addr}{H H':Hp}{es:En}{ks:Kn}{xs:List V}{bk:List Nat}(h:tJ PL PS H es ks xs bk)(s:Same H H'):tJ PL PS H' es ks xs bk:=⟨h.1,fun j t z=>by
 obtain⟨e,k,p,dx,a,b,c,d⟩:=h.2 j t z
 exact⟨e,k,p,dx,a,b,c,s _ _ d⟩⟩
def DU(ts:List (List Nat))(p:Nat):List Nat:=(ts[p]?).getD []
def dE(es:En)(ts:List (List Nat))(od:List Nat)(i:Nat):List (List Nat):=(Na i).map fun j=>jX es (mk (od.take (j+1))) (DU ts (od.getD j 0))
theorem E1(es:En)(ts:List (List Nat))(od:List Nat)(i:Nat):dE es ts od (i+1)=dE es ts od i++[jX es (mk (od.take (i+1))) (DU ts (od.getD i 0))]:=by
 unfold dE;rw[List.range_succ,M8];rfl
def FG(PL PS WC:Addr):Sp:=fun vs H Q _=>∃(p o:Addr)(m:Nat)(es:En)(ts:List (List Nat))(ks:Kn)(od:List Nat),vs = [.ref p,.ref o]/\WebT PL PS WC H p m es ts ks/\ks.length=es.length/\bC m es ts/\m<=40/\es.length<=100/\H o=some (.lst ((cI od).map V.int))/\(∀ x∈od,x<m)/\od.length<=40 /\
 ∀ q zs H',Same H H'->H' q=some (.lst zs)->bM H' zs (dE es ts od od.length)->Q (.ref q) H'
def z8:Sp:=fun vs H Q _=>∃ p s:Nat,vs = [.int (p:Int),.int (s:Int)]/\p<60/\∀ q,H q=none->Q (.ref q) (upd H q (.lst [.int (s:Int),.int ((s|||2^p:Nat):Int)]))
def prcB(es:En)(ks:Kn)(bk:List Nat)(h:Nat):Int:=sumL bk fun t=>prT es ks t h
theorem yg{H H':Hp}{b:Addr}(s:Same H H')(z:H' b=none):H b=none:=by
 cases y:H b with
 |none=>rfl
 |some o=>rw[s _ _ y]at z;cases z
section
variable{P:Program}{w:World}{K:Mz}{mg:Str->Option Value}{base:Heap}
theorem dk:aG ["web","order","found","behind","place"] ["web","order"] (aj cS):=⟨rfl,rfl,rfl,by decide +kernel,rfl,by decide +kernel,by decide +kernel⟩
theorem LA{f fw PL PS WC:Addr}{fd fdw:FuncData} (F:Fun K "ties_back" "ties_back" cS f fd) (cw:CW K WC) (TL:CT K PL) (TS:CT K PS) (G_ends_within:Cal P w K mg base 1 "ends_within" ["tie","patch"] (pf K) fw fdw):FnOk P w K mg base CX0 2 f fd ["web","order"] (FG PL PS WC):=by
 refine F.ok dk (fun vs H Q E h=>?_) (fun cdv A outer s H vs Q E hr h=>?_)
 ·obtain⟨p,o,m,es,ts,ks,od,rfl,_⟩:=h;rfl
 obtain⟨p,o,m,es,ts,ks,od,rfl,⟨dx,fs,q1,xs,q3,z3,hp,lm,l1,h1,tk,l3,h3,rw3⟩,kl,tn,m40,e100,ho,ob,o40,kk⟩:=h;have hxl:xs.length=es.length:=tk.1;have ct:∀ b,CT K (cls PL PS b):=fun b=>by
  unfold cls;split
  ·exact TS
  ·exact TL
 have ol:(cI od).length=od.length:=by unfold cI;rw[MD]
 refine⟨_,(ag (au (i:=2) dk.nd rfl (Or.inl rfl) (dH ah))
   (ag (au (i:=3) dk.nd rfl (Or.inr rfl) ai)
   (ag (bP PassesOwn.never rfl (aX (pv 1)) (aK (i:=4) dk.nd rfl (Or.inl rfl)) (ag (au (i:=3) dk.nd rfl (Or.inr rfl) (av AW (pv 3) (av fx ai (pv 4))))
   (ao (bt (fX M5 Np Nn br (pv 2) (aa (Jg rfl (fr:=[("web",0),("behind",3)]) (xs:=["number"]) (zQ.of (by rfl) (by decide +kernel) (by rfl) (by decide +kernel) (by intro p hp;simp only[MG,NC,or_false]at hp;rcases hp with rfl | rfl<;>exact⟨rfl,rfl⟩) (by decide +kernel) (by intro p hp;simp only[MG,NC,or_false]at hp;rcases hp with rfl | rfl<;>rfl)) (aX (aE aP (cJ (pv 0) rfl) (pv 4) (fun _ _=>rfl))) (fun C ex s H=>(aK (i:=0) (show(["number","web","behind"]:List Str).Nodup from by decide +kernel) rfl (Or.inl rfl))) (fun C ex s H=>(Lg (aL qg (ar G_ends_within.ok (hr.mono (by decide)) rfl G_ends_within.mg G_ends_within.kp G_ends_within.bn .nil aR (aa (aE (pB (K:=K) rfl) (uY (K:=K) rfl (pv 1) rfl) (pv 0) (fun _ _=>rfl)) (aa (pv 2) ah))) ai (aV _)))) (fun C ex s H=>(pv 0))) ah))))))
   (ao (aN (pv 2)))))),?_⟩
 refine⟨(by show 0<=sizeLine;decide),fun qf hqf=>?_⟩
 have s1:=ak hqf (.lst []);refine⟨_,rfl,o,rfl,⟨_,SqL.of (s1 _ _ ho)⟩,b6 (K:=K) (xs:=(cI od).map V.int) (fun i σ H3=>∃ v4 zs,σ = [some (.ref p),some (.ref o),some (.ref qf),some (.int ((mk (od.take i):Nat):Int)),v4]/\Same H H3/\H3 qf=some (.lst zs)/\cQ (fun a=>a=qf) H3 zs (dE es ts od i)) ⟨_,[],rfl,s1,ae,rfl,fun i l e=>by simp[dE]at e⟩ (fun i σ H3 _ ⟨_,_,_,z,_⟩=>SqL.of (z _ _ ho)) ?_ ?_⟩
 ·rintro i x σ H3 hx ⟨v4,zs,rfl,s3,hf3,rx⟩;rw[ME]at hx;obtain⟨y,hy,rfl⟩:=M0.mp hx;unfold cI at hy;rw[ME]at hy;obtain⟨pl,hpl,rfl⟩:=M0.mp hy;have hb:=ob pl (My hpl);have hi:i<od.length:=(Mw.mp hpl).1;have et:od.take (i+1)=od.take i++[pl]:=by rw[M1,hpl];rfl
  have gd:od.getD i 0=pl:=by rw[NJ,hpl];rfl
  refine⟨_,rfl,_,rfl,_,_,rfl,rfl,⟨by omega,by omega,by decide⟩,_,_,rfl,rfl,?_⟩
  have eo:Builtin.bitOr ((mk (od.take i):Nat):Int) (1*2^((pl:Nat):Int).toNat)=((mk (od.take (i+1)):Nat):Int):=by rw[et,Gw,shlN,orN]
  obtain⟨row,hrow⟩:∃ row,ts[pl]?=some row:=⟨_,Mx (by rw[tn.len];exact hb)⟩
  obtain⟨r,r1,r2⟩:=rw3.2 pl row hrow;have era:DU ts (od.getD i 0)=row:=by unfold DU;rw[gd,hrow];rfl
  have zl:zs.length=i:=by rw[rx.1];unfold dE;rw[MD,N0]
  have rl:row.length<=es.length:=by
   refine eO (tn.nd pl row hrow) fun t ht=>?_;obtain⟨e,he,_⟩:=(tn.mem pl row hrow t).mp ht;exact(Mw.mp he).1
  refine⟨_,rfl,.inl ⟨rfl,_,SqL.of hf3⟩,_,rfl,p,WC,dx,fs,_,rfl,s3 _ _ hp,cw.cl,cw.n3,l3,_,rfl,q3,z3,_,_,rfl,rfl,SqL.of (s3 _ _ h3),aM r1,r,rfl,⟨_,SqL.of (s3 _ _ r2)⟩,EW (K:=K) (xs:=row.map iV) (fun j ys H4=>H4=H3/\ys=(jX es (mk (od.take (i+1))) (row.take j)).map iV) (ND (ax (by rw[MD];omega))) ⟨rfl,rfl⟩ (fun j ys H4 _ z=>by rw[z.1];exact SqL.of (s3 _ _ r2)) ?_ ?_ ?_⟩
  ·rintro j x ys H4 hx ⟨rfl,rfl⟩;rw[ME]at hx;obtain⟨t,ht,rfl⟩:=M0.mp hx;obtain⟨e,he,_⟩:=(tn.mem pl row hrow t).mp (My ht);obtain⟨k,hk⟩:∃ k,ks[t]?=some k:=⟨_,Mx (by have:=(Mw.mp he).1;omega)⟩
   obtain⟨p',dx',x1,x2⟩:=tk.2 t e k he hk;have etk:row.take (j+1)=row.take j++[t]:=by rw[M1,ht];rfl
   refine⟨rfl,_,rfl,p,WC,dx,fs,_,rfl,s3 _ _ hp,cw.cl,cw.n2,l1,_,rfl,q1,xs,_,_,rfl,rfl,SqL.of (s3 _ _ h1),aM x1,_,rfl,p',_,dx',_,_,_,_,rfl,s3 _ _ x2,ct _,by omega,by omega,rfl,_,rfl,?_⟩
   have hin:(bit (Builtin.bitOr ((mk (od.take i):Nat):Int) (1*2^((pl:Nat):Int).toNat)) (e.1:Int)+bit (Builtin.bitOr ((mk (od.take i):Nat):Int) (1*2^((pl:Nat):Int).toNat)) (e.2:Int)=2)↔insT es (mk (od.take (i+1))) t=true:=by
    rw[eo,bitN,bitN,mQ he]
    cases (mk (od.take (i+1))).testBit e.1<;>cases (mk (od.take (i+1))).testBit e.2<;>decide
   refine ite2 (fun c=>?_) (fun c=>?_)
   ·have c':=hin.mp (V.int.inj (of_decide_eq_true c))
    refine⟨_,rfl,rfl,?_⟩;unfold jX;rw[etk,List.filter_append,List.filter_cons_of_pos c',M8];rfl
   ·have c':¬ insT es (mk (od.take (i+1))) t=true:=fun z=>c (decide_eq_true (congrArg V.int (hin.mpr z)))
    refine⟨rfl,?_⟩;unfold jX;rw[etk,List.filter_append,List.filter_cons_of_neg c',List.filter_nil,O2]
  ·rintro ys H4 ⟨rfl,rfl⟩ D hD;rw[MD,Ni];have Dq:D≠qf:=fun z=>by rw[z,hf3]at hD;cases hD
   have s4:=ak hD (.lst ((jX es (mk (od.take (i+1))) row).map iV));refine⟨qf,zs,_,rfl,rfl,s4 _ _ hf3,ax (by omega),?_⟩
   refine⟨some (.int (pl:Int)),zs++[.ref D],?_,aW (s3.trans s4) hqf _,ae,?_⟩
   ·show[some (V.ref p),some (V.ref o),some (V.ref qf),some (V.int (Builtin.bitOr ((mk (od.take i):Nat):Int) (1*2^((pl:Nat):Int).toNat))),some (V.int (pl:Int))]=_;rw[eo]
   ·rw[E1,era]
    have r0:cQ (fun a=>a=qf) (upd (upd H4 D (.lst ((jX es (mk (od.take (i+1))) row).map iV))) qf (.lst (zs++[.ref D]))) zs (dE es ts od i):=⟨rx.1,fun j l e=>by
     obtain⟨a,a1,a2,a3⟩:=rx.2 j l e
     exact⟨a,a1,a2,by rw[aq a2];exact s4 _ _ a3⟩⟩
    exact r0.snoc Dq (by rw[aq Dq];exact ae)
  ·rintro j ys H4 ⟨_,rfl⟩;rw[MD];unfold jX;exact Nw (List.length_filter_le _ _) (by rw[Nf];exact Nat.min_le_left _ _)
 ·rintro σ H3 ⟨v4,zs,rfl,s3,hf3,rx⟩;rw[MD,ol]at rx;exact⟨_,rfl,kk qf zs H3 s3 hf3 rx.off⟩
theorem uF:aG ["place","signs"] ["place","signs"] (aj ck):=⟨rfl,rfl,rfl,by decide +kernel,rfl,by decide +kernel,by decide +kernel⟩
theorem Jl{f:Addr}{fd:FuncData} (F:Fun K "signs_with" "signs_with" ck f fd):FnOk P w K mg base CX0 1 f fd ["place","signs"] z8:=by
 refine F.ok uF (fun vs H Q E h=>?_) (fun cdv A outer s H vs Q E hr h=>?_)
 ·obtain⟨p,sg,rfl,_⟩:=h;rfl
 obtain⟨p,sg,rfl,hp,kk⟩:=h;refine⟨_,(ao (aN (dH (aa (pv 1) (aa (av AW (pv 1) (av fx ai (pv 0))) ah))))),?_⟩;refine⟨_,rfl,_,rfl,_,rfl,_,_,rfl,rfl,⟨by omega,by omega,by decide⟩,_,_,rfl,rfl,(by show 2<=sizeLine;decide),fun q hq=>?_⟩
 have eo:Builtin.bitOr (sg:Int) (1*2^((p:Nat):Int).toNat)=((sg|||2^p:Nat):Int):=by rw[shlN,orN]
 have:=kk q hq;rw[← eo]at this;exact this
end
end K8
namespace K8
open PySem L2
local macro_rules | `(tactic| walk_at "cc") => `(tactic| first | exact ⟨by decide, by decide⟩ | (show (0 : Int) < _; decide) | (show (0 : Int) < _; omega) | (show (0 : Int) ≤ _; omega) | exact ⟨by decide, by decide, by decide⟩ | exact ⟨by omega, by omega, by decide⟩ | exact Or.inl ⟨by decide, by decide⟩ | exact Or.inl ⟨by omega, by omega⟩)
local macro_rules | `(tactic| walk_at "rd") => `(tactic| repeat (first | refine ⟨_, rfl, ?_⟩ | refine ⟨_, _, rfl, rfl, ?_⟩ | refine ⟨rfl, ?_⟩ | (refine ⟨?cc, ?_⟩; (case cc => walk_at "cc"))))
abbrev Hs:=List (Int×Int)
def repD(D:Hs):List (Key×V):=D.map fun e=>((.inl e.1:Key),V.int e.2)
structure Hst(D:Hs)(g:Int->Int):Prop where
 nd:(D.map (·.1)).Nodup
 ex:∀ x n,(x,n)∈D->n=g x/\0<n
 al:∀ x,g x≠0->x∈D.map (·.1)
theorem Hst.cg{D:Hs}{g g':Int->Int}(h:Hst D g)(e:∀ x,g x=g' x):Hst D g':=by
 have:g=g':=funext e;rw[← this];exact h
theorem xE(D:Hs):(repD D).map (·.1)=(D.map (·.1)).map fun x=>(Sum.inl x:Key):=by
 unfold repD;rw[NZ,NZ];rfl
theorem AA{D:Hs}(h:(D.map (·.1)).Nodup):((repD D).map (·.1)).Nodup:=by
 rw[xE];exact O3.map _ (fun x y hne e=>hne (Sum.inl.inj e)) h
theorem uJ{D:Hs}{g:Int->Int}(h:Hst D g)(y:Int):(∃ i:Nat,D[i]?=some (y,g y)/\valV (repD D) (.inl y)=some (.int (g y))/\(repD D)[i]?=some ((.inl y:Key),.int (g y)))∨(y∉D.map (·.1)/\g y=0/\valV (repD D) (.inl y)=none):=by
 by_cases hy:y∈D.map (·.1)
 ·obtain⟨⟨x,n⟩,hm,e⟩:=MR.mp hy;have e':x=y:=e;subst e';obtain⟨i,hi⟩:=NN hm;have en:=(h.ex x n hm).1;subst en;have hr:(repD D)[i]?=some ((.inl x:Key),.int (g x)):=by unfold repD;rw[ME,hi];rfl
  exact .inl ⟨i,hi,t9 (AA h.nd) (My hr),hr⟩
 ·have g0:g y=0:=by
   by_cases z:g y=0
   ·exact z
   ·exact absurd (h.al y z) hy
  refine .inr ⟨hy,g0,?_⟩
  cases z:valV (repD D) (.inl y) with
  |none=>rfl
  |some v =>
   obtain⟨j,hj⟩:=CY z;exfalso;refine hy ?_;unfold repD at hj;rw[ME]at hj;obtain⟨e,he,e2⟩:=M0.mp hj;have:e.1=y:=Sum.inl.inj (Prod.mk.inj e2).1;exact MR.mpr ⟨e,My he,this⟩
theorem Hst.bump{D:Hs}{g:Int->Int}(h:Hst D g)(y:Int){n:Int}(hn:0<n):∃ D':Hs,putK (repD D) (.inl y) (.int (g y+n))=repD D'/\D'.length<=D.length+1/\Hst D' (fun x=>g x+if x=y then n else 0):=by
 rcases uJ h y with⟨i,hi,_,hr⟩ | ⟨ny,g0,hv⟩
 ·have hl:=(Mw.mp hi).1
  have ks:(D.set i (y,g y+n)).map (·.1)=D.map (·.1):=by
   apply Ou;intro j;rw[ME,ME,Nr];by_cases hj:i=j
   ·subst hj;rw[if_pos rfl,if_pos hl,hi];rfl
   ·rw[if_neg hj]
  refine⟨D.set i (y,g y+n),?_,by rw[Nt];omega,⟨by rw[ks];exact h.nd,fun x m hm=>?_,fun x hx=>?_⟩⟩
  ·rw[IY (AA h.nd) hr];unfold repD;rw[List.map_set]
  ·obtain⟨j,hj⟩:=NN hm;rw[Nr]at hj;by_cases e:i=j
   ·subst e;rw[if_pos rfl,if_pos hl]at hj
    cases hj
    have:=(h.ex y (g y) (My hi)).2;exact⟨by rw[if_pos rfl],by omega⟩
   ·rw[if_neg e]at hj;have q:=h.ex x m (My hj);have nx:x≠y:=fun z=>by
     subst z;have n1:(D.map (·.1))[i]?=some x:=by rw[ME,hi];rfl
     have n2:(D.map (·.1))[j]?=some x:=by rw[ME,hj];rfl
     exact e ((Px (Mw.mp n1).1 h.nd).mp (n1.trans n2.symm))
    exact⟨by rw[if_neg nx,NP];exact q.1,q.2⟩
  ·rw[ks];by_cases nx:x=y
   ·subst nx;exact MR.mpr ⟨_,My hi,rfl⟩
   ·rw[if_neg nx,NP]at hx;exact h.al x hx
 ·refine⟨D++[(y,n)],?_,by rw[MA];exact MC _,⟨?_,fun x m hm=>?_,fun x hx=>?_⟩⟩
  ·rw[ph _ hv,g0,NO];unfold repD;rw[M8];rfl
  ·rw[M8];refine MZ.mpr ⟨h.nd,by simp,fun a ha b hb e=>?_⟩
   have:b=y:=by simpa using hb
   rw[e,this]at ha;exact ny ha
  ·rcases MH.mp hm with hm | hm
   ·have q:=h.ex x m hm
    have nx:x≠y:=fun z=>ny (by rw[← z];exact MR.mpr ⟨_,hm,rfl⟩)
    exact⟨by rw[if_neg nx,NP];exact q.1,q.2⟩
   ·cases M4.mp hm;exact⟨by rw[if_pos rfl,g0,NO],hn⟩
  ·rw[M8];by_cases nx:x=y
   ·subst nx;exact MK _ (by simp)
   ·rw[if_neg nx,NP]at hx;exact Ng _ (h.al x hx)
def cntL(E:Hs)(x:Int):Int:=sumL E fun e=>if e.1=x then e.2 else 0
theorem Hst.cnt{E:Hs}{g:Int->Int}(h:Hst E g)(x:Int):cntL E x=g x:=by
 unfold cntL;by_cases hx:x∈E.map (·.1)
 ·obtain⟨e,he,ee⟩:=MR.mp hx;have q:=ju (fun y:Int×Int=>y.1) (l:=E) (x:=e) (fun y=>y.2) h.nd he;have ee':e.1=x:=ee;have cg:sumL E (fun e=>if e.1=x then e.2 else 0)=sumL E (fun y=>if e.1=y.1 then y.2 else 0):=az fun y _=>by
   rw[ee'];by_cases z:y.1=x
   ·rw[if_pos z,if_pos z.symm]
   ·rw[if_neg z,if_neg (Ne.symm z)]
  rw[cg,q,← ee'];exact(h.ex e.1 e.2 he).1
 ·rw[az (g:=fun _=>(0:Int)) fun e he=>if_neg fun z=>hx (MR.mpr ⟨e,he,z⟩),bO];by_cases z:g x=0
  ·exact z.symm
  ·exact absurd (h.al x z) hx
def IP:Sp:=fun vs H Q _=>∃(c m:Addr)(pr:Int)(D E:Hs)(g h:Int->Int),vs = [.ref c,.int pr,.ref m]/\c≠m/\H c=some (.dK (repD D))/\Hst D g/\DRd H m (.dK (repD E))/\Hst E h/\D.length+E.length<=900 /\
 ∀(D':Hs)(o:Obj)(H':Hp),(∀ b u,b≠c->b≠m->H b=some u->H' b=some u)->H' c=some (.dK (repD D'))->H' m=some (.frz o (.dK (repD E)))->D'.length<=D.length+E.length->Hst D' (fun x=>g x+h (x-pr))->Q .non H'
section
variable{P:Program}{w:World}{K:Mz}{mg:Str->Option Value}{base:Heap}
theorem gE:aG ["counts","price","more","worth","many"] ["counts","price","more"] (aj cy):=⟨rfl,rfl,rfl,by decide +kernel,rfl,by decide +kernel,by decide +kernel⟩
theorem ok_add{f:Addr}{fd:FuncData} (F:Fun K "add_counts" "add_counts" cy f fd):FnOk P w K mg base CX0 1 f fd ["counts","price","more"] IP:=by
 refine F.ok gE (fun vs H Q E h=>?_) (fun cdv A outer s H vs Q E hr h=>?_)
 ·obtain⟨c,m,pr,D,E,g,h,rfl,_⟩:=h;rfl
 obtain⟨c,m,pr,D,Em,g,hh,rfl,cm,hc,hD,hm,hE,l9,kk⟩:=h;have hu:=BR hr;refine⟨_,(ao (bP PassesOwn.never rfl (FZ (F4 (pv 2))) (nK rfl (bq (aK (i:=3) gE.nd rfl (Or.inl rfl)) (bq (aK (i:=4) gE.nd rfl (Or.inl rfl)) iC))) (ao (pV hu (pv 0) (av bJ (pv 3) (pv 1)) (av bJ (uZ hu (pv 0) (av bJ (pv 3) (pv 1)) ai ⟨rfl,rfl,rfl,rfl⟩) (pv 4)) rfl)))),?_⟩;refine⟨_,rfl,m,_,rfl,hm,fun vw hvw=>?_⟩;have vm:vw≠m:=fun z=>by
  rcases hm.2 with q | ⟨o,q⟩<;>(rw[← z,hvw]at q;cases q)
 have vc:vw≠c:=fun z=>by rw[z,hc]at hvw;cases hvw
 have hm1:DRd (upd H vw (dM vw m)) m (.dK (repD Em)):=⟨hm.1,by rw[aq (Ne.symm vm)];exact hm.2⟩
 refine⟨vw,m,_,rfl,ae,hm1,fun o _=>?_⟩;refine yJ (u:=.dK (repD Em)) (d:=m) (o:=o) (fun i σ H4=>∃ v3 v4 D',σ = [some (.ref c),some (.int pr),some (.ref m),v3,v4]/\(∀ b u,b≠c->b≠m->H b=some u->H4 b=some u)/\H4 m=some (.frz o (.dK (repD Em)))/\H4 c=some (.dK (repD D'))/\D'.length<=D.length+i/\Hst D' (fun x=>g x+cntL (Em.take i) (x-pr))) ⟨_,_,D,rfl,fun b u _ n q=>by rw[aq n,aq (aw q hvw)];exact q,ae,by rw[aq cm,aq (Ne.symm vc)];exact hc,by omega,hD.cg fun x=>by show g x=g x+0;rw[NP]⟩ (fun i σ H4 _ ⟨_,_,_,_,_,z,_⟩=>z) ?_ ?_
 ·rintro i x y σ H4 T4 hi hkv ⟨v3,v4,D',rfl,s4,hm4,hc4,dl,hst⟩ hT4;obtain⟨kvs',k,eu,hki,ex⟩:∃ kvs' k,HO.dK (repD Em)=HO.dK kvs'/\kvs'[i]?=some (k,y)/\x=kV k:=by
   rcases hkv with z | ⟨_,_,_,z,_⟩
   ·exact z
   ·cases z
  obtain rfl:=HO.dK.inj eu;unfold repD at hki;rw[ME]at hki;obtain⟨e,he,e2⟩:=M0.mp hki
  cases e2
  subst ex;have ci:T4≠c:=fun z=>by rw[z,hc4]at hT4;cases hT4
  have mi:T4≠m:=fun z=>by rw[z,hm4]at hT4;cases hT4
  refine⟨T4,_,rfl,SqT.of ae,rfl,_,_,rfl,_,_,rfl,rfl,?_⟩;have s5:=ak hT4 (.tup [kV (.inl e.1),.int e.2]);generalize upd H4 T4 (.tup [kV (.inl e.1),.int e.2])=H5 at s5;have hc5:=s5 _ _ hc4;have il:i<Em.length:=(Mw.mp he).1;have epos:=(hE.ex e.1 e.2 (My he)).2;obtain⟨D2,ep,dl2,hst2⟩:=hst.bump (e.1+pr) epos;have hv:(valV (repD D') (.inl (e.1+pr))).getD (.int 0)=.int (g (e.1+pr)+cntL (Em.take i) (e.1+pr-pr)):=by
   rcases uJ hst (e.1+pr) with⟨_,_,q,_⟩ | ⟨_,q0,q⟩
   ·rw[q];rfl
   ·rw[q];exact congrArg V.int q0.symm
  have l2:(repD D').length<sizeLine:=by unfold repD;rw[MD];exact ax (by omega)
  refine⟨_,rfl,c,rfl,.inl ⟨_,.inl hc5⟩,_,rfl,_,rfl,_,_,rfl,rfl,_,DGet.k (k:=.inl (e.1+pr)) hc5,_,rfl,_,_,hv,rfl,?_⟩;refine⟨_,rfl,_,rfl,_,rfl,_,_,rfl,rfl,c,_,rfl,DPut.k (k:=.inl (e.1+pr)) hc5 l2,?_⟩;refine⟨_,_,D2,rfl,fun b u n1 n2 q=>by rw[aq n1];exact s5 _ _ (s4 b u n1 n2 q),by rw[aq (Ne.symm cm)];exact s5 _ _ hm4,?_,by omega,hst2.cg fun x=>?_⟩
  ·rw[ae];exact congrArg (fun z=>some (HO.dK z)) ep
  ·have et:Em.take (i+1)=Em.take i++[e]:=by rw[M1,he];rfl
   rw[et];unfold cntL;rw[fk,aA,cG,NP];by_cases z:x=e.1+pr
   ·rw[if_pos z,if_pos (by omega)];omega
   ·rw[if_neg z,if_neg (by omega)];omega
 ·rintro σ H4 ⟨v3,v4,D',rfl,s4,hm4,hc4,dl,hst⟩;have ll:(repD Em).length=Em.length:=by unfold repD;rw[MD]
  have dl':dlen (.dK (repD Em))=Em.length:=ll;rw[dl']at dl hst;rw[Ni]at hst;exact kk D' o H4 s4 hc4 hm4 dl (hst.cg fun x=>by rw[hE.cnt])
end
end K8
namespace K8
open PySem L2
local macro_rules | `(tactic| walk_at "cc") => `(tactic| first | exact ⟨by decide, by decide⟩ | (show (0 : Int) < _; decide) | (show (0 : Int) < _; omega) | (show (0 : Int) ≤ _; omega) | exact ⟨by decide, by decide, by decide⟩ | exact ⟨by omega, by omega, by decide⟩ | exact Or.inl ⟨by decide, by decide⟩ | exact Or.inl ⟨by omega, by omega⟩)
local macro_rules | `(tactic| walk_at "rd") => `(tactic| repeat (first | refine ⟨_, rfl, ?_⟩ | refine ⟨_, _, rfl, rfl, ?_⟩ | refine ⟨rfl, ?_⟩ | (refine ⟨?cc, ?_⟩; (case cc => walk_at "cc"))))
structure FndD(S:Addr->Prop)(H:Hp)(f:Addr)(kvs:List (Key×V))(G:List (Nat×Hs)):Prop where
 d:H f=some (.dK kvs)
 w:DcAt (fun v D=>∃ a,v=.ref a/\¬ S a/\H a=some (.dK (repD D))) kvs G
 ds:∀(i j:Nat)(k l:Key)(a:Addr),kvs[i]?=some (k,.ref a)->kvs[j]?=some (l,.ref a)->i=j
section
variable{S:Addr->Prop}{H H':Hp}{f:Addr}{kvs:List (Key×V)}{G:List (Nat×Hs)}
theorem FndD.keep(h:FndD S H f kvs G)(k:∀ b u,(b=f∨¬ S b)->H b=some u->H' b=some u):FndD S H' f kvs G :=
 ⟨k _ _ (.inl rfl) h.d,h.w.imp fun v w ⟨a,e,n,z⟩=>⟨a,e,n,k _ _ (.inr n) z⟩,h.ds⟩
theorem FndD.app{s i:Nat}{D D':Hs}{a:Addr}(h:FndD S H f kvs G)(hG:G[i]?=some (s,D))(hk:kvs[i]?=some ((.inl (s:Int):Key),.ref a))(hS:¬ S a)(fa:f≠a)(keep:∀ b u,b≠a->(b=f∨¬ S b)->H b=some u->H' b=some u)(ha:H' a=some (.dK (repD D'))) :
  FndD S H' f kvs (G.set i (s,D')):=by
 refine⟨keep _ _ fa (.inl rfl) h.d,⟨by rw[Nt];exact h.w.1,fun j s' w' e'=>?_⟩,h.ds⟩
 rw[Nr]at e';by_cases hj:i=j
 ·subst hj;rw[if_pos rfl,if_pos (Mw.mp hG).1]at e'
  cases e'
  exact⟨.ref a,hk,a,rfl,hS,ha⟩
 ·rw[if_neg hj]at e';obtain⟨v,e1,b,rfl,n,z⟩:=h.w.2 j s' w' e';exact⟨.ref b,e1,b,rfl,n,keep _ _ (fun q=>hj (h.ds i j _ _ a hk (q▸e1))) (.inr n) z⟩
theorem FndD.key{s:Nat}{l:Addr}(h:FndD S H f kvs G)(hv:valV kvs (.inl (s:Int))=none)(lf:l≠f)(hl:H l=some (.dK []))(hS:¬ S l)(nw:∀ (i:Nat) (k:Key),kvs[i]?≠some (k,.ref l))(nf:∀ (i:Nat) (k:Key),kvs[i]?≠some (k,.ref f)) :
  FndD S (upd H f (.dK (putK kvs (.inl (s:Int)) (.ref l)))) f (putK kvs (.inl (s:Int)) (.ref l)) (G++[(s,[])]):=by
 have w2:DcAt (fun v D=>∃ a,v=.ref a/\¬ S a/\upd H f (.dK (putK kvs (.inl (s:Int)) (.ref l))) a=some (.dK (repD D))) kvs G:=⟨h.w.1,fun i s' D e=>by
  obtain⟨v,e1,a,rfl,n,z⟩:=h.w.2 i s' D e;refine⟨.ref a,e1,a,rfl,n,?_⟩;rw[aq (fun q=>nf i _ (q▸e1))]
  exact z⟩
 refine⟨ae,w2.putN hv ⟨l,rfl,hS,by rw[aq lf];exact hl⟩,?_⟩
 rw[ph _ hv];intro i j k k' a e1 e2;have one:∀(i:Nat)(k:Key)(a:Addr),(kvs++[((.inl (s:Int):Key),V.ref l)])[i]?=some (k,.ref a)->(i<kvs.length/\kvs[i]?=some (k,.ref a))∨(i=kvs.length/\a=l):=fun i k a e=>by
  by_cases hi:i<kvs.length
  ·rw[MF hi]at e;exact .inl ⟨hi,e⟩
  ·rw[MB (by omega)]at e
   have hi2:i=kvs.length:=by
    have:=(Mw.mp e).1;rw[MJ]at this;omega
   subst hi2;rw[M7]at e;have:=(Prod.mk.inj (MN e)).2;exact .inr ⟨rfl,(V.ref.inj this).symm⟩
 rcases one i k a e1 with⟨a1,a2⟩ | ⟨a1,a2⟩
 ·rcases one j k' a e2 with⟨b1,b2⟩ | ⟨b1,b2⟩
  ·exact h.ds i j _ _ a a2 b2
  ·exact absurd (b2▸a2) (nw i k)
 ·rcases one j k' a e2 with⟨b1,b2⟩ | ⟨b1,b2⟩
  ·exact absurd (a2▸b2) (nw j k')
  ·omega
end
def gH(F':Nat)(Z:List (Nat×Int×Hs))(s:Nat)(x:Int):Int:=sumL Z fun z=>if z.1&&&F'=s then cntL z.2.2 (x-z.2.1) else 0
def lenZ(Z:List (Nat×Int×Hs)):Nat:=(Z.map fun z=>z.2.2.length).sum
structure GrpH(F':Nat)(Z:List (Nat×Int×Hs))(G:List (Nat×Hs)):Prop where
 nd:(G.map (·.1)).Nodup
 has:∀ z∈Z,z.1&&&F'∈G.map (·.1)
 hs:∀ s D,(s,D)∈G->Hst D (gH F' Z s)/\D.length<=lenZ Z
 ln:G.length<=Z.length
theorem GrpH.nil(F':Nat):GrpH F' [] []:=⟨OO,fun z hz=>(by cases hz),fun s w h=>(by cases h),MC _⟩
theorem vY(F':Nat)(Z:List (Nat×Int×Hs))(z:Nat×Int×Hs)(s:Nat)(x:Int):gH F' (Z++[z]) s x=gH F' Z s x+if z.1&&&F'=s then cntL z.2.2 (x-z.2.1) else 0:=by
 unfold gH;rw[fk,aA,cG,NP]
theorem lB(Z:List (Nat×Int×Hs))(z:Nat×Int×Hs):lenZ (Z++[z])=lenZ Z+z.2.2.length:=by
 unfold lenZ;rw[M8,PR];simp
theorem GrpH.old{F':Nat}{Z:List (Nat×Int×Hs)}{G:List (Nat×Hs)}{z:Nat×Int×Hs}{i:Nat}{D D':Hs}(h:GrpH F' Z G)(e:G[i]?=some (z.1&&&F',D))(hD:Hst D' (fun x=>gH F' Z (z.1&&&F') x+cntL z.2.2 (x-z.2.1)))(hl:D'.length<=D.length+z.2.2.length):GrpH F' (Z++[z]) (G.set i (z.1&&&F',D')):=by
 have ks:=IU (a':=D') e;refine⟨by rw[ks];exact h.nd,fun y hy=>?_,fun s E hE=>?_,by rw[Nt,MA];exact OI h.ln⟩
 ·rw[ks];rcases MH.mp hy with hy | hy
  ·exact h.has y hy
  ·rw[M4.mp hy];exact MR.mpr ⟨_,My e,rfl⟩
 ·obtain⟨j,hj⟩:=NN hE;rw[Nr]at hj;by_cases ij:i=j
  ·subst ij;rw[if_pos rfl,if_pos (Mw.mp e).1]at hj
   cases hj
   have q:=(h.hs _ D (My e)).2;refine⟨hD.cg fun x=>by rw[vY,if_pos rfl],?_⟩
   rw[lB];omega
  ·rw[if_neg ij]at hj;have q:=h.hs s E (My hj);have ns:z.1&&&F'≠s:=fun zz=>by
    have n1:(G.map (·.1))[i]?=some s:=by rw[ME,e,← zz];rfl
    have n2:(G.map (·.1))[j]?=some s:=by rw[ME,hj];rfl
    exact ij ((Px (Mw.mp n1).1 h.nd).mp (n1.trans n2.symm))
   refine⟨q.1.cg fun x=>by rw[vY,if_neg ns,NP],?_⟩
   rw[lB];omega
theorem GrpH.zero{F':Nat}{Z:List (Nat×Int×Hs)}{G:List (Nat×Hs)}{s:Nat}(h:GrpH F' Z G)(n:s∉G.map (·.1))(x:Int):gH F' Z s x=0:=by
 unfold gH;have cg:sumL Z (fun z=>if z.1&&&F'=s then cntL z.2.2 (x-z.2.1) else 0)=sumL Z (fun _=>(0:Int)):=az fun z hz=>if_neg fun e=>n (by rw[← e];exact h.has z hz)
 rw[cg,bO]
theorem GrpH.new{F':Nat}{Z:List (Nat×Int×Hs)}{G:List (Nat×Hs)}{z:Nat×Int×Hs}{D':Hs}(h:GrpH F' Z G)(n:z.1&&&F'∉G.map (·.1))(hD:Hst D' (fun x=>cntL z.2.2 (x-z.2.1)))(hl:D'.length<=z.2.2.length):GrpH F' (Z++[z]) (G++[(z.1&&&F',D')]):=by
 refine⟨?_,fun y hy=>?_,fun s' E hE=>?_,by rw[MA,MA];exact Nat.succ_le_succ h.ln⟩
 ·rw[M8];refine MZ.mpr ⟨h.nd,by simp,fun a ha b hb e=>?_⟩
  have:b=z.1&&&F':=by simpa using hb
  rw[e,this]at ha;exact n ha
 ·rw[M8];rcases MH.mp hy with hy | hy
  ·exact Ng _ (h.has y hy)
  ·rw[M4.mp hy];exact MK _ (by simp)
 ·rcases MH.mp hE with hE | hE
  ·have q:=h.hs s' E hE
   have ns:z.1&&&F'≠s':=fun e=>n (by rw[e];exact MR.mpr ⟨_,hE,rfl⟩)
   refine⟨q.1.cg fun x=>by rw[vY,if_neg ns,NP],?_⟩
   rw[lB];omega
  ·cases M4.mp hE;refine⟨hD.cg fun x=>by rw[vY,if_pos rfl,h.zero n,NO],?_⟩
   rw[lB];omega
theorem Hg:Hst [] (fun _=>0):=⟨OO,fun x m hm=>(by cases hm),fun x hx=>absurd rfl hx⟩
end K8
namespace K8
open PySem L2
local macro_rules | `(tactic| walk_at "cc") => `(tactic| first | exact ⟨by decide, by decide⟩ | (show (0 : Int) < _; decide) | (show (0 : Int) < _; omega) | (show (0 : Int) ≤ _; omega) | exact ⟨by decide, by decide, by decide⟩ | exact ⟨by omega, by omega, by decide⟩ | exact Or.inl ⟨by decide, by decide⟩ | exact Or.inl ⟨by omega, by omega⟩)
local macro_rules | `(tactic| walk_at "rd") => `(tactic| repeat (first | refine ⟨_, rfl, ?_⟩ | refine ⟨_, _, rfl, rfl, ?_⟩ | refine ⟨rfl, ?_⟩ | (refine ⟨?cc, ?_⟩; (case cc => walk_at "cc"))))
def bG(p:Nat)(prc:Nat->Int)(T:List (Nat×Hs)):List (Nat×Int×Hs):=T.flatMap fun e=>[(hsg e.1 p false,prc (hsg e.1 p false),e.2),(hsg e.1 p true,prc (hsg e.1 p true),e.2)]
theorem EZ(p:Nat)(prc:Nat->Int)(T:List (Nat×Hs))(e:Nat×Hs):bG p prc (T++[e])=bG p prc T++[(hsg e.1 p false,prc (hsg e.1 p false),e.2),(hsg e.1 p true,prc (hsg e.1 p true),e.2)]:=by
 unfold bG;rw[List.flatMap_append,Py,List.flatMap_nil,O2]
def lenT(T:List (Nat×Hs)):Nat:=(T.map fun e=>e.2.length).sum
theorem vE(Z W:List (Nat×Int×Hs)):lenZ (Z++W)=lenZ Z+lenZ W:=by unfold lenZ;rw[M8,PR]
theorem Ds(Z W:List (Nat×Hs)):lenT (Z++W)=lenT Z+lenT W:=by unfold lenT;rw[M8,PR]
theorem mE(p:Nat)(prc:Nat->Int):∀ T:List (Nat×Hs),lenZ (bG p prc T)=2*lenT T
 |[]=>rfl
 |e::T=>by
  have ih:=mE p prc T;have e1:bG p prc (e::T) = [(hsg e.1 p false,prc (hsg e.1 p false),e.2),(hsg e.1 p true,prc (hsg e.1 p true),e.2)]++bG p prc T:=by unfold bG;rw[Py]
  have e2:lenT (e::T)=e.2.length+lenT T:=by unfold lenT;rw[Nh,QE]
  rw[e1,vE,ih,e2];show e.2.length+(e.2.length+0)+_=_;omega
theorem ng(p:Nat)(prc:Nat->Int):∀ T:List (Nat×Hs),(bG p prc T).length=2*T.length
 |[]=>rfl
 |e::T=>by
  have ih:=ng p prc T;unfold bG at ih ⊢;rw[Py,MA,ih,Nb,Nb,Nb,OF];omega
theorem qv(T:List (Nat×Hs))(i:Nat):lenT (T.take i)<=lenT T:=by
 have:=Ds (T.take i) (T.drop i);rw[M9]at this;omega
theorem Jz{T:List (Nat×Hs)}{e:Nat×Hs}(h:e∈T):e.2.length<=lenT T:=by
 obtain⟨i,hi⟩:=NN h;have a:=qv T (i+1);have et:T.take (i+1)=T.take i++[e]:=by rw[M1,hi];rfl
 rw[et,Ds]at a;have:lenT [e]=e.2.length:=by unfold lenT;simp
 omega
def isIn(kvs:List (Key×V))(b:Addr):Prop:=∃(i:Nat)(k:Key),kvs[i]?=some (k,.ref b)
theorem JM{H H':Hp}{a:Addr}{u:HO}(h:DRd H a u)(s:Same H H'):DRd H' a u:=⟨h.1,h.2.elim (fun z=>.inl (s _ _ z)) fun⟨o,z⟩=>.inr ⟨o,s _ _ z⟩⟩
def InAt(H:Hp)(v:V)(D:Hs):Prop:=∃ a,v=.ref a/\DRd H a (.dK (repD D))
theorem InAt.mono{H H':Hp}{v:V}{D:Hs}(h:InAt H v D)(s:Same H H'):InAt H' v D:=let ⟨a,e,z⟩:=h;⟨a,e,JM z s⟩
theorem InAt.add{H H':Hp}{c m:Addr}{o:Obj}{E:Hs}{v:V}{D:Hs}(h:InAt H v D)(hm:DRd H m (.dK (repD E)))(nc:∀ a,v=.ref a->a≠c)(k:∀ b u,b≠c->b≠m->H b=some u->H' b=some u)(hm':H' m=some (.frz o (.dK (repD E)))):InAt H' v D:=by
 obtain⟨a,e,z⟩:=h;refine⟨a,e,z.1,?_⟩;by_cases am:a=m
 ·subst am;have eq:repD D=repD E:=by
   rcases z.2 with q | ⟨o1,q⟩
   ·rcases hm.2 with r | ⟨o2,r⟩
    ·exact HO.dK.inj (MN (q.symm.trans r))
    ·exact HO.noConfusion (MN (q.symm.trans r))
   ·rcases hm.2 with r | ⟨o2,r⟩
    ·exact HO.noConfusion (MN (q.symm.trans r))
    ·exact HO.dK.inj (HO.frz.inj (MN (q.symm.trans r))).2
  rw[eq];exact .inr ⟨o,hm'⟩
 ·rcases z.2 with q | ⟨o1,q⟩
  ·exact .inl (k a _ (nc a e) am q)
  ·exact .inr ⟨o1,k a _ (nc a e) am q⟩
def spCB(PL PS:Addr):Sp:=fun vs H Q _=>∃(d qt:Addr)(p F:Nat)(kvs:List (Key×V))(T:List (Nat×Hs))(xs:List V)(es:En)(ks:Kn)(bk:List Nat),vs = [.ref d,.int (p:Int),.ref qt,.int (F:Int)]/\H d=some (.dK kvs)/\DcAt (fun v D=>∃ a,v=.ref a/\a≠d/\H a=some (.dK (repD D))) kvs T/\(∀ s D,(s,D)∈T->∃ g,Hst D g)/\lenT T<=256/\T.length<=256/\p<60/\H qt=some (.lst xs)/\tJ PL PS H es ks xs bk/\bk.length<=100 /\
 ∀(g:Addr)(kv2:List (Key×V))(G:List (Nat×Hs))(H':Hp),(∀ b o,b≠d->¬ isIn kvs b->H b=some o->H' b=some o)->H g=none->FndD (fun a=>H a≠none∨a=g) H' g kv2 G->GrpH F (bG p (prcB es ks bk) T) G->Q (.ref g) H'
section
variable{P:Program}{w:World}{K:Mz}{mg:Str->Option Value}{base:Heap}
theorem bj:aG ["counts","place","ties","front","found","signs","sums","here","price"] ["counts","place","ties","front"] (aj bz):=⟨rfl,rfl,rfl,by decide +kernel,rfl,by decide +kernel,by decide +kernel⟩
theorem ok_cb{f f1 f2 f0' f1' PL PS:Addr}{fd d1 d2 d0' d1':FuncData} (F:Fun K "counts_behind" "counts_behind" bz f fd) (T:Txt mg) (TL:CT K PL) (TS:CT K PS) (r0:Met P w K mg base 3 PL "price" ["self","laying"] (pP PL false) f0' d0') (r1:Met P w K mg base 3 PS "price" ["self","laying"] (pP PS true) f1' d1')
  (G_signs_with:Cal P w K mg base 1 "signs_with" ["place","signs"] z8 f1 d1) (G_add_counts:Cal P w K mg base 1 "add_counts" ["counts","price","more"] IP f2 d2):FnOk P w K mg base CX0 4 f fd ["counts","place","ties","front"] (spCB PL PS):=by
 refine F.ok bj (fun vs H Q E h=>?_) (fun cdv A outer s H vs Q E hr h=>?_)
 ·obtain⟨d,qt,p,Fr,kvs,T,xs,es,ks,bk,rfl,_⟩:=h;rfl
 obtain⟨d,qt,p,Fr,kvs,Tt,xs,es,ks,bk,rfl,hd,dc,hh,l256,t256,hp,hqt,tr,b100,kk⟩:=h;have hu:=BR hr;have CL0:=TL.cl;have CL1:=TS.cl;have kvl:kvs.length=Tt.length:=dc.1
 refine⟨_,(ag (au (i:=4) bj.nd rfl (Or.inl rfl) lx)
   (ag (bP PassesOwn.never rfl (Jd (F5 Od Ow PF Dj (pv 0))) (nK rfl (bq (aK (i:=5) bj.nd rfl (Or.inl rfl)) (bq (aK (i:=6) bj.nd rfl (Or.inl rfl)) iC))) (ao (bP PassesOwn.never rfl (aX (ar G_signs_with.ok (hr.mono (by decide)) rfl G_signs_with.mg G_signs_with.kp G_signs_with.bn .nil aR (aa (pv 1) (aa (pv 5) ah)))) (aK (i:=7) bj.nd rfl (Or.inr rfl)) (ag (au (i:=8) bj.nd rfl (Or.inl rfl) (aF (jU rfl) (by rfl) T.n_sum tI (aa (c8 rfl (fr:=[("here",7)]) (by exact bH.one (by rfl) (by decide +kernel) (by rfl) (by decide +kernel) (by rfl) (by decide +kernel) (by rfl) (by rfl) (by decide +kernel) (by rfl)) (aX (pv 2)) (fun C ex s H=>(pe_or (AS (pv 0) CL0 r0.me r0.ok (hr.mono (by decide)) r0.bn .nil aR (aa (pv 1) ah)) (AS (pv 0) CL1 r1.me r1.ok (hr.mono (by decide)) r1.bn .nil aR (aa (pv 1) ah))))) ah)))
   (ao (bt (ar G_add_counts.ok (hr.mono (by decide)) rfl G_add_counts.mg G_add_counts.kp G_add_counts.bn .nil aR (aa (Ln (pv 4) (av sZ (pv 7) (pv 3)) lx ⟨rfl,rfl,rfl,rfl⟩) (aa (pv 8) (aa (pv 6) ah))))))))))
   (ao (aN (pv 4))))),?_⟩
 intro f hf;have sf:=ak hf (.dK []);refine⟨_,rfl,.inr (.inr (.inl ⟨rfl,.inl ⟨_,sf _ _ hd⟩⟩)),d,.dK kvs,rfl,rfl,sf _ _ hd,trivial,fun vw hvw=>?_⟩;have sv:=ak hvw (dM vw d);refine⟨vw,d,.dK kvs,rfl,ae,sv _ _ (sf _ _ hd),trivial,fun o=>?_⟩;have fd':f≠d:=fun z=>by rw[z,hd]at hf;cases hf
 have vwd:vw≠d:=fun z=>by rw[z,sf _ _ hd]at hvw;cases hvw
 have vwf:vw≠f:=fun z=>by rw[z,ae]at hvw;cases hvw
 have hvw0:H vw=none:=yg sf hvw;obtain⟨B,hB⟩:∃ B:Hp,B=upd (upd H vw (dM vw d)) d (.frz o (.dK kvs)):=⟨_,rfl⟩;have Bd:B d=some (.frz o (.dK kvs)):=by rw[hB];exact ae
 have Bf:B f=none:=by rw[hB,aq fd',aq (Ne.symm vwf)];exact hf
 have HB:∀ b u,b≠d->H b=some u->B b=some u:=fun b u n z=>by rw[hB,aq n,aq (aw z hvw0)];exact z
 have sB:Same B (upd (upd (upd H f (.dK [])) vw (dM vw d)) d (.frz o (.dK kvs))):=fun b u z=>by
  rw[hB]at z;by_cases n:b=d
  ·subst n;rw[ae]at z ⊢;exact z
  ·rw[aq n]at z ⊢;by_cases n2:b=vw
   ·subst n2;rw[ae]at z ⊢;exact z
   ·rw[aq n2]at z ⊢;rw[aq (aw z hf)];exact z
 have hf3:(upd (upd (upd H f (.dK [])) vw (dM vw d)) d (.frz o (.dK kvs))) f=some (.dK []):=by rw[aq fd',aq (Ne.symm vwf)];exact ae
 generalize upd (upd (upd H f (.dK [])) vw (dM vw d)) d (.frz o (.dK kvs))=H3 at sB hf3
 have trB:tJ PL PS B es ks xs bk:=⟨tr.1,fun j t z=>by
  obtain⟨e,k,p',dx,a,b,c,q⟩:=tr.2 j t z
  exact⟨e,k,p',dx,a,b,c,HB _ _ (fun y=>by rw[y,hd]at q;cases q) q⟩⟩
 have qtB:B qt=some (.lst xs):=HB _ _ (fun y=>by rw[y,hd]at hqt;cases hqt) hqt
 have dcB:DcAt (fun v D=>∃ a,v=.ref a/\B a=some (.dK (repD D))) kvs Tt:=dc.imp fun v e ⟨t,e1,n,e2⟩=>⟨t,e1,HB _ _ n e2⟩;have inB:∀ b,isIn kvs b->∃ D,B b=some (.dK (repD D)):=fun b ⟨i,k,e⟩=>by
  obtain⟨_,D,_,_,a,e1,e2⟩:=dcB.atK e
  cases e1
  exact⟨D,e2⟩
 have nIn:∀{b u},B b=some u->(∀ D,u≠.dK (repD D))->¬ isIn kvs b:=fun{b u} e n z=>by
  obtain⟨D,q⟩:=inB b z;rw[e]at q;exact n D (MN q)
 have inBd:¬ isIn kvs d:=nIn Bd fun D z=>by cases z
 have inQt:¬ isIn kvs qt:=nIn qtB fun D z=>by cases z
 have inN:∀{b},B b=none->¬ isIn kvs b:=fun{b} e z=>by
  obtain⟨D,q⟩:=inB b z;rw[e]at q
  cases q
 have HB0:∀ b,B b=none->H b=none:=fun b z=>by
  cases y:H b with
  |none=>rfl
  |some u =>
   by_cases n:b=d
   ·rw[n,Bd]at z;cases z
   ·rw[HB b u n y]at z;cases z
 clear hB;have xsl:xs.length<=100:=by rw[tr.1];exact b100
 refine yJ (u:=.dK kvs) (d:=d) (o:=o) (fun i σ H4=>∃ v5 v6 v7 v8 v9 kv G,σ = [some (.ref d),some (.int (p:Int)),some (.ref qt),some (.int (Fr:Int)),some (.ref f),v5,v6,v7,v8]/\(∀ b u,¬ isIn kvs b->B b=some u->H4 b=some u)/\DcAt (InAt H4) kvs Tt/\FndD (fun a=>B a≠none∨a=f) H4 f kv G/\GrpH Fr (bG p (prcB es ks bk) (Tt.take i)) G/\v9=()) ⟨_,_,_,_,(),[],[],rfl,fun b u _ z=>sB _ _ z,dcB.imp fun v D ⟨a,e,z⟩=>⟨a,e,trivial,.inl (sB _ _ z)⟩,⟨hf3,DcAt.nil,fun i j k l a e=>by simp at e⟩,GrpH.nil Fr,rfl⟩ (fun i σ H4 _ z=>?_) ?_ ?_
 ·obtain⟨_,_,_,_,_,_,_,_,z,_⟩:=z;exact z _ _ inBd Bd
 ·rintro i x y σ H4 T4 hi hkv ⟨v5,v6,v7,v8,_,kv,G,rfl,sx,dcx,fn,gr,_⟩ hT4;obtain⟨kvs',k,eu,hki,ex⟩:∃ kvs' k,HO.dK kvs=HO.dK kvs'/\kvs'[i]?=some (k,y)/\x=kV k:=by
   rcases hkv with z | ⟨_,_,_,z,_⟩
   ·exact z
   ·cases z
  obtain rfl:=HO.dK.inj eu;obtain⟨sg,Dm,rfl,hTi,a,rfl,hdr⟩:=dcx.atK hki;subst ex;obtain⟨gm,hgm⟩:=hh sg Dm (My hTi);have ain:isIn kvs a:=⟨i,_,hki⟩;have Ba:B a≠none:=fun z=>inN z ain;have lDm:Dm.length<=256:=Nw (Jz (My hTi)) l256;have eti:Tt.take (i+1)=Tt.take i++[(sg,Dm)]:=by rw[M1,hTi];rfl
  have s5:=ak hT4 (.tup [kV (.inl (sg:Int)),.ref a]);refine⟨T4,_,rfl,SqT.of ae,rfl,_,_,rfl,_,_,rfl,rfl,?_⟩;have fn5:=fn.keep (H':=upd H4 T4 (.tup [kV (.inl (sg:Int)),.ref a])) fun b u _ z=>s5 _ _ z;have dc5:DcAt (InAt (upd H4 T4 (.tup [kV (.inl (sg:Int)),.ref a]))) kvs Tt:=dcx.imp fun v D z=>z.mono s5;have sx5:∀ b u,¬ isIn kvs b->B b=some u->upd H4 T4 (.tup [kV (.inl (sg:Int)),.ref a]) b=some u:=fun b u n z=>s5 _ _ (sx b u n z);generalize upd H4 T4 (.tup [kV (.inl (sg:Int)),.ref a])=H5 at s5 fn5 dc5 sx5;refine⟨_,rfl,_,rfl,p,sg,rfl,hp,fun q hq=>?_⟩;have s6:=ak hq (.lst [.int (sg:Int),.int ((sg|||2^p:Nat):Int)])
  have noT:∀{b:Addr}{Hx:Hp},(∀ b u,¬ isIn kvs b->B b=some u->Hx b=some u)->DcAt (InAt Hx) kvs Tt->Hx b=none->B b=none:=fun{b Hx} k1 k2 z=>by
   cases y:B b with
   |none=>rfl
   |some u =>
    by_cases n:isIn kvs b
    ·obtain⟨j,kj,ej⟩:=n;obtain⟨_,D,_,_,b',eb,z1⟩:=k2.atK ej
     cases eb
     rcases z1.2 with q | ⟨_,q⟩<;>(rw[z]at q;cases q)
    ·rw[k1 b u n y]at z;cases z
  have Bq:B q=none:=noT sx5 dc5 hq;obtain⟨two,htwo⟩:∃ two:List (Nat×Int×Hs),two = [(hsg sg p false,prcB es ks bk (hsg sg p false),Dm),(hsg sg p true,prcB es ks bk (hsg sg p true),Dm)]:=⟨_,rfl⟩;have ebr:bG p (prcB es ks bk) (Tt.take (i+1))=bG p (prcB es ks bk) (Tt.take i)++two:=by rw[eti,EZ,htwo]
  have zlen:lenZ (bG p (prcB es ks bk) (Tt.take i))<=512:=by rw[mE];have:=qv Tt i;omega
  have fq:f≠q:=fun z=>by have:=fn5.d;rw[z,hq]at this;cases this
  have fn6:FndD (fun b=>(B b≠none∨b=f)∨b=q) (upd H5 q (.lst [.int (sg:Int),.int ((sg|||2^p:Nat):Int)])) f kv G :=
   ⟨s6 _ _ fn5.d,fn5.w.imp fun v D ⟨b,e,n,z⟩=>⟨b,e,fun(y:(B b≠none∨b=f)∨b=q)=>y.elim n fun y=>(by rw[y,hq]at z;cases z),s6 _ _ z⟩,fn5.ds⟩
  refine⟨q,rfl,⟨_,SqL.of ae⟩,b6 (K:=K) (xs:=[.int (sg:Int),.int ((sg|||2^p:Nat):Int)]) (fun j σ H6=>∃ v7 v8 kv G,σ = [some (.ref d),some (.int (p:Int)),some (.ref qt),some (.int (Fr:Int)),some (.ref f),some (.int (sg:Int)),some (.ref a),v7,v8]/\(∀ b u,¬ isIn kvs b->B b=some u->H6 b=some u)/\DcAt (InAt H6) kvs Tt/\H6 q=some (.lst [.int (sg:Int),.int ((sg|||2^p:Nat):Int)])/\FndD (fun b=>(B b≠none∨b=f)∨b=q) H6 f kv G/\GrpH Fr (bG p (prcB es ks bk) (Tt.take i)++two.take j) G) ⟨_,_,kv,G,rfl,fun b u n z=>s6 _ _ (sx5 b u n z),dc5.imp fun v D z=>z.mono s6,ae,fn6,by rw[Qu,O2];exact gr⟩ (fun j σ H6 _ ⟨_,_,_,_,_,_,_,z,_⟩=>SqL.of z) ?_ ?_⟩
  ·rintro j x σ H6 hx ⟨w7,w8,kv',G',rfl,sx6,dc6,hq6,fn',gr'⟩;obtain⟨hv,e2,rfl⟩:∃ hv:Nat,two[j]?=some (hv,prcB es ks bk hv,Dm)/\x=.int (hv:Int):=by
    match j,hx with
    |0,hx=>exact⟨hsg sg p false,by rw[htwo];rfl,by cases hx;unfold hsg;rw[if_neg MQ,P4]⟩
    |1,hx=>exact⟨hsg sg p true,by rw[htwo];rfl,by cases hx;unfold hsg;rw[if_pos rfl]⟩
    |j+2,hx=>cases hx
   have etw:two.take (j+1)=two.take j++[(hv,prcB es ks bk hv,Dm)]:=by rw[M1,e2];rfl
   have zl2:lenZ (bG p (prcB es ks bk) (Tt.take i)++two.take j)<=512:=by
    have lt2:lenZ (bG p (prcB es ks bk) (Tt.take i)++two)<=512:=by rw[← ebr,mE];have:=qv Tt (i+1);omega
    have:=vE (two.take j) (two.drop j);rw[M9]at this;rw[vE]at lt2 ⊢;omega
   have qt6:H6 qt=some (.lst xs):=sx6 _ _ inQt qtB;refine⟨_,rfl,qt,rfl,⟨_,SqL.of qt6⟩,bK (K:=K) (xs:=xs) (fun i ys H7=>H7=H6/\ys=((bk.take i).map fun t=>prT es ks t hv).map V.int) (ND (ax (by omega))) ⟨rfl,rfl⟩ (fun i ys H7 _ z=>by rw[z.1];exact SqL.of qt6) ?_ ?_⟩
   ·rintro n x ys H7 hx' ⟨rfl,rfl⟩;obtain⟨tn,htn⟩:∃ tn,bk[n]?=some tn:=⟨_,Mx (by rw[← tr.1];exact(Mw.mp hx').1)⟩
    obtain⟨e,k,p',dx',he,hk,x1,x2⟩:=trB.2 n tn htn;rw[hx']at x1
    cases x1
    replace x2:=sx6 _ _ (nIn x2 fun D z=>by cases z) x2
    have hU:=U_at (l:=(hv:Int)) he hk;have hs:stg ks tn=k.2:=by unfold stg;rw[hk]
    have tail:∀ v:Int,v=prT es ks tn hv->H7=H7/\((bk.take n).map fun t=>prT es ks t hv).map V.int++[V.int v]=((bk.take (n+1)).map fun t=>prT es ks t hv).map V.int:=fun v hv'=>by
     rw[M1,htn,hv',M8,M8];exact⟨rfl,rfl⟩
    by_cases c:k.1=1
    ·rw[decide_eq_true c]at x2 hU;refine .inr ⟨_,rfl,p',dx',_,rfl,x2,IH _ _ _ (by decide +kernel) (by decide +kernel) (by decide +kernel),_,rfl,p',_,_,_,(hv:Int),rfl,⟨dx',x2⟩,by omega,by omega,?_⟩
     exact tail _ (by unfold prT;rw[hU,hs])
    ·rw[decide_eq_false c]at x2 hU;refine .inl ⟨_,rfl,p',dx',_,rfl,x2,IH _ _ _ (by decide +kernel) (by decide +kernel) (by decide +kernel),_,rfl,p',_,_,_,(hv:Int),rfl,⟨dx',x2⟩,by omega,by omega,?_⟩
     exact tail _ (by unfold prT;rw[hU,hs])
   rintro ys H7 _ ⟨rfl,rfl⟩ D hD;rw[tr.1,Ni];have s7:=ak hD (.lst ((bk.map fun t=>prT es ks t hv).map V.int));refine⟨D,_,rfl,SqL.of ae,?_⟩;have fn7:=fn'.keep (H':=upd H7 D (.lst ((bk.map fun t=>prT es ks t hv).map V.int))) fun b u _ z=>s7 _ _ z;have dc7:DcAt (InAt (upd H7 D (.lst ((bk.map fun t=>prT es ks t hv).map V.int)))) kvs Tt:=dc6.imp fun v D z=>z.mono s7;have sx7:∀ b u,¬ isIn kvs b->B b=some u->upd H7 D (.lst ((bk.map fun t=>prT es ks t hv).map V.int)) b=some u:=fun b u n z=>s7 _ _ (sx6 b u n z);have hq7:=s7 _ _ hq6;generalize upd H7 D (.lst ((bk.map fun t=>prT es ks t hv).map V.int))=H8 at s7 fn7 dc7 sx7 hq7;have ek:V.int (Builtin.bitAnd (hv:Int) (Fr:Int))=kV (.inl ((hv&&&Fr:Nat):Int)):=congrArg V.int (andN hv Fr);have kvl':kv'.length=G'.length:=fn'.w.1;have gl:=gr'.ln;have gl2:G'.length<=514:=by
    rw[MA,ng,Nf,Nf]at gl;have:two.length=2:=by rw[htwo];rfl
    omega
   refine⟨_,rfl,f,rfl,.inl ⟨_,.inl fn7.d⟩,_,rfl,_,rfl,_,_,rfl,rfl,fun l hl=>?_⟩;have s8:=ak hl (.dK []);have fn8:=fn7.keep (H':=upd H8 l (.dK [])) fun b u _ z=>s8 _ _ z;have dc8:DcAt (InAt (upd H8 l (.dK []))) kvs Tt:=dc7.imp fun v D z=>z.mono s8;have sx8:∀ b u,¬ isIn kvs b->B b=some u->upd H8 l (.dK []) b=some u:=fun b u n z=>s8 _ _ (sx7 b u n z);have hq8:=s8 _ _ hq7;have Bl:B l=none:=noT sx7 dc7 hl;have hl8:upd H8 l (.dK []) l=some (.dK []):=ae;have lf:l≠f:=fun z=>by have:=fn7.d;rw[← z,hl]at this;cases this
   have lq:l≠q:=fun z=>by rw[z,hq7]at hl;cases hl
   have lno:∀(i:Nat)(k:Key),kv'[i]?≠some (k,.ref l):=fun i k e=>by
    obtain⟨_,D,_,_,b,eb,_,z⟩:=fn7.w.atK e
    cases eb
    rw[hl]at z
    cases z
   generalize upd H8 l (.dK [])=H9 at s8 fn8 dc8 sx8 hq8 hl8;have hm9:DRd H9 a (.dK (repD Dm)):=by
    obtain⟨v,e1,b,eb,z⟩:=dc8.2 i sg Dm hTi;rw[hki]at e1
    cases e1
    cases eb
    exact z
   have fin:∀(kv2:List (Key×V))(G2:List (Nat×Hs))(c n:Nat)(D1:Hs)(g1:Int->Int)(Hx:Hp)(w7' w8':Option V)(Dn:Ends),(B c=none/\c≠f/\c≠q)->(∀ b u,¬ isIn kvs b->B b=some u->Hx b=some u)->DcAt (InAt Hx) kvs Tt->Hx q=some (.lst [.int (sg:Int),.int ((sg|||2^p:Nat):Int)])->DRd Hx a (.dK (repD Dm))->FndD (fun b=>(B b≠none∨b=f)∨b=q) Hx f kv2 G2->G2[n]?=some (hv&&&Fr,D1)->kv2[n]?=some ((.inl ((hv&&&Fr:Nat):Int):Key),.ref c)->Hx c=some (.dK (repD D1))->Hst D1 g1->D1.length<=512 ->
     (∀ D',Hst D' (fun x=>g1 x+cntL Dm (x-prcB es ks bk hv))->D'.length<=D1.length+Dm.length->GrpH Fr (bG p (prcB es ks bk) (Tt.take i)++two.take (j+1)) (G2.set n (hv&&&Fr,D'))) ->
     (∀ σ' H',(∃ v7 v8 kv G,σ' = [some (.ref d),some (.int (p:Int)),some (.ref qt),some (.int (Fr:Int)),some (.ref f),some (.int (sg:Int)),some (.ref a),v7,v8]/\(∀ b u,¬ isIn kvs b->B b=some u->H' b=some u)/\DcAt (InAt H') kvs Tt/\H' q=some (.lst [.int (sg:Int),.int ((sg|||2^p:Nat):Int)])/\FndD (fun b=>(B b≠none∨b=f)∨b=q) H' f kv G/\GrpH Fr (bG p (prcB es ks bk) (Tt.take i)++two.take (j+1)) G)->Dn.nx σ' H') ->
     IP [.ref c,.int (prcB es ks bk hv),.ref a] Hx (fun _ H'=>Dn.nx [some (.ref d),some (.int (p:Int)),some (.ref qt),some (.int (Fr:Int)),some (.ref f),some (.int (sg:Int)),some (.ref a),w7',w8'] H') E0:=fun kv2 G2 c n D1 g1 Hx w7' w8' Dn ⟨Bc,cf,cq⟩ sxx dcx' hqx hmx fnx hGn hkn hcx h1 hl1 hgr hD=>by
    have ca:c≠a:=fun z=>Ba (z▸Bc);refine⟨c,a,prcB es ks bk hv,D1,Dm,g1,gm,rfl,ca,hcx,h1,hmx,hgm,by omega,fun D' o' H' k1 k2 k3 k4 k5=>hD _ _ ⟨w7',w8',kv2,_,rfl,fun b u nb z=>?_,⟨dcx'.1,fun i' s' D'' e'=>?_⟩,?_,fnx.app hGn hkn (fun y=>y.elim (fun y=>y.elim (fun y=>y Bc) cf) cq) (Ne.symm cf) (fun b u nb hb z=>?_) k2,hgr D' (k5.cg fun x=>by rw[hgm.cnt]) k4⟩⟩
    ·exact k1 b u (fun y=>by rw[y,Bc]at z;cases z) (fun y=>nb (y▸ain)) (sxx b u nb z)
    ·obtain⟨v,e1,z⟩:=dcx'.2 i' s' D'' e';exact⟨v,e1,z.add hmx (fun b eb=>fun y=>inN (y▸Bc) ⟨i',_,eb▸e1⟩) k1 k3⟩
    ·exact k1 q _ (Ne.symm cq) (fun y=>Ba (y▸Bq)) hqx
    ·refine k1 b u nb (fun y=>?_) z;rcases hb with hb | hb
     ·exact Ba (y▸hb▸Bf)
     ·exact hb (.inl (.inl (y▸Ba)))
   refine⟨kv',_,fn8.d,ek,ax (by omega),fun u hu'=>?_,fun hn=>?_⟩
   ·obtain⟨n,D1,hG,hk,c,rfl,nS,hc⟩:=fn8.w.val hu';have Bc:B c=none:=by
     cases z:B c with
     |none=>rfl
     |some u=>exact absurd (.inl (.inl (by rw[z];exact fun y=>by cases y))) nS
    have mem:=gr'.hs _ _ (My hG);exact⟨_,rfl,_,rfl,fin kv' G' c n D1 _ H9 _ _ _ ⟨Bc,fun y=>nS (.inl (.inr y)),fun y=>nS (.inr y)⟩ sx8 dc8 hq8 hm9 fn8 hG hk hc mem.1 (Nw mem.2 zl2) (fun D' h1 h2=>by rw[etw,← Nm];exact gr'.old (z:=(hv,prcB es ks bk hv,Dm)) hG h1 h2) (fun σ' H' z=>z)⟩
   ·have nokey:hv&&&Fr∉G'.map (·.1):=fn8.w.no hn
    have nfk:∀(i:Nat)(k:Key),kv'[i]?≠some (k,.ref f):=fun i k e=>by
     obtain⟨_,D,_,_,b,eb,nb,z⟩:=fn8.w.atK e
     cases eb
     exact nb (.inl (.inr rfl))
    have fnN:=fn8.key hn lf hl8 (fun y=>y.elim (fun y=>y.elim (fun y=>y Bl) lf) lq) lno nfk;have af:a≠f:=fun y=>Ba (y▸Bf);have hkN:(putK kv' (.inl ((hv&&&Fr:Nat):Int)) (.ref l))[G'.length]?=some ((.inl ((hv&&&Fr:Nat):Int):Key),.ref l):=by
     rw[ph _ hn,← kvl',MB (MC _),M7];rfl
    refine⟨_,rfl,_,rfl,fin _ (G'++[(hv&&&Fr,[])]) l G'.length [] (fun _=>0) _ _ _ _ ⟨Bl,lf,lq⟩ (fun b u nb z=>?_) ⟨dc8.1,fun i' s' D'' e'=>?_⟩ ?_ ?_ fnN ?_ hkN ?_ Hg (NA _) (fun D' h1 h2=>?_) (fun σ' H' z=>z)⟩
    ·rw[aq (fun y=>by rw[y,Bf]at z;cases z)]
     exact sx8 b u nb z
    ·obtain⟨v,e1,b,eb,z⟩:=dc8.2 i' s' D'' e';refine⟨v,e1,b,eb,z.1,?_⟩;have bf:b≠f:=fun y=>inN (y▸Bf) ⟨i',_,eb▸e1⟩;rw[aq bf];exact z.2
    ·rw[aq (Ne.symm fq)];exact hq8
    ·exact⟨hm9.1,by rw[aq af];exact hm9.2⟩
    ·rw[MB (MC _),M7];rfl
    ·rw[aq lf];exact hl8
    ·have esG:(G'++[(hv&&&Fr,([]:Hs))]).set G'.length (hv&&&Fr,D')=G'++[(hv&&&Fr,D')]:=by
      rw[PU _ _ (MC _),M7];rfl
     rw[esG,etw,← Nm];exact gr'.new (z:=(hv,prcB es ks bk hv,Dm)) nokey (h1.cg fun x=>by rw[NO]) (by simpa using h2)
  ·rintro σ H6 ⟨w7,w8,kv',G',rfl,sx6,dc6,hq6,fn6',gr6⟩;have t2:two.take 2=two:=by rw[htwo];rfl
   have gr7:GrpH Fr (bG p (prcB es ks bk) (Tt.take (i+1))) G':=by
    rw[ebr,← t2];exact gr6
   exact⟨_,_,_,_,(),kv',G',rfl,sx6,dc6,⟨fn6'.d,fn6'.w.imp fun v D ⟨b,e,n,z⟩=>⟨b,e,fun y=>n (.inl y),z⟩,fn6'.ds⟩,gr7,rfl⟩
 ·rintro σ H4 ⟨v5,v6,v7,v8,_,kv,G,rfl,sx,dcx,fn,gr,_⟩;have dl:dlen (.dK kvs)=Tt.length:=kvl;rw[dl,Ni]at gr;refine⟨_,rfl,kk f kv G H4 (fun b u n1 n2 z=>sx b u n2 (HB b u n1 z)) hf ⟨fn.d,fn.w.imp fun v D ⟨b,e,n,z⟩=>⟨b,e,fun y=>n (y.elim (fun y=>.inl fun y2=>y (HB0 b y2)) .inr),z⟩,fn.ds⟩ gr⟩
end
end K8
namespace K8
open PySem L2
local macro_rules | `(tactic| walk_at "cc") => `(tactic| first | exact ⟨by decide, by decide⟩ | (show (0 : Int) < _; decide) | (show (0 : Int) < _; omega) | (show (0 : Int) ≤ _; omega) | exact ⟨by decide, by decide, by decide⟩ | exact ⟨by omega, by omega, by decide⟩ | exact Or.inl ⟨by decide, by decide⟩ | exact Or.inl ⟨by omega, by omega⟩)
local macro_rules | `(tactic| walk_at "rd") => `(tactic| repeat (first | refine ⟨_, rfl, ?_⟩ | refine ⟨_, _, rfl, rfl, ?_⟩ | refine ⟨rfl, ?_⟩ | (refine ⟨?cc, ?_⟩; (case cc => walk_at "cc"))))
def ind(c:Bool):Int:=if c=true then 1 else 0
def hL(l:List Nat)(F:Nat)(f:Nat->Int)(s:Nat)(x:Int):Int:=sumL l fun L=>ind (decide (L&&&F=s)&&decide (f L=x))
structure TblH(l:List Nat)(F:Nat)(f:Nat->Int)(T:List (Nat×Hs)):Prop where
 nd:(T.map (·.1)).Nodup
 has:∀ L∈l,L&&&F∈T.map (·.1)
 hs:∀ s D,(s,D)∈T->Hst D (hL l F f s)
theorem sU{p:Nat}{prc:Nat->Int}(g:Nat×Int×Hs->Int):∀ T:List (Nat×Hs),sumL (bG p prc T) g=sumL T fun e=>g (hsg e.1 p false,prc (hsg e.1 p false),e.2)+g (hsg e.1 p true,prc (hsg e.1 p true),e.2)
 |[]=>rfl
 |e::T=>by
  have ih:=sU (p:=p) (prc:=prc) g T;have e1:bG p prc (e::T) = [(hsg e.1 p false,prc (hsg e.1 p false),e.2),(hsg e.1 p true,prc (hsg e.1 p true),e.2)]++bG p prc T:=by unfold bG;rw[Py]
  rw[e1,fk,ih,aA,aA,aA,cG,NP]
theorem C9{ps:List Nat}{p F F' s':Nat}{f f' prc:Nat->Int}{T:List (Nat×Hs)}(h:TblH (lays ps) F f T)(b:Bool)(hk:∀ L∈lays ps,hsg (L&&&F) p b&&&F'=hsg L p b&&&F')(hc:∀ L∈lays ps,f' (hsg L p b)=f L+prc (hsg (L&&&F) p b))(x:Int) :
  (sumL T fun e=>if hsg e.1 p b&&&F'=s' then cntL e.2 (x-prc (hsg e.1 p b)) else 0)=sumL (lays ps) fun L=>ind (decide (hsg L p b&&&F'=s')&&decide (f' (hsg L p b)=x)):=by
 have e1:(sumL T fun e=>if hsg e.1 p b&&&F'=s' then cntL e.2 (x-prc (hsg e.1 p b)) else 0)=sumL T fun e=>sumL (lays ps) fun L=>if(L&&&F)=e.1 then ind (decide (hsg e.1 p b&&&F'=s')&&decide (f L=x-prc (hsg e.1 p b))) else 0:=az fun e he=>by
  rw[(h.hs e.1 e.2 he).cnt];unfold hL;by_cases c:hsg e.1 p b&&&F'=s'
  ·rw[if_pos c];refine az fun L _=>?_;rw[decide_eq_true c,OJ];by_cases z:L&&&F=e.1
   ·rw[if_pos z,decide_eq_true z,OJ]
   ·rw[if_neg z,decide_eq_false z,OR];rfl
  ·rw[if_neg c];refine(bO (lays ps)).symm.trans (az fun L _=>?_);rw[decide_eq_false c,OR];by_cases z:L&&&F=e.1
   ·rw[if_pos z];rfl
   ·rw[if_neg z]
 rw[e1,gf];refine az fun L hL=>?_;obtain⟨e,he,ee⟩:=MR.mp (h.has L hL);have ee':e.1=L&&&F:=ee;have q:=ju (fun y:Nat×Hs=>y.1) (l:=T) (x:=e) (fun y=>ind (decide (hsg y.1 p b&&&F'=s')&&decide (f L=x-prc (hsg y.1 p b)))) h.nd he;rw[ee']at q;rw[q,hk L hL];congr 1;have:(f L=x-prc (hsg (L&&&F) p b))↔(f' (hsg L p b)=x):=by rw[hc L hL];omega
 rw[decide_eq_decide.mpr this]
theorem Fu{ps:List Nat}{p F F':Nat}{f f' prc:Nat->Int}{T:List (Nat×Hs)}{G:List (Nat×Hs)}(h:TblH (lays ps) F f T)(hk:∀ L∈lays ps,∀ b,hsg (L&&&F) p b&&&F'=hsg L p b&&&F')(hc:∀ L∈lays ps,∀ b,f' (hsg L p b)=f L+prc (hsg (L&&&F) p b))(gr:GrpH F' (bG p prc T) G):TblH (lays (ps++[p])) F' f' G where
 nd:=gr.nd
 has:=fun L' hL'=>by
  obtain⟨L,b,hL,rfl⟩:=LL hL';obtain⟨e,he,ee⟩:=MR.mp (h.has L hL);have ee':e.1=L&&&F:=ee;rw[← hk L hL b,← ee'];refine gr.has (hsg e.1 p b,prc (hsg e.1 p b),e.2) ?_;unfold bG;refine List.mem_flatMap.mpr ⟨e,he,?_⟩
  cases b
  ·exact MV
  ·exact MO _ MV
 hs:=fun s' D hD=>(gr.hs s' D hD).1.cg fun x=>by
  unfold gH hL;rw[sU,fm,C9 h false (fun L hL=>hk L hL false) (fun L hL=>hc L hL false),C9 h true (fun L hL=>hk L hL true) (fun L hL=>hc L hL true),IK,fm];have h0:∀ L,hsg L p false=L:=fun L=>by unfold hsg;rw[if_neg MQ,P4]
  have h1:∀ L,hsg L p true=L|||2^p:=fun L=>by unfold hsg;rw[if_pos rfl]
  simp only[h0,h1]
theorem j8{α:Type}{l:List α}{f g:α->Int}(h:∀ x∈l,f x<=g x):sumL l f<=sumL l g:=by
 induction l with
 |nil=>exact N3 _
 |cons x l ih =>
  rw[aA,aA];have a:=h x MV;have b:=ih fun y hy=>h y (MO _ hy);omega
theorem F8{α β:Type} [DecidableEq β] (k:α->β) (y:β):∀{l:List α},(l.map k).Nodup->sumL l (fun e=>ind (decide (y=k e)))<=1
 |[],_=>(by decide:(0:Int)<=1)
 |x::l,nd=>by
  rw[Nh,MU]at nd;rw[aA];by_cases h:y=k x
  ·have z:sumL l (fun e=>ind (decide (y=k e)))=0:=by
    refine(az fun e he=>?_).trans (bO l);rw[decide_eq_false (fun q=>nd.1 (by rw[← h,q];exact MR.mpr ⟨e,he,rfl⟩))]
    rfl
   rw[z,decide_eq_true h];decide
  ·have:=F8 k y nd.2
   rw[decide_eq_false h];show(0:Int)+_<=1;omega
theorem jv{α:Type}(l:List α):sumL l (fun _=>(1:Int))=(l.length:Int):=by
 induction l with
 |nil=>rfl
 |cons x l ih=>rw[aA,ih,Nb];omega
theorem LX{D:Hs}{l:List Nat}{F s:Nat}{f:Nat->Int}(h:Hst D (hL l F f s)):(D.length:Int)<=sumL l fun L=>ind (decide (L&&&F=s)):=by
 have a:(D.length:Int)<=sumL D fun e=>hL l F f s e.1:=by
  rw[← jv];refine j8 fun e he=>?_;obtain⟨q1,q2⟩:=h.ex e.1 e.2 he;omega
 refine Pl a ?_;unfold hL;rw[gf];refine j8 fun L _=>?_;by_cases z:L&&&F=s
 ·have e1:(sumL D fun e=>ind (decide (L&&&F=s)&&decide (f L=e.1)))=sumL D fun e=>ind (decide (f L=e.1)):=az fun e _=>by rw[decide_eq_true z,OJ]
  rw[e1,decide_eq_true z];exact F8 (fun e:Int×Int=>e.1) (f L) h.nd
 ·have e1:(sumL D fun e=>ind (decide (L&&&F=s)&&decide (f L=e.1)))=0:=by
   refine(az fun e _=>?_).trans (bO D);rw[decide_eq_false z,OR];rfl
  rw[e1,decide_eq_false z];exact N3 _
theorem Jy(T:List (Nat×Hs)):((lenT T:Nat):Int)=sumL T fun e=>((e.2.length:Nat):Int):=by
 induction T with
 |nil=>rfl
 |cons e T ih =>
  have e2:lenT (e::T)=e.2.length+lenT T:=by unfold lenT;rw[Nh,QE]
  rw[e2,aA,← ih];omega
theorem TblH.len{l:List Nat}{F:Nat}{f:Nat->Int}{T:List (Nat×Hs)}(h:TblH l F f T):lenT T<=l.length:=by
 have a:((lenT T:Nat):Int)<=(l.length:Int):=by
  rw[Jy,← jv];refine Pl (j8 fun e he=>LX (h.hs e.1 e.2 he)) ?_;rw[gf];refine j8 fun L _=>?_;exact F8 (fun e:Nat×Hs=>e.1) (L&&&F) h.nd
 omega
theorem II(es:En)(pr:Nat->Nat->Int):TblH (lays []) 0 (cstB es pr (mk [])) [(0,[(0,1)])] where
 nd:=by simp
 has:=fun L _=>by rw[Qc];exact MV
 hs:=fun s D hD=>by
  cases M4.mp hD
  have l1:lays [] = [0]:=rfl;have g:∀ x:Int,hL (lays []) 0 (cstB es pr (mk [])) 0 x=if x=0 then 1 else 0:=fun x=>by
   unfold hL;rw[l1,aA,cG,NP];have c0:cstB es pr (mk []) 0=0:=JO es pr 0;rw[c0,Qc,decide_eq_true rfl,OJ];by_cases z:x=0
   ·rw[if_pos z,decide_eq_true z.symm];rfl
   ·rw[if_neg z,decide_eq_false (Ne.symm z)];rfl
  refine⟨by simp,fun x n hn=>?_,fun x hx=>?_⟩
  ·cases M4.mp hn;rw[g,if_pos rfl];exact⟨rfl,by decide⟩
  ·rw[g]at hx;by_cases z:x=0
   ·subst z;exact MV
   ·rw[if_neg z]at hx;exact absurd rfl hx
end K8
namespace K8
open PySem L2
local macro_rules | `(tactic| walk_at "cc") => `(tactic| first | exact ⟨by decide, by decide⟩ | (show (0 : Int) < _; decide) | (show (0 : Int) < _; omega) | (show (0 : Int) ≤ _; omega) | exact ⟨by decide, by decide, by decide⟩ | exact ⟨by omega, by omega, by decide⟩ | exact Or.inl ⟨by decide, by decide⟩ | exact Or.inl ⟨by omega, by omega⟩)
local macro_rules | `(tactic| walk_at "rd") => `(tactic| repeat (first | refine ⟨_, rfl, ?_⟩ | refine ⟨_, _, rfl, rfl, ?_⟩ | refine ⟨rfl, ?_⟩ | (refine ⟨?cc, ?_⟩; (case cc => walk_at "cc"))))
def totC(es:En)(ks:Kn)(L:Nat):Int:=sumL (Na es.length) fun t=>prT es ks t L
theorem jC{od:List Nat}{m:Nat}(pm:od.Perm (Na m)){L:Nat}:L∈lays od↔L<2^m:=by
 constructor
 ·intro h;refine Nat.lt_pow_two_of_testBit L fun x hx=>?_
  cases z:L.testBit x with
  |false=>rfl
  |true =>
   have:=Ny.mp (pm.mem_iff.mp (pq h z));omega
 ·intro h;refine ud _ od L rfl fun x hx=>pm.mem_iff.mpr (Ny.mpr ?_);by_cases c:x<m
  ·exact c
  ·have:=O4 (Nk h (OL (by decide) (show m<=x by omega)))
   rw[this]at hx
   cases hx
theorem vF:∀(n:Nat)(qs:List Nat),qs.length=n->qs.Nodup->(lays qs).Nodup
 |0,qs,hn,_=>by
  rw[OZ.mp hn];decide
 |n+1,qs,hn,nd=>by
  have ne:qs≠[]:=fun e=>by rw[e]at hn;cases hn
  have eq:qs.dropLast++[qs.getLast ne]=qs:=Qh ne;generalize qs.getLast ne=q at eq;have hl:qs.dropLast.length=n:=by rw[List.length_dropLast,hn];rfl
  generalize qs.dropLast=r at eq hl;subst eq;rw[MZ]at nd;have ih:=vF n r hl nd.1;have nq:∀ L∈lays r,L.testBit q=false:=fun L hL=>by
   cases z:L.testBit q with
   |false=>rfl
   |true=>exact absurd rfl (nd.2.2 q (pq hL z) q (M4.mpr rfl))
  rw[lC,MZ];refine⟨ih,?_,fun a ha b hb e=>?_⟩
  ·refine NY.mpr (Pz (fun{a b} ha hb hne e=>?_) ih)
   exact hne (NR fun x=>by
    have:=congrArg (fun z=>z.testBit x) e;simp only[NQ,Nq]at this;by_cases hx:q=x
    ·subst hx;rw[nq a ha,nq b hb]
    ·simpa[hx] using this)
  ·obtain⟨L,hL,rfl⟩:=MR.mp hb;have h1:=nq a ha;rw[e,NQ,Nq]at h1;simp at h1
theorem GO{od:List Nat}{m:Nat}(pm:od.Perm (Na m)):(lays od).Perm (lays (Na m)) :=
 (N5 (vF _ od rfl (pm.nodup_iff.mpr Oz)) (vF _ _ rfl Oz)).mpr fun L=>by rw[jC pm,jC (NS _)]
theorem pO{l r:List Nat}(p:l.Perm r)(f:Nat->Int):sumL l f=sumL r f:=by
 induction p with
 |nil=>rfl
 |cons x _ ih=>rw[aA,aA,ih]
 |swap x y l=>rw[aA,aA,aA,aA];omega
 |trans _ _ a b=>exact a.trans b
theorem Mp{es:En}{ks:Kn}{od:List Nat}{m:Nat}(pm:od.Perm (Na m))(hbd:∀ e∈es,e.1<m/\e.2<m)(L:Nat):cstB es (prT es ks) (mk od) L=totC es ks L:=by
 unfold cstB totC;refine az fun t ht=>?_;obtain⟨e,he⟩:∃ e,es[t]?=some e:=⟨_,Mx (Ny.mp ht)⟩;obtain⟨b1,b2⟩:=hbd e (My he);rw[mQ he,dJ,dJ,decide_eq_true (pm.mem_iff.mpr (Ny.mpr b1)),decide_eq_true (pm.mem_iff.mpr (Ny.mpr b2))];rfl
structure TxtM(mg:Str->Option Value):Prop extends Txt mg where
 most:∃ t,mg "MOST_PLACES" = some (.int 16 t)
def hA(es:En)(ks:Kn)(m:Nat)(x:Int):Int:=sumL (lays (Na m)) fun L=>ind (decide (totC es ks L=x))
structure Hist(es:En)(ks:Kn)(m:Nat)(D:Hs):Prop where
 up:D.Pairwise fun x y=>x.1<y.1
 hs:Hst D (hA es ks m)
def spWs(PL PS WC:Addr):Sp:=fun vs H Q _=>∃(p:Addr)(m:Nat)(es:En)(ts:List (List Nat))(ks:Kn)(v:V)(ns:List Int),vs = [.ref p,v]/\WebT PL PS WC H p m es ts ks/\ks.length=es.length/\bC m es ts/\es.length<=100/\m<=9/\Told m v H ns/\ns.Perm (rI m) /\
 ∀(q:Addr)(rows:List V)(D:Hs)(H':Hp),Same H H'->H q=none->H' q=some (.lst rows)->LsAt PrAt H' rows D->Hist es ks m D->Q (.ref q) H'
theorem JN(xs:List V):cutV xs (some 1) none=xs.drop 1:=by
 unfold cutV;have q:=HT.sIx_nat xs.length 0 1;rw[show((1:Nat):Int)=(1:Int) from rfl]at q;rw[q,HT.sIx_none];rw[Nl (by rw[Nu];omega)]
 by_cases h:1<=xs.length
 ·rw[Of h]
 ·have e:xs = []:=OZ.mp (by omega)
  subst e;rfl
theorem Jf{X:Cx}{x:Str}{n:Int}{pos:Pos}(hg:Gl X x)(hm:∃ t,X.mg x=some (.int n t)) (hd:(x == ("__debug__" : Str))=false:=by decide):PE X (.Name x pos) (tC (.int n)):=by
 obtain⟨t,h⟩:=hm;exact Lo hg h ⟨t,rfl⟩ hd
theorem Hst.perm{D D':Hs}{g:Int->Int}(h:Hst D g)(p:D'.Perm D):Hst D' g :=
 ⟨(p.map (·.1)).nodup_iff.mpr h.nd,fun x n hn=>h.ex x n (p.mem_iff.mp hn),fun x hx=>(p.map (·.1)).mem_iff.mpr (h.al x hx)⟩
theorem Hu{es:En}{od:List Nat}{m:Nat}(pm:od.Perm (Na m))(hbd:∀ e∈es,e.1<m/\e.2<m):cP es (mk od) 0:=fun x=>by
 rw[NT]
 cases c:(mk od).testBit x with
 |false=>rfl
 |true =>
  rw[OJ]
  cases q:es.any (atF (mk od) x) with
  |false=>rfl
  |true =>
   obtain⟨e,he,ha⟩:=OA.mp q;have all:∀ y,y<m->(mk od).testBit y=true:=fun y hy=>by
    rw[dJ];exact decide_eq_true (pm.mem_iff.mpr (Ny.mpr hy))
   obtain⟨b1,b2⟩:=hbd e he;unfold atF at ha;rw[all _ b1,all _ b2]at ha;simp at ha
section
variable{P:Program}{w:World}{K:Mz}{mg:Str->Option Value}{base:Heap}
theorem eI:aG ["web","order","places","counts","place","back","front"] ["web","order"] (aj jy):=⟨rfl,rfl,rfl,by decide +kernel,rfl,by decide +kernel,by decide +kernel⟩
theorem ok_ws{f f1 f2 f3 f4 BO TW PL PS WC:Addr}{fd d1 d2 d3 d4:FuncData} (F:FunD K "worths" "worths" jy f fd #[.none]) (T:TxtM mg) (cw:CW K WC) (X_TooWide:ErrC K mg "TooWide" TW) (G_order_of:CalX P w K mg base 1 "order_of" ["web","order"] (C1 BO WC) f1 d1)
  (G_fronts:CalX P w K mg base 3 "fronts" ["web","order"] (K4 BO PL PS WC) f2 d2) (G_ties_back:Cal P w K mg base 2 "ties_back" ["web","order"] (FG PL PS WC) f3 d3) (G_counts_behind:Cal P w K mg base 4 "counts_behind" ["counts","place","ties","front"] (spCB PL PS) f4 d4):FnOk P w K mg base (CXr P w) 5 f fd ["web","order"] (spWs PL PS WC):=by
 refine F.okX eI (fun vs H Q E h=>?_) (fun cdv A outer s H vs Q E hr h=>?_)
 ·obtain⟨p,m,es,ts,ks,v,ns,rfl,_⟩:=h;rfl
 obtain⟨p,m,es,ts,ks,v,ns,rfl,wt,kl,tn,e100,m9,td,pm,kk⟩:=h;have hu:=BR hr;obtain⟨dx,fs,q1,xs,q3,z3,hp,lm,l1,h1,tk,l3,h3,rw3⟩:=id wt;have hbd:∀ e∈es,e.1<m/\e.2<m:=fun e he=>⟨(tn.ends e he).1,(tn.ends e he).2.1⟩
 refine⟨_,WSs.ok (o7 (JX (i:=2) eI.nd rfl (Or.inl rfl) (u5 G_order_of.ok (hr.mono (by decide)) rfl G_order_of.mg G_order_of.kp G_order_of.bn .nil xg rfl (aa (pv 0) (aa (pv 1) ah))))
   (o7 (ws_if (aL op_gt (cJ (pv 0) rfl) (Jf rfl T.most) (aV _)) (zT (Fj X_TooWide.ec X_TooWide.mg rfl xg rfl rfl (aa Ke ah))) KN)
   (o7 (Iw (n:=3) eI.nd rfl (Or.inl rfl) (.inl rfl))
   (o7 (KO rfl (Ll rfl T.n_zip (aa (pv 2) (aa (ar G_ties_back.ok (hr.mono (by decide)) rfl G_ties_back.mg G_ties_back.kp G_ties_back.bn .nil aR (aa (pv 0) (aa (pv 2) ah))) (aa (uW Ak (u5 G_fronts.ok (hr.mono (by decide)) rfl G_fronts.mg G_fronts.kp G_fronts.bn .nil xg rfl (aa (pv 0) (aa (pv 2) ah))) (AB ai) AD) ah)))) (nK rfl (bq (aK (i:=4) eI.nd rfl (Or.inl rfl)) (bq (aK (i:=5) eI.nd rfl (Or.inl rfl)) (bq (aK (i:=6) eI.nd rfl (Or.inl rfl)) iC)))) (zT (JX (i:=3) eI.nd rfl (Or.inl rfl) (ar G_counts_behind.ok (hr.mono (by decide)) rfl G_counts_behind.mg G_counts_behind.kp G_counts_behind.bn .nil aR (aa (pv 3) (aa (pv 4) (aa (c8 rfl (fr:=[("web",0)]) (by exact bH.one (by rfl) (by decide +kernel) (by rfl) (by decide +kernel) (by rfl) (by decide +kernel) (by rfl) (by rfl) (by decide +kernel) (by rfl)) (aX (pv 5)) (fun C ex s H=>(aE (pB (K:=K) rfl) (uY (K:=K) rfl (pv 1) rfl) (pv 0) (fun _ _=>rfl)))) (aa (pv 6) ah))))))))
   (zT (ws_ret (aF (EY rfl) (by rfl) T.n_sorted lY (aa (F5 Od Ow PF Dj (u4 hu (pv 3) ai (fun _ _=>rfl))) ah)))))))),?_⟩
 refine⟨_,rfl,_,rfl,p,dx,fs,m,v,ns,rfl,hp,lm,by omega,td,fun z=>absurd pm z,fun _ q H1 s1 nq hq=>?_⟩
 obtain⟨od,rfl,ob⟩:=C4 pm;have ol:(cI od).length=od.length:=by unfold cI;rw[MD]
 have om:od.length=m:=by
  have:=pm.length_eq;unfold rI at this;rwa[ol,MD,N0]at this
 have ond:od.Nodup:=by
  have:(cI od).Nodup:=pm.nodup_iff.mpr (by
   unfold rI
   exact O3.map _ (fun a b h e=>h (by omega)) Oz)
  unfold cI at this;exact(NY.mp this).imp fun h e=>h (by rw[e])
 have opm:od.Perm (Na m):=by
  refine(N5 ond Oz).mpr fun x=>⟨fun h=>Ny.mpr (ob x h),fun h=>?_⟩;have:(x:Int)∈cI od:=pm.mem_iff.mpr (by unfold rI;exact MR.mpr ⟨x,h,rfl⟩)
  unfold cI at this;obtain⟨y,hy,e⟩:=MR.mp this;have:y=x:=by omega
  rw[← this];exact hy
 refine⟨_,rfl,p,WC,dx,fs,_,rfl,s1 _ _ hp,cw.cl,cw.n1,lm,_,_,rfl,rfl,_,rfl,ite2 (fun c=>absurd (of_decide_eq_true c:(16:Int)<(m:Int)) (by omega)) (fun _=>?_)⟩
 intro d hd;intro t ht;have dt:d≠t:=fun z=>by rw[← z,ae]at ht;cases ht
 have ht1:H1 t=none:=by rw[aq (Ne.symm dt)]at ht;exact ht
 refine⟨ae,[(.inl (0:Int),.int 1)],rfl,(by show 1<=15;decide),?_⟩
 refine⟨by rw[aq dt,aq dt];exact ae,[(.inl ((0:Nat):Int),.ref t)],rfl,(by show 1<=15;decide),?_⟩
 obtain⟨H6,eH6⟩:∃ H6:Hp,H6=upd (upd (upd (upd H1 d (.dK [])) t (.dK [])) t (.dK (ql [] [(.inl (0:Int),.int 1)]))) d (.dK (ql [] [(.inl ((0:Nat):Int),.ref t)])):=⟨_,rfl⟩;rw[← eH6];have h6:H6 d=some (.dK [(.inl ((0:Nat):Int),.ref t)]):=by rw[eH6];exact ae
 have t6:H6 t=some (.dK (repD [(0,1)])):=by rw[eH6,aq (Ne.symm dt)];exact ae
 have s6:Same H1 H6:=fun b u z=>by
  rw[eH6,aq (aw z hd),aq (aw z ht1),aq (aw z ht1),aq (aw z hd)];exact z
 clear eH6;have s16:=s1.trans s6;have hq6:=s6 _ _ hq;refine⟨_,rfl,_,rfl,_,rfl,p,q,m,es,ts,ks,od,rfl,wt.mono s16,kl,tn,by omega,e100,hq6,ob,by omega,fun q7 zs H7 s7 hq7 rb=>?_⟩
 have s17:=s16.trans s7;refine⟨_,rfl,_,rfl,p,m,es,ts,ks,.ref q,cI od,rfl,wt.mono s17,kl,hbd,by omega,.inr ⟨q,rfl,s7 _ _ hq6,by omega⟩,fun z=>absurd pm z,fun od' eo _ q2 ms H8 s8 hq2 fr=>?_⟩
 have eod:od'=od:=by
  have:cI od'=cI od:=eo.symm;unfold cI at this;exact(List.map_inj_right (fun a b e=>by omega)).mp this
 subst eod;refine⟨_,rfl,q2,_,rfl,SqL.of hq2,fun q8 hq8=>?_⟩;rw[JN,← P7];have s9:=ak hq8 (.lst ((ms.drop 1).map iV));have h8:(upd H8 q8 (.lst ((ms.drop 1).map iV))) q8=some (.lst ((ms.drop 1).map iV)):=ae;have s69:=(s7.trans s8).trans s9;have hd9:=s69 _ _ h6;have ht9:=s69 _ _ t6;have hq7':=(s8.trans s9) _ _ hq7;have rb9:=rb.mono (s8.trans s9);have s19:=s6.trans s69;generalize upd H8 q8 (.lst ((ms.drop 1).map iV))=H9 at s9 h8 s69 hd9 ht9 hq7' rb9 s19;have msl:ms.length=m+1:=by rw[fr.1,om]
 have zl:((ms.drop 1).map iV).length=m:=by rw[MD,Nu];omega
 have zsl:zs.length=m:=by rw[rb.1];unfold dE;rw[MD,N0,om]
 obtain⟨C,hC⟩:∃ C:Hp,C=fun b=>if b=d∨b=t then none else H9 b:=⟨_,rfl⟩;have CH:∀ b u,b≠d->b≠t->H9 b=some u->C b=some u:=fun b u n n2 z=>by rw[hC];show(if b=d∨b=t then none else H9 b)=_;rw[if_neg (fun y=>y.elim n n2)];exact z
 have Cd:C d=none:=by rw[hC];show(if d=d∨d=t then none else H9 d)=_;rw[if_pos (.inl rfl)]
 have Ct:C t=none:=by rw[hC];show(if t=d∨t=t then none else H9 t)=_;rw[if_pos (.inr rfl)]
 have sC:Same C H9:=fun b u z=>by
  rw[hC]at z;have z':(if b=d∨b=t then none else H9 b)=some u:=z;by_cases n:b=d∨b=t
  ·rw[if_pos n]at z';cases z'
  ·rw[if_neg n]at z';exact z'
 have s1C:Same H1 C:=fun b u z=>CH b u (aw z hd) (aw z ht1) (s19 _ _ z);have nl:∀{b:Addr}{ys:List V},H9 b=some (.lst ys)->b≠d/\b≠t:=fun{b ys} z=>⟨fun y=>(by rw[y,hd9]at z;cases z),fun y=>(by rw[y,ht9]at z;cases z)⟩
 have C8:=CH _ _ (nl h8).1 (nl h8).2 h8;have Cq7:=CH _ _ (nl hq7').1 (nl hq7').2 hq7';have Cq:=s1C _ _ hq
 have rbC:bM C zs (dE es ts od' od'.length):=⟨rb9.1,fun i l e=>by
  obtain⟨a,a1,a2⟩:=rb9.2 i l e
  exact⟨a,a1,CH _ _ (nl a2).1 (nl a2).2 a2⟩⟩
 have wtC:=wt.mono (s1.trans s1C);have tkC:=tk.mono (s1.trans s1C);have hpC:=(s1.trans s1C) _ _ hp;have h1C:=(s1.trans s1C) _ _ h1;refine⟨q,q7,q8,rfl,⟨_,SqL.of (s19 _ _ hq)⟩,⟨_,SqL.of hq7'⟩,⟨_,SqL.of h8⟩,JJ (K:=K) (xs:=(cI od').map V.int) (ys:=zs) (zs:=(ms.drop 1).map iV) m (fun i σ HA=>∃ v6 v7 v8 d9 kv T9,σ = [some (.ref p),some v,some (.ref q),some (.ref d9),v6,v7,v8]/\Same C HA/\C d9=none/\HA d9=some (.dK kv)/\DcAt (fun u D=>∃ a,u=.ref a/\a≠d9/\C a=none/\HA a=some (.dK (repD D))) kv T9/\T9.length<=2^i/\(∀ M,cP es (mk (od'.take i)) M->TblH (lays (od'.take i)) M (cstB es (prT es ks) (mk (od'.take i))) T9)) ⟨_,_,_,d,_,[(0,[(0,1)])],rfl,sC,Cd,hd9,⟨rfl,fun i s a e=>?_⟩,MC _,fun M hM=>?_⟩ (by rw[MD];omega) (by omega) zl (fun i σ HA _ ⟨_,_,_,_,_,_,_,z,_⟩=>⟨SqL.of (z _ _ Cq),SqL.of (z _ _ Cq7),SqL.of (z _ _ C8)⟩) ?_ ?_⟩
 ·match i,e with
  |0,e=>cases e;exact⟨.ref t,rfl,t,rfl,Ne.symm dt,Ct,ht9⟩
  |i+1,e=>cases e
 ·have e0:M=0:=cP.one hM (Ko es)
  rw[e0,Qu];exact II es (prT es ks)
 ·rintro i x y z σ HA T9' hx hy hz ⟨v6,v7,v8,d9,kv,T9,rfl,sA,nd9,hd9,dc9,tl9,tb9⟩ hT;rw[ME]at hx hz;obtain⟨x',hx',rfl⟩:=M0.mp hx;obtain⟨F',hF',rfl⟩:=M0.mp hz;unfold cI at hx';rw[ME]at hx';obtain⟨pl,hpl,rfl⟩:=M0.mp hx';rw[OB]at hF';have hi:i<m:=by
   have:=(Mw.mp hF').1;omega
  have hFm:ms[i+1]?=some F':=by
   rw[Nat.add_comm];exact hF'
  have hb:=ob pl (My hpl);have et:od'.take (i+1)=od'.take i++[pl]:=by rw[M1,hpl];rfl
  have gd:od'.getD i 0=pl:=by rw[NJ,hpl];rfl
  obtain⟨row,hrow⟩:∃ row,ts[pl]?=some row:=⟨_,Mx (by rw[tn.len];exact hb)⟩
  have era:DU ts (od'.getD i 0)=row:=by unfold DU;rw[gd,hrow];rfl
  obtain⟨bk,hbk⟩:∃ bk,bk=jX es (mk (od'.take (i+1))) row:=⟨_,rfl⟩;have hbr:(dE es ts od' od'.length)[i]?=some bk:=by
   unfold dE;rw[ME,OU (by omega),hbk,← era]
   rfl
  obtain⟨r,r1,r2⟩:=rbC.2 i bk hbr;rw[hy]at r1
  cases r1
  have fr':cP es (mk (od'.take (i+1))) F':=fr.2 (i+1) F' hFm;obtain⟨F0,hF0⟩:∃ F0,ms[i]?=some F0:=⟨_,Mx (by omega)⟩
  have fr0:cP es (mk (od'.take i)) F0:=fr.2 i F0 hF0;have tb:=tb9 F0 fr0;have hpn:pl∉od'.take i:=fun z=>by
   obtain⟨j,hj⟩:=NN z;rw[Ol]at hj;split at hj
   ·rename_i hji;obtain⟨a1,a2⟩:=Mw.mp hj;obtain⟨b1,b2⟩:=Mw.mp hpl;exact absurd (a2.trans b2.symm) (N8.mp ond j i a1 b1 hji)
   ·cases hj
  have p256:2^i<=256:=Nw (OL (by decide) (show i<=8 by omega)) (by decide)
  have T256:T9.length<=256:=Nw tl9 p256;have L256:lenT T9<=256:=by
   have:=tb.len;rw[Dt,Nf,Of (by omega)]at this
   exact Nw this p256
  have bkl:bk.length<=100:=by
   have h1:bk.length<=row.length:=by rw[hbk];unfold jX;exact List.length_filter_le _ _
   have h2:row.length<=es.length:=by
    refine eO (tn.nd pl row hrow) fun t ht=>?_;obtain⟨e,he,_⟩:=(tn.mem pl row hrow t).mp ht;exact(Mw.mp he).1
   omega
  have sT:=ak hT (.tup [.int ((pl:Nat):Int),.ref r,iV F']);have s9T:=sA.trans sT;have hd9T:=sT _ _ hd9;have dc9T:DcAt (fun u D=>∃ a,u=.ref a/\a≠d9/\C a=none/\upd HA T9' (.tup [.int ((pl:Nat):Int),.ref r,iV F']) a=some (.dK (repD D))) kv T9:=dc9.imp fun v D ⟨a,e1,e2,e3,e4⟩=>⟨a,e1,e2,e3,sT _ _ e4⟩;refine⟨T9',_,rfl,SqT.of ae,rfl,_,_,rfl,_,_,rfl,_,_,rfl,rfl,?_⟩;generalize upd HA T9' (.tup [.int ((pl:Nat):Int),.ref r,iV F'])=HA at sT s9T hd9T dc9T;refine⟨_,rfl,_,rfl,_,rfl,r,rfl,⟨_,SqL.of (s9T _ _ r2)⟩,bK (K:=K) (xs:=bk.map iV) (fun j ys HB=>HB=HA/\tJ PL PS HA es ks ys (bk.take j)) (ND (ax (by rw[MD];omega))) ⟨rfl,rfl,fun j t e=>by simp at e⟩ (fun j ys HB _ z=>by rw[z.1];exact SqL.of (s9T _ _ r2)) ?_ ?_⟩
  ·rintro j x ys HB hx ⟨rfl,tr⟩;rw[ME]at hx;obtain⟨t,ht,rfl⟩:=M0.mp hx;have htm:t∈row:=by
    have:=My ht;rw[hbk]at this;exact(OY.mp this).1
   obtain⟨e,he,_⟩:=(tn.mem pl row hrow t).mp htm;obtain⟨k,hk⟩:∃ k,ks[t]?=some k:=⟨_,Mx (by have:=(Mw.mp he).1;omega)⟩
   obtain⟨p',dx',x1,x2⟩:=(tkC.mono s9T).2 t e k he hk;refine⟨_,rfl,p,WC,dx,fs,_,rfl,s9T _ _ hpC,cw.cl,cw.n2,l1,_,rfl,q1,xs,_,_,rfl,rfl,SqL.of (s9T _ _ h1C),aM x1,rfl,?_⟩;refine⟨by rw[MA,tr.1,M1,ht,MA];rfl,fun n u e2=>?_⟩
   rw[M1,ht]at e2;have bl':(bk.take j).length=ys.length:=tr.1.symm;by_cases hn:n<(bk.take j).length
   ·rw[MF hn]at e2;obtain⟨e',k',p2,dx2,y1,y2,y3,y4⟩:=tr.2 n u e2;exact⟨e',k',p2,dx2,y1,y2,by rw[MF (by omega)];exact y3,y4⟩
   ·rw[MB (by omega)]at e2
    have e3:n=(bk.take j).length:=by
     have:=(Mw.mp e2).1;rw[show(Option.toList (some t)).length=1 from rfl]at this;omega
    subst e3;rw[M7]at e2
    cases e2
    exact⟨e,k,p',dx',he,hk,by rw[bl',MB (MC _),M7];rfl,x2⟩
  rintro ys HB _ ⟨rfl,tr⟩ D hD;rw[MD,Ni]at tr;have sD:=ak hD (.lst ys);refine⟨_,rfl,d9,D,pl,F',kv,T9,ys,es,ks,bk,rfl,sD _ _ hd9T,dc9T.imp fun v D' ⟨a,e1,e2,_,e4⟩=>⟨a,e1,e2,sD _ _ e4⟩,fun s' D' hD'=>⟨_,tb.hs s' D' hD'⟩,L256,T256,by omega,ae,tr.mono sD,bkl,fun g kv2 G HC sX gn fn gr=>?_⟩
  have inC:∀ b,isIn kv b->C b=none:=fun b ⟨j,k,e⟩=>by
   obtain⟨_,_,_,_,a,e1,_,e3,_⟩:=dc9T.atK e
   cases e1
   exact e3
  have sCC:Same C HC:=fun b u z=>sX b u (fun y=>by rw[y,nd9]at z;cases z) (fun y=>by rw[inC b y]at z;cases z) (sD _ _ (s9T _ _ z))
  have bk0:∀ b,upd HB D (.lst ys) b=none->C b=none:=fun b z=>by
   cases y:C b with
   |none=>rfl
   |some u=>rw[sD _ _ (s9T _ _ y)]at z;cases z
  refine⟨_,_,_,g,kv2,G,rfl,sCC,bk0 g gn,fn.d,fn.w.imp fun v D' ⟨a,e1,e2,e3⟩=>⟨a,e1,fun y=>e2 (.inr y),bk0 a ?_,e3⟩,?_,fun M hM=>?_⟩
  ·cases y:upd HB D (.lst ys) a with
   |none=>rfl
   |some u=>exact absurd (.inl (by rw[y];exact fun z=>by cases z)) e2
  ·have:=gr.ln
   rw[ng]at this;rw[Nat.pow_succ];omega
  ·have eM:M=F':=cP.one hM fr'
   subst eM;rw[et]at hM hbk ⊢;refine Fu (prc:=prcB es ks bk) tb (fun L hL b=>Ht fr0 hM hpn hL b) (fun L hL b=>?_) gr;rw[HU tn (Li kl) fr0 hpn hL b hrow,← hbk];rfl
 rintro σ HA ⟨v6,v7,v8,d9,kv,T9,rfl,sA,nd9,hd9,dc9,tl9,tb9⟩;have etm:od'.take m=od':=Nl (by omega)
 rw[etm]at tb9;have tb:=tb9 0 (Hu opm hbd);obtain⟨⟨s0,D0⟩,hD0,es0⟩:=MR.mp (tb.has 0 ((jC opm).mpr (PN m)));have es0':s0=0:=by rw[Qc]at es0;exact es0
 subst es0';have hst:=tb.hs 0 D0 hD0;have hst2:Hst D0 (hA es ks m):=hst.cg fun x=>by
  unfold hL hA;rw[pO (GO opm)];refine az fun L _=>?_;rw[Qc,decide_eq_true rfl,OJ,Mp opm hbd]
 obtain⟨u,hu',a,rfl,ad,Ca,ha⟩:=dc9.get tb.nd hD0;refine⟨_,rfl,d9,.ref a,rfl,.inl ⟨kv,.inl ((0:Nat):Int),.inl hd9,rfl,hu'.symm⟩,.inr (.inr (.inl ⟨rfl,.inl ⟨_,ha⟩⟩)),a,.dK (repD D0),rfl,rfl,ha,trivial,fun vw hvw=>?_⟩;have sv:=ak hvw (dM vw a);refine⟨vw,a,_,D0,rfl,ae,sv _ _ ha,rfl,hst2.nd,fun l out ps' H' k1 nl hl pm' up ol rd=>?_⟩;have sHA:Same H HA:=(s1.trans s1C).trans sA;have sF:Same H H':=(sHA.trans sv).trans k1;refine kk l out ps' H' sF ?_ hl ⟨ol,fun i e he=>?_⟩ ⟨up,hst2.perm pm'⟩
 ·exact yg (sHA.trans sv) nl
 ·obtain⟨t',e1,e2⟩:=rd i e he;exact⟨.ref t',e1,t',rfl,e2⟩
end
end K8
namespace K8
open PySem L2
local macro_rules | `(tactic| walk_at "cc") => `(tactic| first | exact ⟨by decide, by decide⟩ | (show (0 : Int) < _; decide) | (show (0 : Int) < _; omega) | (show (0 : Int) ≤ _; omega) | exact ⟨by decide, by decide, by decide⟩ | exact ⟨by omega, by omega, by decide⟩ | exact Or.inl ⟨by decide, by decide⟩ | exact Or.inl ⟨by omega, by omega⟩)
local macro_rules | `(tactic| walk_at "rd") => `(tactic| repeat (first | refine ⟨_, rfl, ?_⟩ | refine ⟨_, _, rfl, rfl, ?_⟩ | refine ⟨rfl, ?_⟩ | (refine ⟨?cc, ?_⟩; (case cc => walk_at "cc"))))
theorem bitD(N p:Nat):((N:Int)/2^((p:Nat):Int).toNat)%2=if N.testBit p=true then 1 else 0:=by
 have:=bitN N p;unfold bit at this;exact this
theorem gG{es:En}{ks:Kn}{t L:Nat}{e:Nat×Nat}{k:Int×Int}(he:es[t]?=some e)(hk:ks[t]?=some k)(h01:k.1=0∨k.1=1):prT es ks t L=if((L:Int)/2^((e.1:Nat):Int).toNat+(L:Int)/2^((e.2:Nat):Int).toNat+k.1)%2=1 then k.2 else 0:=by
 have hs:stg ks t=k.2:=by unfold stg;rw[hk]
 unfold prT;rw[U_at he hk,hs];have b1:=bitD L e.1;have b2:=bitD L e.2;have key:(unp (decide (k.1=1)) (e.1:Int) (e.2:Int) (L:Int)=true)↔((L:Int)/2^((e.1:Nat):Int).toNat+(L:Int)/2^((e.2:Nat):Int).toNat+k.1)%2=1:=by
  unfold unp bit;generalize (L:Int)/2^((e.1:Nat):Int).toNat=x at b1 ⊢;generalize (L:Int)/2^((e.2:Nat):Int).toNat=y at b2 ⊢;rcases h01 with z | z
  ·rw[z,decide_eq_false (show ¬ ((0:Int)=1) by decide)]
   show(!decide (V.int ((x%2+y%2)%2)=V.int 0))=true↔_;by_cases c:(x%2+y%2)%2=0
   ·rw[decide_eq_true (congrArg V.int c)];constructor
    ·intro q;cases q
    ·intro q;omega
   ·rw[decide_eq_false (fun q=>c (V.int.inj q))];constructor
    ·intro _;omega
    ·intro _;rfl
  ·rw[z,decide_eq_true (show((1:Int)=1) from rfl)];show(!decide (V.int ((x%2+y%2)%2)=V.int 1))=true↔_;by_cases c:(x%2+y%2)%2=1
   ·rw[decide_eq_true (congrArg V.int c)];constructor
    ·intro q;cases q
    ·intro q;omega
   ·rw[decide_eq_false (fun q=>c (V.int.inj q))];constructor
    ·intro _;omega
    ·intro _;rfl
 by_cases c:unp (decide (k.1=1)) (e.1:Int) (e.2:Int) (L:Int)=true
 ·rw[if_pos c,if_pos (key.mp c)]
 ·rw[if_neg c,if_neg fun z=>c (key.mpr z)]
theorem tV(a p:Nat):a^^^p^^^p=a:=by rw[Nat.xor_assoc,Nat.xor_self,Nat.xor_zero]
theorem CQ{m P:Nat}(hP:P<2^m):((lays (Na m)).map (·^^^P)).Perm (lays (Na m)):=by
 have nd:=vF _ (Na m) rfl Oz
 refine(N5 (O3.map _ (fun a b h e=>h (by
  have:a^^^P^^^P=b^^^P^^^P:=congrArg (·^^^P) e
  rwa[tV,tV]at this)) nd) nd).mpr fun L=>?_
 ·rw[jC (NS _),MR];constructor
  ·rintro⟨x,hx,rfl⟩;exact Nat.xor_lt_two_pow ((jC (NS _)).mp hx) hP
  ·intro h;exact⟨L^^^P,(jC (NS _)).mpr (Nat.xor_lt_two_pow h hP),tV L P⟩
def Trn(ks ks':Kn)(R:Nat):Prop:=ks'.length=ks.length/\∀(t:Nat)(k:Int×Int),ks[t]?=some k->ks'[t]?=some ((k.1+(if R.testBit t=true then 1 else 0))%2,k.2)
def Rim(es:En)(P R:Nat):Prop:=∀(t:Nat)(e:Nat×Nat),es[t]?=some e->R.testBit t=(P.testBit e.1 != P.testBit e.2)
def K01(ks:Kn):Prop:=∀(t:Nat)(k:Int×Int),ks[t]?=some k->k.1=0∨k.1=1
theorem bx(x p:Bool):(if(x ^^ p)=true then(1:Int) else 0)=((if x=true then 1 else 0)+(if p=true then 1 else 0))%2:=by cases x<;>cases p<;>rfl
theorem bn(x p:Bool):(if(x != p)=true then(1:Int) else 0)=((if x=true then 1 else 0)+(if p=true then 1 else 0))%2:=by cases x<;>cases p<;>rfl
theorem I8{es:En}{ks ks':Kn}{R P t L:Nat}{e:Nat×Nat}{k:Int×Int}(he:es[t]?=some e)(hk:ks[t]?=some k)(k01:k.1=0∨k.1=1)(hk':ks'[t]?=some ((k.1+(if R.testBit t=true then 1 else 0))%2,k.2))(hR:R.testBit t=(P.testBit e.1 != P.testBit e.2)):prT es ks' t L=prT es ks t (L^^^P):=by
 rw[gG he hk' (by show(k.1+_)%2=0∨(k.1+_)%2=1;omega),gG he hk k01]
 have a1:=bitD L e.1;have a2:=bitD L e.2;have b1:=bitD (L^^^P) e.1;have b2:=bitD (L^^^P) e.2;rw[Pg,bx]at b1 b2;rw[hR,bn];generalize (L:Int)/2^((e.1:Nat):Int).toNat=A at *;generalize (L:Int)/2^((e.2:Nat):Int).toNat=B at *;generalize ((L^^^P:Nat):Int)/2^((e.1:Nat):Int).toNat=C at *;generalize ((L^^^P:Nat):Int)/2^((e.2:Nat):Int).toNat=D at *;generalize (if L.testBit e.1=true then(1:Int) else 0)=x at *;generalize (if L.testBit e.2=true then(1:Int) else 0)=y at *;generalize (if P.testBit e.1=true then(1:Int) else 0)=p at *;generalize (if P.testBit e.2=true then(1:Int) else 0)=q at *;have:(A+B+(k.1+(p+q)%2)%2)%2=(C+D+k.1)%2:=by omega
 show(if(A+B+(k.1+(p+q)%2)%2)%2=1 then k.2 else 0)=_;rw[this]
theorem IE{es:En}{ks ks':Kn}{R P:Nat}(kl:ks.length=es.length)(k01:K01 ks)(h:Trn ks ks' R)(r:Rim es P R)(L:Nat):totC es ks' L=totC es ks (L^^^P):=by
 refine az fun t ht=>?_;have ht:=Ny.mp ht;obtain⟨e,he⟩:∃ e,es[t]?=some e:=⟨_,Mx ht⟩;obtain⟨k,hk⟩:∃ k,ks[t]?=some k:=⟨_,Mx (by omega)⟩
 exact I8 he hk (k01 t k hk) (h.2 t k hk) (r t e he)
theorem Lm{o:List Nat}{m:Nat}(ol:o.length=m)(nd:o.Nodup)(ob:∀ x∈o,x<m):o.Perm (Na m):=by
 refine(N5 nd Oz).mpr fun x=>⟨fun h=>Ny.mpr (ob x h),fun h=>?_⟩;by_cases z:x∈o
 ·exact z
 ·exfalso;have:=eO (MU.mpr ⟨z,nd⟩) (N:=m) fun y hy=>by
   rcases MG.mp hy with u | u
   ·rw[u];exact Ny.mp h
   ·exact ob y u
  rw[Nb]at this;omega
theorem Hst.sub{D E:Hs}{g:Int->Int}(h:Hst D g)(k:Hst E g):∀ e∈D,e∈E:=fun e he=>by
 obtain⟨a,b⟩:=h.ex e.1 e.2 he;obtain⟨y,hy,ey⟩:=MR.mp (k.al e.1 (by omega))
 have ey':y.1=e.1:=ey;have:=(k.ex y.1 y.2 hy).1;rw[ey',← a]at this;have:y=e:=Prod.ext ey' this;rw[← this];exact hy
theorem Hst.ndp{D:Hs}{g:Int->Int}(h:Hst D g):D.Nodup:=(NY.mp h.nd).imp fun n e=>n (by rw[e])
theorem Hst.two{D E:Hs}{g:Int->Int}(h:Hst D g)(k:Hst E g):D.Perm E:=(N5 h.ndp k.ndp).mpr fun e=>⟨h.sub k e,k.sub h e⟩
theorem z6{α:Type}{l:List α}{f:α->Int}(h:∀ x∈l,0<=f x):0<=sumL l f:=by
 have:=j8 (l:=l) (f:=fun _=>(0:Int)) (g:=f) h;rw[bO]at this;exact this
theorem tot_nn{es:En}{ks:Kn}(k0:∀ (t:Nat) (k:Int×Int),ks[t]?=some k->0<=k.2)(L:Nat):0<=totC es ks L:=by
 unfold totC;refine z6 fun t _=>?_;unfold prT;split
 ·unfold stg
  cases z:ks[t]? with
  |none=>exact N3 _
  |some k=>exact k0 t k z
 ·exact N3 _
theorem hA_ex{es:En}{ks:Kn}{m:Nat}{x:Int}(h:hA es ks m x≠0):∃ L∈lays (Na m),totC es ks L=x:=by
 by_cases z:∃ L∈lays (Na m),totC es ks L=x
 ·exact z
 ·refine absurd ?_ h;unfold hA;refine(az fun L hL=>?_).trans (bO (lays (Na m)));rw[decide_eq_false fun y=>z ⟨L,hL,y⟩];rfl
theorem Hist.nn{es:En}{ks:Kn}{m:Nat}{D:Hs}(h:Hist es ks m D)(k0:∀ (t:Nat) (k:Int×Int),ks[t]?=some k->0<=k.2):∀ e∈D,0<=e.1/\0<e.2:=fun e he=>by
 obtain⟨a,b⟩:=h.hs.ex e.1 e.2 he;obtain⟨L,_,q⟩:=hA_ex (show hA es ks m e.1≠0 by omega)
 rw[← q];exact⟨tot_nn k0 L,b⟩
theorem pd{α:Type}(l:List α)(f:α->Int)(c:Int):sumL l (fun x=>c*f x)=c*sumL l f:=by
 induction l with
 |nil=>rw[cG,cG,Int.mul_zero]
 |cons x l ih=>rw[aA,aA,ih,Int.mul_add]
theorem LU(b:Bool)(c:Int):c*ind b=if b=true then c else 0:=by
 unfold ind
 cases b<;>simp
theorem Du{es:En}{ks:Kn}{m:Nat}{D:Hs}(h:Hist es ks m D)(f:Int->Int):sumL D (fun e=>f e.1*e.2)=sumL (lays (Na m)) fun L=>f (totC es ks L):=by
 have e1:sumL D (fun e=>f e.1*e.2)=sumL D fun e=>sumL (lays (Na m)) fun L=>if totC es ks L=e.1 then f e.1 else 0:=az fun e he=>by
  rw[(h.hs.ex e.1 e.2 he).1];unfold hA;rw[← pd];refine az fun L _=>?_;rw[LU];by_cases z:totC es ks L=e.1
  ·rw[decide_eq_true z,if_pos rfl,if_pos z]
  ·rw[decide_eq_false z,if_neg MQ,if_neg z]
 rw[e1,gf];refine az fun L hL=>?_;have pos:hA es ks m (totC es ks L)≠0:=by
  have:1<=hA es ks m (totC es ks L):=by
   unfold hA;obtain⟨l1,l2,e⟩:=O1 hL;rw[e,fk,aA,decide_eq_true rfl];have a:0<=sumL l1 fun M=>ind (decide (totC es ks M=totC es ks L)):=z6 fun M _=>by unfold ind;split<;>decide
   have b:0<=sumL l2 fun M=>ind (decide (totC es ks M=totC es ks L)):=z6 fun M _=>by unfold ind;split<;>decide
   have c:ind true=1:=rfl;omega
  omega
 obtain⟨e,he,ee⟩:=MR.mp (h.hs.al _ pos);have ee':e.1=totC es ks L:=ee;have q:=ju (fun y:Int×Int=>y.1) (l:=D) (x:=e) (fun y=>f y.1) h.hs.nd he;rw[ee']at q;exact q
theorem qA(m:Nat):((lays (Na m)).length:Int)=((2^m:Nat):Int):=by rw[Dt,N0]
theorem Dv{es:En}{ks:Kn}{m:Nat}{D:Hs}(h:Hist es ks m D):(D.map (·.2)).sum=((2^m:Nat):Int):=by
 have:=Du h fun _=>1;have e1:sumL D (fun e=>1*e.2)=(D.map (·.2)).sum:=by
  show(D.map fun e=>1*e.2).sum=_;congr 1;exact OT fun e _=>Int.one_mul _
 rw[← e1,this,jv];exact qA m
def ttl(ks:Kn):Int:=(ks.map (·.2)).sum
theorem pN(f:Nat->Int):∀ n,sumL (Na (n+1)) f=sumL (Na n) f+f n:=fun n=>by
 rw[List.range_succ,fk,aA,cG,NP]
theorem Fs(ks:Kn):ttl ks=sumL (Na ks.length) (stg ks):=by
 have go:∀ n,n<=ks.length->((ks.take n).map (·.2)).sum=sumL (Na n) (stg ks):=fun n=>by
  induction n with
  |zero=>intro _;rfl
  |succ n ih =>
   intro hn;obtain⟨k,hk⟩:∃ k,ks[n]?=some k:=⟨_,Mx (by omega)⟩
   have es:stg ks n=k.2:=by unfold stg;rw[hk]
   rw[M1,hk,M8,PR,ih (by omega),pN,es]
   simp
 have:=go ks.length (MC _);rw[Ni]at this;exact this
theorem Jb{es:En}{ks:Kn}{t L:Nat}{e:Nat×Nat}{k:Int×Int}(he:es[t]?=some e)(hk:ks[t]?=some k)(k01:k.1=0∨k.1=1)(ne:e.1≠e.2):prT es ks t L+prT es ks t (L^^^2^e.1)=k.2:=by
 rw[gG he hk k01,gG he hk k01];have a1:=bitD L e.1;have a2:=bitD L e.2;have b1:=bitD (L^^^2^e.1) e.1;have b2:=bitD (L^^^2^e.1) e.2;rw[Pg,Nq,decide_eq_true rfl]at b1;rw[Pg,Nq,decide_eq_false ne,Bool.xor_false]at b2;generalize (L:Int)/2^((e.1:Nat):Int).toNat=A at *;generalize (L:Int)/2^((e.2:Nat):Int).toNat=B at *;generalize ((L^^^2^e.1:Nat):Int)/2^((e.1:Nat):Int).toNat=C at *;generalize ((L^^^2^e.1:Nat):Int)/2^((e.2:Nat):Int).toNat=D at *;have hb:B%2=D%2:=by rw[a2,b2]
 have ha:A%2+C%2=1:=by
  rw[a1,b1]
  cases L.testBit e.1<;>rfl
 by_cases c:(A+B+k.1)%2=1
 ·rw[if_pos c,if_neg (by omega),NP]
 ·rw[if_neg c,if_pos (by omega),NO]
theorem IG{es:En}{ks:Kn}{m t:Nat}{e:Nat×Nat}{k:Int×Int}(he:es[t]?=some e)(hk:ks[t]?=some k)(k01:k.1=0∨k.1=1)(ne:e.1≠e.2)(hb:e.1<m):2*sumL (lays (Na m)) (prT es ks t)=k.2*((2^m:Nat):Int):=by
 have h1:sumL (lays (Na m)) (prT es ks t)=sumL (lays (Na m)) fun L=>prT es ks t (L^^^2^e.1):=by
  rw[← pO (CQ (Nat.pow_lt_pow_right (by decide) hb)),uc]
 have h2:sumL (lays (Na m)) (prT es ks t)+sumL (lays (Na m)) (fun L=>prT es ks t (L^^^2^e.1))=sumL (lays (Na m)) fun _=>k.2*1:=by
  rw[← fm];exact az fun L _=>by rw[Jb he hk k01 ne,Int.mul_one]
 rw[pd,jv,qA]at h2;omega
theorem Hh{es:En}{ks:Kn}{m:Nat}{D:Hs}(h:Hist es ks m D)(kl:ks.length=es.length)(k01:K01 ks)(hbd:∀ e∈es,e.1<m/\e.2<m/\e.1≠e.2):2*(D.map fun e=>e.1*e.2).sum=ttl ks*((2^m:Nat):Int):=by
 have e1:=Du h fun x=>x;have e1':(D.map fun e=>e.1*e.2).sum=sumL (lays (Na m)) (totC es ks):=e1;rw[e1'];have sw:sumL (lays (Na m)) (totC es ks)=sumL (Na es.length) fun t=>sumL (lays (Na m)) (prT es ks t):=by
  unfold totC;rw[gf]
 rw[sw,Fs,kl,← pd];have:sumL (Na es.length) (stg ks)*((2^m:Nat):Int)=sumL (Na es.length) fun t=>((2^m:Nat):Int)*stg ks t:=by rw[pd,Int.mul_comm]
 rw[this];refine az fun t ht=>?_;have ht:=Ny.mp ht;obtain⟨e,he⟩:∃ e,es[t]?=some e:=⟨_,Mx ht⟩;obtain⟨k,hk⟩:∃ k,ks[t]?=some k:=⟨_,Mx (by omega)⟩
 obtain⟨b1,_,ne⟩:=hbd e (My he);have es':stg ks t=k.2:=by unfold stg;rw[hk]
 rw[IG he hk (k01 t k hk) ne b1,es',Int.mul_comm]
theorem Ik{g:Int->Int}:∀{D E:Hs},(D.Pairwise fun x y=>x.1<y.1)->(E.Pairwise fun x y=>x.1<y.1)->D.Perm E->D=E
 |[],E,_,_,p=>(List.Perm.eq_nil p.symm).symm
 |x::D,[],_,_,p=>List.Perm.eq_nil p
 |x::D,y::E,hD,hE,p=>by
  have hx:x∈y::E:=p.mem_iff.mp MV;have hy:y∈x::D:=p.mem_iff.mpr MV;have e:x=y:=by
   rcases MG.mp hx with z | z
   ·exact z
   ·rcases MG.mp hy with z2 | z2
    ·exact z2.symm
    ·have a:=(Oj.mp hE).1 x z
     have b:=(Oj.mp hD).1 y z2;omega
  subst e;rw[Ik (g:=g) (Oj.mp hD).2 (Oj.mp hE).2 ((List.perm_cons x).mp p)]
theorem BS{g:Int->Int}{D E:Hs}(hD:D.Pairwise fun x y=>x.1<y.1)(hE:E.Pairwise fun x y=>x.1<y.1)(h:Hst D g)(k:Hst E g):D=E:=Ik (g:=g) hD hE (h.two k)
theorem Hist.one{es:En}{ks ks':Kn}{m:Nat}{D E:Hs}(h:Hist es ks m D)(k:Hist es ks' m E)(e:∀ x,hA es ks' m x=hA es ks m x):E=D:=BS k.up h.up k.hs (h.hs.cg fun x=>(e x).symm)
theorem LY{es:En}{ks ks':Kn}{m R P:Nat}(kl:ks.length=es.length)(k01:K01 ks)(h:Trn ks ks' R)(r:Rim es P R)(hP:P<2^m)(x:Int):hA es ks' m x=hA es ks m x:=by
 unfold hA;rw[← pO (CQ hP) fun L=>ind (decide (totC es ks L=x)),uc];refine az fun L _=>?_;rw[IE kl k01 h r]
theorem Ja{es:En}{ks ks':Kn}{t L:Nat}{e:Nat×Nat}{k:Int×Int}(he:es[t]?=some e)(hk:ks[t]?=some k)(k01:k.1=0∨k.1=1)(hk':ks'[t]?=some ((k.1+1)%2,k.2)):prT es ks' t L=k.2-prT es ks t L:=by
 rw[gG he hk' (by show(k.1+1)%2=0∨(k.1+1)%2=1;omega),gG he hk k01]
 generalize (L:Int)/2^((e.1:Nat):Int).toNat=A at *;generalize (L:Int)/2^((e.2:Nat):Int).toNat=B at *;show(if(A+B+(k.1+1)%2)%2=1 then k.2 else 0)=_;by_cases c:(A+B+k.1)%2=1
 ·rw[if_pos c,if_neg (by omega),Int.sub_self]
 ·rw[if_neg c,if_pos (by omega),Int.sub_zero]
theorem IL{α:Type}(l:List α)(f g:α->Int):sumL l (fun x=>f x-g x)=sumL l f-sumL l g:=by
 induction l with
 |nil=>rfl
 |cons x l ih=>rw[aA,aA,aA,ih];omega
theorem IF{es:En}{ks ks':Kn}(kl:ks.length=es.length)(k01:K01 ks)(h:Trn ks ks' (2^es.length-1))(L:Nat):totC es ks' L=ttl ks-totC es ks L:=by
 rw[Fs,kl];unfold totC;rw[← IL];refine az fun t ht=>?_;have ht:=Ny.mp ht;obtain⟨e,he⟩:∃ e,es[t]?=some e:=⟨_,Mx ht⟩;obtain⟨k,hk⟩:∃ k,ks[t]?=some k:=⟨_,Mx (by omega)⟩
 have es':stg ks t=k.2:=by unfold stg;rw[hk]
 have hk':=h.2 t k hk;rw[Qk,decide_eq_true ht,if_pos rfl]at hk';rw[es',Ja he hk (k01 t k hk) hk']
theorem Hi{es:En}{ks ks':Kn}{m:Nat}{D E:Hs}(kl:ks.length=es.length)(k01:K01 ks)(h:Trn ks ks' (2^es.length-1))(hD:Hist es ks m D)(hE:Hist es ks' m E):E=D.reverse.map fun e=>(ttl ks-e.1,e.2):=by
 refine BS hE.up ?_ (hE.hs.cg (g':=fun x=>hA es ks m (ttl ks-x)) fun x=>?_) ?_
 ·refine NY.mpr ((List.pairwise_reverse.mpr hD.up).imp fun{a b} h=>?_);show ttl ks-a.1<ttl ks-b.1;omega
 ·unfold hA;refine az fun L _=>?_;rw[IF kl k01 h];congr 1;exact decide_eq_decide.mpr ⟨fun z=>by omega,fun z=>by omega⟩
 ·have ek:((D.reverse.map fun e=>(ttl ks-e.1,e.2)).map (·.1))=(D.map (·.1)).reverse.map fun x=>ttl ks-x:=by
   rw[NZ,← List.map_reverse,NZ];rfl
  refine⟨?_,fun x n hn=>?_,fun x hx=>?_⟩
  ·rw[ek];exact O3.map _ (fun a b (h:a≠b) e=>h (by omega)) (List.pairwise_reverse.mpr (hD.hs.nd.imp fun h=>Ne.symm h))
  ·obtain⟨e,he,e2⟩:=MR.mp hn
   cases e2
   have q:=hD.hs.ex e.1 e.2 (List.mem_reverse.mp he);have:ttl ks-(ttl ks-e.1)=e.1:=by omega
   rw[this];exact q
  ·rw[ek];refine MR.mpr ⟨ttl ks-x,List.mem_reverse.mpr (hD.hs.al _ hx),by omega⟩
def SetK(ks ks':Kn)(at':Nat)(k:Int×Int):Prop:=ks'.length=ks.length/\ks'[at']?=some k/\∀ t,t≠at'->ks'[t]?=ks[t]?
theorem I9{es:En}{ks ks':Kn}{t L:Nat}(h:ks'[t]?=ks[t]?):prT es ks' t L=prT es ks t L:=by
 unfold prT U stg;rw[h]
theorem Ft{es:En}{ks k1 k2:Kn}{at':Nat}{a b:Int×Int}(h1:SetK ks k1 at' a)(h2:SetK ks k2 at' b)(ha:at'<es.length)(L:Nat):totC es k1 L-prT es k1 at' L=totC es k2 L-prT es k2 at' L:=by
 have go:∀ n,sumL (Na n) (fun t=>prT es k1 t L)-(if at'<n then prT es k1 at' L else 0)=sumL (Na n) (fun t=>prT es k2 t L)-(if at'<n then prT es k2 at' L else 0):=fun n=>by
  induction n with
  |zero=>rw[if_neg (OD _),if_neg (OD _)];rfl
  |succ n ih =>
   rw[pN,pN];by_cases c:at'=n
   ·subst c;rw[if_neg (NH _),if_neg (NH _)]at ih;rw[if_pos (NU _),if_pos (NU _)];omega
   ·have e:prT es k1 n L=prT es k2 n L:=I9 ((h1.2.2 n (Ne.symm c)).trans (h2.2.2 n (Ne.symm c)).symm)
    rw[e];by_cases d:at'<n
    ·rw[if_pos d,if_pos d]at ih;rw[if_pos (by omega),if_pos (by omega)]
     omega
    ·rw[if_neg d,if_neg d]at ih;rw[if_neg (by omega),if_neg (by omega)]
     omega
 have:=go es.length;rw[if_pos ha,if_pos ha]at this;exact this
theorem LZ{es:En}{ks k0 k1 k2:Kn}{m at':Nat}{st w:Int}(hw:w=0∨w=1)(h0:SetK ks k0 at' (0,st))(h1:SetK ks k1 at' (1,st))(h2:SetK ks k2 at' (w,0))(ha:at'<es.length)(x:Int):hA es k0 m x+hA es k1 m (x-0)=hA es k2 m x+hA es k2 m (x-st):=by
 unfold hA;rw[← fm,← fm];refine az fun L _=>?_;obtain⟨e,he⟩:∃ e,es[at']?=some e:=⟨_,Mx ha⟩;have p0:=gG (L:=L) he h0.2.1 (.inl rfl);have p1:=gG (L:=L) he h1.2.1 (.inr rfl);have p2:=gG (L:=L) he h2.2.1 hw;have t1:=Ft h0 h2 ha L;have t2:=Ft h1 h2 ha L;rw[ite_self]at p2;generalize (L:Int)/2^((e.1:Nat):Int).toNat=A at *;generalize (L:Int)/2^((e.2:Nat):Int).toNat=B at *;have q0:prT es k0 at' L=if(A+B+0)%2=1 then st else 0:=p0;have q1:prT es k1 at' L=if(A+B+1)%2=1 then st else 0:=p1;rw[p2]at t1 t2;by_cases c:(A+B)%2=1
 ·rw[if_pos (by omega)]at q0
  rw[if_neg (by omega)]at q1
  rw[show totC es k0 L=totC es k2 L+st by omega,show totC es k1 L=totC es k2 L by omega,Int.sub_zero,Int.add_comm]
  congr 2;exact decide_eq_decide.mpr ⟨fun z=>by omega,fun z=>by omega⟩
 ·rw[if_neg (by omega)]at q0
  rw[if_pos (by omega)]at q1
  rw[show totC es k0 L=totC es k2 L by omega,show totC es k1 L=totC es k2 L+st by omega,Int.sub_zero]
  congr 2;exact decide_eq_decide.mpr ⟨fun z=>by omega,fun z=>by omega⟩
end K8
namespace K8
open PySem L2
local macro_rules | `(tactic| walk_at "cc") => `(tactic| first | exact ⟨by decide, by decide⟩ | (show (0 : Int) < _; decide) | (show (0 : Int) < _; omega) | (show (0 : Int) ≤ _; omega) | exact ⟨by decide, by decide, by decide⟩ | exact ⟨by omega, by omega, by decide⟩ | exact Or.inl ⟨by decide, by decide⟩ | exact Or.inl ⟨by omega, by omega⟩)
local macro_rules | `(tactic| walk_at "rd") => `(tactic| repeat (first | refine ⟨_, rfl, ?_⟩ | refine ⟨_, _, rfl, rfl, ?_⟩ | refine ⟨rfl, ?_⟩ | (refine ⟨?cc, ?_⟩; (case cc => walk_at "cc"))))
namespace K2
theorem add_bit{n p:Nat}(h:n.testBit p=false)(i:Nat):(n+2^p).testBit i=(n.testBit i||decide (i=p)):=by
 have e:n+2^p=n|||2^p:=by
  have hz:n&&&2^p=0:=by
   apply NR;intro j;rw[Oe,Nq,NT];by_cases hj:p=j
   ·subst hj;simp[h]
   ·simp[hj]
  have q:∀ m k:Nat,(m|||k)+(m&&&k)=m+k:=by
   intro m;induction m using Nat.strongRecOn with
   |ind m ih =>
    intro n;by_cases h0:m=0
    ·subst h0;simp
    ·have ih':=ih (m/2) (by omega) (n/2)
     rw[← Nat.or_div_two,← Nat.and_div_two]at ih';have o1:=@Nat.or_mod_two_eq_one m n;have a1:=@Nat.and_mod_two_eq_one m n;omega
  have:=q n (2^p);rw[hz]at this;omega
 rw[e,NQ,Nq];congr 1;exact decide_eq_decide.mpr ⟨fun h=>h.symm,fun h=>h.symm⟩
end K2
theorem Ku{n p:Nat}(h:n.testBit p=false):n+2^p=n|||2^p:=by
 apply NR;intro i;rw[K2.add_bit h,NQ,Nq];by_cases e:i=p
 ·subst e;simp
 ·have:¬ p=i:=fun z=>e z.symm
  simp[e,this]
def KZ:Sp:=fun vs H Q _=>∃(t pe pt pk:Addr)(m R:Nat)(es:En)(ts:List (List Nat))(ks:Kn),vs = [.ref t,.int (R:Int)]/\iz H t pe pt pk m es ts ks/\∀(t' pk':Addr)(ks':Kn)(H':Hp),Same H H'->iz H' t' pe pt pk' m es ts ks'->Trn ks ks' R->Q (.ref t') H'
def K0(K:Mz):Sp:=fun vs H Q _=>∃(a:Addr)(ys:List V)(es:En)(P m:Nat),vs = [.ref a,.int (P:Int)]/\SqL K H a ys/\cF H ys es/\es.length<=60/\m<=40/\(∀ e∈es,e.1<m/\e.2<m)/\∀(R:Nat)(H':Hp),Same H H'->Rim es P R->Q (.int (R:Int)) H'
def FA:Sp:=fun vs H Q _=>∃(v:V)(p:Pr),vs = [v]/\PrAt H v p/\Q (.bl true) H
def LstH(H:Hp)(q:Addr)(D:Hs):Prop:=∃ rows,H q=some (.lst rows)/\LsAt PrAt H rows D
theorem LstH.mono{H H':Hp}{q:Addr}{D:Hs}(h:LstH H q D)(s:Same H H'):LstH H' q D:=let ⟨r,a,b⟩:=h;⟨r,s _ _ a,b.imp fun _ _ z=>z.mono s⟩
def UpD(D:Hs):Prop:=D.Pairwise fun x y=>x.1<y.1
def uj:Sp:=fun vs H Q _=>∃(q:Addr)(D:Hs),vs = [.ref q]/\LstH H q D/\UpD D/\(∀ e∈D,0<=e.1/\0<e.2)/\Q (.bl true) H
def Fy:Sp:=fun vs H Q _=>∃(t pe pt pk r:Addr)(m a:Nat)(es:En)(ts:List (List Nat))(ks:Kn)(k:Int×Int),vs = [.ref t,.int (a:Int),.ref r]/\iz H t pe pt pk m es ts ks/\a<ks.length/\H r=some (.tup [.int k.1,.int k.2])/\(k.1=0∨k.1=1)/\0<=k.2/\∀(t' pk':Addr)(H':Hp),Same H H'->iz H' t' pe pt pk' m es ts (ks.set a k)->Q (.ref t') H'
def Fz:Sp:=fun vs H Q _=>∃(a b:Addr)(mo:Int)(A B:Hs)(g h:Int->Int),vs = [.ref a,.ref b,.int mo]/\LstH H a A/\LstH H b B/\Hst A g/\Hst B h/\A.length<=2000/\B.length<=2000/\∀(q:Addr)(D:Hs)(H':Hp),Same H H'->LstH H' q D->UpD D->Hst D (fun x=>g x+h (x-mo))->Q (.ref q) H'
theorem Lc{ks:Kn}{a:Nat}{k:Int×Int}(h:a<ks.length):SetK ks (ks.set a k) a k:=⟨Nt,by rw[N6 h],fun t n=>Oo (Ne.symm n)⟩
section
variable{P:Program}{w:World}{K:Mz}{mg:Str->Option Value}{base:Heap}
theorem As:aG ["found"] ["found"] (aj d8):=⟨rfl,rfl,rfl,by decide +kernel,rfl,by decide +kernel,by decide +kernel⟩
theorem Ls{f fw:Addr}{fd fdw:FuncData} (F:Fun K "_law_pair" "_law_pair" d8 f fd) (T:Txt mg) (G_law_whole:Cal P w K mg base 1 "_law_whole" ["found"] K3 fw fdw):FnOk P w K mg base CX0 2 f fd ["found"] FA:=by
 refine F.ok As (fun vs H Q E h=>?_) (fun cdv A outer s H vs Q E hr h=>?_)
 ·obtain⟨v,p,rfl,_⟩:=h;rfl
 obtain⟨v,p,rfl,⟨t,rfl,ht⟩,k⟩:=h
 refine⟨_,(ag (c7 (PW.pt (rZ (pT (nI (aF pG (by rfl) T.n_isinstance dZ (aa (pv 0) (aa (u6 (v:=.ty "tuple") rfl T.n_tuple JR rfl) ah))))) (nH (aL qd (aF ay (by rfl) T.n_len bL (aa (pv 0) ah)) ai (aV _))))) (ao (aN sh)) aZ)
   (ao (aN (Kg (ar G_law_whole.ok (hr.mono (by decide)) rfl G_law_whole.mg G_law_whole.kp G_law_whole.bn .nil aR (aa (aE aH (pv 0) ai (fun _ _=>rfl)) ah)) (Kf (ar G_law_whole.ok (hr.mono (by decide)) rfl G_law_whole.mg G_law_whole.kp G_law_whole.bn .nil aR (aa (aE aH (pv 0) ai (fun _ _=>rfl)) ah))))))),?_⟩
 refine⟨_,rfl,_,_,_,_,_,rfl,TyOf.tup ht,Or.inl ⟨_,rfl,rfl⟩,kit_tt K,_,rfl,iteF ?_⟩;refine⟨_,rfl,t,_,rfl,.inr (SqT.of ht),rfl,_,rfl,G1 rfl ?_⟩;refine⟨_,rfl,t,_,0,_,rfl,rfl,SqT.of ht,at0,p.1,rfl,_,rfl,iteT ?_⟩;exact⟨_,rfl,t,_,1,_,rfl,rfl,SqT.of ht,at1,p.2,rfl,k⟩
theorem jx:aG ["ends","patch","ties","k"] ["ends","patch"] (aj gk):=⟨rfl,rfl,rfl,by decide +kernel,rfl,by decide +kernel,by decide +kernel⟩
theorem ok_rim{f:Addr}{fd:FuncData} (F:Fun K "_law_rim" "_law_rim" gk f fd) (T:Txt mg):FnOk P w K mg base CX0 1 f fd ["ends","patch"] (K0 K):=by
 refine F.ok jx (fun vs H Q E h=>?_) (fun cdv A outer s H vs Q E hr h=>?_)
 ·obtain⟨a,ys,es,Pm,m,rfl,_⟩:=h;rfl
 obtain⟨a,ys,es,Pm,m,rfl,hS,hE,e60,m40,hbd,kk⟩:=h;have hyl:ys.length=es.length:=hE.1
 refine⟨_,(ag (au (i:=2) jx.nd rfl (Or.inl rfl) ai)
   (ag (bP PassesOwn.never rfl (b4 rfl T.n_range (aa (aF ay (by rfl) T.n_len bL (aa (pv 0) ah)) ah)) (aK (i:=3) jx.nd rfl (Or.inl rfl)) (ao (c7 (aL qg (av bI (av bJ (av qc (pv 1) (aE aH (aE aP (pv 0) (pv 3) (fun _ _=>rfl)) ai (fun _ _=>rfl))) (av qc (pv 1) (aE aH (aE aP (pv 0) (pv 3) (fun _ _=>rfl)) ai (fun _ _=>rfl)))) ai) ai (aV _)) (ao (au (i:=2) jx.nd rfl (Or.inl rfl) (av bJ (pv 2) (av fx ai (pv 3))))) aZ)))
   (ao (aN (pv 2))))),?_⟩
 refine⟨_,rfl,a,ys,rfl,.inl hS,_,rfl,by omega,by omega,dv (n:=(ys.length:Int).toNat) (fun i σ H2=>∃(R:Nat)(v3:Option V),σ = [some (.ref a),some (.int (Pm:Int)),some (.int (R:Int)),v3]/\H2=H/\(∀ t,i<=t->R.testBit t=false)/\∀(t:Nat)(e:Nat×Nat),t<i->es[t]?=some e->R.testBit t=(Pm.testBit e.1 != Pm.testBit e.2)) ⟨0,_,rfl,rfl,fun t _=>NT t,fun t e z=>by omega⟩ ?_ ?_⟩
 ·rintro i σ H2 hi ⟨R,v3,rfl,rfl,hz,hr'⟩;rw[Nc,hyl]at hi;have e0:(0:Int)+(i:Int)=(i:Int):=NO _;rw[e0];obtain⟨e,he⟩:∃ e,es[i]?=some e:=⟨_,Mx hi⟩;obtain⟨t,x1,x2⟩:=hE.2 i e he;obtain⟨b1,b2⟩:=hbd e (My he);have d1:=bitD Pm e.1;have d2:=bitD Pm e.2;refine⟨_,rfl,_,rfl,_,rfl,a,ys,_,_,rfl,rfl,hS,aM x1,t,_,0,_,rfl,rfl,SqT.of x2,at0,_,_,rfl,rfl,by omega,_,rfl,_,rfl,_,rfl,a,ys,_,_,rfl,rfl,hS,aM x1,t,_,1,_,rfl,rfl,SqT.of x2,at1,_,_,rfl,rfl,by omega,_,_,rfl,rfl,_,_,rfl,rfl,(by show(0:Int)<2;decide),rfl,_,rfl,?_⟩
  have dif:((Pm:Int)/2^((e.1:Nat):Int).toNat+(Pm:Int)/2^((e.2:Nat):Int).toNat)%2=if(Pm.testBit e.1 != Pm.testBit e.2)=true then 1 else 0:=by
   rw[bn];omega
  refine ite2 (fun c=>?_) (fun c=>?_)
  ·have c':((Pm:Int)/2^((e.1:Nat):Int).toNat+(Pm:Int)/2^((e.2:Nat):Int).toNat)%2=1:=V.int.inj (of_decide_eq_true c)
   have on:(Pm.testBit e.1 != Pm.testBit e.2)=true:=by
    cases z:(Pm.testBit e.1 != Pm.testBit e.2) with
    |true=>rfl
    |false=>rw[dif,z,if_neg MQ]at c';cases c'
   refine⟨_,rfl,_,rfl,_,_,rfl,rfl,⟨by omega,by omega,by decide⟩,_,_,rfl,rfl,?_⟩
   refine⟨R+2^i,some (.int (i:Int)),?_,rfl,fun t ht=>?_,fun t e' ht he'=>?_⟩
   ·have:(R:Int)+1*2^((i:Nat):Int).toNat=((R+2^i:Nat):Int):=by rw[shlN];omega
    show[some (V.ref a),some (V.int (Pm:Int)),some (V.int ((R:Int)+1*2^((i:Nat):Int).toNat)),some (V.int (i:Int))]=_;rw[this]
   ·rw[Ku (hz i (MC _)),NQ,hz t (by omega),Nq,decide_eq_false (by omega)]
    rfl
   ·rw[Ku (hz i (MC _)),NQ,Nq];by_cases ti:t<i
    ·rw[hr' t e' ti he',decide_eq_false (by omega),Pe]
    ·have:t=i:=by omega
     subst this;rw[he]at he'
     cases he'
     rw[on,decide_eq_true rfl,Bool.or_true]
  ·have c':¬ ((Pm:Int)/2^((e.1:Nat):Int).toNat+(Pm:Int)/2^((e.2:Nat):Int).toNat)%2=1:=fun z=>c (decide_eq_true (congrArg V.int z))
   refine⟨R,_,rfl,rfl,fun t ht=>hz t (by omega),fun t e' ht he'=>?_⟩
   by_cases ti:t<i
   ·exact hr' t e' ti he'
   ·have:t=i:=by omega
    subst this;rw[he]at he'
    cases he'
    rw[hz t (MC _)]
    cases z:(Pm.testBit e.1 != Pm.testBit e.2) with
    |false=>rfl
    |true=>rw[dif,z,if_pos rfl]at c';exact absurd rfl c'
 ·rintro σ H2 ⟨R,v3,rfl,rfl,hz,hr'⟩;refine⟨_,rfl,kk R _ (fun _ _ z=>z) fun t e he=>hr' t e ?_ he⟩;rw[Nc,hyl];exact(Mw.mp he).1
theorem gz:aG ["built","ties","told","k"] ["built","ties"] (aj cp):=⟨rfl,rfl,rfl,by decide +kernel,rfl,by decide +kernel,by decide +kernel⟩
theorem ok_trn{f:Addr}{fd:FuncData} (F:Fun K "_law_turned" "_law_turned" cp f fd) (T:Txt mg):FnOk P w K mg base CX0 1 f fd ["built","ties"] KZ:=by
 refine F.ok gz (fun vs H Q E h=>?_) (fun cdv A outer s H vs Q E hr h=>?_)
 ·obtain⟨t,pe,pt,pk,m,R,es,ts,ks,rfl,_⟩:=h;rfl
 obtain⟨t,pe,pt,pk,m,R,es,ts,ks,rfl,bp,kk⟩:=h;have few:=bp.few;have kl:=bp.kl;obtain⟨ht,wp,⟨ws,hpk,hT⟩,_,_⟩:=id bp;have hwl:ws.length=ks.length:=hT.1
 refine⟨_,(ag (au (i:=2) gz.nd rfl (Or.inl rfl) (dH ah))
   (ag (bP PassesOwn.never rfl (b4 rfl T.n_range (aa (aF ay (by rfl) T.n_len bL (aa (aE aH (pv 0) ai (fun _ _=>rfl)) ah)) ah)) (aK (i:=3) gz.nd rfl (Or.inl rfl)) (ao (bt (fX M5 Np Nn br (pv 2) (aa (cB (aa (av bI (av bJ (aE aH (aE aP (aE aH (pv 0) ai (fun _ _=>rfl)) (pv 3) (fun _ _=>rfl)) ai (fun _ _=>rfl)) (av qc (pv 1) (pv 3))) ai) (aa (aE aH (aE aP (aE aH (pv 0) ai (fun _ _=>rfl)) (pv 3) (fun _ _=>rfl)) ai (fun _ _=>rfl)) ah))) ah)))))
   (ao (aN (cB (aa (aE aH (pv 0) ai (fun _ _=>rfl)) (aa (aE aH (pv 0) ai (fun _ _=>rfl)) (aa (pv 2) ah)))))))),?_⟩
 refine⟨(by show 0<=sizeLine;exact NA _),fun q hq=>?_⟩
 have s1:=ak hq (.lst []);refine⟨_,rfl,t,_,2,_,rfl,rfl,SqT.of (s1 _ _ ht),at32,pk,ws,rfl,.inl (SqL.of (s1 _ _ hpk)),_,rfl,by omega,by omega,dv (n:=(ws.length:Int).toNat) (fun i σ H2=>∃(zs:List V)(k2:Kn)(v3:Option V),σ = [some (.ref t),some (.int (R:Int)),some (.ref q),v3]/\Same H H2/\H2 q=some (.lst zs)/\gw H2 zs k2/\k2.length=i/\∀(n:Nat)(k:Int×Int),n<i->ks[n]?=some k->k2[n]?=some ((k.1+(if R.testBit n=true then 1 else 0))%2,k.2)) ⟨[],[],_,rfl,s1,ae,⟨rfl,fun i k e=>by simp at e⟩,rfl,fun n k z=>by omega⟩ ?_ ?_⟩
 ·rintro i σ H2 hi ⟨zs,k2,v3,rfl,s2,hq2,td,kl2,hk2⟩;rw[Nc,hwl]at hi;have e0:(0:Int)+(i:Int)=(i:Int):=NO _;rw[e0];obtain⟨k,hk⟩:∃ k,ks[i]?=some k:=⟨_,Mx hi⟩;obtain⟨k01,k0,t2,z1,z2⟩:=hT.2 i k hk;have zl:zs.length=i:=by rw[td.1,kl2]
  have d1:=bitD R i;have ev:(k.1+(R:Int)/2^((i:Nat):Int).toNat)%2=(k.1+(if R.testBit i=true then 1 else 0))%2:=by rw[← d1];omega
  refine⟨_,rfl,.inl ⟨rfl,_,SqL.of hq2⟩,_,rfl,t,_,2,_,rfl,rfl,SqT.of (s2 _ _ ht),at32,_,rfl,pk,ws,_,_,rfl,rfl,SqL.of (s2 _ _ hpk),aM z1,t2,_,0,_,rfl,rfl,SqT.of (s2 _ _ z2),at0,_,rfl,_,rfl,_,_,rfl,rfl,by omega,_,_,rfl,rfl,_,_,rfl,rfl,(by show(0:Int)<2;decide),_,rfl,t,_,2,_,rfl,rfl,SqT.of (s2 _ _ ht),at32,_,rfl,pk,ws,_,_,rfl,rfl,SqL.of (s2 _ _ hpk),aM z1,t2,_,1,_,rfl,rfl,SqT.of (s2 _ _ z2),at1,(by show 2<=sizeLine;decide),fun t3 ht3=>?_⟩
  dsimp only;rw[ev];have s3:=ak ht3 (.tup [.int ((k.1+(if R.testBit i=true then 1 else 0))%2),.int k.2]);have n3:t3≠q:=fun z=>by rw[z,hq2]at ht3;cases ht3
  refine⟨q,zs,_,rfl,rfl,s3 _ _ hq2,ax (by omega),?_⟩
  refine⟨zs++[.ref t3],k2++[((k.1+(if R.testBit i=true then 1 else 0))%2,k.2)],_,rfl,aW (s2.trans s3) hq _,ae,?_,by rw[MA,kl2];rfl,fun n k' hn hk'=>?_⟩
  ·have td3:=(td.mono s3).snoc (k:=((k.1+(if R.testBit i=true then 1 else 0))%2,k.2)) ae (by show(k.1+_)%2=0∨(k.1+_)%2=1;omega) k0
   refine⟨td3.1,fun n k' e=>?_⟩;obtain⟨y1,y2,p,y3,y4⟩:=td3.2 n k' e;refine⟨y1,y2,p,y3,?_⟩;rw[aq (fun z=>by rw[z,s3 _ _ hq2]at y4;cases y4)]
   exact y4
  ·by_cases ni:n<i
   ·rw[MF (by omega)]
    exact hk2 n k' ni hk'
   ·have:n=i:=by omega
    subst this;rw[hk]at hk'
    cases hk'
    rw[MB (by omega),kl2,M7]
    rfl
 ·rintro σ H2 ⟨zs,k2,v3,rfl,s2,hq2,td,kl2,hk2⟩;rw[Nc,hwl]at kl2 hk2;refine⟨_,rfl,t,_,0,_,rfl,rfl,SqT.of (s2 _ _ ht),at30,_,rfl,t,_,1,_,rfl,rfl,SqT.of (s2 _ _ ht),at31,_,rfl,(by show 3<=sizeLine;decide),fun t4 ht4=>?_⟩
  have s4:=ak ht4 (.tup [.ref pe,.ref pt,.ref q]);have s24:=s2.trans s4;exact kk t4 q k2 _ s24 ⟨ae,wp.mono s24,⟨zs,s4 _ _ hq2,td.mono s4⟩,few,by omega⟩ ⟨kl2,fun n k hk=>hk2 n k (Mw.mp hk).1 hk⟩
theorem dQ:aG ["found","last","row"] ["found"] (aj cv):=⟨rfl,rfl,rfl,by decide +kernel,rfl,by decide +kernel,by decide +kernel⟩
theorem Gj{f fw:Addr}{fd fdw:FuncData} (F:Fun K "_law_listed" "_law_listed" cv f fd) (T:Txt mg) (G_law_pair:Cal P w K mg base 2 "_law_pair" ["found"] FA fw fdw):FnOk P w K mg base CX0 3 f fd ["found"] uj:=by
 refine F.ok dQ (fun vs H Q E h=>?_) (fun cdv A outer s H vs Q E hr h=>?_)
 ·obtain⟨q,D,rfl,_⟩:=h;rfl
 obtain⟨q,D,rfl,⟨rows,hq,ls⟩,up,nn,kk⟩:=h
 refine⟨_,(ag (c7 (pT (nI (aF pG (by rfl) T.n_isinstance dZ (aa (pv 0) (aa (u6 (v:=.ty "list") rfl T.n_list ic rfl) ah))))) (ao (aN sh)) aZ)
   (ag (au (i:=1) dQ.nd rfl (Or.inl rfl) (pe_un un_neg ai))
   (ag (bP PassesOwn.never rfl (aX (pv 0)) (aK (i:=2) dQ.nd rfl (Or.inl rfl)) (ag (c7 (PW.pt (rZ (pT (nI (ar G_law_pair.ok (hr.mono (by decide)) rfl G_law_pair.mg G_law_pair.kp G_law_pair.bn .nil aR (aa (pv 2) ah)))) (rZ (aL op_le (aE aH (pv 2) ai (fun _ _=>rfl)) (pv 1) (aV _)) (nH (aL F7 (aE aH (pv 2) ai (fun _ _=>rfl)) ai (aV _)))))) (ao (aN sh)) aZ)
   (ao (au (i:=1) dQ.nd rfl (Or.inl rfl) (aE aH (pv 2) ai (fun _ _=>rfl))))))
   (ao (aN sh))))),?_⟩
 refine⟨_,rfl,_,_,_,_,_,rfl,TyOf.lst hq,Or.inl ⟨_,rfl,rfl⟩,kit_ll K,_,rfl,iteF ?_⟩;refine⟨_,rfl,_,rfl,q,rfl,⟨_,SqL.of hq⟩,b6 (K:=K) (xs:=rows) (fun i σ H3=>∃(la:Int)(v2:Option V),σ = [some (.ref q),some (.int la),v2]/\H3=H/\∀(j:Nat)(e:Int×Int),i<=j->D[j]?=some e->la<e.1) ⟨-1,_,rfl,rfl,fun j e _ hj=>by have:=(nn e (My hj)).1;omega⟩ (fun i σ H3 _ ⟨_,_,_,z,_⟩=>by rw[z];exact SqL.of hq) ?_ ?_⟩
 ·rintro i x σ H3 hx ⟨la,v2,rfl,rfl,hla⟩;obtain⟨e,he,tr,rfl,htr⟩:=ls.get hx;have lt:=hla i e (MC _) he;have n2:=(nn e (My he)).2;refine⟨_,rfl,.ref tr,e,rfl,⟨tr,rfl,htr⟩,_,rfl,iteF ?_⟩;refine⟨_,rfl,tr,_,0,_,rfl,rfl,SqT.of htr,at0,_,rfl,_,_,rfl,rfl,_,rfl,ite2 (fun z=>absurd (of_decide_eq_true z) (by omega)) (fun _=>?_)⟩
  refine⟨_,rfl,tr,_,1,_,rfl,rfl,SqT.of htr,at1,_,_,rfl,rfl,_,rfl,ite2 (fun z=>absurd (of_decide_eq_true z) (by omega)) (fun _=>?_)⟩
  refine⟨_,rfl,tr,_,0,_,rfl,rfl,SqT.of htr,at0,?_⟩;refine⟨e.1,_,rfl,rfl,fun j e' hij hj=>?_⟩;obtain⟨h1,e1⟩:=Mw.mp he;obtain⟨h2,e2⟩:=Mw.mp hj;have:=N8.mp up i j h1 h2 (by omega)
  rw[e1,e2]at this;exact this
 ·rintro σ H3 ⟨la,v2,rfl,rfl,_⟩;exact kk
theorem pS:aG ["built","at","row","told"] ["built","at","row"] (aj d7):=⟨rfl,rfl,rfl,by decide +kernel,rfl,by decide +kernel,by decide +kernel⟩
theorem Lq{f:Addr}{fd:FuncData} (F:Fun K "_law_with" "_law_with" d7 f fd) (T:Txt mg):FnOk P w K mg base CX0 1 f fd ["built","at","row"] Fy:=by
 refine F.ok pS (fun vs H Q E h=>?_) (fun cdv A outer s H vs Q E hr h=>?_)
 ·obtain⟨t,pe,pt,pk,r,m,a,es,ts,ks,k,rfl,_⟩:=h;rfl
 obtain⟨t,pe,pt,pk,r,m,a,es,ts,ks,k,rfl,bp,al,hrr,k01,k0,kk⟩:=h;have few:=bp.few;have kl:=bp.kl;obtain⟨ht,wp,⟨ws,hpk,hT⟩,_,_⟩:=id bp;have hwl:ws.length=ks.length:=hT.1
 refine⟨_,(ag (au (i:=3) pS.nd rfl (Or.inl rfl) (dq cE (by rfl) T.n_list ic (aa (aE aH (pv 0) ai (fun _ _=>rfl)) ah)))
   (ag (FT (pv 2) (F2 (pv 3) (pv 1) uE))
   (ao (aN (cB (aa (aE aH (pv 0) ai (fun _ _=>rfl)) (aa (aE aH (pv 0) ai (fun _ _=>rfl)) (aa (pv 3) ah)))))))),?_⟩
 refine⟨_,rfl,t,_,2,_,rfl,rfl,SqT.of ht,at32,pk,ws,rfl,.inl (SqL.of hpk),fun q hq=>?_⟩;have s1:=ak hq (.lst ws);refine⟨_,rfl,_,rfl,_,rfl,q,_,_,a,rfl,rfl,ae,BN (by omega),?_⟩
 have s2:Same H (upd (upd H q (.lst ws)) q (.lst (ws.set a (.ref r)))):=aW s1 hq _;have h2:(upd (upd H q (.lst ws)) q (.lst (ws.set a (.ref r)))) q=some (.lst (ws.set a (.ref r))):=ae;generalize upd (upd H q (.lst ws)) q (.lst (ws.set a (.ref r)))=H2 at s2 h2;refine⟨_,rfl,t,_,0,_,rfl,rfl,SqT.of (s2 _ _ ht),at30,_,rfl,t,_,1,_,rfl,rfl,SqT.of (s2 _ _ ht),at31,_,rfl,(by show 3<=sizeLine;decide),fun t4 ht4=>?_⟩
 have s4:=ak ht4 (.tup [.ref pe,.ref pt,.ref q]);have s24:=s2.trans s4;refine kk t4 q _ s24 ⟨ae,wp.mono s24,⟨_,s4 _ _ h2,⟨by rw[Nt,Nt];exact hwl,fun n k' e=>?_⟩⟩,few,by rw[Nt];exact kl⟩
 by_cases na:n=a
 ·subst na;rw[N6 al]at e
  cases e
  exact⟨k01,k0,r,by rw[N6 (by omega)],s24 _ _ hrr⟩
 ·rw[Oo (Ne.symm na)]at e;obtain⟨y1,y2,p,y3,y4⟩:=hT.2 n k' e;exact⟨y1,y2,p,by rw[Oo (Ne.symm na)];exact y3,s24 _ _ y4⟩
theorem bW:aG ["first","second","more","sums","cost","many"] ["first","second","more"] (aj cu):=⟨rfl,rfl,rfl,by decide +kernel,rfl,by decide +kernel,by decide +kernel⟩
theorem Lr{f:Addr}{fd:FuncData} (F:Fun K "_law_poured" "_law_poured" cu f fd) (T:Txt mg):FnOk P w K mg base CX0 1 f fd ["first","second","more"] Fz:=by
 refine F.ok bW (fun vs H Q E h=>?_) (fun cdv A outer s H vs Q E hr h=>?_)
 ·obtain⟨a,b,mo,A,B,g,h,rfl,_⟩:=h;rfl
 obtain⟨a,b,mo,Aa,Bb,g,hh,rfl,⟨ra,ha,la⟩,⟨rb,hb,lb⟩,gA,gB,l1,l2,kk⟩:=h;have hu:=BR hr;have big:∀ D:Hs,D.length<=4000->(repD D).length<sizeLine:=fun D h=>by unfold repD;rw[MD,sizeLine_eq];omega
 have getv:∀{D:Hs}{g:Int->Int}(h:Hst D g)(y:Int),(valV (repD D) (.inl y)).getD (.int 0)=.int (g y):=fun{D g} h y=>by
  rcases uJ h y with⟨_,_,q,_⟩ | ⟨_,q0,q⟩
  ·rw[q];rfl
  ·rw[q];exact congrArg V.int q0.symm
 refine⟨_,(ag (au (i:=3) bW.nd rfl (Or.inr rfl) lx)
   (ag (bP PassesOwn.never rfl (aX (pv 0)) (nK rfl (bq (aK (i:=4) bW.nd rfl (Or.inl rfl)) (bq (aK (i:=5) bW.nd rfl (Or.inl rfl)) iC))) (ao (pV hu (pv 3) (pv 4) (av bJ (uZ hu (pv 3) (pv 4) ai ⟨rfl,rfl,rfl,rfl⟩) (pv 5)) rfl)))
   (ag (bP PassesOwn.never rfl (aX (pv 1)) (nK rfl (bq (aK (i:=4) bW.nd rfl (Or.inl rfl)) (bq (aK (i:=5) bW.nd rfl (Or.inl rfl)) iC))) (ao (pV hu (pv 3) (av bJ (pv 4) (pv 2)) (av bJ (uZ hu (pv 3) (av bJ (pv 4) (pv 2)) ai ⟨rfl,rfl,rfl,rfl⟩) (pv 5)) rfl)))
   (ao (aN (c8 rfl (fr:=[("sums",3)]) (by exact bH.one (by rfl) (by decide +kernel) (by rfl) (by decide +kernel) (by rfl) (by decide +kernel) (by rfl) (by rfl) (by decide +kernel) (by rfl)) (aX (aF (EX rfl) (by rfl) T.n_sorted lY (aa (F5 Od PySem.F.slot_dict_keys PySem.F.type_dict_keys LK (pv 3)) ah))) (fun C ex s H=>(cB (aa (pv 0) (aa (u4 hu (pv 1) (pv 0) (fun _ _=>rfl)) ah)))))))))),?_⟩
 intro d hd;have sd:=ak hd (.dK []);refine⟨_,rfl,a,rfl,⟨_,SqL.of (sd _ _ ha)⟩,b6 (K:=K) (xs:=ra) (fun i σ H3=>∃(v4 v5:Option V)(D:Hs),σ = [some (.ref a),some (.ref b),some (.int mo),some (.ref d),v4,v5]/\Same H H3/\H3 d=some (.dK (repD D))/\D.length<=i/\Hst D (cntL (Aa.take i))) ⟨_,_,[],rfl,sd,ae,MC _,Hg⟩ (fun i σ H3 _ ⟨_,_,_,_,z,_⟩=>SqL.of (z _ _ ha)) ?_ ?_⟩
 ·rintro i x σ H3 hx ⟨v4,v5,D,rfl,s3,hd3,dl,hD⟩;obtain⟨e,he,tr,rfl,htr⟩:=la.get hx;have il:i<Aa.length:=(Mw.mp he).1;have epos:=(gA.ex e.1 e.2 (My he)).2;obtain⟨D2,ep,dl2,hst2⟩:=hD.bump e.1 epos;refine⟨tr,_,rfl,SqT.of (s3 _ _ htr),rfl,_,_,rfl,_,_,rfl,rfl,?_⟩;refine⟨_,rfl,d,rfl,.inl ⟨_,.inl hd3⟩,_,rfl,_,DGet.k (k:=.inl e.1) hd3,_,rfl,_,_,getv hD e.1,rfl,?_⟩;refine⟨_,rfl,_,rfl,d,_,rfl,DPut.k (k:=.inl e.1) hd3 (big D (by omega)),?_⟩
  refine⟨_,_,D2,rfl,aW s3 hd _,?_,by omega,hst2.cg fun x=>?_⟩
  ·rw[ae];exact congrArg (fun z=>some (HO.dK z)) ep
  ·have et:Aa.take (i+1)=Aa.take i++[e]:=by rw[M1,he];rfl
   rw[et];unfold cntL;rw[fk,aA,cG,NP];by_cases z:x=e.1
   ·rw[if_pos z,if_pos z.symm]
   ·rw[if_neg z,if_neg (Ne.symm z)]
 rintro σ H3 ⟨v4,v5,D,rfl,s3,hd3,dl,hD⟩;have al:ra.length=Aa.length:=la.1;rw[al,Ni]at hD;rw[al]at dl;refine⟨_,rfl,b,rfl,⟨_,SqL.of (s3 _ _ hb)⟩,b6 (K:=K) (xs:=rb) (fun i σ H4=>∃(v4 v5:Option V)(D:Hs),σ = [some (.ref a),some (.ref b),some (.int mo),some (.ref d),v4,v5]/\Same H H4/\H4 d=some (.dK (repD D))/\D.length<=Aa.length+i/\Hst D (fun x=>g x+cntL (Bb.take i) (x-mo))) ⟨v4,v5,D,rfl,s3,hd3,dl,hD.cg fun x=>by rw[gA.cnt];show g x=g x+0;omega⟩ (fun i σ H3 _ ⟨_,_,_,_,z,_⟩=>SqL.of (z _ _ hb)) ?_ ?_⟩
 ·rintro i x σ H4 hx ⟨v4,v5,D,rfl,s4,hd4,dl,hD⟩;obtain⟨e,he,tr,rfl,htr⟩:=lb.get hx;have il:i<Bb.length:=(Mw.mp he).1;have epos:=(gB.ex e.1 e.2 (My he)).2;obtain⟨D2,ep,dl2,hst2⟩:=hD.bump (e.1+mo) epos;refine⟨tr,_,rfl,SqT.of (s4 _ _ htr),rfl,_,_,rfl,_,_,rfl,rfl,?_⟩;refine⟨_,rfl,d,rfl,.inl ⟨_,.inl hd4⟩,_,rfl,_,rfl,_,_,rfl,rfl,_,DGet.k (k:=.inl (e.1+mo)) hd4,_,rfl,_,_,getv hD (e.1+mo),rfl,?_⟩;refine⟨_,rfl,_,rfl,_,rfl,_,_,rfl,rfl,d,_,rfl,DPut.k (k:=.inl (e.1+mo)) hd4 (big D (by omega)),?_⟩
  refine⟨_,_,D2,rfl,aW s4 hd _,?_,by omega,hst2.cg fun x=>?_⟩
  ·rw[ae];exact congrArg (fun z=>some (HO.dK z)) ep
  ·have et:Bb.take (i+1)=Bb.take i++[e]:=by rw[M1,he];rfl
   rw[et];unfold cntL;rw[fk,aA,cG,NP];by_cases z:x=e.1+mo
   ·rw[if_pos z,if_pos (by omega)];omega
   ·rw[if_neg z,if_neg (by omega)];omega
 rintro σ H4 ⟨v4',v5',D',rfl,s4,hd4,dl',hD'⟩;have bl':rb.length=Bb.length:=lb.1;rw[bl',Ni]at hD';rw[bl']at dl';have hst:Hst D' (fun x=>g x+hh (x-mo)):=hD'.cg fun x=>by rw[gB.cnt]
 refine⟨_,rfl,.inr (.inr (.inl ⟨rfl,.inl ⟨_,hd4⟩⟩)),d,_,rfl,rfl,hd4,fun vw hvw=>?_⟩;have sv:=ak hvw (GU vw d);refine⟨vw,d,_,D'.map (·.1),rfl,ae,sv _ _ hd4,xE D',fun l out hl pm so=>?_⟩;have sl:=ak hl (.lst (out.map V.int));have onl:out.length<=4000:=by have:=pm.length_eq;rw[MD]at this;omega
 refine⟨l,rfl,⟨_,SqL.of ae⟩,bK (K:=K) (xs:=out.map V.int) (fun i ys HB=>∃ E:Hs,Same (upd (upd H4 vw (GU vw d)) l (.lst (out.map V.int))) HB/\LsAt PrAt HB ys E/\E.map (·.1)=out.take i/\∀ e∈E,e∈D') (by rw[MD,sizeLine_eq];omega) ⟨[],fun _ _ z=>z,LsAt.nil,rfl,fun e z=>by cases z⟩ (fun i ys HB _ ⟨_,z,_⟩=>SqL.of (z _ _ ae)) ?_ ?_⟩
 ·rintro i x ys HB hx ⟨E,sB,ls,ek,im⟩;rw[ME]at hx;obtain⟨c,hc,rfl⟩:=M0.mp hx;obtain⟨e,he,ee⟩:=MR.mp (pm.mem_iff.mp (My hc));have ee':e.1=c:=ee;subst ee';have hval:valV (repD D') (.inl e.1)=some (.int e.2):=t9 (AA hst.nd) (MR.mpr ⟨e,he,rfl⟩);have dB:=(sv.trans (sl.trans sB)) _ _ hd4;refine⟨_,rfl,_,rfl,_,rfl,d,.int e.2,rfl,.inl ⟨_,.inl e.1,.inl dB,rfl,hval.symm⟩,(by show 2<=sizeLine;decide),fun tr htr=>?_⟩
  have sr:=ak htr (.tup [.int e.1,.int e.2]);refine⟨E++[e],sB.trans sr,(ls.imp fun y e q=>q.mono sr).snoc ⟨tr,rfl,ae⟩,?_,fun e' he'=>?_⟩
  ·rw[M8,ek,M1,hc];rfl
  ·rcases MH.mp he' with z | z
   ·exact im e' z
   ·rw[M4.mp z];exact he
 ·rintro ys HB _ ⟨E,sB,ls,ek,im⟩ Dq hDq;rw[MD,Ni]at ek;have sD:=ak hDq (.lst ys);have nd:out.Nodup:=pm.nodup_iff.mpr hst.nd;have lt:out.Pairwise (· < ·):=(List.Pairwise.and so nd).imp fun h=>by omega
  refine kk Dq E _ ((((s4.trans sv).trans sl).trans sB).trans sD) ⟨ys,ae,ls.imp fun y e q=>q.mono sD⟩ (NY.mp (by rw[ek];exact lt)) ⟨by rw[ek];exact nd,fun x n hn=>hst.ex x n (im _ hn),fun x hx=>?_⟩
  rw[ek];exact pm.mem_iff.mpr (hst.al x hx)
end
end K8
namespace K8
open PySem L2
local macro_rules | `(tactic| walk_at "cc") => `(tactic| first | exact ⟨by decide, by decide⟩ | (show (0 : Int) < _; decide) | (show (0 : Int) < _; omega) | (show (0 : Int) ≤ _; omega) | exact ⟨by decide, by decide, by decide⟩ | exact ⟨by omega, by omega, by decide⟩ | exact Or.inl ⟨by decide, by decide⟩ | exact Or.inl ⟨by omega, by omega⟩)
local macro_rules | `(tactic| walk_at "rd") => `(tactic| repeat (first | refine ⟨_, rfl, ?_⟩ | refine ⟨_, _, rfl, rfl, ?_⟩ | refine ⟨rfl, ?_⟩ | (refine ⟨?cc, ?_⟩; (case cc => walk_at "cc"))))
structure TxtR(mg:Str->Option Value):Prop extends Txt mg where
 n_reversed:mg "reversed" = none
structure Lw(K:Mz)(H:Hp)(a t pe pt pk qf:Addr)(ns:List Int)(m:Nat)(es:En)(ts:List (List Nat))(ks:Kn)(D:Hs):Prop where
 hS:SqL K H a (ns.map V.int)
 bp:iz H t pe pt pk m es ts ks
 e0:0<es.length
 lf:LstH H qf D
 hi:Hist es ks m D
theorem Lw.mono{K:Mz}{H H':Hp}{a t pe pt pk qf:Addr}{ns:List Int}{m:Nat}{es:En}{ts:List (List Nat)}{ks:Kn}{D:Hs}(h:Lw K H a t pe pt pk qf ns m es ts ks D)(s:Same H H'):Lw K H' a t pe pt pk qf ns m es ts ks D:=⟨s.seq h.hS,h.bp.mono s,h.e0,h.lf.mono s,h.hi⟩
def restA(K:Mz):TS:=fun D σ H=>∃(a t pe pt pk:Addr)(c:Int)(ns:List Int)(m:Nat)(es:En)(ts:List (List Nat))(ks:Kn),σ = [some (.ref a),some (.int c),some (.ref t),none,none,none,none,none,none,none,none,none,none,none] /\
 SqL K H a (ns.map V.int)/\iz H t pe pt pk m es ts ks/\0<es.length/\∀ H',D.rt (.bl true) H'
def restB(K:Mz):TS:=fun D σ H=>∃(a t pe pt pk qf:Addr)(c:Int)(ns:List Int)(m:Nat)(es:En)(ts:List (List Nat))(ks:Kn)(De:Hs),σ = [some (.ref a),some (.int c),some (.ref t),some (.int (m:Int)),some (.int (ttl ks)),some (.ref qf),none,none,none,none,none,none,none,none] /\
 Lw K H a t pe pt pk qf ns m es ts ks De/\∀ H',D.rt (.bl true) H'
def restC(K:Mz):TS:=fun D σ H=>∃(a t pe pt pk qf:Addr)(c:Int)(ns:List Int)(m:Nat)(es:En)(ts:List (List Nat))(ks:Kn)(De:Hs)(v6 v7:Option V),σ = [some (.ref a),some (.int c),some (.ref t),some (.int (m:Int)),some (.int (ttl ks)),some (.ref qf),v6,v7,none,none,none,none,none,none] /\
 Lw K H a t pe pt pk qf ns m es ts ks De/\∀ H',D.rt (.bl true) H'
def restD(K:Mz):TS:=fun D σ H=>∃(t pe pt pk:Addr)(c:Int)(m:Nat)(es:En)(ts:List (List Nat))(ks:Kn)(v0 v3 v4 v5 v6 v7 v8:Option V),σ = [v0,some (.int c),some (.ref t),v3,v4,v5,v6,v7,v8,none,none,none,none,none] /\
 iz H t pe pt pk m es ts ks/\0<es.length/\∀ H',D.rt (.bl true) H'
def restE(K:Mz):TS:=fun D σ H=>∃(p1 p2 p3:Addr)(D1 D2 D3:Hs)(g1 g2 g3:Int->Int)(st:Int)(v0 v1 v2 v3 v4 v5 v6 v7 v8 v9:Option V),σ = [v0,v1,v2,v3,v4,v5,v6,v7,v8,v9,some (.int st),some (.ref p1),some (.ref p2),some (.ref p3)] /\
 LstH H p1 D1/\LstH H p2 D2/\LstH H p3 D3/\UpD D1/\UpD D2/\UpD D3/\Hst D1 g1/\Hst D2 g2/\Hst D3 g3/\(∀ e∈D1,0<=e.1/\0<e.2)/\(∀ e∈D2,0<=e.1/\0<e.2)/\(∀ e∈D3,0<=e.1/\0<e.2)/\D1.length<=2000/\D2.length<=2000/\D3.length<=2000/\(∀ x,g1 x+g2 (x-0)=g3 x+g3 (x-st))/\∀ H',D.rt (.bl true) H'
theorem vX{m:Nat}{es:En}{ts:List (List Nat)}(g:Gr m es ts)(e0:0<es.length):m<=es.length+1:=by
 obtain⟨rs,p,c⟩:=g.part;have:=p.all 0 (by omega)
 cases rs with
 |nil=>cases this
 |cons r rs=>rw[Nb]at c;omega
theorem jt{m:Nat}{H:Hp}:Told m .non H (rI m):=.inl ⟨rfl,rfl⟩
theorem lI{es:En}{ks:Kn}{m:Nat}{D:Hs}(h:Hist es ks m D)(m9:m<=9):D.length<=2000:=by
 have a:(D.length:Int)<=(D.map (·.2)).sum:=by
  have:sumL D (fun _=>(1:Int))<=sumL D fun e=>e.2:=j8 fun e he=>(by have:=(h.hs.ex e.1 e.2 he).2;omega +splitDisjunctions)
  rw[jv]at this;exact this
 rw[Dv h]at a;have p2:(2:Nat)^m<=2^9:=OL (by decide) m9
 have e9:(2:Nat)^9=512:=by decide
 rw[e9]at p2;have:D.length<=2^m:=Int.ofNat_le.mp a;exact Nw this (Nw p2 (by decide))
theorem two9{m:Nat}(m9:m<=9):((2^m:Nat):Int)<=512:=by
 have p2:(2:Nat)^m<=2^9:=OL (by decide) m9
 have:((2^m:Nat):Int)<=((2^9:Nat):Int):=Int.ofNat_le.mpr p2;exact Pl this (by decide)
theorem JF{es:En}{ks:Kn}{m:Nat}{D:Hs}(h:Hist es ks m D)(m9:m<=9):∀ e∈D,e.2<=512:=fun e he=>by
 rw[(h.hs.ex e.1 e.2 he).1];have a:hA es ks m e.1<=sumL (lays (Na m)) fun _=>1:=j8 fun L _=>by unfold ind;split<;>decide
 rw[jv,qA]at a;exact Pl a (two9 m9)
theorem cmulR{i j:Int}(h:0<=j)(k:j<=512):CMul i j:=.inr ⟨Int.lt_of_lt_of_le (by decide:(-(2^64):Int)<0) h,Int.lt_of_le_of_lt k (by decide:(512:Int)<2^64)⟩
section
variable{P:Program}{w:World}{K:Mz}{mg:Str->Option Value}{base:Heap}
theorem pW{H:Hp}{a:Addr}{xs:List V}{es:List Pr}(h:SqL K H a xs)(hE:LsAt PrAt H xs es):RdD K H (.ref a) (.list (es.map fun e=>PyData.tuple [.int e.1,.int e.2])):=by
 refine RdD.lst h (by rw[MD];exact hE.1) fun i x d e1 e2=>?_
 rw[ME]at e2;obtain⟨e,he,rfl⟩:=M0.mp e2;obtain⟨y,a1,p,rfl,a2⟩:=hE.2 i e he;rw[e1]at a1
 cases a1
 refine RdD.tup (SqT.of a2) rfl fun j x d' q1 q2=>?_;match j with
 |0=>cases q1;cases q2;exact .int _
 |1=>cases q1;cases q2;exact .int _
 |j+2=>cases q1
theorem jB(es:List Pr):SeqAt.shaped (.list (es.map fun e=>PyData.tuple [.int e.1,.int e.2]))=true:=j9 fun d hd=>by
 obtain⟨l,_,rfl⟩:=MR.mp hd;exact flat2 _ _
theorem eK:aG ["script","way","built","many","total","found","ordered","patched","turned","at","strength","pulled","pushed","freed"] ["script"] (aj uH):=⟨rfl,rfl,rfl,by decide +kernel,rfl,by decide +kernel,by decide +kernel⟩
theorem ok_law{f fB fC fo fW fF fr ft fh fl fp PL PS WC:Addr}{fd dB dC do' dW dF dr dt dh dl dp:FuncData} (F:Fun K "law" "law" uH f fd) (T:TxtR mg) (G_law_built:Cal P w K mg base 5 "_law_built" ["script","first","most"] (uo K) fB dB) (G_law_cell:Cal P w K mg base 1 "_law_cell" ["script","k"] (C2 K) fC dC) (G_law_order:Cal P w K mg base 1 "_law_order" ["cell","many"] ui fo do')
  (G_law_web:Cal P w K mg base 7 "_law_web" ["built"] (FD PL PS WC) fW dW) (G_worths:CalX P w K mg base 5 "worths" ["web","order"] (spWs PL PS WC) fF dF) (bn1:jo K dF ["web","order"] [.none])
  (G_law_rim:Cal P w K mg base 1 "_law_rim" ["ends","patch"] (K0 K) fr dr) (G_law_turned:Cal P w K mg base 1 "_law_turned" ["built","ties"] KZ ft dt) (G_law_with:Cal P w K mg base 1 "_law_with" ["built","at","row"] Fy fh dh) (G_law_listed:Cal P w K mg base 3 "_law_listed" ["found"] uj fl dl) (G_law_poured:Cal P w K mg base 1 "_law_poured" ["first","second","more"] Fz fp dp):FnOk P w K mg base CX0 8 f fd ["script"] (IM K):=by
 refine F.ok eK (fun vs H Q E h=>?_) (fun cdv A outer s H vs Q E hr h=>?_)
 ·obtain⟨a,ns,rfl,_⟩:=h;rfl
 obtain⟨a,ns,rfl,hS,h63,kk⟩:=h;have hu64:=hr.units;have hu:=BR hr
 refine⟨_,(ag (au (i:=1) eK.nd rfl (Or.inl rfl) (ar G_law_cell.ok (hr.mono (by decide)) rfl G_law_cell.mg G_law_cell.kp G_law_cell.bn .nil aR (aa (pv 0) (aa ai ah))))
   (ag (au (i:=2) eK.nd rfl (Or.inl rfl) (ar G_law_built.ok (hr.mono (by decide)) rfl G_law_built.mg G_law_built.kp G_law_built.bn .nil aR (aa (pv 0) (aa ai (aa ai ah)))))
   (ag (c7 (aL qg (av bI (pv 1) ai) ai (aV _)) (ao (au (i:=2) eK.nd rfl (Or.inl rfl) (cB (aa (aE aH (pv 2) ai (fun _ _=>rfl)) (aa (aE aH (pv 2) ai (fun _ _=>rfl)) (aa (c8 rfl (fr:=[]) (by exact bH.plain (by rfl) (by decide +kernel) (by rfl) (by decide +kernel) (by rfl) (by decide +kernel)) (aX (aE aH (pv 2) ai (fun _ _=>rfl))) (fun C ex s H=>(cB (aa (aE (iW (K:=K) rfl) (pv 0) ai (fun _ _=>rfl)) (aa (av bI (aE (iW (K:=K) rfl) (pv 0) ai (fun _ _=>rfl)) ai) ah))))) ah)))))) aZ)
   (pU (t2:=restA K) (ag (au (i:=3) eK.nd rfl (Or.inl rfl) (aF ay (by rfl) T.n_len bL (aa (aE aH (pv 2) ai (fun _ _=>rfl)) ah)))
   (ag (au (i:=4) eK.nd rfl (Or.inr rfl) (aF (jU rfl) (by rfl) T.n_sum tI (aa (c8 rfl (fr:=[]) (by exact bH.plain (by rfl) (by decide +kernel) (by rfl) (by decide +kernel) (by rfl) (by decide +kernel)) (aX (aE aH (pv 2) ai (fun _ _=>rfl))) (fun C ex s H=>(aE (iW (K:=K) rfl) (pv 0) ai (fun _ _=>rfl)))) ah)))
   (ag (au (i:=5) eK.nd rfl (Or.inl rfl) (ar G_worths.ok (hr.mono (by decide)) rfl G_worths.mg G_worths.kp bn1 (dvs:=[.non]) (.cons rfl .nil) pY (aa (ar G_law_web.ok (hr.mono (by decide)) rfl G_law_web.mg G_law_web.kp G_law_web.bn .nil aR (aa (pv 2) ah)) ah)))
   (ag (c7 (PW.pt (rZ (pT (nI (ar G_law_listed.ok (hr.mono (by decide)) rfl G_law_listed.mg G_law_listed.kp G_law_listed.bn .nil aR (aa (pv 5) ah)))) (nH (aL qd (aF (jU rfl) (by rfl) T.n_sum tI (aa (c8 rfl (fr:=[]) (by exact bH.plain (by rfl) (by decide +kernel) (by rfl) (by decide +kernel) (by rfl) (by decide +kernel)) (aX (pv 5)) (fun C ex s H=>(aE (iW (K:=K) rfl) (pv 0) ai (fun _ _=>rfl)))) ah)) (av fx ai (pv 3)) (aV _))))) (ao (aN sh)) aZ)
   (ag (c7 (aL qd (av dI ai (aF (jU rfl) (by rfl) T.n_sum tI (aa (c8 rfl (fr:=[]) (by exact bH.plain (by rfl) (by decide +kernel) (by rfl) (by decide +kernel) (by rfl) (by decide +kernel)) (aX (pv 5)) (fun C ex s H=>(av dI (aE (iW (K:=K) rfl) (pv 0) ai (fun _ _=>rfl)) (aE (iW (K:=K) rfl) (pv 0) ai (fun _ _=>rfl))))) ah))) (av dI (pv 4) (av fx ai (pv 3))) (aV _)) (ao (aN sh)) aZ)
   (pU (t2:=restB K) (ag (au (i:=6) eK.nd rfl (Or.inl rfl) (ar G_worths.ok (hr.mono (by decide)) rfl G_worths.mg G_worths.kp G_worths.bn .nil pY (aa (ar G_law_web.ok (hr.mono (by decide)) rfl G_law_web.mg G_law_web.kp G_law_web.bn .nil aR (aa (pv 2) ah)) (aa (ar G_law_order.ok (hr.mono (by decide)) rfl G_law_order.mg G_law_order.kp G_law_order.bn .nil aR (aa (aF (jU rfl) (by rfl) T.n_sum tI (aa (pv 0) ah)) (aa (pv 3) ah))) ah))))
   (ag (au (i:=7) eK.nd rfl (Or.inl rfl) (ar G_worths.ok (hr.mono (by decide)) rfl G_worths.mg G_worths.kp bn1 (dvs:=[.non]) (.cons rfl .nil) pY (aa (ar G_law_web.ok (hr.mono (by decide)) rfl G_law_web.mg G_law_web.kp G_law_web.bn .nil aR (aa (ar G_law_turned.ok (hr.mono (by decide)) rfl G_law_turned.mg G_law_turned.kp G_law_turned.bn .nil aR (aa (pv 2) (aa (ar G_law_rim.ok (hr.mono (by decide)) rfl G_law_rim.mg G_law_rim.kp G_law_rim.bn .nil aR (aa (aE aH (pv 2) ai (fun _ _=>rfl)) (aa (av bI (aF (jU rfl) (by rfl) T.n_sum tI (aa (pv 0) ah)) (av fx ai (pv 3))) ah))) ah))) ah)) ah)))
   (ag (c7 (PW.pt (rZ (aL (C7 hu64) (pv 6) (pv 5) (aV _)) (nH (aL (C7 hu64) (pv 7) (pv 5) (aV _))))) (ao (aN sh)) aZ)
   (pU (t2:=restC K) (ag (au (i:=8) eK.nd rfl (Or.inl rfl) (ar G_worths.ok (hr.mono (by decide)) rfl G_worths.mg G_worths.kp bn1 (dvs:=[.non]) (.cons rfl .nil) pY (aa (ar G_law_web.ok (hr.mono (by decide)) rfl G_law_web.mg G_law_web.kp G_law_web.bn .nil aR (aa (ar G_law_turned.ok (hr.mono (by decide)) rfl G_law_turned.mg G_law_turned.kp G_law_turned.bn .nil aR (aa (pv 2) (aa (av pZ (av fx ai (aF ay (by rfl) T.n_len bL (aa (aE aH (pv 2) ai (fun _ _=>rfl)) ah))) ai) ah))) ah)) ah)))
   (ag (c7 (aL (C7 hu64) (pv 8) (c8 rfl (fr:=[("total",4)]) (by exact bH.one (by rfl) (by decide +kernel) (by rfl) (by decide +kernel) (by rfl) (by decide +kernel) (by rfl) (by rfl) (by decide +kernel) (by rfl)) (pi_rev rfl T.n_reversed (pv 5)) (fun C ex s H=>(cB (aa (av pZ (pv 1) (aE (iW (K:=K) rfl) (pv 0) ai (fun _ _=>rfl))) (aa (aE (iW (K:=K) rfl) (pv 0) ai (fun _ _=>rfl)) ah))))) (aV _)) (ao (aN sh)) aZ)
   (pU (t2:=restD K) (ag (au (i:=9) eK.nd rfl (Or.inl rfl) (av bI (av dw (pv 1) ai) (aF ay (by rfl) T.n_len bL (aa (aE aH (pv 2) ai (fun _ _=>rfl)) ah))))
   (ag (au (i:=10) eK.nd rfl (Or.inl rfl) (aE aH (aE aP (aE aH (pv 2) ai (fun _ _=>rfl)) (pv 9) (fun _ _=>rfl)) ai (fun _ _=>rfl)))
   (ag (au (i:=11) eK.nd rfl (Or.inl rfl) (ar G_worths.ok (hr.mono (by decide)) rfl G_worths.mg G_worths.kp bn1 (dvs:=[.non]) (.cons rfl .nil) pY (aa (ar G_law_web.ok (hr.mono (by decide)) rfl G_law_web.mg G_law_web.kp G_law_web.bn .nil aR (aa (ar G_law_with.ok (hr.mono (by decide)) rfl G_law_with.mg G_law_with.kp G_law_with.bn .nil aR (aa (pv 2) (aa (pv 9) (aa (cB (aa ai (aa (pv 10) ah))) ah)))) ah)) ah)))
   (ag (au (i:=12) eK.nd rfl (Or.inl rfl) (ar G_worths.ok (hr.mono (by decide)) rfl G_worths.mg G_worths.kp bn1 (dvs:=[.non]) (.cons rfl .nil) pY (aa (ar G_law_web.ok (hr.mono (by decide)) rfl G_law_web.mg G_law_web.kp G_law_web.bn .nil aR (aa (ar G_law_with.ok (hr.mono (by decide)) rfl G_law_with.mg G_law_with.kp G_law_with.bn .nil aR (aa (pv 2) (aa (pv 9) (aa (cB (aa ai (aa (pv 10) ah))) ah)))) ah)) ah)))
   (ag (au (i:=13) eK.nd rfl (Or.inl rfl) (ar G_worths.ok (hr.mono (by decide)) rfl G_worths.mg G_worths.kp bn1 (dvs:=[.non]) (.cons rfl .nil) pY (aa (ar G_law_web.ok (hr.mono (by decide)) rfl G_law_web.mg G_law_web.kp G_law_web.bn .nil aR (aa (ar G_law_with.ok (hr.mono (by decide)) rfl G_law_with.mg G_law_with.kp G_law_with.bn .nil aR (aa (pv 2) (aa (pv 9) (aa (cB (aa (av bI (av dw (pv 1) ai) ai) (aa ai ah))) ah)))) ah)) ah)))
   (pU (t2:=restE K) (ag (c7 (PW.pt (rZ (pT (nI (ar G_law_listed.ok (hr.mono (by decide)) rfl G_law_listed.mg G_law_listed.kp G_law_listed.bn .nil aR (aa (pv 11) ah)))) (rZ (pT (nI (ar G_law_listed.ok (hr.mono (by decide)) rfl G_law_listed.mg G_law_listed.kp G_law_listed.bn .nil aR (aa (pv 12) ah)))) (nH (pT (nI (ar G_law_listed.ok (hr.mono (by decide)) rfl G_law_listed.mg G_law_listed.kp G_law_listed.bn .nil aR (aa (pv 13) ah)))))))) (ao (aN sh)) aZ)
   (ao (aN (AV (op_eqD hu64) (ar G_law_poured.ok (hr.mono (by decide)) rfl G_law_poured.mg G_law_poured.kp G_law_poured.bn .nil aR (aa (pv 11) (aa (pv 12) (aa ai ah)))) (ar G_law_poured.ok (hr.mono (by decide)) rfl G_law_poured.mg G_law_poured.kp G_law_poured.bn .nil aR (aa (pv 13) (aa (pv 13) (aa (pv 10) ah)))) (aV _))))) (fun D0 S0 H0 h0=>?reste))))))) (fun D0 S0 H0 h0=>?restd)))) (fun D0 S0 H0 h0=>?restc))))) (fun D0 S0 H0 h0=>?restb))))))) (fun D0 S0 H0 h0=>?resta))))),?_⟩
 case reste =>
  obtain⟨p1,p2,p3,D1,D2,D3,g1,g2,g3,st,v0,v1,v2,v3,v4,v5,v6,v7,v8,v9,rfl,l1,l2,l3,u1,u2,u3,h1,h2,h3,n1,n2,n3,b1,b2,b3,eq,kk⟩:=h0;refine⟨_,rfl,p1,D1,rfl,l1,u1,n1,_,rfl,iteF ?_⟩;refine⟨_,rfl,p2,D2,rfl,l2,u2,n2,_,rfl,iteF ?_⟩;refine⟨_,rfl,p3,D3,rfl,l3,u3,n3,_,rfl,iteF ?_⟩;refine⟨_,rfl,_,rfl,p1,p2,0,D1,D2,g1,g2,rfl,l1,l2,h1,h2,b1,b2,fun qa Da Ha sa ⟨ra,ha,la⟩ ua hsa=>?_⟩;refine⟨_,rfl,_,rfl,_,rfl,p3,p3,st,D3,D3,g3,g3,rfl,l3.mono sa,l3.mono sa,h3,h3,b3,b3,fun qb Db Hb sb ⟨rb,hb,lb⟩ ub hsb=>?_⟩;have e:Db=Da:=BS ub ua hsb (hsa.cg eq);subst e;exact⟨_,pW (SqL.of (sb _ _ ha)) (la.imp fun _ _ z=>z.mono sb),pW (SqL.of hb) lb,jB _,kk _⟩
 case restd =>
  obtain⟨t,pe,pt,pk,c,m,es,ts,ks,v0,v3,v4,v5,v6,v7,v8,rfl,bp,e0,kk⟩:=h0;have few:=bp.few;have kl:=bp.kl;obtain⟨ht,_,⟨ws,hpk,hT⟩,_,_⟩:=id bp;have mf:=vX bp.w.g e0;have hwl:ws.length=ks.length:=hT.1;have k0:∀(n:Nat)(k:Int×Int),ks[n]?=some k->0<=k.2:=fun n k hk=>(hT.2 n k hk).2.1;obtain⟨n,en,hn⟩:∃ n:Nat,c/2%((ws.length:Nat):Int)=(n:Int)/\n<ks.length:=by
   have h1:=Og (c/2) (show((ws.length:Nat):Int)≠0 by omega)
   have h2:=Oc (c/2) (show(0:Int)<((ws.length:Nat):Int) by omega)
   exact⟨(c/2%((ws.length:Nat):Int)).toNat,by omega,by omega⟩
  obtain⟨k,hk⟩:∃ k,ks[n]?=some k:=⟨_,Mx hn⟩;obtain⟨k01,k00,t2,z1,z2⟩:=hT.2 n k hk;refine⟨_,rfl,_,_,rfl,rfl,⟨by decide,by decide⟩,_,rfl,t,_,2,_,rfl,rfl,SqT.of ht,at32,pk,ws,rfl,.inl (SqL.of hpk),_,_,rfl,rfl,(by omega),?_⟩
  dsimp only;rw[en];refine⟨_,rfl,t,_,2,_,rfl,rfl,SqT.of ht,at32,_,rfl,pk,ws,_,_,rfl,rfl,SqL.of hpk,aM z1,t2,_,1,_,rfl,rfl,SqT.of z2,at1,?_⟩;have nn:∀(k':Int×Int),0<=k'.2->∀(j:Nat)(x:Int×Int),(ks.set n k')[j]?=some x->0<=x.2:=fun k' hk' j x hx=>by
   by_cases c:n=j
   ·subst c;rw[N6 hn]at hx
    cases hx
    exact hk'
   ·rw[Oo c]at hx;exact k0 j x hx
  refine⟨_,rfl,_,rfl,_,rfl,(by show 2<=sizeLine;decide),fun r1 hr1=>?_⟩
  have s1:=ak hr1 (.tup [.int 0,.int k.2]);refine⟨t,pe,pt,pk,r1,m,n,es,ts,ks,(0,k.2),rfl,bp.mono s1,hn,ae,.inl rfl,k00,fun t1 pk1 H1 sa bp1=>?_⟩;have s01:=s1.trans sa;refine⟨t1,pe,pt,pk1,m,es,ts,_,rfl,bp1,e0,fun p rs H2 s2 wf=>⟨p,m,es,ts,_,.non,rI m,rfl,wf.t,bp1.kl,bp1.w.g.w,by omega,by omega,jt,NS _,fun q1 wl1 D1 H3 s3 _ xl1 yl1 hi1=>?_⟩⟩
  have l1:LstH H3 q1 D1:=⟨wl1,xl1,yl1⟩;have s03:=(s01.trans s2).trans s3;refine⟨_,rfl,_,rfl,_,rfl,(by show 2<=sizeLine;decide),fun r2 hr2=>?_⟩
  have s4:=ak hr2 (.tup [.int 1,.int k.2]);refine⟨t,pe,pt,pk,r2,m,n,es,ts,ks,(1,k.2),rfl,bp.mono (s03.trans s4),hn,ae,.inr rfl,k00,fun t2' pk2 H5 s5 bp2=>?_⟩;refine⟨t2',pe,pt,pk2,m,es,ts,_,rfl,bp2,e0,fun p rs H6 s6 wf=>⟨p,m,es,ts,_,.non,rI m,rfl,wf.t,bp2.kl,bp2.w.g.w,by omega,by omega,jt,NS _,fun q2 wl2 D2 H7 s7 _ xl2 yl2 hi2=>?_⟩⟩
  have l2:LstH H7 q2 D2:=⟨wl2,xl2,yl2⟩;have s37:=((s4.trans s5).trans s6).trans s7;have s07:=s03.trans s37;refine⟨_,rfl,_,rfl,_,rfl,_,_,rfl,rfl,⟨by decide,by decide⟩,_,_,rfl,rfl,(by show(0:Int)<2;decide),(by show 2<=sizeLine;decide),fun r3 hr3=>?_⟩
  have s8:=ak hr3 (.tup [.int (c/20%2),.int 0]);have w01:c/20%2=0∨c/20%2=1:=by omega
  refine⟨t,pe,pt,pk,r3,m,n,es,ts,ks,(c/20%2,0),rfl,bp.mono (s07.trans s8),hn,ae,w01,N3 _,fun t3 pk3 H9 s9 bp3=>?_⟩;refine⟨t3,pe,pt,pk3,m,es,ts,_,rfl,bp3,e0,fun p rs HA sA wf=>⟨p,m,es,ts,_,.non,rI m,rfl,wf.t,bp3.kl,bp3.w.g.w,by omega,by omega,jt,NS _,fun q3 wl3 D3 HB sB _ xl3 yl3 hi3=>?_⟩⟩
  have l3:LstH HB q3 D3:=⟨wl3,xl3,yl3⟩;have s7B:=((s8.trans s9).trans sA).trans sB;refine⟨q1,q2,q3,D1,D2,D3,_,_,_,k.2,_,_,_,_,_,_,_,_,_,_,rfl,l1.mono (s37.trans s7B),l2.mono s7B,l3,hi1.up,hi2.up,hi3.up,hi1.hs,hi2.hs,hi3.hs,hi1.nn (nn _ k00),hi2.nn (nn _ k00),hi3.nn (nn _ (N3 _)),lI hi1 (by omega),lI hi2 (by omega),lI hi3 (by omega),fun x=>?_,kk⟩
  exact LZ w01 (Lc hn) (Lc hn) (Lc hn) (by omega) x
 case restc =>
  obtain⟨a,t,pe,pt,pk,qf,c,ns,m,es,ts,ks,De,v6,v7,rfl,lw,kk⟩:=h0;obtain⟨hS,bp,e0,⟨rows,hqf,ls⟩,hi⟩:=lw;have few:=bp.few;have kl:=bp.kl;obtain⟨ht,⟨⟨ys,hpe,hE⟩,_,_⟩,⟨ws,hpk,hT⟩,_,_⟩:=id bp;have mf:=vX bp.w.g e0;have k01:K01 ks:=fun n k hk=>(hT.2 n k hk).1;have hyl:ys.length=es.length:=hE.1;have eR:(1:Int)*2^(((ys.length:Nat):Int)).toNat-1=((2^es.length-1:Nat):Int):=by
   rw[shlN,hyl];have:=PN es.length;omega
  refine⟨_,rfl,_,rfl,t,_,0,_,rfl,rfl,SqT.of ht,at30,pe,ys,rfl,.inl (SqL.of hpe),_,_,rfl,rfl,⟨by omega,by omega,by decide⟩,_,_,rfl,rfl,?_⟩
  refine⟨t,pe,pt,pk,m,2^es.length-1,es,ts,ks,congrArg (fun z=>[V.ref t,V.int z]) eR,bp,fun t' pk' ks' H1 s1 bp1 tr=>?_⟩;refine⟨t',pe,pt,pk',m,es,ts,ks',rfl,bp1,e0,fun p rs H2 s2 wf=>⟨p,m,es,ts,_,.non,rI m,rfl,wf.t,bp1.kl,bp1.w.g.w,by omega,by omega,jt,NS _,fun q8 r8 E8 H3 s3 _ h8 l8 hi8=>?_⟩⟩
  have s03:=(s1.trans s2).trans s3;have hqf3:=s03 _ _ hqf;have ls3:LsAt PrAt H3 rows De:=ls.imp fun _ _ z=>z.mono s03;have dl:=lI hi (by omega)
  have rl:rows.length=De.length:=ls.1;have eE:=Hi kl k01 tr hi hi8;refine⟨_,rfl,_,rfl,qf,rows,rfl,SqL.of hqf3,JQ (K:=K) (xs:=rows) (fun i zs HB=>Same H3 HB/\LsAt PrAt HB zs ((De.reverse.take i).map fun e=>(ttl ks-e.1,e.2))) (by rw[sizeLine_eq];omega) ⟨fun _ _ z=>z,LsAt.nil⟩ (fun i zs HB _ z=>SqL.of (z.1 _ _ hqf3)) ?_ ?_⟩
  ·rintro i x zs HB hx ⟨sB,lz⟩;have il:i<rows.length:=by
    have:=(Mw.mp hx).1;rw[List.length_reverse]at this;exact this
   rw[PY il]at hx;obtain⟨e,he,tr',rfl,htr⟩:=ls3.get hx;have he':De.reverse[i]?=some e:=by rw[PY (by omega),← rl];exact he
   have htB:=sB _ _ htr;refine⟨_,rfl,_,rfl,tr',_,0,_,rfl,rfl,SqT.of htB,at0,_,_,rfl,rfl,_,rfl,tr',_,1,_,rfl,rfl,SqT.of htB,at1,(by show 2<=sizeLine;decide),fun t5 ht5=>?_⟩
   have s5:=ak ht5 (.tup [.int (ttl ks-e.1),.int e.2]);refine⟨sB.trans s5,?_⟩;rw[M1,he',M8];exact(lz.imp fun _ _ z=>z.mono s5).snoc (x:=(ttl ks-e.1,e.2)) ⟨t5,rfl,ae⟩
  ·rintro zs HB _ ⟨sB,lz⟩ Dq hDq;rw[rl,← List.length_reverse,Ni,← eE]at lz;have sD:=ak hDq (.lst zs);refine⟨_,pW (SqL.of ((sB.trans sD) _ _ h8)) (l8.imp fun _ _ z=>z.mono (sB.trans sD)),pW (SqL.of ae) (lz.imp fun _ _ z=>z.mono sD),jB _,_,rfl,iteF ?_⟩;exact⟨t,pe,pt,pk,c,m,es,ts,ks,_,_,_,_,_,_,_,rfl,bp.mono ((s03.trans sB).trans sD),e0,kk⟩
 case restb =>
  obtain⟨a,t,pe,pt,pk,qf,c,ns,m,es,ts,ks,De,rfl,lw,kk⟩:=h0;obtain⟨hS,bp,e0,⟨rows,hqf,ls⟩,hi⟩:=id lw;have few:=bp.few;have kl:=bp.kl;obtain⟨ht,⟨⟨ys,hpe,hE⟩,_,_⟩,⟨ws,hpk,hT⟩,_,_⟩:=id bp;have mf:=vX bp.w.g e0;have k01:K01 ks:=fun n k hk=>(hT.2 n k hk).1;have hbd:∀ e∈es,e.1<m/\e.2<m:=fun e he=>⟨(bp.w.g.w.ends e he).1,(bp.w.g.w.ends e he).2.1⟩;refine⟨_,rfl,t,pe,pt,pk,m,es,ts,ks,rfl,bp,e0,fun p rs H1 s1 wf=>?_⟩;refine⟨_,rfl,a,ns,rfl,s1.seq hS,_,rfl,_,m,rfl,by omega,fun qo o H2 s2 nq hqo ol nd ob=>?_⟩
  have pm:=Lm ol nd ob;have s02:=s1.trans s2;refine⟨p,m,es,ts,ks,.ref qo,cI o,rfl,(wf.t).mono s2,kl,bp.w.g.w,by omega,by omega,.inr ⟨qo,rfl,by rw[cI_V];exact hqo,by unfold cI;rw[MD];omega⟩,pm.map _,fun q6 r6 D6 H3 s3 _ h6 l6 hi6=>?_⟩
  have s03:=s02.trans s3;have e6:D6=De:=hi.one hi6 fun x=>rfl;subst e6;have p2:=PN m;obtain⟨Pn,eP,hP⟩:∃ n:Nat,ns.sum%((2^m:Nat):Int)=(n:Int)/\n<2^m:=by
   have h1:=Og ns.sum (show((2^m:Nat):Int)≠0 by omega)
   have h2:=Oc ns.sum (show(0:Int)<((2^m:Nat):Int) by omega)
   exact⟨(ns.sum%((2^m:Nat):Int)).toNat,by omega,by omega⟩
  have eshl:(1:Int)*2^((m:Nat):Int).toNat=((2^m:Nat):Int):=shlN m;refine⟨_,rfl,_,rfl,t,_,0,_,rfl,rfl,SqT.of (s03 _ _ ht),at30,_,rfl,a,ns,rfl,s03.seq hS,_,rfl,_,_,rfl,rfl,⟨by omega,by omega,by decide⟩,_,_,rfl,rfl,(by dsimp only;rw[eshl];omega),?_⟩
  refine⟨pe,ys,es,Pn,m,congrArg (fun z=>[V.ref pe,V.int z]) (by rw[eshl];exact eP),SqL.of (s03 _ _ hpe),hE.mono s03,by omega,by omega,hbd,fun R H4 s4 rim=>?_⟩
  have s04:=s03.trans s4;refine⟨t,pe,pt,pk,m,R,es,ts,ks,rfl,bp.mono s04,fun t' pk' ks' H5 s5 bp1 tr=>?_⟩;refine⟨t',pe,pt,pk',m,es,ts,ks',rfl,bp1,e0,fun p' rs' H6 s6' wf'=>⟨p',m,es,ts,_,.non,rI m,rfl,wf'.t,bp1.kl,bp1.w.g.w,by omega,by omega,jt,NS _,fun q7 r7 D7 H7 s7 _ h7 l7 hi7=>?_⟩⟩
  have e7:D7=D6:=hi.one hi7 (LY kl k01 tr rim hP);subst e7;have s37:=((s4.trans s5).trans s6').trans s7;have s07:=s03.trans s37;have rf:=pW (K:=K) (SqL.of (s07 _ _ hqf)) (ls.imp fun _ _ z=>z.mono s07);refine⟨_,rfl,_,rfl,_,pW (SqL.of (s37 _ _ h6)) (l6.imp fun _ _ z=>z.mono s37),rf,jB _,_,rfl,iteF ?_⟩;refine⟨_,rfl,_,rfl,_,pW (SqL.of h7) l7,rf,jB _,_,rfl,iteF ?_⟩;exact⟨a,t,pe,pt,pk,qf,c,ns,m,es,ts,ks,D7,_,_,rfl,lw.mono s07,kk⟩
 case resta =>
  obtain⟨a,t,pe,pt,pk,c,ns,m,es,ts,ks,rfl,hS,bp,e0,kk⟩:=h0;have g:=bp.w.g;have mf:=vX g e0;have few:=bp.few;have kl:=bp.kl;obtain⟨ht,⟨_,⟨xs,hpt,hR⟩,_⟩,⟨ws,hpk,hT⟩,_,_⟩:=id bp;have hxm:xs.length=m:=by rw[hR.1,g.w.len]
  have hwl:ws.length=ks.length:=hT.1;have k01:K01 ks:=fun n k hk=>(hT.2 n k hk).1;have k0:∀(n:Nat)(k:Int×Int),ks[n]?=some k->0<=k.2:=fun n k hk=>(hT.2 n k hk).2.1;refine⟨_,rfl,t,_,1,_,rfl,rfl,SqT.of ht,at31,pt,xs,rfl,.inl (SqL.of hpt),?_⟩;rw[hxm];refine⟨_,rfl,t,_,2,_,rfl,rfl,SqT.of ht,at32,pk,rfl,⟨_,SqL.of hpk⟩,bK (K:=K) (xs:=ws) (fun i zs H2=>H2=H0/\zs=((ks.take i).map (·.2)).map V.int) (ND (ax (by omega))) ⟨rfl,rfl⟩ (fun i zs H2 _ z=>by rw[z.1];exact SqL.of hpk) ?_ ?_⟩
  ·rintro i x zs H2 hx ⟨rfl,rfl⟩;obtain⟨k,hk⟩:∃ k,ks[i]?=some k:=⟨_,Mx (by rw[← hwl];exact(Mw.mp hx).1)⟩
   obtain⟨_,_,t2,z1,z2⟩:=hT.2 i k hk;rw[hx]at z1
   cases z1
   refine⟨_,rfl,t2,_,1,_,rfl,rfl,SqT.of z2,at1,rfl,?_⟩;rw[M1,hk,M8,M8];rfl
  rintro zs H2 _ ⟨rfl,rfl⟩ D hD;rw[hwl,Ni];have sD:=ak hD (.lst ((ks.map (·.2)).map V.int));refine⟨D,_,rfl,SqL.of ae,?_⟩;generalize upd H2 D (.lst ((ks.map (·.2)).map V.int))=H3 at sD;refine⟨_,rfl,t,pe,pt,pk,m,es,ts,ks,rfl,bp.mono sD,e0,fun p rs H4 s4 wf=>⟨p,m,es,ts,_,.non,rI m,rfl,wf.t,(bp.mono sD).kl,(bp.mono sD).w.g.w,by omega,by omega,jt,NS _,fun qf wlf De H5 s5 _ xlf ylf hi=>?_⟩⟩
  have lf:LstH H5 qf De:=⟨wlf,xlf,ylf⟩;have s05:=(sD.trans s4).trans s5;obtain⟨rows,hqf,ls⟩:=id lf;have rl:rows.length=De.length:=ls.1;have dl:=lI hi (by omega)
  have eshl:(1:Int)*2^((m:Nat):Int).toNat=((2^m:Nat):Int):=shlN m;refine⟨_,rfl,qf,De,rfl,lf,hi.up,hi.nn k0,_,rfl,iteF ?_⟩;refine⟨_,rfl,qf,rfl,⟨_,SqL.of hqf⟩,bK (K:=K) (xs:=rows) (fun i zs H6=>H6=H5/\zs=((De.take i).map (·.2)).map V.int) (by rw[sizeLine_eq];omega) ⟨rfl,rfl⟩ (fun i zs H6 _ z=>by rw[z.1];exact SqL.of hqf) ?_ ?_⟩
  ·rintro i x zs H6 hx ⟨rfl,rfl⟩;obtain⟨e,he,tr,rfl,htr⟩:=ls.get hx;refine⟨_,rfl,tr,_,1,_,rfl,rfl,SqT.of htr,at1,rfl,?_⟩;rw[M1,he,M8,M8];rfl
  rintro zs H6 _ ⟨rfl,rfl⟩ D6 hD6;rw[rl,Ni];have s6:=ak hD6 (.lst ((De.map (·.2)).map V.int));refine⟨D6,_,rfl,SqL.of ae,_,rfl,_,_,rfl,rfl,⟨by omega,by omega,by decide⟩,rfl,_,rfl,G1 (congrArg V.int ((Dv hi).trans eshl.symm)) ?_⟩
  generalize upd H6 D6 (.lst ((De.map (·.2)).map V.int))=H7 at s6;have hqf7:=s6 _ _ hqf;refine⟨_,rfl,qf,rfl,⟨_,SqL.of hqf7⟩,bK (K:=K) (xs:=rows) (fun i zs H8=>H8=H7/\zs=((De.take i).map fun e=>e.1*e.2).map V.int) (by rw[sizeLine_eq];omega) ⟨rfl,rfl⟩ (fun i zs H8 _ z=>by rw[z.1];exact SqL.of hqf7) ?_ ?_⟩
  ·rintro i x zs H8 hx ⟨rfl,rfl⟩;obtain⟨e,he,tr,rfl,htr⟩:=ls.get hx;have htr':=s6 _ _ htr;refine⟨_,rfl,tr,_,0,_,rfl,rfl,SqT.of htr',at0,_,rfl,tr,_,1,_,rfl,rfl,SqT.of htr',at1,_,_,rfl,rfl,cmulR (Ob (hi.hs.ex e.1 e.2 (My he)).2) (JF hi (by omega) e (My he)),rfl,?_⟩
   rw[M1,he,M8,M8];rfl
  rintro zs H8 _ ⟨rfl,rfl⟩ D8 hD8;rw[rl,Ni];have s8:=ak hD8 (.lst ((De.map fun e=>e.1*e.2).map V.int));have hm:=Hh hi kl k01 fun e he=>g.w.ends e he;refine⟨D8,_,rfl,SqL.of ae,_,_,rfl,rfl,.inl ⟨by decide,by decide⟩,_,rfl,_,rfl,_,_,rfl,rfl,⟨by omega,by omega,by decide⟩,_,_,rfl,rfl,(by rw[eshl];exact cmulR (Pk _) (two9 (by omega))),rfl,_,rfl,G1 (congrArg V.int ?_) ?_⟩
  ·show 2*(De.map fun e=>e.1*e.2).sum=ttl ks*((1:Int)*2^((m:Nat):Int).toNat);rw[eshl];exact hm
  exact⟨a,t,pe,pt,pk,qf,c,ns,m,es,ts,ks,De,rfl,⟨((s05.trans s6).trans s8).seq hS,bp.mono ((s05.trans s6).trans s8),e0,lf.mono (s6.trans s8),hi⟩,kk⟩
 refine⟨_,rfl,a,0,ns,rfl,hS,?_⟩;refine⟨_,rfl,a,ns,rfl,hS,h63,fun t pe pt pk m es ts ks H1 s1 bp=>?_⟩;have g:=bp.w.g;have few:=bp.few;have kl:=bp.kl;obtain⟨ht,wp,⟨ws,hpk,hT⟩,_,_⟩:=id bp;have hwl:ws.length=ks.length:=hT.1;have e0:0<es.length:=by
  cases es with
  |nil =>
   exfalso;obtain⟨rs,p,c⟩:=g.part;have:rs.length=0∨0<rs.length:=by omega
   rcases this with z | z
   ·have m2:m=2:=by simpa[z] using c
    have:=g.conn (fun x=>x=0) (fun e he=>nomatch he) 0 1 (by omega) (by omega) rfl
    cases this
   ·obtain⟨d,hd⟩:=(p.cr _ (My (Mx z))).ne;have:=(p.cr _ (My (Mx z))).lt d hd
    cases this
  |cons e es=>exact Nat.succ_pos _
 generalize oY ns 0=c;refine⟨_,rfl,_,_,rfl,rfl,(by show(0:Int)<2;decide),rfl,_,rfl,?_⟩
 refine ite2 (fun c1=>?_) (fun c1=>?_)
 ·refine⟨_,rfl,t,_,0,_,rfl,rfl,SqT.of ht,at30,_,rfl,t,_,1,_,rfl,rfl,SqT.of ht,at31,_,rfl,t,_,2,_,rfl,rfl,SqT.of ht,at32,pk,rfl,⟨_,SqL.of hpk⟩,bK (K:=K) (xs:=ws) (fun i zs H2=>∃ k2:Kn,Same H1 H2/\gw H2 zs k2/\k2.length=i) (ND (ax (by omega))) ⟨[],fun _ _ z=>z,⟨rfl,fun i k e=>by simp at e⟩,rfl⟩ (fun i zs H2 _ ⟨_,z,_⟩=>SqL.of (z _ _ hpk)) ?_ ?_⟩
  ·rintro i x zs H2 hx ⟨k2,s2,td,kl2⟩;obtain⟨k,hk⟩:∃ k,ks[i]?=some k:=⟨_,Mx (by rw[← hwl];exact(Mw.mp hx).1)⟩
   obtain⟨k01,k0,t2,z1,z2⟩:=hT.2 i k hk;rw[hx]at z1
   cases z1
   refine⟨_,rfl,t2,_,0,_,rfl,rfl,SqT.of (s2 _ _ z2),at0,_,rfl,t2,_,1,_,rfl,rfl,SqT.of (s2 _ _ z2),at1,_,_,rfl,rfl,(by show(0:Int)<3;decide),(by show 2<=sizeLine;decide),fun t3 ht3=>?_⟩
   have s3:=ak ht3 (.tup [.int k.1,.int (k.2%3)]);exact⟨k2++[(k.1,k.2%3)],s2.trans s3,(td.mono s3).snoc ae k01 (by show 0<=k.2%3;omega),by rw[MA,kl2];rfl⟩
  rintro zs H2 zl ⟨k2,s2,td,kl2⟩ D hD;have sD:=ak hD (.lst zs);refine⟨(by show 3<=sizeLine;decide),fun t4 ht4=>?_⟩
  have s4:=ak ht4 (.tup [.ref pe,.ref pt,.ref D]);have s24:=(s2.trans sD).trans s4;refine⟨a,t4,pe,pt,D,c,ns,m,es,ts,k2,rfl,(s1.trans s24).seq hS,⟨ae,wp.mono s24,⟨zs,s4 _ _ ae,(td.mono sD).mono s4⟩,few,by omega⟩,e0,fun H'=>kk H'⟩
 ·exact⟨a,t,pe,pt,pk,c,ns,m,es,ts,ks,rfl,s1.seq hS,bp,e0,fun H'=>kk H'⟩
end
end K8
namespace K8
open PySem L2
theorem all_mk{l:Qj}{w:World}{K:Mz}{h:Heap}{mg:Str->Option Value}{fa fV eG ma bE bD gb lK dY jN jS pE gX fK fT cO pD bF gs bg b8 eW DB lL jT fM gY jM dX dj cN cC jR jQ fQ g7 g9 g8 b7 hV lM gZ jP fP fN jO lN fO Mc:Addr}(X:K.In h)(G:h.Ns mainGlobals mg) (hfa:mg "law" = some (.ref fa))
  {Eb Fd sk sQ AZ CD A6 CK Gq Im xR zB vd wO vj wX oH o5 Gp Il vn wZ A8 CN oI o6 xZ zI x4 zJ LC Mt Ec Fe A7 CM ve wQ xS zC AY CC sj sP qi rB oG o4 vk wY A5 CJ A4 CI vi wW xV zE xX zG xW zF mC nh xY zH Ed Ff xU zD A3 CG vh wV vf wR A0 CF Ee Fg vg wU od_law Kt:Option Addr} {DN rX Aj Ap FJ xn uv uB oy FI uD Ar oz xw xy K7 DO Aq uw xo Ai rW pQ ox uC Ao An uA xq xt xr mw xu DP xp Am uz ux Al DQ uy sl_law:Array (Option Value)} {Ef ED EL DX tw ER su sH sL se j3 sN Be BE BZ AH qR Cc Bk BK B6 AM qW Cj Gu GZ HF FX zf HS x5 yw yL xG nO yU vo vJ wc uM lP wy vy vP wo uT lV wF oK oP oS oE iu oW Gs GY HE FW ze HR vA vR wu uV lX wH Bn BM B8 AO qY Cm oM oQ oU oF iw oX ye yE yS xO nX y7 yf yF yT xP nY y8 LD LR Mm Lk HX Mo Eg EE EM DY tD ES Bm BL B7 AN qX Ck vp vK wd uN lQ wz x8 yx yM xH nP yV A9 BD BY AG qQ Cb sq sG sJ r9 j2 sM qj qG qN pX iZ qO oJ oO oR oB ir oV vz vQ wq uU lW wG Bj BI B5 AL qV Ci Bi BH B4 AK qU Cg vx vO wk uR lU wD ya yA yO xJ nR yX yc yC yQ xM nV yZ yb yB yP xK nU yY mD mP mT mB gu mU yd yD yR xN nW y6 Eh EF EN DZ tE ET x9 yz yN xI nQ yW Bh BG B3 AJ qT Cf vv vN wj uQ lT wC vq vL we uO lR wA Bg BF B0 AI qS Ce Ei EG EO D4 tF EU vt vM wg uP lS wB oc_law Kj Kq Kd HW Kr:Value}
  {ti_most:Tok}
  {DF:Addr} {HQ:Value} {HN:Option Addr} {HL:Nat} {HJ:Array (Option Value)}
  {DE:Addr} {HP:Value} {HM:Option Addr} {HK:Nat} {HI:Array (Option Value)}
  (ik:MM K mainGlobals "FloorError" = some (some (.ref fV)))
  (lg:MM K mainGlobals "BadOrder" = some (some (.ref eG)))
  (nE:MM K mainGlobals "TooWide" = some (some (.ref ma)))
  (CP:MM K mainGlobals "Pull" = some (some (.ref bE)))
  (CO:MM K mainGlobals "Push" = some (some (.ref bD)))
  (Ip:MM K mainGlobals "Web" = some (some (.ref gb)))
  (iJ:Nd K (.ref bE) "__init__" = some (some (.ref bF)))
  (iI:Nd K (.ref bE) "wish" = some (some (.ref gs)))
  (de:Nd K (.ref bE) "unpleased" = some (some (.ref bg)))
  (gK:Nd K (.ref bE) "price" = some (some (.ref b8)))
  (iH:Nd K (.ref bD) "__init__" = some (some (.ref bF)))
  (iG:Nd K (.ref bD) "wish" = some (some (.ref eW)))
  (da:Nd K (.ref bD) "unpleased" = some (some (.ref bg)))
  (gJ:Nd K (.ref bD) "price" = some (some (.ref b8)))
  (kq:Nd K (.ref gb) "__init__" = some (some (.ref cC)))
  (rC:MM K mainGlobals "reached" = some (some (.ref lK)))
  (qB:K.lookup lK=some ⟨Ef,Eb,.func (MT "reached" "reached" (aD gg) (aB gg) (aj gg) .none ED EL DX Fd tw ER),DN⟩)
  (q9:MP K tw "reached" = true)
  (lD:MI K (.ref lK)=true)
  (ig:MM K mainGlobals "ends_within" = some (some (.ref dY)))
  (gM:K.lookup dY=some ⟨su,sk,.func (MT "ends_within" "ends_within" (aD bY) (aB bY) (aj bY) .none sH sL se sQ j3 sN),rX⟩)
  (h9:MP K j3 "ends_within" = true)
  (dU:MI K (.ref dY)=true)
  (nk:MM K mainGlobals "order_of" = some (some (.ref jN)))
  (mG:K.lookup jN=some ⟨Be,AZ,.func (MT "order_of" "order_of" (aD d6) (aB d6) (aj d6) .none BE BZ AH CD qR Cc),Aj⟩)
  (mW:MP K qR "order_of" = true)
  (jE:MI K (.ref jN)=true)
  (nB:MM K mainGlobals "front_of" = some (some (.ref jS)))
  (mL:K.lookup jS=some ⟨Bk,A6,.func (MT "front_of" "front_of" (aD eA) (aB eA) (aj eA) .none BK B6 AM CK qW Cj),Ap⟩)
  (m6:MP K qW "front_of" = true)
  (jJ:MI K (.ref jS)=true)
  (w6:MM K mainGlobals "fronts" = some (some (.ref pE)))
  (vI:K.lookup pE=some ⟨Gu,Gq,.func (MT "fronts" "fronts" (aD jz) (aB jz) (aj jz) (.ref DF) GZ HF FX Im zf HS),FJ⟩)
  (qz:K.lookup DF=some ⟨HQ,HN,.seq #[.none] HL,HJ⟩)
  (wK:MP K zf "fronts" = true)
  (pA:MI K (.ref pE)=true)
  (kU:MM K mainGlobals "ties_back" = some (some (.ref gX)))
  (kr:K.lookup gX=some ⟨x5,xR,.func (MT "ties_back" "ties_back" (aD cS) (aB cS) (aj cS) .none yw yL xG zB nO yU),xn⟩)
  (kK:MP K nO "ties_back" = true)
  (gN:MI K (.ref gX)=true)
  (je:MM K mainGlobals "signs_with" = some (some (.ref fK)))
  (iK:K.lookup fK=some ⟨vo,vd,.func (MT "signs_with" "signs_with" (aD ck) (aB ck) (aj ck) .none vJ wc uM wO lP wy),uv⟩)
  (i4:MP K lP "signs_with" = true)
  (fy:MI K (.ref fK)=true)
  (jk:MM K mainGlobals "add_counts" = some (some (.ref fT)))
  (iQ:K.lookup fT=some ⟨vy,vj,.func (MT "add_counts" "add_counts" (aD cy) (aB cy) (aj cy) .none vP wo uT wX lV wF),uB⟩)
  (ja:MP K lV "add_counts" = true)
  (fH:MI K (.ref fT)=true)
  (fe:MM K mainGlobals "counts_behind" = some (some (.ref cO)))
  (eS:K.lookup cO=some ⟨oK,oH,.func (MT "counts_behind" "counts_behind" (aD bz) (aB bz) (aj bz) .none oP oS oE o5 iu oW),oy⟩)
  (eY:MP K iu "counts_behind" = true)
  (cL:MI K (.ref cO)=true)
  (w4:MM K mainGlobals "worths" = some (some (.ref pD)))
  (vH:K.lookup pD=some ⟨Gs,Gp,.func (MT "worths" "worths" (aD jy) (aB jy) (aj jy) (.ref DE) GY HE FW Il ze HR),FI⟩)
  (qx:K.lookup DE=some ⟨HP,HM,.seq #[.none] HK,HI⟩)
  (wJ:MP K ze "worths" = true)
  (pz:MI K (.ref pD)=true)
  (iS:K.lookup bF=some ⟨vA,vn,.func (MT "__init__" "Tie.__init__" (aD cA) (aB cA) (aj cA) .none vR wu uV wZ lX wH),uD⟩)
  (jc:MP K lX "Tie.__init__" = true)
  (iU:MI K (.ref bF)=true)
  (fJ:OC K (.ref bF)=true)
  (mO:K.lookup gs=some ⟨Bn,A8,.func (MT "wish" "Tie.wish" (aD eF) (aB eF) (aj eF) .none BM B8 AO CN qY Cm),Ar⟩)
  (m8:MP K qY "Tie.wish" = true)
  (jL:MI K (.ref gs)=true)
  (mS:OC K (.ref gs)=true)
  (eU:K.lookup bg=some ⟨oM,oI,.func (MT "unpleased" "Tie.unpleased" (aD bA) (aB bA) (aj bA) .none oQ oU oF o6 iw oX),oz⟩)
  (eZ:MP K iw "Tie.unpleased" = true)
  (bR:MI K (.ref bg)=true)
  (cM:OC K (.ref bg)=true)
  (kE:K.lookup b8=some ⟨ye,xZ,.func (MT "price" "Tie.price" (aD cZ) (aB cZ) (aj cZ) .none yE yS xO zI nX y7),xw⟩)
  (kS:MP K nX "Tie.price" = true)
  (eV:MI K (.ref b8)=true)
  (gW:OC K (.ref b8)=true)
  (kG:K.lookup eW=some ⟨yf,x4,.func (MT "wish" "Push.wish" (aD c6) (aB c6) (aj c6) .none yF yT xP zJ nY y8),xy⟩)
  (kT:MP K nY "Push.wish" = true)
  (gU:MI K (.ref eW)=true)
  (kH:OC K (.ref eW)=true)
  (Io:MM K mainGlobals "head" = some (some (.ref DB)))
  (GQ:K.lookup DB=some ⟨LD,LC,.func (MT "head" "head" (aD sW) (aB sW) (aj sW) .none LR Mm Lk Mt HX Mo),K7⟩)
  (Ib:MP K HX "head" = true)
  (k_head:MI K (.ref DB)=true)
  (rD:MM K mainGlobals "leaving" = some (some (.ref lL)))
  (qC:K.lookup lL=some ⟨Eg,Ec,.func (MT "leaving" "leaving" (aD gh) (aB gh) (aj gh) .none EE EM DY Fe tD ES),DO⟩)
  (rg:MP K tD "leaving" = true)
  (lE:MI K (.ref lL)=true)
  (nC:MM K mainGlobals "follower" = some (some (.ref jT)))
  (mM:K.lookup jT=some ⟨Bm,A7,.func (MT "follower" "follower" (aD eB) (aB eB) (aj eB) .none BL B7 AN CM qX Ck),Aq⟩)
  (m7:MP K qX "follower" = true)
  (jK:MI K (.ref jT)=true)
  (jf:MM K mainGlobals "round_from" = some (some (.ref fM)))
  (iL:K.lookup fM=some ⟨vp,ve,.func (MT "round_from" "round_from" (aD cn) (aB cn) (aj cn) .none vK wd uN wQ lQ wz),uw⟩)
  (i5:MP K lQ "round_from" = true)
  (fz:MI K (.ref fM)=true)
  (kW:MM K mainGlobals "rounds_of" = some (some (.ref gY)))
  (ku:K.lookup gY=some ⟨x8,xS,.func (MT "rounds_of" "rounds_of" (aD cT) (aB cT) (aj cT) .none yx yM xH zC nP yV),xo⟩)
  (kL:MP K nP "rounds_of" = true)
  (gO:MI K (.ref gY)=true)
  (nj:MM K mainGlobals "sides_of" = some (some (.ref jM)))
  (mF:K.lookup jM=some ⟨A9,AY,.func (MT "sides_of" "sides_of" (aD d0) (aB d0) (aj d0) .none BD BY AG CC qQ Cb),Ai⟩)
  (mV:MP K qQ "sides_of" = true)
  (jD:MI K (.ref jM)=true)
  (ie:MM K mainGlobals "refuse_ends" = some (some (.ref dX)))
  (gL:K.lookup dX=some ⟨sq,sj,.func (MT "refuse_ends" "refuse_ends" (aD bX) (aB bX) (aj bX) .none sG sJ r9 sP j2 sM),rW⟩)
  (hZ:MP K j2 "refuse_ends" = true)
  (dS:MI K (.ref dX)=true)
  (f9:MM K mainGlobals "refuse_turns" = some (some (.ref dj)))
  (fZ:K.lookup dj=some ⟨qj,qi,.func (MT "refuse_turns" "refuse_turns" (aD bN) (aB bN) (aj bN) .none qG qN pX rB iZ qO),pQ⟩)
  (f7:MP K iZ "refuse_turns" = true)
  (di:MI K (.ref dj)=true)
  (e8:MM K mainGlobals "refuse_parted" = some (some (.ref cN)))
  (eQ:K.lookup cN=some ⟨oJ,oG,.func (MT "refuse_parted" "refuse_parted" (aD bw) (aB bw) (aj bw) .none oO oR oB o4 ir oV),ox⟩)
  (eX:MP K ir "refuse_parted" = true)
  (cK:MI K (.ref cN)=true)
  (iR:K.lookup cC=some ⟨vz,vk,.func (MT "__init__" "Web.__init__" (aD cz) (aB cz) (aj cz) .none vQ wq uU wY lW wG),uC⟩)
  (jb:MP K lW "Web.__init__" = true)
  (iT:MI K (.ref cC)=true)
  (iX:OC K (.ref cC)=true)
  (nA:MM K mainGlobals "_law_cell" = some (some (.ref jR)))
  (mK:K.lookup jR=some ⟨Bj,A5,.func (MT "_law_cell" "_law_cell" (aD eh) (aB eh) (aj eh) .none BI B5 AL CJ qV Ci),Ao⟩)
  (m5:MP K qV "_law_cell" = true)
  (jI:MI K (.ref jR)=true)
  (nz:MM K mainGlobals "_law_head" = some (some (.ref jQ)))
  (mJ:K.lookup jQ=some ⟨Bi,A4,.func (MT "_law_head" "_law_head" (aD eg) (aB eg) (aj eg) .none BH B4 AK CI qU Cg),An⟩)
  (mZ:MP K qU "_law_head" = true)
  (jH:MI K (.ref jQ)=true)
  (jj:MM K mainGlobals "_law_behind" = some (some (.ref fQ)))
  (iP:K.lookup fQ=some ⟨vx,vi,.func (MT "_law_behind" "_law_behind" (aD cx) (aB cx) (aj cx) .none vO wk uR wW lU wD),uA⟩)
  (i9:MP K lU "_law_behind" = true)
  (fG:MI K (.ref fQ)=true)
  (kY:MM K mainGlobals "_law_round" = some (some (.ref g7)))
  (kA:K.lookup g7=some ⟨ya,xV,.func (MT "_law_round" "_law_round" (aD cV) (aB cV) (aj cV) .none yA yO xJ zE nR yX),xq⟩)
  (kN:MP K nR "_law_round" = true)
  (gQ:MI K (.ref g7)=true)
  (k8:MM K mainGlobals "_law_grown" = some (some (.ref g9)))
  (kC:K.lookup g9=some ⟨yc,xX,.func (MT "_law_grown" "_law_grown" (aD cX) (aB cX) (aj cX) .none yC yQ xM zG nV yZ),xt⟩)
  (kQ:MP K nV "_law_grown" = true)
  (gS:MI K (.ref g9)=true)
  (kZ:MM K mainGlobals "_law_order" = some (some (.ref g8)))
  (kB:K.lookup g8=some ⟨yb,xW,.func (MT "_law_order" "_law_order" (aD cW) (aB cW) (aj cW) .none yB yP xK zF nU yY),xr⟩)
  (kP:MP K nU "_law_order" = true)
  (gR:MI K (.ref g8)=true)
  (dG:MM K mainGlobals "_law_renumbered" = some (some (.ref b7)))
  (dA:K.lookup b7=some ⟨mD,mC,.func (MT "_law_renumbered" "_law_renumbered" (aD bo) (aB bo) (aj bo) .none mP mT mB nh gu mU),mw⟩)
  (dD:MP K gu "_law_renumbered" = true)
  (b5:MI K (.ref b7)=true)
  (k9:MM K mainGlobals "_law_built" = some (some (.ref hV)))
  (kD:K.lookup hV=some ⟨yd,xY,.func (MT "_law_built" "_law_built" (aD cY) (aB cY) (aj cY) .none yD yR xN zH nW y6),xu⟩)
  (kR:MP K nW "_law_built" = true)
  (gT:MI K (.ref hV)=true)
  (rE:MM K mainGlobals "_law_web" = some (some (.ref lM)))
  (qD:K.lookup lM=some ⟨Eh,Ed,.func (MT "_law_web" "_law_web" (aD gj) (aB gj) (aj gj) .none EF EN DZ Ff tE ET),DP⟩)
  (rh:MP K tE "_law_web" = true)
  (lF:MI K (.ref lM)=true)
  (kX:MM K mainGlobals "_law_whole" = some (some (.ref gZ)))
  (kx:K.lookup gZ=some ⟨x9,xU,.func (MT "_law_whole" "_law_whole" (aD cU) (aB cU) (aj cU) .none yz yN xI zD nQ yW),xp⟩)
  (kM:MP K nQ "_law_whole" = true)
  (gP:MI K (.ref gZ)=true)
  (nv:MM K mainGlobals "_law_pair" = some (some (.ref jP)))
  (mI:K.lookup jP=some ⟨Bh,A3,.func (MT "_law_pair" "_law_pair" (aD d8) (aB d8) (aj d8) .none BG B3 AJ CG qT Cf),Am⟩)
  (mY:MP K qT "_law_pair" = true)
  (jG:MI K (.ref jP)=true)
  (ji:MM K mainGlobals "_law_listed" = some (some (.ref fP)))
  (iO:K.lookup fP=some ⟨vv,vh,.func (MT "_law_listed" "_law_listed" (aD cv) (aB cv) (aj cv) .none vN wj uQ wV lT wC),uz⟩)
  (i8:MP K lT "_law_listed" = true)
  (fE:MI K (.ref fP)=true)
  (jg:MM K mainGlobals "_law_turned" = some (some (.ref fN)))
  (iM:K.lookup fN=some ⟨vq,vf,.func (MT "_law_turned" "_law_turned" (aD cp) (aB cp) (aj cp) .none vL we uO wR lR wA),ux⟩)
  (i6:MP K lR "_law_turned" = true)
  (fA:MI K (.ref fN)=true)
  (nu:MM K mainGlobals "_law_with" = some (some (.ref jO)))
  (mH:K.lookup jO=some ⟨Bg,A0,.func (MT "_law_with" "_law_with" (aD d7) (aB d7) (aj d7) .none BF B0 AI CF qS Ce),Al⟩)
  (mX:MP K qS "_law_with" = true)
  (jF:MI K (.ref jO)=true)
  (rF:MM K mainGlobals "_law_rim" = some (some (.ref lN)))
  (qE:K.lookup lN=some ⟨Ei,Ee,.func (MT "_law_rim" "_law_rim" (aD gk) (aB gk) (aj gk) .none EG EO D4 Fg tF EU),DQ⟩)
  (rj:MP K tF "_law_rim" = true)
  (lG:MI K (.ref lN)=true)
  (jh:MM K mainGlobals "_law_poured" = some (some (.ref fO)))
  (iN:K.lookup fO=some ⟨vt,vg,.func (MT "_law_poured" "_law_poured" (aD cu) (aB cu) (aj cu) .none vM wg uP wU lS wB),uy⟩)
  (i7:MP K lS "_law_poured" = true)
  (fD:MI K (.ref fO)=true)
  (JV:MM K mainGlobals "law" = some (some (.ref Mc)))
  (LP:K.lookup Mc=some ⟨oc_law,od_law,.func (MT "law" "law" (aD uH) (aB uH) (aj uH) .none Kj Kq Kd Kt HW Kr),sl_law⟩)
  (Mq:MP K HW "law" = true)
  (LQ:MI K (.ref Mc)=true)
  (lj:PD K fV veM "ValueError.__new__" = true)
  (j6:PD K eG veM "ValueError.__new__" = true)
  (cR:PB K eG (.ref fV)=some true)
  (mh:PD K ma veM "ValueError.__new__" = true)
  (du:PB K ma (.ref fV)=some true)
  (AR:Oy K bE Str.empty=true)
  (BV:OH K bE=true)
  (AF:O6 K bE=true)
  (Ay:Nd K (.ref bE) "__setattr__" = some (some (.builtin "object.__setattr__")))
  (Bp:Pf K bE=true)
  (BC:MI K (.ref bE)=true)
  (ko:Nd K (.ref bE) "one" = some none)
  (ki:Nd K (.ref bE) "two" = some none)
  (dz:Nd K (.ref bE) "strength" = some none)
  (AQ:Oy K bD Str.empty=true)
  (BU:OH K bD=true)
  (AE:O6 K bD=true)
  (Ax:Nd K (.ref bD) "__setattr__" = some (some (.builtin "object.__setattr__")))
  (Bo:Pf K bD=true)
  (BB:MI K (.ref bD)=true)
  (kh:Nd K (.ref bD) "one" = some none)
  (kg:Nd K (.ref bD) "two" = some none)
  (dy:Nd K (.ref bD) "strength" = some none)
  (F3:Oy K gb Str.empty=true)
  (Hk:OH K gb=true)
  (FV:O6 K gb=true)
  (FN:Nd K (.ref gb) "__setattr__" = some (some (.builtin "object.__setattr__")))
  (Gx:Pf K gb=true)
  (GX:MI K (.ref gb)=true)
  (ke:Nd K (.ref gb) "many" = some none)
  (kc:Nd K (.ref gb) "ties" = some none)
  (iE:Nd K (.ref gb) "turns" = some none)
  (gI:Nd K (.ref gb) "rounds" = some none)
  (iF:Nd K (.ref gb) "sides" = some none)
  (gi_most:MM K mainGlobals "MOST_PLACES" = some (some (.int 16 ti_most)))
  (KA:MM K mainGlobals "len" = some none)
  (KC:MM K mainGlobals "int" = some none)
  (Fi:MM K mainGlobals "bool" = some none)
  (Fh:MM K mainGlobals "list" = some none)
  (zR:MM K mainGlobals "tuple" = some none)
  (zS:MM K mainGlobals "range" = some none)
  (j5:MM K mainGlobals "enumerate" = some none)
  (iA:MM K mainGlobals "isinstance" = some none)
  (Ky:MM K mainGlobals "min" = some none)
  (Kx:MM K mainGlobals "sum" = some none)
  (tU:MM K mainGlobals "sorted" = some none)
  (Kz:MM K mainGlobals "max" = some none)
  (KG:MM K mainGlobals "all" = some none)
  (Kw:MM K mainGlobals "zip" = some none)
  (KD:MM K mainGlobals "any" = some none)
  (md:MM K mainGlobals "reversed" = some none)
  : ∃ fd:FuncData,(∀(s:Shared)(v:Value),BindsTo s fd ⟨[v],[]⟩ [("script",v)])/\∀ base:Heap,K.In base->base.Ns mainGlobals mg->FnOk l.prog w K mg base CX0 8 fa fd ["script"] (IM K):=by
 have e:=hfa.symm.trans (MY X G JV)
 cases e
 have zM:=aT (st:=gg) qB q9 lD;have Ic:=zM.binds (ps:=["start","pairs"]) fun _ _ _ _ _ _ us hl=>by obtain⟨x0,x1,rfl⟩:=gq hl;rfl
 have l5:=aT (st:=bY) gM h9 dU;have wN:=l5.binds (ps:=["tie","patch"]) fun _ _ _ _ _ _ us hl=>by obtain⟨x0,x1,rfl⟩:=gq hl;rfl
 have tL:=aT (st:=d6) mG mW jE;have E3:=tL.binds (ps:=["web","order"]) fun _ _ _ _ _ _ us hl=>by obtain⟨x0,x1,rfl⟩:=gq hl;rfl
 have tQ:=aT (st:=eA) mL m6 jJ;have E9:=tQ.binds (ps:=["web","behind"]) fun _ _ _ _ _ _ us hl=>by obtain⟨x0,x1,rfl⟩:=gq hl;rfl
 have xf:=Ho (st:=jz) vI wK pA qz rfl;have JU:=xf.binds (ps:=["web","order"]) (ds:=[]) fun _ _ _ _ _ _ _ us hl=>match us,hl with | [_,_],_=>⟨_,rfl,rfl⟩
 have b1_fronts:=xf.binds (ps:=["web","order"]) (ds:=[.none]) fun _ _ _ _ _ _ _ us hl=>by
  have h1:us.length=1:=by simpa using hl
  match us,h1 with | [_],_=>exact⟨_,rfl,rfl⟩
 have rH:=aT (st:=cS) kr kK gN;have Cr:=rH.binds (ps:=["web","order"]) fun _ _ _ _ _ _ us hl=>by obtain⟨x0,x1,rfl⟩:=gq hl;rfl
 have n9:=aT (st:=ck) iK i4 fy;have zr:=n9.binds (ps:=["place","signs"]) fun _ _ _ _ _ _ us hl=>by obtain⟨x0,x1,rfl⟩:=gq hl;rfl
 have oq:=aT (st:=cy) iQ ja fH;have zy:=oq.binds (ps:=["counts","price","more"]) fun _ _ _ _ _ _ us hl=>by obtain⟨x0,x1,x2,rfl⟩:=qu hl;rfl
 have jn:=aT (st:=bz) eS eY cL;have rq:=jn.binds (ps:=["counts","place","ties","front"]) fun _ _ _ _ _ _ us hl=>by obtain⟨x0,x1,x2,x3,rfl⟩:=Jx hl;rfl
 have xc:=Ho (st:=jy) vH wJ pz qx rfl;have JT:=xc.binds (ps:=["web","order"]) (ds:=[]) fun _ _ _ _ _ _ _ us hl=>match us,hl with | [_,_],_=>⟨_,rfl,rfl⟩
 have Ii:=xc.binds (ps:=["web","order"]) (ds:=[.none]) fun _ _ _ _ _ _ _ us hl=>by
  have h1:us.length=1:=by simpa using hl
  match us,h1 with | [_],_=>exact⟨_,rfl,rfl⟩
 have ou:=aT (st:=cA) iS jc iU;have nZ:=ou.binds (ps:=["self","one","two","strength"]) fun _ _ _ _ _ _ us hl=>by obtain⟨x0,x1,x2,x3,rfl⟩:=Jx hl;rfl
 have tS:=aT (st:=eF) mO m8 jL;have Fc:=tS.binds (ps:=["self"]) fun _ _ _ _ _ _ us hl=>by obtain⟨x0,rfl⟩:=yp hl;rfl
 have fj:=aT (st:=bA) eU eZ bR;have jd:=fj.binds (ps:=["self","laying"]) fun _ _ _ _ _ _ us hl=>by obtain⟨x0,x1,rfl⟩:=gq hl;rfl
 have lh:=aT (st:=cZ) kE kS eV;have rA:=lh.binds (ps:=["self","laying"]) fun _ _ _ _ _ _ us hl=>by obtain⟨x0,x1,rfl⟩:=gq hl;rfl
 have rQ:=aT (st:=c6) kG kT gU;have CA:=rQ.binds (ps:=["self"]) fun _ _ _ _ _ _ us hl=>by obtain⟨x0,rfl⟩:=yp hl;rfl
 have Kv:=aT (st:=sW) GQ Ib k_head;have b_head:=Kv.binds (ps:=["ties","dart"]) fun _ _ _ _ _ _ us hl=>by obtain⟨x0,x1,rfl⟩:=gq hl;rfl
 have zN:=aT (st:=gh) qC rg lE;have Ie:=zN.binds (ps:=["ties","number","place"]) fun _ _ _ _ _ _ us hl=>by obtain⟨x0,x1,x2,rfl⟩:=qu hl;rfl
 have tR:=aT (st:=eB) mM m7 jK;have Fb:=tR.binds (ps:=["ties","turns","dart"]) fun _ _ _ _ _ _ us hl=>by obtain⟨x0,x1,x2,rfl⟩:=qu hl;rfl
 have og:=aT (st:=cn) iL i5 fz;have zt:=og.binds (ps:=["ties","turns","first"]) fun _ _ _ _ _ _ us hl=>by obtain⟨x0,x1,x2,rfl⟩:=qu hl;rfl
 have rJ:=aT (st:=cT) ku kL gO;have Cs:=rJ.binds (ps:=["ties","turns"]) fun _ _ _ _ _ _ us hl=>by obtain⟨x0,x1,rfl⟩:=gq hl;rfl
 have tK:=aT (st:=d0) mF mV jD;have E2:=tK.binds (ps:=["ties","rounds"]) fun _ _ _ _ _ _ us hl=>by obtain⟨x0,x1,rfl⟩:=gq hl;rfl
 have lZ:=aT (st:=bX) gL hZ dS;have wM:=lZ.binds (ps:=["many","ties"]) fun _ _ _ _ _ _ us hl=>by obtain⟨x0,x1,rfl⟩:=gq hl;rfl
 have j4:=aT (st:=bN) fZ f7 di;have sO:=j4.binds (ps:=["many","ties","turns"]) fun _ _ _ _ _ _ us hl=>by obtain⟨x0,x1,x2,rfl⟩:=qu hl;rfl
 have jm:=aT (st:=bw) eQ eX cK;have rp:=jm.binds (ps:=["many","ties"]) fun _ _ _ _ _ _ us hl=>by obtain⟨x0,x1,rfl⟩:=gq hl;rfl
 have ot:=aT (st:=cz) iR jb iT;have zA:=ot.binds (ps:=["self","many","ties","turns"]) fun _ _ _ _ _ _ us hl=>by obtain⟨x0,x1,x2,x3,rfl⟩:=Jx hl;rfl
 have tP:=aT (st:=eh) mK m5 jI;have E7:=tP.binds (ps:=["script","k"]) fun _ _ _ _ _ _ us hl=>by obtain⟨x0,x1,rfl⟩:=gq hl;rfl
 have tO:=aT (st:=eg) mJ mZ jH;have E6:=tO.binds (ps:=["ends","dart"]) fun _ _ _ _ _ _ us hl=>by obtain⟨x0,x1,rfl⟩:=gq hl;rfl
 have oo:=aT (st:=cx) iP i9 fG;have zx:=oo.binds (ps:=["ends","turns","dart"]) fun _ _ _ _ _ _ us hl=>by obtain⟨x0,x1,x2,rfl⟩:=qu hl;rfl
 have rM:=aT (st:=cV) kA kN gQ;have Cv:=rM.binds (ps:=["ends","turns","dart"]) fun _ _ _ _ _ _ us hl=>by obtain⟨x0,x1,x2,rfl⟩:=qu hl;rfl
 have rO:=aT (st:=cX) kC kQ gS;have Cy:=rO.binds (ps:=["cells"]) fun _ _ _ _ _ _ us hl=>by obtain⟨x0,rfl⟩:=yp hl;rfl
 have rN:=aT (st:=cW) kB kP gR;have Cw:=rN.binds (ps:=["cell","many"]) fun _ _ _ _ _ _ us hl=>by obtain⟨x0,x1,rfl⟩:=gq hl;rfl
 have iy:=aT (st:=bo) dA dD b5;have oZ:=iy.binds (ps:=["grown","cell"]) fun _ _ _ _ _ _ us hl=>by obtain⟨x0,x1,rfl⟩:=gq hl;rfl
 have rP:=aT (st:=cY) kD kR gT;have Cz:=rP.binds (ps:=["script","first","most"]) fun _ _ _ _ _ _ us hl=>by obtain⟨x0,x1,x2,rfl⟩:=qu hl;rfl
 have zO:=aT (st:=gj) qD rh lF;have Ig:=zO.binds (ps:=["built"]) fun _ _ _ _ _ _ us hl=>by obtain⟨x0,rfl⟩:=yp hl;rfl
 have rK:=aT (st:=cU) kx kM gP;have Cu:=rK.binds (ps:=["found"]) fun _ _ _ _ _ _ us hl=>by obtain⟨x0,rfl⟩:=yp hl;rfl
 have tN:=aT (st:=d8) mI mY jG;have E5:=tN.binds (ps:=["found"]) fun _ _ _ _ _ _ us hl=>by obtain⟨x0,rfl⟩:=yp hl;rfl
 have oj:=aT (st:=cv) iO i8 fE;have zw:=oj.binds (ps:=["found"]) fun _ _ _ _ _ _ us hl=>by obtain⟨x0,rfl⟩:=yp hl;rfl
 have oh:=aT (st:=cp) iM i6 fA;have zu:=oh.binds (ps:=["built","ties"]) fun _ _ _ _ _ _ us hl=>by obtain⟨x0,x1,rfl⟩:=gq hl;rfl
 have tM:=aT (st:=d7) mH mX jF;have E4:=tM.binds (ps:=["built","at","row"]) fun _ _ _ _ _ _ us hl=>by obtain⟨x0,x1,x2,rfl⟩:=qu hl;rfl
 have zP:=aT (st:=gk) qE rj lG;have Ih:=zP.binds (ps:=["ends","patch"]) fun _ _ _ _ _ _ us hl=>by obtain⟨x0,x1,rfl⟩:=gq hl;rfl
 have oi:=aT (st:=cu) iN i7 fD;have zv:=oi.binds (ps:=["first","second","more"]) fun _ _ _ _ _ _ us hl=>by obtain⟨x0,x1,x2,rfl⟩:=qu hl;rfl
 have F_law:=aT (st:=uH) LP Mq LQ;refine⟨MT "law" "law" (aD uH) (aB uH) (aj uH) .none Kj Kq Kd Kt HW Kr,fun s v=>.of_eq rfl,fun base _ _=>?_⟩;have GB:=MY X G rC;have vD:=MY X G ig;have Et:=MY X G nk;have Ez:=MY X G nB;have Jv:=MY X G w6;have Bt:=MY X G kU;have yh:=MY X G je;have yn:=MY X G jk;have qp:=MY X G fe;have Ju:=MY X G w4;have m_head:=MY X G Io;have GC:=MY X G rD;have EA:=MY X G nC;have yi:=MY X G jf;have Bu:=MY X G kW;have Es:=MY X G nj;have vC:=MY X G ie;have sy:=MY X G f9;have qm:=MY X G e8;have Ey:=MY X G nA;have Ex:=MY X G nz;have ym:=MY X G jj;have Bw:=MY X G kY;have By:=MY X G k8;have Bx:=MY X G kZ;have oN:=MY X G dG;have Bz:=MY X G k9;have GD:=MY X G rE;have Bv:=MY X G kX;have Ew:=MY X G nv;have yl:=MY X G ji;have yj:=MY X G jg;have Eu:=MY X G nu;have GG:=MY X G rF;have yk:=MY X G jh;have m_law:=MY X G JV;have Ki:=MY X G ik;have EB:=MY X G lg;have GH:=MY X G nE;have m_Pull:=MY X G CP;have m_Push:=MY X G CO;have m_Web:=MY X G Ip;have most:=MY X G gi_most;have n_len:=Nv X G KA;have n_int:=Nv X G KC;have n_bool:=Nv X G Fi;have n_list:=Nv X G Fh;have n_tuple:=Nv X G zR;have n_range:=Nv X G zS;have n_enumerate:=Nv X G j5;have n_isinstance:=Nv X G iA;have n_min:=Nv X G Ky;have n_sum:=Nv X G Kx;have n_sorted:=Nv X G tU;have n_max:=Nv X G Kz;have n_all:=Nv X G KG;have n_zip:=Nv X G Kw;have n_any:=Nv X G KD;have n_reversed:=Nv X G md;have TL:CT K bE:=⟨⟨AR,BV,AF,Ay⟩,ko,ki,dz⟩;have TS:CT K bD:=⟨⟨AQ,BU,AE,Ax⟩,kh,kg,dy⟩;have cw:CW K gb:=⟨⟨F3,Hk,FV,FN⟩,ke,kc,iE,gI,iF⟩;have T:Txt mg:=⟨n_max,n_all,n_zip,n_any,n_len,n_int,n_bool,n_list,n_tuple,n_range,n_enumerate,n_isinstance,n_min,n_sum,n_sorted⟩;have TM:TxtM mg:={ T with most:=⟨_,most⟩ };have GI:FnOk l.prog w K mg base CX0 1 bF _ _ (sV K):=Lv ou;have ML:Mak l.prog w K mg base 1 "Pull" _ (sV K) bE bF _:=⟨⟨Bp,iJ,fJ,BC⟩,GI,nZ,m_Pull⟩;have MS:Mak l.prog w K mg base 1 "Push" _ (sV K) bD bF _:=⟨⟨Bo,iH,fJ,BB⟩,GI,nZ,m_Push⟩;have wL:Met l.prog w K mg base 1 bE "wish" _ (xj false) gs _:=⟨⟨iI,mS,jL⟩,Ji tS,Fc⟩;have wS:Met l.prog w K mg base 1 bD "wish" _ (xj true) eW _:=⟨⟨iG,kH,gU⟩,Jh rQ,CA⟩;have uL:Met l.prog w K mg base 2 bE "unpleased" _ (C0 bE false) bg _:=⟨⟨de,cM,bR⟩,Gb fj TL wL,jd⟩;have uS:Met l.prog w K mg base 2 bD "unpleased" _ (C0 bD true) bg _:=⟨⟨da,cM,bR⟩,Gb fj TS wS,jd⟩;have rL:Met l.prog w K mg base 3 bE "price" _ (pP bE false) b8 _:=⟨⟨gK,gW,eV⟩,Dc lh TL uL,rA⟩;have rS:Met l.prog w K mg base 3 bD "price" _ (pP bD true) b8 _:=⟨⟨gJ,gW,eV⟩,Dc lh TS uS,rA⟩;have Gh:Cal l.prog w K mg base 1 "head" _ (FE K) DB _:=⟨Lx Kv,b_head,m_head,k_head⟩;have Gl:Cal l.prog w K mg base 1 "leaving" _ (FC K) lL _:=⟨D9 zN,Ie,GC,lE⟩;have Gf:Cal l.prog w K mg base 2 "follower" _ (K5 K) jT _:=⟨AX tR T Gh Gl,Fb,EA,jK⟩;have Gr:Cal l.prog w K mg base 3 "round_from" _ (FF K) fM _:=⟨Ly og Gf,zt,yi,fz⟩;have GR:Cal l.prog w K mg base 4 "rounds_of" _ (ug K) gY _:=⟨Gg rJ T Gr,Cs,Bu,gO⟩;have GS:Cal l.prog w K mg base 1 "sides_of" _ (z9 K) jM _:=⟨Jm tK T,E2,Es,jD⟩;have Ga:Cal l.prog w K mg base 1 "reached" _ (Ab K) lK _:=⟨D5 zM,Ic,GB,lD⟩;have R1:Cal l.prog w K mg base 1 "refuse_ends" _ (Ad K) dX _:=⟨Jo lZ,wM,vC,dS⟩;have R2:Cal l.prog w K mg base 1 "refuse_turns" _ (uh K) dj _:=⟨Gd j4 T,sO,sy,di⟩;have R3:Cal l.prog w K mg base 2 "refuse_parted" _ (Ac K) cN _:=⟨Jn jm Ga,rp,qm,cK⟩;have WI:FnOk l.prog w K mg base CX0 5 cC _ _ (uf K):=Jj ot T R1 R2 R3 GR GS;have MW:Mak l.prog w K mg base 5 "Web" _ (uf K) gb cC _:=⟨⟨Gx,kq,iX,GX⟩,WI,zA,m_Web⟩;have Gc:Cal l.prog w K mg base 1 "_law_cell" _ (C2 K) jR _:=⟨Lz tP T,E7,Ey,jI⟩;have L1:Cal l.prog w K mg base 1 "_law_head" _ (um K) jQ _:=⟨Jq tO,E6,Ex,jH⟩;have L2':Cal l.prog w K mg base 2 "_law_behind" _ (ur K) fQ _:=⟨Ea oo T L1,zx,ym,fG⟩;have L3:Cal l.prog w K mg base 3 "_law_round" _ (uk K) g7 _:=⟨Gi rM L2',Cv,Bw,gQ⟩;have L4:Cal l.prog w K mg base 4 "_law_grown" _ (Ae K) g9 _:=⟨Jr rO T L3 L1,Cy,By,gS⟩;have L5:Cal l.prog w K mg base 1 "_law_order" _ ui g8 _:=⟨Jp rN T,Cw,Bx,gR⟩;have L6:Cal l.prog w K mg base 2 "_law_renumbered" _ K1 b7 _:=⟨ok_ren iy T L5,oZ,oN,b5⟩;have L7:Cal l.prog w K mg base 5 "_law_built" _ (uo K) hV _:=⟨Gk rP T L4 L6 Gc,Cz,Bz,gT⟩;have L8:Cal l.prog w K mg base 7 "_law_web" _ (FD bE bD gb) lM _:=⟨Lu zO T ML MS TL TS MW cw,Ig,GD,lF⟩;have L9:Cal l.prog w K mg base 1 "_law_whole" _ K3 gZ _:=⟨Jk rK T,Cu,Bv,gP⟩;have Ge:Cal l.prog w K mg base 1 "ends_within" _ (pf K) dY _:=⟨F9 l5,wN,vD,dU⟩;have XB:ErrC K mg "BadOrder" eG:=⟨EB,j6⟩;have XW:ErrC K mg "TooWide" ma:=⟨GH,mh⟩;have Gt:Cal l.prog w K mg base 2 "front_of" _ (Af bE bD gb) jS _:=⟨Js tQ cw TL TS Ge,E9,Ez,jJ⟩;have Go:CalX l.prog w K mg base 1 "order_of" _ (C1 eG gb) jN _:=⟨ok_ord tL T cw XB,E3,Et,jE⟩;have GF:CalX l.prog w K mg base 3 "fronts" _ (K4 eG bE bD gb) pE _:=⟨Gm xf Go Gt,JU,Jv,pA⟩;have Gbk:Cal l.prog w K mg base 2 "ties_back" _ (FG bE bD gb) gX _:=⟨LA rH cw TL TS Ge,Cr,Bt,gN⟩;have Gsw:Cal l.prog w K mg base 1 "signs_with" _ z8 fK _:=⟨Jl n9,zr,yh,fy⟩;have Gad:Cal l.prog w K mg base 1 "add_counts" _ IP fT _:=⟨ok_add oq,zy,yn,fH⟩;have Gcb:Cal l.prog w K mg base 4 "counts_behind" _ (spCB bE bD) cO _:=⟨ok_cb jn T TL TS rL rS Gsw Gad,rq,qp,cL⟩;have Gws:CalX l.prog w K mg base 5 "worths" _ (spWs bE bD gb) pD _:=⟨ok_ws xc TM cw XW Go GF Gbk Gcb,JT,Ju,pz⟩;have TR:TxtR mg:={ T with n_reversed:=n_reversed };have Gpr:Cal l.prog w K mg base 2 "_law_pair" _ FA jP _:=⟨Ls tN T L9,E5,Ew,jG⟩;have Gli:Cal l.prog w K mg base 3 "_law_listed" _ uj fP _:=⟨Gj oj T Gpr,zw,yl,fE⟩;have Gtu:Cal l.prog w K mg base 1 "_law_turned" _ KZ fN _:=⟨ok_trn oh T,zu,yj,fA⟩;have Gwi:Cal l.prog w K mg base 1 "_law_with" _ Fy jO _:=⟨Lq tM T,E4,Eu,jF⟩;have Gri:Cal l.prog w K mg base 1 "_law_rim" _ (K0 K) lN _:=⟨ok_rim zP T,Ih,GG,lG⟩;have Gpo:Cal l.prog w K mg base 1 "_law_poured" _ Fz fO _:=⟨Lr oi T,zv,yk,fD⟩;exact ok_law F_law TR L7 Gc L5 L8 Gws Ii Gri Gtu Gwi Gli Gpo
theorem walk{l:Qj}{q:Program}{loose:List Str}{XP:(Str->Option Value)->Heap->Prop}{YP:World->Heap->Prop}{d:DefRec}{K:Params->Mz}(hn:l.most=some 63)(hdf:d.params.defaults = [])
  (hY:∀(w:World)(h:Heap),YP w h->(K w.params).In h)
  (F:∀(w:World)(mg:Str->Option Value)(fa:Addr)(h:Heap),(K w.params).In h->h.Ns mainGlobals mg->mg d.name=some (.ref fa) ->
   ∃ fd:FuncData,(∀(s:Shared)(u:Value),BindsTo s fd ⟨[u],[]⟩ [("script",u)])/\∀ base:Heap,(K w.params).In base->base.Ns mainGlobals mg->FnOk l.prog w (K w.params) mg base CX0 8 fa fd ["script"] (IM (K w.params))) :
  PySem.W.WalkO q loose XP YP l.row.toRowW d [] (fun f vs=>PySem.call f vs) :=
 L2.walk_of (n:=63) (k:=8) (x:="script") (CX:=fun _=>CX0) (sp:=fun w=>IM (K w.params)) hn (by decide) hdf ⟨rfl,by decide,by decide⟩ hY F (fun _ _ a ns hl _ hS=>⟨a,ns,rfl,hS,hl,fun _=>rfl⟩) fun _ _ _ _ _ z=>z
end K8
def PySem.W.Fast.tw14834769723598332064:Nat:=0
def PySem.W.Fast.tw6321521304884205665:Nat:=0
def PySem.W.Fast.tw5895179993306537124:Nat:=0
def PySem.W.Fast.tw434064149312464676:Nat:=0
def PySem.W.Fast.tw3688935123361082152:Nat:=0
def PySem.W.Fast.tw1051772718959875211:Nat:=0
def PySem.W.Fast.tw11750629308816549579:Nat:=0
def PySem.W.Fast.tw662676238234278572:Nat:=0
def PySem.W.Fast.tw1259192459316149293:Nat:=0
def PySem.W.Fast.tw7338057037185422928:Nat:=0
def PySem.W.Fast.tw6146685921400603473:Nat:=0
def PySem.W.Fast.tw2771310197731492115:Nat:=0
def PySem.W.Fast.tw10266731040099260852:Nat:=0
def PySem.W.Fast.tw10007222379869598520:Nat:=0
def PySem.W.Fast.tw6769214202165163513:Nat:=0
def PySem.W.Fast.tw11666076380015295835:Nat:=0
def PySem.W.Fast.tw806039279784768124:Nat:=0
def PySem.W.Fast.tw10721662913177720477:Nat:=0
namespace PySem.W.Fast
def tw18063408132293535808:=0
def tw8012154637075640544:=0
def tw13363219740103956736:=0
def tw15244985368179775776:=0
def tw18319807941963782592:=0
def tw7416853183726011008:=0
def tw5221276305744462496:=0
def tw15616861013595258592:=0
def tw10754259422667919296:=0
def tw14588296600444205249:=0
def tw18226720649563842753:=0
def tw13894475397788282049:=0
def tw4707372076926684417:=0
def tw2031940282978935073:=0
def tw9029941881178893601:=0
def tw902365820763107617:=0
def tw16869303208469982529:=0
def tw1886568513763498337:=0
def tw7480633748726682977:=0
def tw6246602496468985249:=0
def tw5400313913890961825:=0
def tw3916887644729738785:=0
def tw15225534105032641089:=0
def tw3985080958712365665:=0
def tw2559726004082544257:=0
def tw10629207401811410593:=0
def tw11780842726424769217:=0
def tw17635240174378133441:=0
def tw10099304194619556801:=0
def tw14599267181093823522:=0
def tw1105967025680722082:=0
def tw3667962789829327010:=0
def tw17721388335465866434:=0
def tw11601008145167446242:=0
def tw225167180416812322:=0
def tw15049570193850227042:=0
def tw11212281587241068962:=0
def tw7095998755510778402:=0
def tw11709525457442101826:=0
def tw13289200660215804514:=0
def tw12001931779067336354:=0
def tw13752545448454759138:=0
def tw2146907156052334306:=0
def tw842515688418943778:=0
def tw4495137953828696898:=0
def tw4615788790591851362:=0
def tw17465133906511633346:=0
def tw4097468756504940514:=0
def tw539750156373890018:=0
def tw12679519624346523651:=0
def tw2554055124892349443:=0
def tw2526467786602132547:=0
def tw3335543303230261443:=0
def tw10432326941349136611:=0
def tw13421867223765938595:=0
def tw6440035661304851971:=0
def tw17398895338162692675:=0
def tw18271932305434148451:=0
def tw17906207229798542019:=0
def tw13624611960529166019:=0
def tw11850490364337113923:=0
def tw7293141577327523779:=0
def tw2291207199665031107:=0
def tw11633142093106636771:=0
def tw17173352348134690820:=0
def tw5604627141691740228:=0
def tw12906414010805112900:=0
def tw4137058134442128484:=0
def tw3707837634353898724:=0
def tw10012535168424939780:=0
def tw14093372041732860260:=0
def tw13807829132865193540:=0
def tw6794031581089727076:=0
def tw7822465341823467172:=0
def tw13846911667401021124:=0
def tw15924502833680577284:=0
def tw13787100762015115044:=0
def tw3657220963186409252:=0
def tw18197344631847732068:=0
def tw9931199428581591908:=0
def tw4221878227614107524:=0
def tw4684850994482457572:=0
def tw18273970089005968356:=0
def tw10896778891950531813:=0
def tw12703610984529889573:=0
def tw12195222149213122885:=0
def tw12567280417100736837:=0
def tw8825334208133401957:=0
def tw4831607804718590309:=0
def tw11744595457996428677:=0
def tw6993349566548566469:=0
def tw15872966148425304517:=0
def tw9720517729601662405:=0
def tw6041918055795943973:=0
def tw14580410844995037765:=0
def tw11592472214186274501:=0
def tw11563033013156750149:=0
def tw914341590759317413:=0
def tw777639239149262789:=0
def tw13409321685371310021:=0
def tw10740399708584666085:=0
def tw9946532233179387110:=0
def tw4321315162233078086:=0
def tw14609157109265597766:=0
def tw4347571001053164902:=0
def tw10317411308159607302:=0
def tw13238732199765707334:=0
def tw11008377593344375590:=0
def tw9136885221422838694:=0
def tw13054020448710345702:=0
def tw16151126655093019655:=0
def tw2135542126764622887:=0
def tw4537590661315201127:=0
def tw1342420049141581959:=0
def tw8422326095682320551:=0
def tw14762697978412309671:=0
def tw10951867164144546023:=0
def tw13420197556743532967:=0
def tw2623175396696469991:=0
def tw3163993325826135559:=0
def tw1921666841036914215:=0
def tw14828561533386380871:=0
def tw2094633026080813671:=0
def tw10877784902167689831:=0
def tw2431549052266652295:=0
def tw11365863373228656359:=0
def tw14858531130532660999:=0
def tw17862570631105691399:=0
def tw790307425662075719:=0
def tw5716804006587052999:=0
def tw15546492136069607496:=0
def tw1154598170089751720:=0
def tw4013627481550041256:=0
def tw2109668145702196392:=0
def tw17743226947918537928:=0
def tw4462491278712474888:=0
def tw15762490399772821800:=0
def tw18267750681330723112:=0
def tw1194526185549449544:=0
def tw13461690803996388904:=0
def tw560276139934747240:=0
def tw12790173065119421032:=0
def tw17951468669142271720:=0
def tw13972018920630974216:=0
def tw12760317386817504008:=0
def tw12098966097819472680:=0
def tw13657986991485789992:=0
def tw1413725583101057832:=0
def tw6527596361445161800:=0
def tw7177376824736281705:=0
def tw16473373191533329545:=0
def tw15243001638844692681:=0
def tw2707091289956449513:=0
def tw4076329038957252873:=0
def tw7521642418511574345:=0
def tw11503348978774370793:=0
def tw17575405674163627497:=0
def tw15210898441838338665:=0
def tw6169246653266112329:=0
def tw15947900016889007945:=0
def tw17301033156976981929:=0
def tw599098240989375433:=0
def tw18154935068586291210:=0
def tw14622218254872796426:=0
def tw13451317625987650986:=0
def tw4256041417787424202:=0
def tw523276827637300810:=0
def tw3140629739689811626:=0
def tw6142889542764107466:=0
def tw16897322920241443594:=0
def tw6193956635866284842:=0
def tw10146320052247279594:=0
def tw552296511834524747:=0
def tw4535289483684828267:=0
def tw396912910309364875:=0
def tw12682729689019755755:=0
def tw2273848490702257387:=0
def tw12896080934872445355:=0
def tw4881409573522500043:=0
def tw18336998544245896651:=0
def tw4472550296368199147:=0
def tw14218346950603381259:=0
def tw15955323903124522539:=0
def tw6533086248522392235:=0
def tw3094778290411403947:=0
def tw2817613487758949195:=0
def tw12695751078396660683:=0
def tw8684760781638531084:=0
def tw9506236912120144972:=0
def tw8823475231319853196:=0
def tw8469539654462811308:=0
def tw2399190115362692332:=0
def tw2861592568936417612:=0
def tw9364001485090299372:=0
def tw5022589794621032012:=0
def tw12133114617166837420:=0
def tw10332642029994030764:=0
def tw8086599102723400460:=0
def tw17729765854415382348:=0
def tw16554474246965516108:=0
def tw4808885174417913772:=0
def tw17453556421561690028:=0
def tw13385556495881525261:=0
def tw12209763185994603565:=0
def tw10223407718700377165:=0
def tw5269732949147178093:=0
def tw14385452842367606957:=0
def tw1022020224855647437:=0
def tw13762880550755982605:=0
def tw973733116269453613:=0
def tw11051022190901129677:=0
def tw6015958513515029965:=0
def tw18288196934079426157:=0
def tw7420211325244124813:=0
def tw16799323190151649997:=0
def tw7009550422741342957:=0
def tw3973376305980892973:=0
def tw3433302944380825389:=0
def tw16317305163691244365:=0
def tw9283445337144798125:=0
def tw16925870902471895086:=0
def tw11764570381569500398:=0
def tw5911760876938475790:=0
def tw8245486393691742510:=0
def tw2748318312356809070:=0
def tw16870304124013727150:=0
def tw11436526993122009518:=0
def tw7076663677617819086:=0
def tw1756454052899070542:=0
def tw14584190529795944078:=0
def tw16174984512229000910:=0
def tw6683077326194616046:=0
def tw13658415433267499854:=0
def tw5396842801855734606:=0
def tw14285749846350887790:=0
def tw11550801055996866414:=0
def tw12009074992118237327:=0
def tw2044976314472322223:=0
def tw1689231623041377487:=0
def tw10631340602969853263:=0
def tw13945474760565085519:=0
def tw1820383710524019055:=0
def tw9736473841588962671:=0
def tw994970852568804783:=0
def tw9578737415477023343:=0
def tw14260374765818046095:=0
def tw15709366091352387215:=0
def tw6034221589236836143:=0
def tw382791841505014767:=0
def tw17121315123164941328:=0
def tw2991142788310809616:=0
def tw2498409391484682256:=0
def tw4973768199751248976:=0
def tw10717725104171963472:=0
def tw16955412423398291760:=0
def tw13051625989744189840:=0
def tw18305664302947041680:=0
def tw9606202946044022192:=0
def tw1972296362243265328:=0
def tw4303815194558438352:=0
def tw16973670914696930321:=0
def tw12537130707174839473:=0
def tw16835318739658139825:=0
def tw9973485477467586769:=0
def tw2265400980569820369:=0
def tw14714080939413038385:=0
def tw9084699650068309329:=0
def tw2085938464328634705:=0
def tw6756117574223628753:=0
def tw18000728596488829425:=0
def tw2714668467493675569:=0
def tw2493033488217096849:=0
def tw2483430142302370481:=0
def tw1137311242623969969:=0
def tw10069956709256330961:=0
def tw18173665252589997809:=0
def tw2866757139795392273:=0
def tw1856448761421937457:=0
def tw6013240181023220593:=0
def tw5212333976742826897:=0
def tw2832734090228221905:=0
def tw16082131879922227153:=0
def tw10619275417462195185:=0
def tw8859944282147956754:=0
def tw12419470328035657810:=0
def tw6498103204921731282:=0
def tw12361741350115537138:=0
def tw8523710127611000082:=0
def tw17986611056314102130:=0
def tw6747904314479638930:=0
def tw1020485020826906098:=0
def tw2026246644613079602:=0
def tw10871584284432148018:=0
def tw4787478419936130642:=0
def tw18331226912711150226:=0
def tw14452706839177767602:=0
def tw15055853471395203890:=0
def tw8678257303509946675:=0
def tw450311839496931731:=0
def tw7887452010641569203:=0
def tw15602863463177172531:=0
def tw5849105737942503987:=0
def tw15829320797107903123:=0
def tw3146471422431352627:=0
def tw7564737195838510899:=0
def tw4003442433157722931:=0
def tw13225404369222698899:=0
def tw7607361840045036435:=0
def tw9149486707937303475:=0
def tw6208860449809639347:=0
def tw10218198892892040179:=0
def tw18350153264522440724:=0
def tw10655296893506277588:=0
def tw14310169051467337972:=0
def tw12195105598490276212:=0
def tw16684101503830481300:=0
def tw16452861541411724692:=0
def tw14350481409835023860:=0
def tw9246716135908502068:=0
def tw6810230769826949716:=0
def tw15503161151156238932:=0
def tw11614399173865793140:=0
def tw14700729658245393044:=0
def tw5411487817047471796:=0
def tw5317420227479965396:=0
def tw15649662153810025396:=0
def tw817490525703947252:=0
def tw16909468843418450037:=0
def tw4803037908859720853:=0
def tw12341729973700748469:=0
def tw14841796080162202869:=0
def tw481099346039206229:=0
def tw17791551215641788789:=0
def tw17099347192871068053:=0
def tw5854620247948317205:=0
def tw12549637920909007413:=0
def tw8594520437890102869:=0
def tw14221049528183449173:=0
def tw5491619083593642581:=0
def tw16672067087081721493:=0
def tw9570966118330440405:=0
def tw176898731775972117:=0
def tw5299289494304207669:=0
def tw4864670279052744565:=0
def tw3637568615533156245:=0
def tw4143699516692975573:=0
def tw7067098918680580085:=0
def tw2021288493993509142:=0
def tw8681566284127156566:=0
def tw11211302595717832054:=0
def tw2475488330115722614:=0
def tw1491902428164586998:=0
def tw7971195340848491030:=0
def tw8594351921155663446:=0
def tw17466272505445054166:=0
def tw15358711046580914998:=0
def tw13413246125567131510:=0
def tw2192183374510694294:=0
def tw10616065067784683671:=0
def tw1825027734052428983:=0
def tw2400937008756604215:=0
def tw14904765235163020631:=0
def tw3753849030147733847:=0
def tw13867803982824855095:=0
def tw3524861603189335:=0
def tw15698867136983940759:=0
def tw12948012476687761047:=0
def tw5600985087915651767:=0
def tw15358177365158449943:=0
def tw6418882402237179703:=0
def tw8781371746125687735:=0
def tw7886350549527609335:=0
def tw4647995597785063544:=0
def tw10638828842608557240:=0
def tw5246110449619755352:=0
def tw16332456728384942520:=0
def tw12049074494049533496:=0
def tw3809395216540159672:=0
def tw5924930002797151928:=0
def tw8226309241096049560:=0
def tw13397982263406949433:=0
def tw6825671188166804569:=0
def tw12994387125675917433:=0
def tw10915330290644366649:=0
def tw11246367241348241753:=0
def tw6336778089124517241:=0
def tw8732165741549084185:=0
def tw1206386599842221625:=0
def tw18282763222440860441:=0
def tw3659678047050457881:=0
def tw10077124221385063225:=0
def tw9957082734783807353:=0
def tw6946963739573054586:=0
def tw17358637236739922106:=0
def tw4629687308735705306:=0
def tw1006055313340934362:=0
def tw5842931582708455738:=0
def tw17868517401788095834:=0
def tw16734347460744664570:=0
def tw2737478042425934330:=0
def tw13951123806318052954:=0
def tw2591183555460092570:=0
def tw13884872218288166586:=0
def tw770080255634341690:=0
def tw743030949111942970:=0
def tw1891144528333180762:=0
def tw17842482109640111098:=0
def tw8030207592206091323:=0
def tw8945603143050242235:=0
def tw18342348069948757211:=0
def tw4959854724800528795:=0
def tw16973313640102752699:=0
def tw12767824081915095707:=0
def tw3081774404483695419:=0
def tw9949758979774181404:=0
def tw17396460056749852732:=0
def tw18196797020271044764:=0
def tw1664551767141210300:=0
def tw460239089861771452:=0
def tw9262651224355489020:=0
def tw428915127169967356:=0
def tw8988221962832738556:=0
def tw7278285494736363804:=0
def tw17660226702831905052:=0
def tw14448397545374504220:=0
def tw8559006279785213244:=0
def tw1476997268474275164:=0
def tw16767612329284001116:=0
def tw3881457542190474620:=0
def tw654499177855285724:=0
def tw1655936865383481948:=0
def tw13680972573967065692:=0
def tw2310950144107785916:=0
def tw9957139038218751772:=0
def tw7516888329659517756:=0
def tw16718272737242675004:=0
def tw11764653395019233084:=0
def tw10888578093313180604:=0
def tw991318377114257340:=0
def tw10954085404972841916:=0
def tw16390644357572261852:=0
def tw14091568702885393372:=0
def tw4167213123461797981:=0
def tw10466089652872492253:=0
def tw13070059258899587325:=0
def tw855472721315298589:=0
def tw18175163797375563229:=0
def tw17447197173996699101:=0
def tw664784012165298717:=0
def tw6732181640343493245:=0
def tw18358501446085031549:=0
def tw3552315000418966237:=0
def tw6681420076981488349:=0
def tw618139583276785405:=0
def tw8275602719634739997:=0
def tw7288418733169356605:=0
def tw8898763660879032157:=0
def tw17682008555729964925:=0
def tw5728751503562620893:=0
def tw3570557628774866909:=0
def tw15176441112813422654:=0
def tw8190600913042779294:=0
def tw6308607876782104766:=0
def tw4744910235291535614:=0
def tw12470946258933964062:=0
def tw12837935030388646174:=0
def tw14684510866064190910:=0
def tw7048565551527401118:=0
def tw16101656237056083774:=0
def tw11640568858770563902:=0
def tw16283073627599689534:=0
def tw12859508153967095774:=0
def tw9419295271552877631:=0
def tw6916645405653926015:=0
def tw18069270650962913471:=0
def tw14480685332081194239:=0
def tw13798206338976514367:=0
def tw481896836326732095:=0
def tw17437323336317282655:=0
def tw18048101160751867359:=0
def tw6210206299767872127:=0
def tw11750419743063126815:=0
def tw16684020337853274015:=0
def tw11956598649421380511:=0
def tw2743814610274283047:=0
end PySem.W.Fast
open PySem PySem.W PyProof.Rows
set_option maxRecDepth 100000 in
set_option maxHeartbeats 0 in
theorem PySem.Challenge.cw_spinfloor_k71_whole_worths_turned_holds : PySem.Challenge.rw_spinfloor_k71_whole_worths_turned.Holds := by
 w_on;o_law;k_head;(case hw=>w_witness2);k_fill;refine K8.walk (l:=PySem.Challenge.rw_spinfloor_k71_whole_worths_turned) rfl rfl (fun w h Y=>PySem.W.kIn_of Y) ?F
 case F =>
  intro w mg fa h KX G hmg;refine' K8.all_mk KX G hmg ?ik ?lg ?nE ?CP ?CO ?Ip ?iJ ?iI ?de ?gK ?iH ?iG ?da ?gJ ?kq ?rC ?qB ?q9 ?lD ?ig ?gM ?h9 ?dU ?nk ?mG ?mW ?jE ?nB ?mL ?m6 ?jJ ?w6 ?vI ?qz ?wK ?pA ?kU ?kr ?kK ?gN ?je ?iK ?i4 ?fy ?jk ?iQ ?ja ?fH ?fe ?eS ?eY ?cL ?w4 ?vH ?qx ?wJ ?pz ?iS ?jc ?iU ?fJ ?mO ?m8 ?jL ?mS ?eU ?eZ ?bR ?cM ?kE ?kS ?eV ?gW ?kG ?kT ?gU ?kH ?Io ?GQ ?Ib ?k_head ?rD ?qC ?rg ?lE ?nC ?mM ?m7 ?jK ?jf ?iL ?i5 ?fz ?kW ?ku ?kL ?gO ?nj ?mF ?mV ?jD ?ie ?gL ?hZ ?dS ?f9 ?fZ ?f7 ?di ?e8 ?eQ ?eX ?cK ?iR ?jb ?iT ?iX ?nA ?mK ?m5 ?jI ?nz ?mJ ?mZ ?jH ?jj ?iP ?i9 ?fG ?kY ?kA ?kN ?gQ ?k8 ?kC ?kQ ?gS ?kZ ?kB ?kP ?gR ?dG ?dA ?dD ?b5 ?k9 ?kD ?kR ?gT ?rE ?qD ?rh ?lF ?kX ?kx ?kM ?gP ?nv ?mI ?mY ?jG ?ji ?iO ?i8 ?fE ?jg ?iM ?i6 ?fA ?nu ?mH ?mX ?jF ?rF ?qE ?rj ?lG ?jh ?iN ?i7 ?fD ?JV ?LP ?Mq ?LQ ?lj ?j6 ?cR ?mh ?du ?AR ?BV ?AF ?Ay ?Bp ?BC ?ko ?ki ?dz ?AQ ?BU ?AE ?Ax ?Bo ?BB ?kh ?kg ?dy ?F3 ?Hk ?FV ?FN ?Gx ?GX ?ke ?kc ?iE ?gI ?iF ?gi_most ?KA ?KC ?Fi ?Fh ?zR ?zS ?j5 ?iA ?Ky ?Kx ?tU ?Kz ?KG ?Kw ?KD ?md;(case ik=>k_is);(case lg=>k_is);(case nE=>k_is);(case CP=>k_is);(case CO=>k_is);(case Ip=>k_is);(case iJ=>k_is);(case iI=>k_is);(case de=>k_is);(case gK=>k_is);(case iH=>k_is);(case iG=>k_is);(case da=>k_is);(case gJ=>k_is);(case kq=>k_is);(case rC=>k_is);(case qB=>k_is);(case q9=>k_is);(case lD=>k_is);(case ig=>k_is);(case gM=>k_is);(case h9=>k_is);(case dU=>k_is);(case nk=>k_is);(case mG=>k_is);(case mW=>k_is);(case jE=>k_is);(case nB=>k_is);(case mL=>k_is);(case m6=>k_is);(case jJ=>k_is);(case w6=>k_is);(case vI=>k_is);(case qz=>k_is);(case wK=>k_is);(case pA=>k_is);(case kU=>k_is);(case kr=>k_is);(case kK=>k_is);(case gN=>k_is);(case je=>k_is);(case iK=>k_is);(case i4=>k_is);(case fy=>k_is);(case jk=>k_is);(case iQ=>k_is);(case ja=>k_is);(case fH=>k_is);(case fe=>k_is);(case eS=>k_is);(case eY=>k_is);(case cL=>k_is);(case w4=>k_is);(case vH=>k_is);(case qx=>k_is);(case wJ=>k_is);(case pz=>k_is);(case iS=>k_is);(case jc=>k_is);(case iU=>k_is);(case fJ=>k_is);(case mO=>k_is);(case m8=>k_is);(case jL=>k_is);(case mS=>k_is);(case eU=>k_is);(case eZ=>k_is);(case bR=>k_is);(case cM=>k_is);(case kE=>k_is);(case kS=>k_is);(case eV=>k_is);(case gW=>k_is);(case kG=>k_is);(case kT=>k_is);(case gU=>k_is);(case kH=>k_is);(case Io=>k_is);(case GQ=>k_is);(case Ib=>k_is);(case k_head=>k_is);(case rD=>k_is);(case qC=>k_is);(case rg=>k_is);(case lE=>k_is);(case nC=>k_is);(case mM=>k_is);(case m7=>k_is);(case jK=>k_is);(case jf=>k_is);(case iL=>k_is);(case i5=>k_is);(case fz=>k_is);(case kW=>k_is);(case ku=>k_is);(case kL=>k_is);(case gO=>k_is);(case nj=>k_is);(case mF=>k_is);(case mV=>k_is);(case jD=>k_is);(case ie=>k_is);(case gL=>k_is);(case hZ=>k_is);(case dS=>k_is);(case f9=>k_is);(case fZ=>k_is);(case f7=>k_is);(case di=>k_is);(case e8=>k_is);(case eQ=>k_is);(case eX=>k_is);(case cK=>k_is);(case iR=>k_is);(case jb=>k_is);(case iT=>k_is);(case iX=>k_is);(case nA=>k_is);(case mK=>k_is);(case m5=>k_is);(case jI=>k_is);(case nz=>k_is);(case mJ=>k_is);(case mZ=>k_is);(case jH=>k_is);(case jj=>k_is);(case iP=>k_is);(case i9=>k_is);(case fG=>k_is);(case kY=>k_is);(case kA=>k_is);(case kN=>k_is);(case gQ=>k_is);(case k8=>k_is);(case kC=>k_is);(case kQ=>k_is);(case gS=>k_is);(case kZ=>k_is);(case kB=>k_is);(case kP=>k_is);(case gR=>k_is);(case dG=>k_is);(case dA=>k_is);(case dD=>k_is);(case b5=>k_is);(case k9=>k_is);(case kD=>k_is);(case kR=>k_is);(case gT=>k_is);(case rE=>k_is);(case qD=>k_is);(case rh=>k_is);(case lF=>k_is);(case kX=>k_is);(case kx=>k_is);(case kM=>k_is);(case gP=>k_is);(case nv=>k_is);(case mI=>k_is);(case mY=>k_is);(case jG=>k_is);(case ji=>k_is);(case iO=>k_is);(case i8=>k_is);(case fE=>k_is);(case jg=>k_is);(case iM=>k_is);(case i6=>k_is);(case fA=>k_is);(case nu=>k_is);(case mH=>k_is);(case mX=>k_is);(case jF=>k_is);(case rF=>k_is);(case qE=>k_is);(case rj=>k_is);(case lG=>k_is);(case jh=>k_is);(case iN=>k_is);(case i7=>k_is);(case fD=>k_is);(case JV=>k_is);(case LP=>k_is);(case Mq=>k_is);(case LQ=>k_is);(case lj=>k_exc);(case j6=>k_exc);(case cR=>k_is);(case mh=>k_exc);(case du=>k_is);(case AR=>k_is);(case BV=>k_is);(case AF=>k_is);(case Ay=>k_is);(case Bp=>k_is);(case BC=>k_is);(case ko=>k_is);(case ki=>k_is);(case dz=>k_is);(case AQ=>k_is);(case BU=>k_is);(case AE=>k_is);(case Ax=>k_is);(case Bo=>k_is);(case BB=>k_is);(case kh=>k_is);(case kg=>k_is);(case dy=>k_is);(case F3=>k_is);(case Hk=>k_is);(case FV=>k_is);(case FN=>k_is);(case Gx=>k_is);(case GX=>k_is);(case ke=>k_is);(case kc=>k_is);(case iE=>k_is);(case gI=>k_is);(case iF=>k_is);(case gi_most=>k_is);(case KA=>k_is);(case KC=>k_is);(case Fi=>k_is);(case Fh=>k_is);(case zR=>k_is);(case zS=>k_is);(case j5=>k_is);(case iA=>k_is);(case Ky=>k_is);(case Kx=>k_is);(case tU=>k_is);(case Kz=>k_is);(case KG=>k_is);(case Kw=>k_is);(case KD=>k_is);(case md=>k_is)
