import PyProof.Rows.All
import Wide.All
import OpenK.AllK
import Wide.FinOn
import Lean
import PyProof.EqAt
import PyProof.EqKinds
import PyProof.TupleCall
import PySem.Challenge.RW_spinfloor_k28_whole_hills
open Array renaming length_toList → Kg, toList_append → Kt, getElem?_toList → KL, getElem?_eq_getElem → K8, toList_push → Lx, perm_iff_toList_perm → Ma, toList_reverse → Mb, getElem?_eq_none → Mu, toList_extract → MH, getD_eq_getD_getElem? → MN, getElem?_eq_some_iff → MO, getD → Nk, toList_setIfInBounds → NP, size_setIfInBounds → N0
open Bool renaming false_ne_true → Kb, false_eq_true → Kv, xor_false → KU, true_and → Le, false_and → Lq, or_eq_true → LC, and_eq_true → LG, eq_iff_iff → Mr, not_eq_true' → MX, xor_self → M3, xor_comm → M4, not_true → M5, false_xor → Np, and_false → Nq, noConfusion → NH, xor_assoc → NV, or_false → N8
open Classical renaming choose_spec → Nj
open Int renaming toNat_natCast → JL, le_refl → KR, emod_nonneg → Li, le_of_lt → LB, natCast_nonneg → LS, emod_lt_of_pos → LU, zero_add → L8, le_antisymm → NM, fdiv_eq_ediv_of_nonneg → NO
open Int.ofNat renaming inj → Mq
open List renaming getElem?_eq_getElem → JB, length_map → JC, getElem?_eq_some_iff → JD, getD_eq_getElem?_getD → JE, mem_of_getElem? → JG, mem_cons → JI, getElem?_map → JJ, mem_cons_of_mem → JK, replicate → JM, length_append → JN, mem_cons_self → JO, map_cons → JQ, mem_singleton → JR, mem_append_right → JT, size_toArray → JU, mem_append → JW, length_take → JZ, getElem?_append_right → Ka, map_append → Kc, length_cons → Ke, not_mem_nil → Kf, getElem?_append_left → Kj, mem_map → Kk, take_append_drop → Kl, take_add_one → Kn, append_assoc → Ko, nodup_cons → Kq, take_length → Kr, length_drop → Ku, take_of_length_le → KA, getElem_mem → KC, range → KO, getElem_of_mem → KP, pairwise_append → KQ, mem_range → KS, length_range → KY, mem_append_left → K3, sum_cons → K7, mem_of_mem_take → K9, mem_of_mem_drop → La, map_congr_left → Lb, length_singleton → Lc, getElem?_eq_none → Ld, perm_append_comm → Lo, map_map → Lu, filter_cons → Lv, pairwise_iff_getElem → Lz, length_replicate → LA, getElem?_drop → LD, eq_nil_of_length_eq_zero → LF, getElem?_of_mem → LI, erase_cons_head → LJ, getElem?_replicate → LK, perm_ext_iff_of_nodup → LQ, getElem?_take → LR, nodup_nil → LV, drop_eq_getElem_cons → LW, length_nil → LY, append_nil → LZ, length_eq_zero_iff → L3, length_set → L5, length_filter_le → L6, find?_cons → L7, extract_eq_drop_take → Mc, drop_zero → Md, drop_drop → Me, length_reverse → Mh, pairwise_cons → Mk, mem_filter → Mm, filter_cons_of_pos → Mn, filter_cons_of_neg → Mo, filter_append → Mp, length_pos_of_mem → Mt, pairwise_map → Mw, getElem_take → Mx, drop_take → MA, replicate_succ' → MF, perm_cons_erase → MG, take_add → MI, range_succ → MK, foldl_cons → ML, take_take → MR, length_erase → MT, foldl_append → MU, ext_getElem? → MV, pairwise_singleton → MZ, all_eq_true → M7, getElem?_set_self → M8, drop_eq_nil_of_le → M9, of_mem_zip → Ng, mem_of_mem_erase → Nh, getElem?_reverse → Ni, take_zero → Nn, length → Nr, filterMap_cons → Nt, mem_replicate → Nv, take_sublist → Nx, nodup_append → Ny, getElem_drop → Nz, take_append_of_le_length → NB, isEmpty_nil → NC, ext_getElem → ND, drop_append → NF, any_eq_true → NG, sum_append → NK, filter_nil → NL, length_eraseIdx_of_lt → NN, getElem?_zip_eq_some → NT, length_erase_of_mem → NY, any_cons → N7
open List.Nodup renaming not_mem_erase → NZ
open List.Pairwise renaming nil → My, imp_of_mem → MW
open List.Perm renaming append_left → Lp, refl → NU
open Nat renaming le_refl → JF, ne_of_lt → JV, testBit_two_pow → JY, eq_of_testBit_eq → Ks, le_of_lt → Kw, lt_of_lt_of_le → Kx, zero_le → Ky, pow_lt_pow_right → KG, testBit_xor → KI, xor_assoc → KJ, lt_irrefl → KN, zero_testBit → KW, testBit_or → KZ, pow_le_pow_right → K0, lt_succ_self → K4, ne_of_gt → K5, le_trans → Lf, two_pow_pos → Lg, testBit_and → Lh, sub_self → Ln, xor_lt_two_pow → Ls, lt_succ_of_lt → Lw, lt_trans → LL, not_lt_zero → LN, min_eq_left → LX, xor_self → L0, le_succ → L1, not_lt_of_le → Mf, testBit → Mg, zero_add → Mi, xor_comm → Mj, or_lt_two_pow → Mv, testBit_zero → MB, testBit_succ → MC, le_of_not_lt → MD, le_add_right → ME, testBit_two_pow_sub_one → MJ, xor_zero → MP, lt_of_le_of_lt → MQ, le_succ_of_le → MS, div_eq_of_lt → M6, sub_zero → Nd, strongRecOn → Nf, mul_le_mul_right → Nl, sub_add_eq → Nm, and_one_is_mod → Nu, add_comm → NA, lt_pow_two_of_testBit → NS, testBit_div_two_pow → N6
open Option renaming map_eq_some_iff → Km, map_some → Nc, isSome_iff_exists → NX
open Option.some renaming inj → KH
open PySem renaming Spec → JS, mem_of_lookup → Lj
open PySem.F renaming plain_min_loop → Kz, plainAttrs_list → K6, type_list_append → Ll, slot_list_append → Lm, plain_extend_loop → Ly, entry_min_loop → LP, plainAttrs_dict → MY, slot_dict_get → Nb, args_list_init_2 → NW, typeCall_list_1 → N1, slot_dict_items → N3, entry_list_init → N4, args_dict_get_3 → N5
open PySem.W renaming Frag → JH, nsIn → JP, keepIn → JX, codeIn → Kd, fnOf → Kh, mg_of → Ki, mg_none_of → KD, kia_one → Lr, CodeHd → L4, tabIn → L9, kitOne → Mz, kla_obj → Na, methodObj → Nw, instObj → NI, OpenLaw → NJ, tabObj → NQ, lookIn → NR
set_option Elab.async false
set_option linter.all false
set_option compiler.extract_closed false
set_option genSizeOf false
set_option maxRecDepth 100000
local macro_rules | `(tactic| omega) => `(tactic| first | assumption | lia | omega +splitDisjunctions)
local macro_rules | `(tactic| ac_rfl) => `(tactic| omega +splitDisjunctions)
local macro_rules | `(tactic| ac_nf) => `(tactic| exact ⟨rfl,rfl,rfl,by decide +kernel,rfl,by decide +kernel,by decide +kernel⟩)
local macro_rules | `(tactic| decide) => `(tactic| decide +kernel)
namespace L2
open PySem PySem.Spec PyProof.Rows
abbrev Key:=Sum Int Str
def qF:Key->Value->Bool
 |.inl k,v=>Value.isInt k v
 |.inr x,v=>Value.isStrOf x v
def keyH(w:World):Key->Int
 |.inl k=>hashInt k
 |.inr x=>hashStr w x
theorem aW:∀{k:Key}{v:Value},qF k v=true->(∃ i t,k=Sum.inl i/\v=Value.int i t)∨(∃ x t,k=Sum.inr x/\v=Value.str x t)
 |.inl i,v,h=>by
  obtain⟨t,e⟩:=Value.isInt_shape (k:=i) (v:=v) h;exact .inl ⟨i,t,rfl,e⟩
 |.inr x,v,h=>by
  obtain⟨t,e⟩:=Value.isStrOf_shape (x:=x) (v:=v) h;exact .inr ⟨x,t,rfl,e⟩
theorem CA(i:Int)(t:Tok):qF (.inl i) (.int i t)=true:=by simp[qF,Value.isInt]
theorem Cz(x:Str)(t:Tok):qF (.inr x) (.str x t)=true:=by simp[qF,Value.isStrOf]
theorem key_ll(a b:Int):decide ((Sum.inl a:Key)=Sum.inl b)=(a == b):=by
 by_cases e:a=b
 ·subst e;simp
 ·have h:¬ (Sum.inl a:Key)=Sum.inl b:=fun q=>e (Sum.inl.inj q)
  rw[decide_eq_false h];exact(beq_eq_false_iff_ne.mpr e).symm
theorem key_rr(a b:Str):decide ((Sum.inr a:Key)=Sum.inr b)=decide (a=b):=by
 by_cases e:a=b
 ·subst e;simp
 ·have h:¬ (Sum.inr a:Key)=Sum.inr b:=fun q=>e (Sum.inr.inj q)
  rw[decide_eq_false h,decide_eq_false e]
theorem key_lr(a:Int)(b:Str):decide ((Sum.inl a:Key)=Sum.inr b)=false:=decide_eq_false (fun q=>nomatch q)
theorem key_rl(a:Str)(b:Int):decide ((Sum.inr a:Key)=Sum.inl b)=false:=decide_eq_false (fun q=>nomatch q)
def bh(prog:Program)(w:World):PySem.KeyKind prog w Key where
 is:=qF
 hash:=keyH w
 inj:=fun v a b ha hb=>by
  rcases aW ha with⟨i,t,rfl,rfl⟩ | ⟨x,t,rfl,rfl⟩
  ·rcases aW hb with⟨j,u,rfl,e⟩ | ⟨y,u,rfl,e⟩
   ·injection e with e1 _;rw[e1]
   ·exact nomatch e
  ·rcases aW hb with⟨j,u,rfl,e⟩ | ⟨y,u,rfl,e⟩
   ·exact nomatch e
   ·injection e with e1 _;rw[e1]
 byValue:=fun k v h=>by
  rcases aW h with⟨i,t,rfl,rfl⟩ | ⟨x,t,rfl,rfl⟩<;>rfl
 pyHash:=fun hv h=>by
  rcases aW hv with⟨i,t,rfl,rfl⟩ | ⟨x,t,rfl,rfl⟩
  ·exact wpAny_pyHash_int h
  ·exact wpAny_pyHash_str h
 eqBool:=fun hu hv h=>by
  rcases aW hu with⟨i,t,rfl,rfl⟩ | ⟨x,t,rfl,rfl⟩
  ·rcases aW hv with⟨j,u,rfl,rfl⟩ | ⟨y,u,rfl,rfl⟩
   ·rw[key_ll]at h;exact wpAny_eqBool_int h
   ·rw[key_lr]at h;exact SeqAt.EqAt.int_str i t y u _ _ _ _ h
  ·rcases aW hv with⟨j,u,rfl,rfl⟩ | ⟨y,u,rfl,rfl⟩
   ·rw[key_rl]at h;exact SeqAt.EqAt.str_int x t j u _ _ _ _ h
   ·rw[key_rr]at h;exact wpAny_eqBool_str h
 «strs»:=fun k x t v h=>by
  rcases aW h with⟨i,u,rfl,e⟩ | ⟨y,u,rfl,e⟩
  ·exact nomatch e
  ·injection e with e1 _;subst e1
   cases v<;>rfl
theorem vL(prog:Program)(w:World)(i:Int)(t:Tok):(bh prog w).is (.inl i) (.int i t)=true:=CA i t
theorem vK(prog:Program)(w:World)(x:Str)(t:Tok):(bh prog w).is (.inr x) (.str x t)=true:=Cz x t
inductive V where
 |non | bl (b:Bool) | int (i:Int) | str (x:Str) | byt (b:Array UInt8) | flt (b:UInt64) | ref (a:Addr) | ty (n:String)
 deriving DecidableEq
def RelV:V->Value->Prop
 |.non,u=>u=Value.none
 |.bl b,u=>u=Value.bool b
 |.int i,u=>∃ t,u=Value.int i t
 |.str x,u=>∃ t,u=Value.str x t
 |.byt b,u=>∃ t,u=Value.bytes b t
 |.flt b,u=>∃ t,u=Value.float b t
 |.ref a,u=>u=Value.ref a
 |.ty n,u=>u=Value.type n
abbrev Vals:List V->List Value->Prop:=Paired RelV
theorem Vals.length{xs:List V}{us:List Value}(r:Vals xs us):xs.length=us.length:=Paired.length r
theorem Vals.get:∀{xs:List V}{us:List Value}{i:Nat}{x:V},Vals xs us->xs[i]?=some x->∃ u,us[i]?=some u/\RelV x u
 |_,_,_,_,.nil,e=>by simp at e
 |_,_,0,_,.cons r _,e=>by simp at e;subst e;exact⟨_,rfl,r⟩
 |_,_,i+1,x,.cons _ t,e=>by
  obtain⟨u,h1,h2⟩:=Vals.get (i:=i) (x:=x) t (by simpa using e)
  exact⟨u,by simpa using h1,h2⟩
theorem Vals.set{x:V}{u:Value}(r:RelV x u):∀{xs:List V}{us:List Value}(i:Nat),Vals xs us->Vals (xs.set i x) (us.set i u)
 |_,_,_,.nil=>.nil
 |_,_,0,.cons _ t=>.cons r t
 |_,_,i+1,.cons q t=>.cons q (Vals.set r i t)
theorem Vals.append:∀{xs ys:List V}{us ws:List Value},Vals xs us->Vals ys ws->Vals (xs++ys) (us++ws)
 |_,_,_,_,.nil,s=>s
 |_,_,_,_,.cons r t,s=>.cons r (Vals.append t s)
theorem Vals.take:∀{xs:List V}{us:List Value}(n:Nat),Vals xs us->Vals (xs.take n) (us.take n)
 |_,_,0,_=>.nil
 |_,_,_+1,.nil=>.nil
 |_,_,n+1,.cons r t=>.cons r (Vals.take n t)
theorem Vals.drop:∀{xs:List V}{us:List Value}(n:Nat),Vals xs us->Vals (xs.drop n) (us.drop n)
 |_,_,0,r=>r
 |_,_,_+1,.nil=>.nil
 |_,_,n+1,.cons _ t=>Vals.drop n t
def RelO:Option V->Option Value->Prop
 |some v,some u=>RelV v u
 |none,none=>True
 |_,_=>False
def KV{κ:Type}:List (κ×V)->List (κ×Value)->Prop:=Paired fun(p:κ×V) (q:κ×Value)=>p.1=q.1/\RelV p.2 q.2
def kV:Key->V
 |.inl i=>.int i
 |.inr x=>.str x
inductive HO where
  |lst (xs:List V)
  |tup (xs:List V)
  |dK (kvs:List (Key×V)) | dT (kvs:List (List Key×V))
  |set (S:Int->Bool) (n:Nat)
  |ins (C dx:Addr) (fs:List (Str×V))
  |own (x:Addr)
  |xd (fs:List (Str×V))
  |met (f x:Addr)
  |rng (lo hi:Int)
  |frz (o:Obj) (u:HO)
  |tbl (ps:Array Value)
  |ext (φ:Heap->Prop)
abbrev Hp:=Addr->Option HO
def upd(H:Hp)(a:Addr)(o:HO):Hp:=fun b=>if b=a then some o else H b
theorem ag{H:Hp}{a:Addr}{o:HO}:upd H a o a=some o:=by unfold upd;rw[if_pos rfl]
theorem ao{H:Hp}{a b:Addr}{o:HO}(h:b≠a):upd H a o b=H b:=by unfold upd;rw[if_neg h]
theorem ne_of{H:Hp}{a b:Addr}{o u:HO}(h:H a=some o)(h':H b=some u)(d:o≠u):a≠b:=by
 intro e;subst e;rw[h]at h';exact d (KH h')
theorem bw{H:Hp}{a b:Addr}{o:HO}(h:H a=some o)(h':H b=none):a≠b:=by
 intro e;subst e;rw[h]at h';cases h'
section
variable(P:Program)(w:World)
def bf(H:Hp)(h:Heap)(a:Addr):HO->Prop
 |.lst xs=>xs.length<=sizeLine/\∃(its:List Value)(n:Nat),Vals xs its/\h.get? a=some { cls:=.type "list",data:=.seq its.toArray n }
 |.tup xs=>xs.length<=sizeLine/\∃ its:List Value,Vals xs its/\IsTup h a its.toArray
 |.dK kvs=>kvs.length<=sizeLine/\(a == sysModules)=false/\∃ vs,KV kvs vs/\h.DictOf (bh P w) a vs
 |.dT kvs=>kvs.length<=sizeLine/\(a == sysModules)=false/\∃ xs:List (List Key×Addr×Value),
   Paired (fun(p:List Key×V) (q:List Key×Addr×Value)=>p.1=q.1/\H q.2.1=some (.tup (p.1.map kV))/\RelV p.2 q.2.2) kvs xs /\
   ∃ o es ep,h.get? a=some o/\o.ExactDict/\o.data=.dict es ep/\es.toList=xs.map (entryOfKey (tupleKind (bh P w)))/\(xs.map (·.1)).Nodup
 |.set S n=>h.SetOf (intKind P w) a S n
 |.ins C dx fs=>H dx=some (.own a)/\fs.length<=1000/\dx≠a/\h.get? a=some (NI C dx) /\
   ∃ mA,h.Ns1 dx mA/\(∀ f,RelO (fs.lookup f) (mA f))/\PySem.Within mA (fs.map (·.1))
 |.own _=>∃ o,h.get? a=some o
 |.xd fs=>∃ mA,h.Ns1 a mA/\∀ f,RelO (fs.lookup f) (mA f)
 |.rng lo hi=>∃ t u v,h.get? a=some { cls:=.type "range",data:=.fields #[.int lo t,.int hi u,.int 1 v] }
 |.frz o u=>h.get? a=some o/\bf H h a u
 |.tbl ps=>h.get? a=some { cls:=.none,data:=.fields ps }
 |.met f x=>h.get? a=some (Nw (.ref f) (.ref x))
 |.ext φ=>φ h/\(∃ o,h.get? a=some o)/\∀ h1 h2:Heap,φ h1->(∀ o,h1.get? a=some o->h2.get? a=some o)->φ h2
def HOk(H:Hp)(h:Heap):Prop:=∀ a o,H a=some o->bf P w H h a o
end
section
variable{P:Program}{w:World}{H H':Hp}{h h':Heap}{a:Addr}{o:HO}
theorem bf.lt(x:bf P w H h a o):a<h.objs.size:=by
 cases o with
 |lst xs=>obtain⟨_,_,_,_,e⟩:=x;exact Heap.lt_size e
 |tup xs=>obtain⟨_,_,_,p⟩:=x;exact p.lt
 |dK kvs=>obtain⟨_,_,_,_,o,_,_,e,_⟩:=x;exact Heap.lt_size e
 |dT kvs=>obtain⟨_,_,_,_,o,_,_,e,_⟩:=x;exact Heap.lt_size e
 |set S n=>obtain⟨o,_,_,_,e,_⟩:=x;exact Heap.lt_size e
 |ins C dx fs=>obtain⟨_,_,_,e,_⟩:=x;exact Heap.lt_size e
 |own y=>obtain⟨_,e⟩:=x;exact Heap.lt_size e
 |xd fs=>obtain⟨_,⟨_,_,_,e,_⟩,_⟩:=x;exact Heap.lt_size e
 |rng lo hi=>obtain⟨_,_,_,e⟩:=x;exact Heap.lt_size e
 |frz ob u=>obtain⟨e,_⟩:=x;exact Heap.lt_size e
 |tbl ps=>exact Heap.lt_size (show h.get? a=some _ from x)
 |met f y=>exact Heap.lt_size (show h.get? a=some _ from x)
 |ext φ=>obtain⟨_,⟨_,e⟩,_⟩:=x;exact Heap.lt_size e
theorem Paired.mapP{α β:Type}{F G:α->β->Prop}:∀{l₁:List α}{l₂:List β},Paired F l₁ l₂->(∀ a b,F a b->G a b)->Paired G l₁ l₂
 |_,_,.nil,_=>.nil
 |_,_,.cons r t,f=>.cons (f _ _ r) (Paired.mapP t f)
theorem bf.stay(x:bf P w H h a o)(k:∀ b u,(b=a∨H b=some (.own a))->h.get? b=some u->h'.get? b=some u)
  (ho:∀ b,H b=some (.own a)->H' b=some (.own a)) (ht:∀ b xs,H b=some (.tup xs)->H' b=some (.tup xs)):bf P w H' h' a o:=by
 induction o with
 |lst xs=>obtain⟨z,its,n,r,e⟩:=x;exact⟨z,its,n,r,k _ _ (.inl rfl) e⟩
 |tup xs=>obtain⟨z,its,r,ob,e,c⟩:=x;exact⟨z,its,r,ob,k _ _ (.inl rfl) e,c⟩
 |dK kvs=>obtain⟨z,y,vs,r,ob,es,ep,e,c⟩:=x;exact⟨z,y,vs,r,ob,es,ep,k _ _ (.inl rfl) e,c⟩
 |dT kvs =>
  obtain⟨z,y,xs,r,ob,es,ep,e,c⟩:=x;exact⟨z,y,xs,Paired.mapP r fun p q z=>⟨z.1,ht _ _ z.2.1,z.2.2⟩,ob,es,ep,k _ _ (.inl rfl) e,c⟩
 |set S n=>obtain⟨ob,es,ep,t,e,c⟩:=x;exact⟨ob,es,ep,t,k _ _ (.inl rfl) e,c⟩
 |ins C dx fs =>
  obtain⟨d,z,ne,e,mA,⟨od,es,ep,e2,c⟩,r⟩:=x;exact⟨ho _ d,z,ne,k _ _ (.inl rfl) e,mA,⟨od,es,ep,k _ _ (.inr d) e2,c⟩,r⟩
 |own y=>obtain⟨ob,e⟩:=x;exact⟨ob,k _ _ (.inl rfl) e⟩
 |xd fs=>obtain⟨mA,⟨od,es,ep,e,c⟩,r⟩:=x;exact⟨mA,⟨od,es,ep,k _ _ (.inl rfl) e,c⟩,r⟩
 |rng lo hi=>obtain⟨t,u,v,e⟩:=x;exact⟨t,u,v,k _ _ (.inl rfl) e⟩
 |frz ob u ih=>obtain⟨e,q⟩:=x;exact⟨k _ _ (.inl rfl) e,ih q⟩
 |tbl ps =>
  have e:h.get? a=some { cls:=.none,data:=.fields ps }:=x;show h'.get? a=some { cls:=.none,data:=.fields ps };exact k a _ (.inl rfl) e
 |met f y =>
  have e:h.get? a=some (Nw (.ref f) (.ref y)):=x;show h'.get? a=some (Nw (.ref f) (.ref y));exact k a _ (.inl rfl) e
 |ext φ=>obtain⟨p,⟨o,e⟩,st⟩:=x;exact⟨st _ _ p fun o q=>k _ _ (.inl rfl) q,⟨o,k _ _ (.inl rfl) e⟩,st⟩
theorem HOk.lt(x:HOk P w H h)(e:H a=some o):a<h.objs.size:=(x a o e).lt
theorem HOk.fresh(x:HOk P w H h)(e:h.objs.size<=a):H a=none:=by
 cases q:H a with
 |none=>rfl
 |some u=>exact absurd (Kx (x.lt q) e) (KN _)
theorem HOk.kept(x:HOk P w H h)(k:∀ b u,h.get? b=some u->h'.get? b=some u):HOk P w H h':=fun a o e =>
 (x a o e).stay (fun b u _ q=>k b u q) (fun _ q=>q) fun _ _ q=>q
theorem HOk.laid(x:HOk P w H h)(k:∀ b u,h.get? b=some u->h'.get? b=some u)(hp:h.objs.size<=a)(new:bf P w (upd H a o) h' a o):HOk P w (upd H a o) h':=fun b u e=>by
 have hn:=x.fresh hp;by_cases hb:b=a
 ·subst hb;rw[ag]at e;cases e;exact new
 ·rw[ao hb]at e;exact(x b u e).stay (fun c v _ q=>k c v q) (fun c q=>by rw[ao (bw q hn)];exact q) fun c xs q=>by rw[ao (bw q hn)];exact q
end
def Rd(H:Hp)(a:Addr)(u:HO):Prop:=H a=some u∨∃ o,H a=some (.frz o u)
theorem Rd.ok{P:Program}{w:World}{H:Hp}{h:Heap}{a:Addr}{u:HO}(r:Rd H a u)(x:HOk P w H h):bf P w H h a u:=by
 rcases r with r | ⟨o,r⟩
 ·exact x a u r
 ·obtain⟨_,q⟩:=x a _ r;exact q
def Mut:Option HO->Prop
 |some (.lst _)=>True
 |some (.dK _)=>True
 |some (.dT _)=>True
 |some (.set _ _)=>True
 |some (.ins _ _ _)=>True
 |some (.ext _)=>True
 |_=>False
section
variable{P:Program}{w:World}{H:Hp}{h h':Heap}{x e:Addr}{o':HO}
theorem HOk.write(ok:HOk P w H h)(mu:Mut (H x))(he:e=x∨H e=some (.own x))(k:∀ b u,b≠e->h.get? b=some u->h'.get? b=some u)(heo:∃ u,h'.get? e=some u)
  (new:bf P w (upd H x o') h' x o'):HOk P w (upd H x o') h':=fun b u q=>by
 have nown:∀ c y,H c=some (.own y)->c≠x:=fun c y r z=>by subst z;rw[r]at mu;exact mu
 have ntup:∀ c xs,H c=some (.tup xs)->c≠x:=fun c xs r z=>by subst z;rw[r]at mu;exact mu
 by_cases hb:b=x
 ·subst hb;rw[ag]at q;cases q;exact new
 ·rw[ao hb]at q;by_cases hbe:b=e
  ·have q':H b=some (.own x):=by
    rcases he with z | z
    ·exact absurd (hbe.trans z) hb
    ·rw[hbe];exact z
   rw[q]at q';cases q';obtain⟨v,hv⟩:=heo;exact⟨v,by rw[hbe];exact hv⟩
  ·refine(ok b u q).stay (fun c v hc r=>k c v ?_ r) (fun c r=>by rw[ao (nown c b r)];exact r) fun c xs r=>by rw[ao (ntup c xs r)];exact r
   rcases hc with rfl | hc
   ·exact hbe
   ·rintro rfl;rcases he with z | z
    ·exact nown c b hc z
    ·rw[hc]at z;cases z;exact hb rfl
end
structure Un(fs ex:List Addr)(H H':Hp)(h h':Heap):Prop where
 keep:∀ b o,h.get? b=some o->H b=none->b∉fs->b∉ex->h'.get? b=some o
 slot:∀ b o,h.get? b=some o->H b=none->b∈fs->b∉ex->∃ sl,h'.get? b=some { o with slots:=sl }
 free:∀ b o,h.get? b=some o->H b=none->b∉ex->H' b=none
 there:∀ b o,h.get? b=some o->b∉ex->∃ o',h'.get? b=some o'
 tups:∀ b xs,H b=some (.tup xs)->H' b=some (.tup xs)
 frzs:∀ b o u,H b=some (.frz o u)->H' b=some (.frz o u)
 tbls:∀ b ps,H b=some (.tbl ps)->∃ more,H' b=some (.tbl (ps++more))
section
variable{fs fs' ex ex':List Addr}{H H1 H2:Hp}{h h1 h2 h':Heap}{a x e:Addr}{o:HO}
theorem Un.any(u:Un fs ex H H1 h h1){b:Addr}{ob:Obj}(q:h.get? b=some ob)(n:H b=none)(hx:b∉ex):∃ sl,h1.get? b=some { ob with slots:=sl }:=by
 by_cases hb:b∈fs
 ·exact u.slot b ob q n hb hx
 ·exact⟨ob.slots,u.keep b ob q n hb hx⟩
theorem Un.kept(k:∀ b u,h.get? b=some u->h'.get? b=some u):Un fs ex H H h h' :=
 ⟨fun b ob q _ _ _=>k b ob q,fun b ob q _ _ _=>⟨ob.slots,k b ob q⟩,fun _ _ _ n _=>n,fun b ob q _=>⟨ob,k b ob q⟩,fun _ _ q=>q,fun _ _ _ q=>q,fun _ ps q=>⟨#[],by rw[q];simp⟩⟩
theorem Un.refl:Un fs ex H H h h:=Un.kept fun _ _ q=>q
theorem Un.laid(k:∀ b u,h.get? b=some u->h'.get? b=some u)(hp:h.objs.size<=a)(hn:H a=none):Un fs ex H (upd H a o) h h' where
 keep:=fun b u q _ _ _=>k b u q
 slot:=fun b u q _ _ _=>⟨u.slots,k b u q⟩
 free:=fun b u q n _=>by rw[ao (JV (Kx (Heap.lt_size q) hp))];exact n
 there:=fun b u q _=>⟨u,k b u q⟩
 tups:=fun b xs q=>by rw[ao (bw q hn)];exact q
 frzs:=fun b u xs q=>by rw[ao (bw q hn)];exact q
 tbls:=fun b ps q=>⟨#[],by rw[ao (bw q hn),q];simp⟩
theorem Un.write(mu:Mut (H x))(he:e=x∨H e=some (.own x))(k:∀ b u,b≠e->h.get? b=some u->h'.get? b=some u)(heo:∃ u,h'.get? e=some u):Un fs ex H (upd H x o) h h':=by
 have hx:∀ b,H b=none->b≠x:=fun b n z=>by subst z;rw[n]at mu;exact mu
 have hb:∀ b,H b=none->b≠e:=fun b n z=>by
  subst z;rcases he with r | r
  ·exact hx b n r
  ·rw[n]at r;cases r
 have hm:∀ b u,H b=some u->¬ Mut (some u)->b≠x:=fun b u q nm z=>by subst z;rw[q]at mu;exact nm mu
 refine⟨fun b u q n _ _=>k b u (hb b n) q,fun b u q n _ _=>⟨u.slots,k b u (hb b n) q⟩,fun b u q n _=>by rw[ao (hx b n)];exact n,fun b u q _=>?_,
  fun b xs q=>by rw[ao (hm b _ q fun z=>z)];exact q,fun b u xs q=>by rw[ao (hm b _ q fun z=>z)];exact q,fun b ps q=>⟨#[],by rw[ao (hm b _ q fun z=>z),q];simp⟩⟩
 by_cases hbe:b=e
 ·subst hbe;exact heo
 ·exact⟨u,k b u hbe q⟩
end
def trk(h:Heap)(H:Hp):List Addr:=(KO h.objs.size).filter fun a=>(H a).isSome
def hidT(h:Heap)(H:Hp):Heap:=PySem.W.hideAll h (trk h H)
theorem CP(h:Heap)(H:Hp):(hidT h H).objs.size=h.objs.size:=PySem.W.hideAll_size _ _
theorem lQ{h:Heap}{H:Hp}{b:Addr}{o:Obj}(e:h.get? b=some o)(n:H b=none):(hidT h H).get? b=some o :=
 PySem.W.hideAll_get _ e fun hm=>by
  have q:(H b).isSome=true:=(Mm.mp hm).2;rw[n]at q;simp at q
theorem Iz{h:Heap}{H:Hp}{b:Addr}{o:Obj}(e:(hidT h H).get? b=some o):h.get? b=some o/\H b=none:=by
 have e':h.get? b=some o:=PySem.W.of_hideAll (trk h H) e;refine⟨e',?_⟩
 cases q:H b with
 |none=>rfl
 |some x =>
  have hm:b∈trk h H:=Mm.mpr ⟨KS.mpr (Heap.lt_size e'),by simp[q]⟩
  have z:(hidT h H).get? b=none:=PySem.W.hideAll_none (trk h H) hm;rw[z]at e;cases e
structure Mod(K:JH)(mg:Str->Option Value)(base:Heap):Prop where
 kin:K.In base
 glob:base.Ns mainGlobals mg
 blt:∃ mb,base.Ns builtinsNs mb/\∀ x:Str,x≠"__name__"->mb x=bootBuiltins x
 nolimit:base.NoLimit
set_option genInjectivity false in
structure Cx where
 prog:Program
 w:World
 K:JH
 mg:Str->Option Value
 base:Heap
 A:Around
 N:List Str
 s₀:Shared
 H₀:Hp
 env:Env
 outer:List Env
 stack:List Env
 ex:List Addr
 fn:Str->Bool
 calm:Bool
 pn:List (Addr×Obj)
 xe:Value->Shared->Prop
def frs(l:List Env):List Addr:=l.filterMap (·.frame)
abbrev Cx.fs(X:Cx):List Addr:=frs X.outer
def Vis(sc:Scope)(x:Str):Prop:=sc.names.lookup x=some .local∨sc.names.lookup x=some .cell∨sc.names.lookup x=some .free
def Loc(sc:Scope)(x:Str):Prop:=sc.names.lookup x=some .local∨sc.names.lookup x=some .cell
def Look(env:Env)(h:Heap)(m:Str->Option Value)(x:Str)(u:Value):Prop :=
 (env.kindOf x=some .local/\m x=some u)∨((env.kindOf x=some .cell∨env.kindOf x=some .free)/\∃ c,env.cells.lookup x=some c/\h.IsCell c (some u))
structure Cx.Ok(X:Cx):Prop where
 mod:Mod X.K X.mg X.base
 kind:X.env.scope.kind=.function
 glob:X.env.globals=mainGlobals
 blt:X.env.builtins=builtinsNs
 above:X.s₀.heap.objs.size<=X.env.locals
 inj:∀ x y c,X.env.cells.lookup x=some c->X.env.cells.lookup y=some c->x=y
 has:∀ x,(X.env.kindOf x=some .cell∨X.env.kindOf x=some .free)->∃ c,X.env.cells.lookup x=some c
 cab:∀ x c,X.fn x=true->X.env.cells.lookup x=some c->X.s₀.heap.objs.size<=c
 hd:X.calm=true->X.A.handled=none
 frames:X.A.frames=some X.stack
 stk:X.stack=X.outer∨(X.stack=X.env::X.outer/\X.env.frame=some X.env.locals)
 exf:∀ b∈X.ex,b≠X.env.locals/\∀ x c,X.env.cells.lookup x=some c->c≠b
 bs:∀ b o,X.base.get? b=some o->X.s₀.heap.get? b=some o/\X.H₀ b=none
 bsz:X.base.objs.size<=X.s₀.heap.objs.size
 noex:∀ b o,X.base.get? b=some o->b∉X.ex
 exfs:∀ b∈X.ex,b∉X.fs
 funs:X.s₀.heap.FunFrames X.base X.outer
 frf:∀ b∈X.fs,X.H₀ b=none
structure Inv(X:Cx)(pins:List (Addr×Obj))(σ:List (Option V))(H:Hp)(s:Shared):Prop where
 ok:X.Ok
 os:s.os=X.s₀.os
 bare:AllBare s.gens
 base:Un X.fs X.ex X.H₀ H X.s₀.heap s.heap
 loc:∃ m,s.heap.Ns X.env.locals m/\∀(i:Nat)(x:Str)(v:V),X.N[i]?=some x->σ[i]?=some (some v)->Vis X.env.scope x->∃ u,RelV v u/\Look X.env s.heap m x u
 cell:∀ x c,X.env.cells.lookup x=some c->∃ v,s.heap.IsCell c v
 free:H X.env.locals=none
 freeC:∀ x c,X.env.cells.lookup x=some c->H c=none
 pin:∀ p∈X.pn++pins,s.heap.get? p.1=some p.2/\H p.1=none/\p.1≠X.env.locals/\p.1∉X.fs/\∀ v,p.2.data≠.cell v
 hok:HOk X.prog X.w H s.heap
 len:σ.length=X.N.length
section
variable{X:Cx}{pins:List (Addr×Obj)}{σ:List (Option V)}{H H':Hp}{s:Shared}{h':Heap}
theorem Cx.Ok.nofr(ok:X.Ok){b:Addr}{o:Obj}(e:X.base.get? b=some o):b∉X.fs:=fun hb=>by
 have:=(ok.funs.mem hb).1;rw[e]at this;cases this
theorem Inv.bs(I:Inv X pins σ H s):∀ b o,X.base.get? b=some o->s.heap.get? b=some o/\H b=none:=fun b o e =>
 ⟨I.base.keep b o (I.ok.bs b o e).1 (I.ok.bs b o e).2 (I.ok.nofr e) (I.ok.noex b o e),I.base.free b o (I.ok.bs b o e).1 (I.ok.bs b o e).2 (I.ok.noex b o e)⟩
theorem Inv.bk(I:Inv X pins σ H s):∀ b o,X.base.get? b=some o->s.heap.get? b=some o:=fun b o e=>(I.bs b o e).1
theorem Inv.mod(I:Inv X pins σ H s):Mod X.K X.mg X.base:=I.ok.mod
theorem Inv.kIn(I:Inv X pins σ H s):X.K.In s.heap:=I.ok.mod.kin.keeps I.bk
theorem Inv.nolimit(I:Inv X pins σ H s):s.heap.NoLimit:=I.ok.mod.nolimit.keeps I.bk
theorem Inv.lt(I:Inv X pins σ H s):X.env.locals<s.heap.objs.size:=let ⟨_,hn,_⟩:=I.loc;hn.lt
theorem Inv.sz(I:Inv X pins σ H s):X.s₀.heap.objs.size<=s.heap.objs.size:=Lf I.ok.above (Kw I.lt)
theorem Inv.nofs(I:Inv X pins σ H s){a:Addr}(h:s.heap.objs.size<=a):a∉X.fs:=fun hb=>by
 obtain⟨_,o,ho,_⟩:=I.ok.funs.mem hb;exact absurd (Kx (Heap.lt_size ho) (Lf I.sz h)) (KN _)
theorem Inv.cne(I:Inv X pins σ H s):∀ x c,X.env.cells.lookup x=some c->c≠X.env.locals:=fun x c e z=>by
 obtain⟨v,o,ho,hd⟩:=I.cell x c e;obtain⟨m,⟨o',es,ep,ho',hd',_⟩,_⟩:=I.loc;rw[z,ho']at ho;cases ho;rw[hd']at hd;cases hd
theorem Inv.funs(I:Inv X pins σ H s):s.heap.FunFrames X.base X.outer:=by
 have all:∀(l:List Env),(∀ b∈frs l,b∈X.fs)->X.s₀.heap.FunFrames X.base l->s.heap.FunFrames X.base l:=by
  intro l;induction l with
  |nil=>intro _ _;trivial
  |cons env r ih =>
   intro hs hl;obtain⟨hk,⟨L,o,hf,hn,ho,hd⟩,hr⟩:=hl;have hL:L∈X.fs:=hs L (by unfold frs;rw[Nt,hf];exact JO)
   obtain⟨sl,e⟩:=I.base.slot L o ho (I.ok.frf L hL) hL fun z=>I.ok.exfs L z hL;exact⟨hk,⟨L,_,hf,hn,e,hd⟩,ih (fun b hb=>hs b (by unfold frs;rw[Nt,hf];exact JK _ hb)) hr⟩
 exact all X.outer (fun _ hb=>hb) I.ok.funs
theorem Inv.stack(I:Inv X pins σ H s):s.heap.FunFrames X.base X.stack:=by
 rcases I.ok.stk with e | ⟨e,hf⟩
 ·rw[e];exact I.funs
 ·rw[e];obtain⟨m,hn,_⟩:=I.loc;refine .cons (by rw[I.ok.kind];decide) hf hn ?_ I.funs
  exact Heap.get?_none_of_le (Lf I.ok.bsz I.ok.above)
theorem Inv.stkSub(I:Inv X pins σ H s):∀ b∈frs X.stack,b∈X.env.locals::X.fs:=fun b hb=>by
 rcases I.ok.stk with e | ⟨e,hf⟩
 ·rw[e]at hb;exact JK _ hb
 ·rw[e]at hb;unfold frs at hb;rw[Nt,hf]at hb;exact hb
theorem Inv.stkFree(I:Inv X pins σ H s):∀ b∈frs X.stack,H b=none:=fun b hb=>by
 rcases JI.mp (I.stkSub b hb)with e | hb
 ·rw[e];exact I.free
 ·obtain⟨_,o,ho,_⟩:=I.ok.funs.mem hb;exact I.base.free b o ho (I.ok.frf b hb) fun z=>I.ok.exfs b z hb
theorem Inv.step{g':Array GenState}{t':Nat}{d':Drawn}{ch:List Addr}(I:Inv X pins σ H s)
  (hch:∀ b∈ch,(b∈X.ex∨X.s₀.heap.objs.size<=b)/\b≠X.env.locals/\(∀ x c,X.env.cells.lookup x=some c->c≠b)/\∀ p∈X.pn++pins,p.1≠b)
  (keep:∀ b o,b≠X.env.locals->b∉X.fs->b∉ch->s.heap.get? b=some o->H b=none->h'.get? b=some o)
  (slot:∀ b o,b≠X.env.locals->b∈X.fs->b∉ch->s.heap.get? b=some o->H b=none->∃ sl,h'.get? b=some { o with slots:=sl }) (free:∀ b o,b∉ch->s.heap.get? b=some o->H b=none->H' b=none)
  (there:∀ b o,b∉ch->s.heap.get? b=some o->∃ o',h'.get? b=some o')
  (tups:∀ b xs,H b=some (.tup xs)->H' b=some (.tup xs)) (frzs:∀ b o u,H b=some (.frz o u)->H' b=some (.frz o u)) (tbls:∀ b ps,H b=some (.tbl ps)->∃ more,H' b=some (.tbl (ps++more)))
  (ns:∀ m,s.heap.Ns X.env.locals m->h'.Ns X.env.locals m) (hok:HOk X.prog X.w H' h') (hg:AllBare g') :
  Inv X pins σ H' { s with heap:=h',gens:=g',drawn:=d',toks:=t' }:=by
 have neL:∀ b o,X.s₀.heap.get? b=some o->b≠X.env.locals:=fun b o e=>JV (Kx (Heap.lt_size e) I.ok.above);have neC:∀ b o,X.s₀.heap.get? b=some o->b∉X.ex->b∉ch:=fun b o e hx hb=>by
  rcases(hch b hb).1 with z | z
  ·exact hx z
  ·exact absurd (Kx (Heap.lt_size e) z) (KN _)
 have cellK:∀ x c,X.env.cells.lookup x=some c->∀ v,s.heap.IsCell c v->h'.IsCell c v:=fun x c e v ⟨o,ho,hd⟩=>by
  have nch:c∉ch:=fun z=>(hch c z).2.2.1 x c e rfl;by_cases hc:c∈X.fs
  ·obtain⟨sl,q⟩:=slot c o (I.cne x c e) hc nch ho (I.freeC x c e);exact⟨_,q,hd⟩
  ·exact⟨o,keep c o (I.cne x c e) hc nch ho (I.freeC x c e),hd⟩
 refine⟨I.ok,I.os,hg,⟨fun b o e n hb hx=>?_,fun b o e n hb hx=>?_,fun b o e n hx=>?_,fun b o e hx=>?_,fun b xs e=>tups b xs (I.base.tups b xs e),fun b o xs e=>frzs b o xs (I.base.frzs b o xs e),fun b ps e=>?_⟩,?_,fun x c e=>?_,?_,fun x c e=>?_,fun p hp=>?_,hok,I.len⟩
 ·exact keep b o (neL b o e) hb (neC b o e hx) (I.base.keep b o e n hb hx) (I.base.free b o e n hx)
 ·obtain⟨sl,e1⟩:=I.base.slot b o e n hb hx;obtain⟨sl',e2⟩:=slot b _ (neL b o e) hb (neC b o e hx) e1 (I.base.free b o e n hx);exact⟨sl',e2⟩
 ·obtain⟨o',e1⟩:=I.base.there b o e hx;exact free b o' (neC b o e hx) e1 (I.base.free b o e n hx)
 ·obtain⟨o',e1⟩:=I.base.there b o e hx;exact there b o' (neC b o e hx) e1
 ·obtain⟨m1,e1⟩:=I.base.tbls b ps e;obtain⟨m2,e2⟩:=tbls b _ e1;exact⟨m1++m2,by rw[e2,Array.append_assoc]⟩
 ·obtain⟨m,hn,hl⟩:=I.loc;refine⟨m,ns m hn,fun i x v e1 e2 e3=>?_⟩;obtain⟨u,r,l⟩:=hl i x v e1 e2 e3;refine⟨u,r,?_⟩;rcases l with l | ⟨k,c,e,z⟩
  ·exact .inl l
  ·exact .inr ⟨k,c,e,cellK x c e _ z⟩
 ·obtain⟨v,z⟩:=I.cell x c e;exact⟨v,cellK x c e v z⟩
 ·obtain⟨m,⟨o,_,_,ho,_⟩,_⟩:=I.loc;exact free _ o (fun z=>(hch _ z).2.1 rfl) ho I.free
 ·obtain⟨v,o,ho,hd⟩:=I.cell x c e;exact free c o (fun z=>(hch c z).2.2.1 x c e rfl) ho (I.freeC x c e)
 ·obtain⟨e,n,ne,nf,d⟩:=I.pin p hp;have nch:p.1∉ch:=fun z=>(hch p.1 z).2.2.2 p hp rfl;exact⟨keep p.1 p.2 ne nf nch e n,free p.1 p.2 nch e n,ne,nf,d⟩
theorem Inv.un{t':Nat}(I:Inv X pins σ H s)(u:Un X.fs [] H H' s.heap h')(hok:HOk X.prog X.w H' h'):Inv X pins σ H' { s with heap:=h',toks:=t' }:=by
 obtain⟨m,⟨o,es,ep,ho,r⟩,_⟩:=id I.loc;obtain⟨sl,hL⟩:=u.any ho I.free (by simp)
 exact I.step (g':=s.gens) (d':=s.drawn) (ch:=[]) (fun _ z=>nomatch z) (fun b o _ hb _ e n=>u.keep b o e n hb (by simp)) (fun b o _ hb _ e n=>u.slot b o e n hb (by simp)) (fun b o _ e n=>u.free b o e n (by simp)) (fun b o _ e=>u.there b o e (by simp)) u.tups u.frzs u.tbls (fun m' hm=>by
  obtain⟨o',es',ep',ho',r'⟩:=hm;rw[ho]at ho';cases ho'
  exact⟨_,es',ep',hL,r'⟩) hok I.bare
theorem Inv.call{g':Array GenState}{t':Nat}{d':Drawn}{ch:List Addr}(I:Inv X pins σ H s)(u:Un (frs X.stack) ch H H' s.heap h')(hok:HOk X.prog X.w H' h')(hg:AllBare g')
  (hch:∀ b∈ch,(b∈X.ex∨X.s₀.heap.objs.size<=b)/\b≠X.env.locals/\(∀ x c,X.env.cells.lookup x=some c->c≠b)/\∀ p∈X.pn++pins,p.1≠b) :
  Inv X pins σ H' { s with heap:=h',gens:=g',drawn:=d',toks:=t' }:=by
 obtain⟨m,⟨o,es,ep,ho,r⟩,_⟩:=id I.loc;obtain⟨sl,hL⟩:=u.any ho I.free fun z=>(hch _ z).2.1 rfl
 exact I.step (ch:=ch) hch (fun b o hL hb hc e n=>u.keep b o e n (fun z=>(JI.mp (I.stkSub b z)).elim hL hb) hc) (fun b o _ _ hc e n=>u.any e n hc) (fun b o hc e n=>u.free b o e n hc) (fun b o hc e=>u.there b o e hc) u.tups u.frzs u.tbls (fun m' hm=>by
  obtain⟨o',es',ep',ho',r'⟩:=hm;rw[ho]at ho';cases ho'
  exact⟨_,es',ep',hL,r'⟩) hok hg
theorem Inv.turned{t':Nat}{it:Addr}(I:Inv X pins σ H s)(k:∀ b o,b≠it->s.heap.get? b=some o->h'.get? b=some o)(hn:H it=none)(hL:it≠X.env.locals)
  (h1:it∈X.ex∨X.s₀.heap.objs.size<=it) (h2:∀ x c,X.env.cells.lookup x=some c->c≠it) (h3:∀ p∈X.pn++pins,p.1≠it):Inv X pins σ H { s with heap:=h',toks:=t' }:=by
 have nit:∀ b u,H b=some u->b≠it:=fun b u e z=>by rw[z,hn]at e;cases e
 refine I.step (g':=s.gens) (d':=s.drawn) (ch:=[it]) (fun b hb=>?_) (fun b o _ _ hc e _=>k b o (fun z=>hc (by simp[z])) e) (fun b o _ _ hc e _=>⟨o.slots,k b o (fun z=>hc (by simp[z])) e⟩) (fun _ _ _ _ n=>n)
  (fun b o hc e=>⟨o,k b o (fun z=>hc (by simp[z])) e⟩) (fun _ _ e=>e) (fun _ _ _ e=>e) (fun b ps e=>⟨#[],by rw[e];simp⟩) (fun m hm=>?_) (fun b u e=>?_) I.bare
 ·have e:b=it:=by simpa using hb
  subst e;exact⟨h1,hL,h2,h3⟩
 ·obtain⟨o,es,ep,ho,r⟩:=hm;exact⟨o,es,ep,k _ o (Ne.symm hL) ho,r⟩
 ·refine(I.hok b u e).stay (fun c v hc q=>k c v ?_ q) (fun _ q=>q) fun _ _ q=>q;rcases hc with z | z
  ·rw[z];exact nit b u e
  ·exact nit c _ z
theorem Inv.tok(I:Inv X pins σ H s)(t:Nat):Inv X pins σ H { s with toks:=t }:=I.un (h':=s.heap) (t':=t) Un.refl I.hok
theorem Inv.kept{t':Nat}(I:Inv X pins σ H s)(k:∀ b u,s.heap.get? b=some u->h'.get? b=some u):Inv X pins σ H { s with heap:=h',toks:=t' }:=I.un (Un.kept k) (I.hok.kept k)
theorem Inv.laid{a:Addr}{o:HO}{t':Nat}(I:Inv X pins σ H s)(k:∀ b u,s.heap.get? b=some u->h'.get? b=some u)(hp:s.heap.objs.size<=a)(new:bf X.prog X.w (upd H a o) h' a o) :
  Inv X pins σ (upd H a o) { s with heap:=h',toks:=t' }:=I.un (Un.laid k hp (I.hok.fresh hp)) (I.hok.laid k hp new)
theorem Inv.write{x e:Addr}{o:HO}{t':Nat}(I:Inv X pins σ H s)(mu:Mut (H x))(he:e=x∨H e=some (.own x))(k:∀ b u,b≠e->s.heap.get? b=some u->h'.get? b=some u)(heo:∃ u,h'.get? e=some u)
  (new:bf X.prog X.w (upd H x o) h' x o):Inv X pins σ (upd H x o) { s with heap:=h',toks:=t' }:=I.un (Un.write mu he k heo) (I.hok.write mu he k heo new)
theorem Inv.weak{σ':List (Option V)}(I:Inv X pins σ H s)(hl:σ'.length=σ.length)(w:∀ (i:Nat) v,σ'[i]?=some (some v)->σ[i]?=some (some v)):Inv X pins σ' H s :=
 ⟨I.ok,I.os,I.bare,I.base,let ⟨m,hn,hl'⟩:=I.loc;⟨m,hn,fun i x v e1 e2 e3=>hl' i x v e1 (w i v e2) e3⟩,I.cell,I.free,I.freeC,I.pin,I.hok,hl.trans I.len⟩
theorem Inv.pins_of{pins':List (Addr×Obj)}(I:Inv X pins σ H s)(h:∀ p∈pins',s.heap.get? p.1=some p.2/\H p.1=none/\p.1≠X.env.locals/\p.1∉X.fs/\∀ v,p.2.data≠.cell v):Inv X pins' σ H s :=
 ⟨I.ok,I.os,I.bare,I.base,I.loc,I.cell,I.free,I.freeC,fun p hp=>(JW.mp hp).elim (fun z=>I.pin p (K3 _ z)) (h p),I.hok,I.len⟩
theorem x8{N:List Str}(hN:N.Nodup){i j:Nat}{x:Str}(a:N[i]?=some x)(b:N[j]?=some x):i=j:=by
 obtain⟨h1,e1⟩:=JD.mp a;obtain⟨h2,e2⟩:=JD.mp b;exact(List.getElem_inj hN).mp (e1.trans e2.symm)
theorem AY{M:Model}{A:Around}{E:Value->Shared->Prop}{i:Nat}{x:Str}{v:V}{u:Value}{Q:Unit->Shared->Prop}(I:Inv X pins σ H s)(hN:X.N.Nodup)(hi:X.N[i]?=some x)(hx:Loc X.env.scope x)(r:RelV v u)
  (h:∀ s',Inv X pins (σ.set i (some v)) H s'->(∃ a,Heap.SameBut a s.heap s'.heap/\(a=X.env.locals∨X.env.cells.lookup x=some a))->Q () s') (hf:X.fn x=true∨X.env.scope.names.lookup x=some .local:=by first | exact .inl rfl | exact .inr rfl | assumption):wpAny M A (storeName X.env x u) Q E s:=by
 obtain⟨m,hn,hl⟩:=id I.loc;have hcls:(X.env.scope.kind == .class||(X.env.scope.kind == .module&&X.env.locals != X.env.globals))=false:=by rw[I.ok.kind];rfl
 have hiσ:i<σ.length:=by rw[I.len];exact(JD.mp hi).1
 have cne:=I.cne;have tracked:∀{a:Addr}{h':Heap},(∃ o,s.heap.get? a=some o/\H a=none)->Heap.SameBut a s.heap h'->HOk X.prog X.w H h':=fun{a h'} ha hs b ob e=>by
  obtain⟨_,_,hfree⟩:=ha;refine(I.hok b ob e).stay (fun c w' hc q=>(hs.2 c ?_).trans q) (fun _ q=>q) fun _ _ q=>q;rintro rfl;rcases hc with rfl | hc
  ·rw[hfree]at e;cases e
  ·rw[hfree]at hc;cases hc
 rcases hx with hk | hk
 ·refine wpAny_storeName_local hk hn (fun h' hn' hs=>?_) hcls;obtain⟨oL,_,_,hoL,_⟩:=id hn;refine h _ ⟨I.ok,I.os,I.bare,⟨fun b o e n hb hx=>?_,fun b o e n hb hx=>?_,I.base.free,fun b o e hx=>?_,I.base.tups,I.base.frzs,I.base.tbls⟩,⟨_,hn',fun j y v' e1 e2 e3=>?_⟩,fun y c e=>?_,I.free,I.freeC,fun p hp=>?_,tracked ⟨oL,hoL,I.free⟩ hs,by simpa using I.len⟩ ⟨_,hs,.inl rfl⟩
  ·exact(hs.2 b (JV (Kx (Heap.lt_size e) I.ok.above))).trans (I.base.keep b o e n hb hx)
  ·obtain⟨sl,e1⟩:=I.base.slot b o e n hb hx;exact⟨sl,(hs.2 b (JV (Kx (Heap.lt_size e) I.ok.above))).trans e1⟩
  ·obtain⟨o',e1⟩:=I.base.there b o e hx;exact⟨o',(hs.2 b (JV (Kx (Heap.lt_size e) I.ok.above))).trans e1⟩
  ·by_cases hj:j=i
   ·subst hj;rw[hi]at e1;cases e1;rw[M8 hiσ]at e2
    cases e2
    exact⟨u,r,.inl ⟨hk,by simp⟩⟩
   ·rw[List.getElem?_set_ne (Ne.symm hj)]at e2;obtain⟨u',r',q⟩:=hl j y v' e1 e2 e3;refine⟨u',r',?_⟩;rcases q with⟨k,e⟩ | ⟨k,c,e,z⟩
    ·refine .inl ⟨k,?_⟩;have:y≠x:=fun e=>hj (x8 hN e1 (e▸hi));simp[this,e]
    ·exact .inr ⟨k,c,e,z.sameBut hs (cne y c e)⟩
  ·obtain⟨w',z⟩:=I.cell y c e;exact⟨w',z.sameBut hs (cne y c e)⟩
  ·obtain⟨e,n,ne,nf,d⟩:=I.pin p hp;exact⟨(hs.2 p.1 ne).trans e,n,ne,nf,d⟩
 ·have hfn:X.fn x=true:=by
   rcases hf with z | z
   ·exact z
   ·rw[z]at hk;cases hk
  obtain⟨c,hc⟩:=I.ok.has x (.inl hk);obtain⟨w',z⟩:=I.cell x c hc;refine wpAny_storeName_cell I.ok.kind hk hc z (fun h' hc' hs=>?_);obtain⟨oc,hoc,hocd⟩:=id z;refine h { s with heap:=h' } ⟨I.ok,I.os,I.bare,⟨fun b o e n hb hx=>?_,fun b o e n hb hx=>?_,I.base.free,fun b o e hx=>?_,I.base.tups,I.base.frzs,I.base.tbls⟩,⟨m,hn.sameBut hs (Ne.symm (cne x c hc)),fun j y v' e1 e2 e3=>?_⟩,fun y c' e=>?_,I.free,I.freeC,fun p hp=>?_,tracked ⟨oc,hoc,I.freeC x c hc⟩ hs,by simpa using I.len⟩ ⟨c,hs,.inr hc⟩
  ·exact(hs.2 b (JV (Kx (Heap.lt_size e) (I.ok.cab x c hfn hc)))).trans (I.base.keep b o e n hb hx)
  ·obtain⟨sl,e1⟩:=I.base.slot b o e n hb hx;exact⟨sl,(hs.2 b (JV (Kx (Heap.lt_size e) (I.ok.cab x c hfn hc)))).trans e1⟩
  ·obtain⟨o',e1⟩:=I.base.there b o e hx;exact⟨o',(hs.2 b (JV (Kx (Heap.lt_size e) (I.ok.cab x c hfn hc)))).trans e1⟩
  ·by_cases hj:j=i
   ·subst hj;rw[hi]at e1;cases e1;rw[M8 hiσ]at e2
    cases e2
    exact⟨u,r,.inr ⟨.inl hk,c,hc,hc'⟩⟩
   ·rw[List.getElem?_set_ne (Ne.symm hj)]at e2;obtain⟨u',r',q⟩:=hl j y v' e1 e2 e3;refine⟨u',r',?_⟩;rcases q with q | ⟨k,c',e,z'⟩
    ·exact .inl q
    ·refine .inr ⟨k,c',e,z'.sameBut hs ?_⟩;rintro rfl;exact hj (x8 hN e1 (I.ok.inj _ _ _ e hc▸hi))
  ·by_cases hcc:c'=c
   ·subst hcc;exact⟨_,hc'⟩
   ·obtain⟨w2,z2⟩:=I.cell y c' e;exact⟨w2,z2.sameBut hs hcc⟩
  ·obtain⟨e,n,ne,nf,d⟩:=I.pin p hp;refine⟨(hs.2 p.1 ?_).trans e,n,ne,nf,d⟩;intro q;rw[q,hoc]at e;have q':oc=p.2:=KH e;exact d w' (by rw[← q'];exact hocd)
theorem eZ{M:Model}{A:Around}{E:Value->Shared->Prop}{i:Nat}{x:Str}{v:V}{u:Value}{Q:Unit->Shared->Prop}(I:Inv X pins σ H s)(hN:X.N.Nodup)(hi:X.N[i]?=some x)(hx:Loc X.env.scope x)(r:RelV v u)
  (h:∀ s',Inv X pins (σ.set i (some v)) H s'->Q () s') (hf:X.fn x=true∨X.env.scope.names.lookup x=some .local:=by first | exact .inl rfl | exact .inr rfl | assumption):wpAny M A (storeName X.env x u) Q E s :=
 AY I hN hi hx r (fun s' I' _=>h s' I') hf
theorem Inv.call'{s':Shared}{ch:List Addr}(I:Inv X pins σ H s)(ho:s'.os=s.os)(u:Un (frs X.stack) ch H H' s.heap s'.heap)(hok:HOk X.prog X.w H' s'.heap)(hg:AllBare s'.gens)
  (hch:∀ b∈ch,(b∈X.ex∨X.s₀.heap.objs.size<=b)/\b≠X.env.locals/\(∀ x c,X.env.cells.lookup x=some c->c≠b)/\∀ p∈X.pn++pins,p.1≠b):Inv X pins σ H' s':=by
 obtain⟨h',g',d',t',o'⟩:=s';have e:o'=s.os:=ho;subst e;exact I.call (g':=g') (t':=t') (d':=d') u hok hg hch
end
abbrev XK:=Value->Option Addr->Hp->Prop
abbrev St:=List (Option V)
abbrev VK:=V->Hp->Prop
abbrev TE:=St->Hp->VK->Prop
abbrev TT:=St->Hp->(Bool->Hp->Prop)->Prop
abbrev TA:=St->Hp->(List V->Hp->Prop)->Prop
set_option genInjectivity false in
structure Ends where
 nx:St->Hp->Prop
 rt:VK
 bk:St->Hp->Prop:=fun _ _=>False
 ct:St->Hp->Prop:=fun _ _=>False
abbrev TS:=Ends->St->Hp->Prop
def EP(X:Cx)(pins:List (Addr×Obj))(σ:St)(Q:VK)(u:Value)(s':Shared):Prop:=∃ v H',Inv X pins σ H' s'/\RelV v u/\Q v H'
def TP(X:Cx)(pins:List (Addr×Obj))(σ:St)(Q:Bool->Hp->Prop)(b:Bool)(s':Shared):Prop:=∃ H',Inv X pins σ H' s'/\Q b H'
def AP(X:Cx)(pins:List (Addr×Obj))(σ:St)(Q:List V->Hp->Prop)(us:List Value)(s':Shared):Prop:=∃ vs H',Inv X pins σ H' s'/\Vals vs us/\Q vs H'
noncomputable def SP(X:Cx)(pins:List (Addr×Obj))(D:Ends)(f:Flow)(s':Shared):Prop :=
 match f with
 |.next=>∃ σ' H',Inv X pins σ' H' s'/\D.nx σ' H'
 |.brk=>∃ σ' H',Inv X pins σ' H' s'/\D.bk σ' H'
 |.cont=>∃ σ' H',Inv X pins σ' H' s'/\D.ct σ' H'
 |.ret u=>∃ v σ' H',Inv X pins σ' H' s'/\RelV v u/\D.rt v H'
noncomputable def PE(X:Cx)(e:Expr)(t:TE):Prop :=
 ∀(pins:List (Addr×Obj))(s:Shared)(σ:St)(H:Hp)(Q:VK),Inv X pins σ H s->t σ H Q->wpAny (model X.prog X.w) X.A (eval e X.env) (EP X pins σ Q) X.xe s
noncomputable def PT(X:Cx)(e:Expr)(t:TT):Prop :=
 ∀(pins:List (Addr×Obj))(s:Shared)(σ:St)(H:Hp)(Q:Bool->Hp->Prop),Inv X pins σ H s->t σ H Q->wpAny (model X.prog X.w) X.A (isTrue e X.env (eval e X.env)) (TP X pins σ Q) X.xe s
noncomputable def PW(X:Cx)(e:Expr)(t:TT):Prop :=
 ∀(whole:Sem Value)(pins:List (Addr×Obj))(s:Shared)(σ:St)(H:Hp)(Q:Bool->Hp->Prop),Inv X pins σ H s->t σ H Q->wpAny (model X.prog X.w) X.A (isTrue e X.env whole) (TP X pins σ Q) X.xe s
theorem PW.pt{X:Cx}{e:Expr}{t:TT}(h:PW X e t):PT X e t:=h _
noncomputable def PA(X:Cx)(es:List Expr)(t:TA):Prop :=
 ∀(pos:Pos)(pins:List (Addr×Obj))(s:Shared)(σ:St)(H:Hp)(Q:List V->Hp->Prop),Inv X pins σ H s->t σ H Q->wpAny (model X.prog X.w) X.A (spliced (backTo pos (starEach es X.env))) (AP X pins σ Q) X.xe s
noncomputable def PS(X:Cx)(st:Stmt)(t:TS):Prop :=
 ∀(pins:List (Addr×Obj))(s:Shared)(σ:St)(H:Hp)(D:Ends),Inv X pins σ H s->t D σ H->wpAny (model X.prog X.w) X.A (exec st X.env) (SP X pins D) X.xe s
noncomputable def PSs(X:Cx)(st:List Stmt)(t:TS):Prop :=
 ∀(pins:List (Addr×Obj))(s:Shared)(σ:St)(H:Hp)(D:Ends),Inv X pins σ H s->t D σ H->wpAny (model X.prog X.w) X.A (execs st X.env) (SP X pins D) X.xe s
theorem thn{α:Type}{t:Sem α}{Q Q':α->Shared->Prop}{M:Model}{A:Around}{E:Value->Shared->Prop}{s:Shared}(h:wpAny M A t Q E s)(hQ:∀ a s,Q a s->Q' a s):wpAny M A t Q' E s:=wpAny_mono h hQ fun _ _ x=>x
section
variable{X:Cx}
noncomputable def tVar(i:Nat):TE:=fun σ H Q=>∃ v,σ[i]?=some (some v)/\Q v H
noncomputable def tC(v:V):TE:=fun _ H Q=>Q v H
theorem pe_var{i:Nat}{x:Str}{pos:Pos}(hN:X.N[i]?=some x)(hv:Vis X.env.scope x) (hd:(x == ("__debug__" : Str))=false:=by decide) (hcd:(x == ("__classdict__" : Str))=false:=by decide):PE X (.Name x pos) (tVar i):=by
 intro pins s σ H Q I h;obtain⟨v,e,h⟩:=h;obtain⟨m,hn,hl⟩:=I.loc;obtain⟨u,r,l⟩:=hl i x v hN e hv;have fin:EP X pins σ Q u s:=⟨v,H,I,r,h⟩;rcases l with⟨hk,hm⟩ | ⟨hk,c,hc,hcell⟩
 ·exact wpAny_Name (wpAny_loadName_local I.ok.kind hk hn hm fin) hd
 ·rcases hk with hk | hk
  ·exact wpAny_Name (wpAny_loadName_cell I.ok.kind hk hc hcell fin) hd
  ·exact wpAny_Name (wpAny_loadName_free I.ok.kind hk hc hcell fin hcd) hd
theorem ah{i j pos}:PE X (.Constant (.int i) j pos) (tC (.int i)):=fun _ _ _ H _ I h=>wpAny_Constant_int ⟨.int i,H,I.tok _,⟨_,rfl⟩,h⟩
theorem iL{b j pos}:PE X (.Constant (.bool b) j pos) (tC (.bl b)):=fun _ _ _ H _ I h=>Constant_bool ⟨.bl b,H,I,rfl,h⟩
theorem kL{j pos}:PE X (.Constant .none j pos) (tC .non):=fun _ _ _ H _ I h=>Constant_none ⟨.non,H,I,rfl,h⟩
noncomputable def Gl(X:Cx)(x:Str):Prop:=X.env.kindOf x=some .globalImplicit
theorem vV{E:Value->Shared->Prop}{pins:List (Addr×Obj)}{s:Shared}{σ:St}{H:Hp}{x:Str}{u:Value}{pos:Pos}{Q:Value->Shared->Prop}(I:Inv X pins σ H s)(hg:Gl X x)(hm:X.mg x=some u)(h:Q u s)
  (hd:(x == ("__debug__" : Str))=false:=by decide):wpAny (model X.prog X.w) X.A (eval (.Name x pos) X.env) Q E s :=
 Calls.Name_function_global I.ok.kind hg (Calls.loadGlobal_global (by rw[I.ok.glob];exact I.mod.glob.keeps I.bk) hm h) hd
theorem jo{E:Value->Shared->Prop}{pins:List (Addr×Obj)}{s:Shared}{σ:St}{H:Hp}{x:Str}{u:Value}{pos:Pos}{Q:Value->Shared->Prop}(I:Inv X pins σ H s)(hg:Gl X x)(hm:X.mg x=none)(hv:bootBuiltins x=some u)(h:Q u s)
  (hn:x≠"__name__":=by decide) (hd:(x == ("__debug__" : Str))=false:=by decide):wpAny (model X.prog X.w) X.A (eval (.Name x pos) X.env) Q E s:=by
 obtain⟨mb,h1,h2⟩:=I.mod.blt;exact Calls.Name_function_global I.ok.kind hg (Calls.loadGlobal_builtin (by rw[I.ok.glob];exact I.mod.glob.keeps I.bk) hm (by rw[I.ok.blt];exact h1.keeps I.bk) ((h2 x hn).trans hv) h) hd
theorem Ij{x:Str}{v:V}{u:Value}{pos:Pos}(hg:Gl X x)(hm:X.mg x=some u)(r:RelV v u) (hd:(x == ("__debug__" : Str))=false:=by decide):PE X (.Name x pos) (tC v) :=
 fun _ _ _ H _ I h=>vV I hg hm ⟨v,H,I,r,h⟩ hd
theorem qk{x:Str}{v:V}{u:Value}{pos:Pos}(hg:Gl X x)(hm:X.mg x=none)(hv:bootBuiltins x=some u)(r:RelV v u) (hn:x≠"__name__":=by decide) (hd:(x == ("__debug__" : Str))=false:=by decide):PE X (.Name x pos) (tC v) :=
 fun _ _ _ H _ I h=>jo I hg hm hv ⟨v,H,I,r,h⟩ hn hd
variable{a b:Expr}{ta tb:TE}{pos:Pos}
noncomputable def PC(X:Cx)(op:CmpOp)(a b:Expr)(t:TE):Prop :=
 ∀(pins:List (Addr×Obj))(s:Shared)(σ:St)(H:Hp)(Q:VK),Inv X pins σ H s->t σ H Q ->
  wpAny (model X.prog X.w) X.A (eval a X.env) (fun v s₁=>wpAny (model X.prog X.w) X.A (eval b X.env) (fun u s₂=>wpAny (model X.prog X.w) X.A (compareOp op v u) (EP X pins σ Q) X.xe s₂) X.xe s₁) X.xe s
noncomputable def tB(t:TE):TT:=fun σ H Q=>t σ H fun x H1=>∃ c,x=.bl c/\Q c H1
theorem pt_cmp{op:CmpOp}{t:TE}(h:PC X op a b t)(h1:behindInMarks op b=false:=by first | exact nobehind _ (by decide) (by decide) | rfl):PT X (.Compare a [op] [b] pos) (tB t):=by
 intro pins s σ H Q I hw;refine wpAny_isTrue_Compare1 (thn (h pins s σ H _ I hw) fun v s1 h1=>thn h1 fun u s2 h2=>thn h2 fun c s3 ⟨x,H1,I1,r1,q1⟩=>?_) h1;obtain⟨d,rfl,q⟩:=q1
 cases r1
 exact wpAny_truthy_bool ⟨H1,I1,q⟩
theorem fU{e:Expr}{t:TE}(h:PE X e t)(he:∀ whole,isTrue e X.env whole=(do let v ← whole;standAt e.pos;holding [v] (truthy v)):=by intro _;rfl):PT X e (tB t):=by
 intro pins s σ H Q I hw;refine isTrue_plain (thn (h pins s σ H _ I hw) fun v s1 ⟨x,H1,I1,r1,q1⟩=>?_) (he _);obtain⟨d,rfl,q⟩:=q1
 cases r1
 exact wpAny_truthy_bool ⟨H1,I1,q⟩
variable{tA tB':TT}{rest:List Expr}
noncomputable def tAnd(t u:TT):TT:=fun σ H Q=>t σ H fun c H1=>if c=true then u σ H1 Q else Q false H1
noncomputable def tOr(t u:TT):TT:=fun σ H Q=>t σ H fun c H1=>if c=true then Q true H1 else u σ H1 Q
noncomputable def tNot(t:TT):TT:=fun σ H Q=>t σ H fun c H1=>Q (!c) H1
theorem Bn(ha:PT X a tA):PW X (.BoolOp .And [a] pos) tA:=by
 intro wh pins s σ H Q I h;refine isTrue_and (thn (ha pins s σ H Q I h) fun c s1 e=>?_)
 cases c with
 |true=>exact isTrue_and_nil e
 |false=>exact e
theorem mC(ha:PT X a tA):PW X (.BoolOp .Or [a] pos) tA:=by
 intro wh pins s σ H Q I h;refine isTrue_or (thn (ha pins s σ H Q I h) fun c s1 e=>?_)
 cases c with
 |false=>exact isTrue_or_nil e
 |true=>exact e
theorem xR(ha:PT X a tA)(hb:PW X (.BoolOp .And (b::rest) pos) tB'):PW X (.BoolOp .And (a::b::rest) pos) (tAnd tA tB'):=by
 intro wh pins s σ H Q I h;refine isTrue_and (thn (ha pins s σ H _ I h) fun c s1 ⟨H1,I1,q1⟩=>?_)
 cases c with
 |true=>exact hb wh pins s1 σ H1 Q I1 q1
 |false=>exact⟨H1,I1,q1⟩
theorem jZ(ha:PT X a tA)(hb:PW X (.BoolOp .Or (b::rest) pos) tB'):PW X (.BoolOp .Or (a::b::rest) pos) (tOr tA tB'):=by
 intro wh pins s σ H Q I h;refine isTrue_or (thn (ha pins s σ H _ I h) fun c s1 ⟨H1,I1,q1⟩=>?_)
 cases c with
 |true=>exact⟨H1,I1,q1⟩
 |false=>exact hb wh pins s1 σ H1 Q I1 q1
theorem fV(ha:PT X a tA):PT X (.UnaryOp .Not a pos) (tNot tA):=by
 intro pins s σ H Q I h;exact isTrue_not (ha pins s σ H (fun c H1=>Q (!c) H1) I h)
noncomputable def tAndV(ta tb:TE):TE:=fun σ H Q=>ta σ H fun x H1=>∃ c,x=.bl c/\if c=true then tb σ H1 Q else Q (.bl false) H1
noncomputable def tNotV(ta:TE):TE:=fun σ H Q=>ta σ H fun x H1=>∃ c,x=.bl c/\Q (.bl (!c)) H1
theorem xW{op}{t:TE}(h:PE X a t):PE X (.BoolOp op [a] pos) t:=fun pins s σ H Q I hw=>BoolOp_one (h pins s σ H Q I hw)
theorem mI(ha:PE X a ta)(hb:PE X (.BoolOp .And (b::rest) pos) tb):PE X (.BoolOp .And (a::b::rest) pos) (tAndV ta tb):=by
 intro pins s σ H Q I h;refine BoolOp_and (thn (ha pins s σ H _ I h) fun v s1 ⟨x,H1,I1,r1,q1⟩=>?_);obtain⟨c,rfl,q1⟩:=q1
 cases r1
 refine wpAny_truthy_bool ?_
 cases c with
 |true=>exact hb pins s1 σ H1 Q I1 q1
 |false=>exact⟨.bl false,H1,I1,rfl,q1⟩
theorem pe_not(ha:PE X a ta):PE X (.UnaryOp .Not a pos) (tNotV ta):=by
 intro pins s σ H Q I h;refine UnaryOp_ (thn (ha pins s σ H _ I h) fun v s1 ⟨x,H1,I1,r1,q1⟩=>?_);obtain⟨c,rfl,q1⟩:=q1
 cases r1
 exact not_of (wpAny_truthy_bool ⟨.bl (!c),H1,I1,rfl,q1⟩)
noncomputable def tIf(t:TT)(ta tb:TE):TE:=fun σ H Q=>t σ H fun c H1=>if c=true then ta σ H1 Q else tb σ H1 Q
theorem qi{c:Expr}(hc:PT X c tA)(ha:PE X a ta)(hb:PE X b tb):PE X (.IfExp c a b pos) (tIf tA ta tb):=by
 intro pins s σ H Q I h;refine wpAny_IfExp (thn (hc pins s σ H _ I h) fun d s1 ⟨H1,I1,q1⟩=>?_)
 cases d with
 |true=>exact ha pins s1 σ H1 Q I1 q1
 |false=>exact hb pins s1 σ H1 Q I1 q1
end
noncomputable def SqL(K:JH)(H:Hp)(a:Addr)(xs:List V):Prop :=
 Rd H a (.lst xs) ∨
  ∃(o:Obj)(its:Array Value)(n:Nat),K.lookup a=some o/\o.cls=.type "list"/\o.dict=none/\o.data=.seq its n/\its.size<=sizeLine/\Vals xs its.toList
noncomputable def SqT(K:JH)(H:Hp)(a:Addr)(xs:List V):Prop :=
 Rd H a (.tup xs) ∨
  ∃(o:Obj)(its:Array Value)(n:Nat),K.lookup a=some o/\o.cls=.type "tuple"/\o.data=.seq its n/\its.size<=sizeLine/\Vals xs its.toList
noncomputable def absV:Value->Option V
 |.none=>some .non
 |.bool b=>some (.bl b)
 |.int i _=>some (.int i)
 |.str x _=>some (.str x)
 |.bytes b _=>some (.byt b)
 |.float b _=>some (.flt b)
 |.ref a=>some (.ref a)
 |.type n=>some (.ty n)
 |_=>none
theorem RelV.abs{x:V}{u:Value}(r:RelV x u):absV u=some x:=by
 cases x with
 |non=>cases r;rfl
 |bl _=>cases r;rfl
 |int _=>obtain⟨t,rfl⟩:=r;rfl
 |str _=>obtain⟨t,rfl⟩:=r;rfl
 |byt _=>obtain⟨t,rfl⟩:=r;rfl
 |flt _=>obtain⟨t,rfl⟩:=r;rfl
 |ref _=>cases r;rfl
 |ty _=>cases r;rfl
theorem RelV.inj{x y:V}{u:Value}(r:RelV x u)(q:RelV y u):x=y:=KH (r.abs.symm.trans q.abs)
theorem Vals.inj:∀{xs ys:List V}{us:List Value},Vals xs us->Vals ys us->xs=ys
 |_,_,_,.nil,.nil=>rfl
 |_,_,_,.cons r t,.cons r' t'=>by rw[r.inj r',Vals.inj t t']
section
variable{X:Cx}{pins:List (Addr×Obj)}{σ:St}{H:Hp}{s:Shared}{a:Addr}{xs ys:List V}
theorem SqL.of{K:JH}(h:H a=some (.lst xs)):SqL K H a xs:=.inl (.inl h)
theorem SqT.of{K:JH}(h:H a=some (.tup xs)):SqT K H a xs:=.inl (.inl h)
theorem Inv.list(I:Inv X pins σ H s)(h:SqL X.K H a xs):∃ its:List Value,Vals xs its/\PlainL s.heap a its.toArray/\xs.length<=sizeLine:=by
 rcases h with h | ⟨o,its,n,hk,hc,hd,hs,hz,r⟩
 ·obtain⟨z,its,n,r,e⟩:=h.ok I.hok;exact⟨its,r,⟨_,n,e,rfl,rfl,rfl⟩,z⟩
 ·refine⟨its.toList,r,⟨o,n,I.kIn a o hk,hc,hd,by simpa using hs⟩,?_⟩
  have e:=r.length;simp only[Kg]at e;omega
theorem Inv.tuple(I:Inv X pins σ H s)(h:SqT X.K H a xs):∃ its:List Value,Vals xs its/\IsTup s.heap a its.toArray/\xs.length<=sizeLine:=by
 rcases h with h | ⟨o,its,n,hk,hc,hs,hz,r⟩
 ·obtain⟨z,its,r,p⟩:=h.ok I.hok;exact⟨its,r,p,z⟩
 ·refine⟨its.toList,r,⟨o,I.kIn a o hk,hc,n,by simpa using hs⟩,?_⟩
  have e:=r.length;simp only[Kg]at e;omega
theorem Inv.list_inj(I:Inv X pins σ H s)(h:SqL X.K H a xs)(h':SqL X.K H a ys):xs=ys:=by
 obtain⟨its,r,⟨o,n,e,_,_,d⟩,_⟩:=I.list h;obtain⟨its',r',⟨o',n',e',_,_,d'⟩,_⟩:=I.list h';rw[e]at e';cases e';rw[d]at d';injection d' with d1 _;have:its=its':=by simpa using congrArg Array.toList d1
 subst this;exact r.inj r'
end
noncomputable abbrev Cx.wish(X:Cx)(E:Value->Shared->Prop):Cx:={ X with xe:=E }
noncomputable abbrev Cx.nox(X:Cx):Cx:=X.wish fun _ _=>False
theorem Cx.Ok.wish{X:Cx}(ok:X.Ok)(E:Value->Shared->Prop):(X.wish E).Ok :=
 ⟨ok.mod,ok.kind,ok.glob,ok.blt,ok.above,ok.inj,ok.has,ok.cab,ok.hd,ok.frames,ok.stk,ok.exf,ok.bs,ok.bsz,ok.noex,ok.exfs,ok.funs,ok.frf⟩
theorem Cx.Ok.unwish{X:Cx}{E:Value->Shared->Prop}(ok:(X.wish E).Ok):X.Ok :=
 ⟨ok.mod,ok.kind,ok.glob,ok.blt,ok.above,ok.inj,ok.has,ok.cab,ok.hd,ok.frames,ok.stk,ok.exf,ok.bs,ok.bsz,ok.noex,ok.exfs,ok.funs,ok.frf⟩
section
variable{X:Cx}{pins:List (Addr×Obj)}{σ:St}{H:Hp}{s:Shared}{E:Value->Shared->Prop}
theorem Inv.wish(I:Inv X pins σ H s)(E:Value->Shared->Prop):Inv (X.wish E) pins σ H s:=⟨I.ok.wish E,I.os,I.bare,I.base,I.loc,I.cell,I.free,I.freeC,I.pin,I.hok,I.len⟩
theorem Inv.unwish(I:Inv (X.wish E) pins σ H s):Inv X pins σ H s:=⟨I.ok.unwish,I.os,I.bare,I.base,I.loc,I.cell,I.free,I.freeC,I.pin,I.hok,I.len⟩
theorem SP.unwish{D:Ends}{f:Flow}{s':Shared}(h:SP (X.wish E) pins D f s'):SP X pins D f s':=by
 cases f with
 |next=>obtain⟨σ',H',I,q⟩:=h;exact⟨σ',H',I.unwish,q⟩
 |brk=>obtain⟨σ',H',I,q⟩:=h;exact⟨σ',H',I.unwish,q⟩
 |cont=>obtain⟨σ',H',I,q⟩:=h;exact⟨σ',H',I.unwish,q⟩
 |ret u=>obtain⟨v,σ',H',I,r,q⟩:=h;exact⟨v,σ',H',I.unwish,r,q⟩
theorem PSs.nox{st:List Stmt}{t:TS}(h:PSs X.nox st t):PSs X st t:=fun pins s σ H D I hw =>
 wpAny_mono (h pins s σ H D (I.wish _) hw) (fun _ _ q=>q.unwish) fun _ _ z=>False.elim z
end
section
variable{X:Cx}{st:Stmt}{rest:List Stmt}{t u:TS}{e:Expr}{te:TE}{pos:Pos}
noncomputable def tNext:TS:=fun D σ H=>D.nx σ H
noncomputable def tSeq(t u:TS):TS:=fun D σ H=>t { D with nx:=u D } σ H
theorem aY:PSs X [] tNext:=fun _ _ σ H _ I h=>wpAny_execs_nil ⟨σ,H,I,h⟩
theorem af(h1:PS X st t)(h2:PSs X rest u):PSs X (st::rest) (tSeq t u):=by
 intro pins s σ H D I h;refine wpAny_execs_cons (thn (h1 pins s σ H { D with nx:=u D } I h) fun f s1 q=>?_)
 cases f with
 |next =>
  obtain⟨σ',H',I',q⟩:=q;exact h2 pins s1 σ' H' D I' q
 |ret v=>exact q
 |brk=>exact q
 |cont=>exact q
theorem aq(h1:PS X st t):PSs X [st] t:=by
 intro pins s σ H D I h;refine wpAny_execs_cons (thn (h1 pins s σ H D I h) fun f s1 q=>?_)
 cases f with
 |next=>exact wpAny_execs_nil q
 |ret v=>exact q
 |brk=>exact q
 |cont=>exact q
theorem Inv.quiet{pins:List (Addr×Obj)}{σ:St}{H:Hp}{s:Shared}(I:Inv X pins σ H s):interactive X.env=false:=by simp[interactive,I.ok.kind]
noncomputable def tDrop(te:TE):TS:=fun D σ H=>te σ H fun _ H1=>D.nx σ H1
theorem cX(he:PE X e te)(hs:swapsWith e none pos.line X.env=pure false:=by rfl):PS X (.Expr e pos) (tDrop te):=by
 intro pins s σ H D I h;exact wpAny_Expr_any (thn (he pins s σ H _ I h) fun v s1 ⟨x,H1,I1,r1,q1⟩=>⟨σ,H1,I1,q1⟩) I.quiet hs
noncomputable def tRet(te:TE):TS:=fun D σ H=>te σ H D.rt
theorem aJ(he:PE X e te):PS X (.Return (some e) pos) (tRet te):=by
 intro pins s σ H D I h;exact wpAny_Return_some (thn (he pins s σ H _ I h) fun v s1 ⟨x,H1,I1,r1,q1⟩=>⟨x,σ,H1,I1,r1,q1⟩)
noncomputable def tIfS(c:TT)(t u:TS):TS:=fun D σ H=>c σ H fun b H1=>if b=true then t D σ H1 else u D σ H1
theorem c6{c:Expr}{a b:List Stmt}{tc:TT}(hc:PT X c tc)(ha:PSs X a t)(hb:PSs X b u):PS X (.If c a b pos) (tIfS tc t u):=by
 intro pins s σ H D I h;refine wpAny_If (thn (hc pins s σ H _ I h) fun d s1 ⟨H1,I1,q1⟩=>?_)
 cases d with
 |true=>exact ha pins s1 σ H1 D I1 q1
 |false=>exact hb pins s1 σ H1 D I1 q1
noncomputable def tNever:TS:=fun _ _ _=>False
theorem qg:PS X st tNever:=fun _ _ _ _ _ _ h=>h.elim
end
noncomputable abbrev TG:=V->St->Hp->(St->Hp->Prop)->Prop
noncomputable abbrev TGs:=List V->St->Hp->(St->Hp->Prop)->Prop
noncomputable def PG(X:Cx)(target:Expr)(t:TG):Prop :=
 ∀(pins:List (Addr×Obj))(s:Shared)(σ:St)(H:Hp)(v:V)(u:Value)(Q:St->Hp->Prop),Inv X pins σ H s->RelV v u->t v σ H Q ->
  wpAny (model X.prog X.w) X.A (assign target X.env u) (fun _ s'=>∃ σ' H',Inv X pins σ' H' s'/\Q σ' H') X.xe s
noncomputable def PGs(X:Cx)(ts:List Expr)(t:TGs):Prop :=
 ∀(pins:List (Addr×Obj))(s:Shared)(σ:St)(H:Hp)(vs:List V)(us:List Value)(Q:St->Hp->Prop),Inv X pins σ H s->Vals vs us->t vs σ H Q ->
  wpAny (model X.prog X.w) X.A (assignInOrder ((assignEach ts X.env).map (·.2)) us) (fun _ s'=>∃ σ' H',Inv X pins σ' H' s'/\Q σ' H') X.xe s
noncomputable abbrev TSet:=V->V->V->Hp->(Hp->Prop)->Prop
noncomputable def PSet(X:Cx)(t:TSet):Prop :=
 ∀(pins:List (Addr×Obj))(s:Shared)(σ:St)(H:Hp)(o i v:V)(ov iv u:Value)(Q:Hp->Prop),Inv X pins σ H s->RelV o ov->RelV i iv->RelV v u->t o i v H Q ->
  wpAny (model X.prog X.w) X.A (setItem ov iv u) (fun _ s'=>∃ H',Inv X pins σ H' s'/\Q H') X.xe s
noncomputable abbrev TIp:=V->V->Hp->VK->Prop
noncomputable def PIp(X:Cx)(op:Operator)(t:TIp):Prop :=
 ∀(pins:List (Addr×Obj))(s:Shared)(σ:St)(H:Hp)(x y:V)(v u:Value)(Q:VK),Inv X pins σ H s->RelV x v->RelV y u->t x y H Q ->
  wpAny (model X.prog X.w) X.A (inplaceOp op v u) (EP X pins σ Q) X.xe s
section
variable{X:Cx}{pos:Pos}
noncomputable def gName(i:Nat):TG:=fun v σ H Q=>Q (σ.set i (some v)) H
theorem aw{i:Nat}{x:Str}(hN:X.N.Nodup)(hi:X.N[i]?=some x)(hx:Loc X.env.scope x)(hf:X.fn x=true∨X.env.scope.names.lookup x=some .local:=by first | exact .inl rfl | exact .inr rfl | assumption):PG X (.Name x pos) (gName i):=by
 intro pins s σ H v u Q I r h;exact wpAny_assign_Name (eZ I hN hi hx r (fun s' I'=>⟨_,H,I',h⟩) hf)
noncomputable def gNil:TGs:=fun vs σ H Q=>vs = []/\Q σ H
noncomputable def gCons(t:TG)(u:TGs):TGs:=fun vs σ H Q=>∃ v r,vs=v::r/\t v σ H fun σ' H'=>u r σ' H' Q
theorem cH:PGs X [] gNil:=by
 intro pins s σ H vs us Q I r h;obtain⟨e,h⟩:=h;subst e
 cases r
 exact assignInOrder_nil ⟨σ,H,I,h⟩
theorem aM{e:Expr}{es:List Expr}{t:TG}{u:TGs}(h1:PG X e t)(h2:PGs X es u)
  (hs:(assignEach (e::es) X.env).map (·.2)=assign e X.env::(assignEach es X.env).map (·.2):=by rfl):PGs X (e::es) (gCons t u):=by
 intro pins s σ H vs us Q I r h;obtain⟨v,vr,e1,h⟩:=h;subst e1
 cases r with
 |cons r rr =>
  rw[hs];refine assignInOrder_cons (thn (h1 pins s σ H _ _ _ I r h) fun _ s1 ⟨σ1,H1,I1,q1⟩=>?_);exact h2 pins s1 σ1 H1 _ _ Q I1 rr q1
noncomputable def gTup(K:JH)(n:Nat)(t:TGs):TG:=fun v σ H Q=>∃ a xs,v=.ref a/\SqT K H a xs/\xs.length=n/\t xs σ H Q
theorem sC{es:List Expr}{k:Nat}{t:TGs}{n:Nat}(hc:X.calm=true)(h:PGs X es t)
  (hn:(assignEach es X.env).length=n:=by rfl) (hst:(assignEach es X.env).findIdx? (·.1)=none:=by rfl):PG X (.Tuple es k pos) (gTup X.K n t):=by
 intro pins s σ H v u Q I r hw;obtain⟨a,xs,e1,hq,hl,hw⟩:=hw;subst e1
 cases r
 obtain⟨its,rv,ht,hz⟩:=I.tuple hq;refine assign_Tuple_tuple (I.ok.hd hc) ht (by simp[hn,← hl,rv.length]) hst fun h' hx=>?_
 have I1:Inv X pins σ H { s with heap:=h' }:=I.kept (t':=s.toks) fun b o e=>hx b o (JV (Heap.lt_size e)) e;exact h pins _ σ H xs _ Q I1 (by simpa using rv) hw
noncomputable def gSub(to ti:TE)(t:TSet):TG:=fun v σ H Q=>to σ H fun o H1=>ti σ H1 fun i H2=>t o i v H2 fun H3=>Q σ H3
theorem Bx{o i:Expr}{to ti:TE}{t:TSet}(ho:PE X o to)(hi:PE X i ti)(hs:PSet X t)
  (ha:∀ v,assign (.Subscript o i pos) X.env v=(do
   let ov ← holding [v] (eval o X.env)
   let iv ← holding [v,ov] (eval i X.env)
   standAt pos
   holding [v,ov,iv] (setItem ov iv v)
   release [v,ov,iv] []):=by intro _;rfl):PG X (.Subscript o i pos) (gSub to ti t):=by
 intro pins s σ H v u Q I r h;rw[ha];refine wpAny_bind (wpAny_holding (thn (ho pins s σ H _ I h) fun ov s1 ⟨x,H1,I1,r1,q1⟩=>?_));refine wpAny_bind (wpAny_holding (thn (hi pins s1 σ H1 _ I1 q1) fun iv s2 ⟨y,H2,I2,r2,q2⟩=>?_));refine wpAny_bind (wpAny_standAt (wpAny_bind (wpAny_holding (thn (hs pins s2 σ H2 x y v ov iv u _ I2 r1 r2 r q2) fun _ s3 ⟨H3,I3,q3⟩=>?_))));exact wpAny_release ⟨σ,H3,I3,q3⟩
noncomputable def tAsg(te:TE)(g:TG):TS:=fun D σ H=>te σ H fun x H1=>g x σ H1 D.nx
theorem Bo{tg e:Expr}{te:TE}{g:TG}(he:PE X e te)(hg:PG X tg g)(hs:swapsWithSole [tg] e pos.line X.env=pure false:=by rfl)(hw:swappedStores [tg] e X.env=pure none:=by rfl)
  (h1:(assignEach [tg] X.env).map (·.2) = [assign tg X.env]:=by rfl):PS X (.Assign [tg] e pos) (tAsg te g):=by
 intro pins s σ H D I h;refine wpAny_Assign_stores (thn (he pins s σ H _ I h) fun v s1 ⟨x,H1,I1,r1,q1⟩=>?_) hs hw;rw[h1];exact thn (hg pins s1 σ H1 x v _ I1 r1 q1) fun _ s2 q=>q
theorem au{i:Nat}{x:Str}{e:Expr}{te:TE}{pos':Pos}(hN:X.N.Nodup)(hi:X.N[i]?=some x)(hx:Loc X.env.scope x)(he:PE X e te)(hs:swapsWith e (some (.Name x pos')) pos.line X.env=pure false:=by rfl)(hf:X.fn x=true∨X.env.scope.names.lookup x=some .local:=by first | exact .inl rfl | exact .inr rfl | assumption) :
  PS X (.Assign [.Name x pos'] e pos) (tAsg te (gName i)):=by
 intro pins s σ H D I h;refine wpAny_Assign_Name (thn (he pins s σ H _ I h) fun v s1 ⟨y,H1,I1,r1,q1⟩=>?_) hs;exact eZ I1 hN hi hx r1 (fun s2 I2=>⟨_,H1,I2,q1⟩) hf
noncomputable def tPar(i j:Nat)(ta:TA):TS:=fun D σ H=>ta σ H fun vs H1=>∃ v w,vs = [v,w]/\D.nx ((σ.set i (some v)).set j (some w)) H1
theorem ps_par{i j:Nat}{x y:Str}{a b:Expr}{ta:TA}{px py pt:Pos}{kt k2 pt2}(hc:X.calm=true)(hN:X.N.Nodup)(hi:X.N[i]?=some x)(hj:X.N[j]?=some y)(hij:i≠j)
  (hx:X.env.scope.names.lookup x=some .local) (hy:X.env.scope.names.lookup y=some .local) (ha:PA X [a,b] ta)
  (hw:swappedStores [.Tuple [.Name x px,.Name y py] kt pt] (.Tuple [a,b] k2 pt2) X.env=pure (some [x,y]))
  (hs:swapsWithSole [.Tuple [.Name x px,.Name y py] kt pt] (.Tuple [a,b] k2 pt2) pos.line X.env=pure false:=by rfl) :
  PS X (.Assign [.Tuple [.Name x px,.Name y py] kt pt] (.Tuple [a,b] k2 pt2) pos) (tPar i j ta):=by
 intro pins s σ H D I h;rw[exec_Assign_arm];refine wpAny_bind (wpAny_standAt ?_);rw[hs];refine wpAny_bind (wpAny_pure ?_);rw[if_neg (by decide)]
 refine wpAny_bind (Tuple_ (thn (ha _ pins s σ H _ I h) fun us s1 ⟨vs,H1,I1,r1,q1⟩=>?_));obtain⟨v,w,e1,q1⟩:=q1;subst e1;obtain⟨u1,u2,rfl,rv,rw'⟩:∃ u1 u2,us = [u1,u2]/\RelV v u1/\RelV w u2:=by
  cases r1 with
  |cons p q =>
   cases q with
   |cons p' q' =>
    cases q'
    exact⟨_,_,rfl,p,p'⟩
 refine wpAny_newObj_type ?_ (by show 2<=sizeLine;decide)
 have I2:Inv X pins σ H1 { s1 with heap:=s1.heap.push { cls:=.type "tuple",data:=.seq [u1,u2].toArray } }:=I1.kept (t':=s1.toks) fun b o e=>Heap.get?_push_of_some _ e;rw[hw];refine wpAny_bind (wpAny_pure ?_);show wpAny (model X.prog X.w) X.A (do rule "assign.swapped-stores";let items ← unpackItems (.ref s1.heap.objs.size) 2 none;assignInOrder [fun v=>bindName X.env y v,fun v=>bindName X.env x v] items.reverse;pure Flow.next) _ _ _
 refine wpAny_bind (wpAny_rule (wpAny_bind (unpackItems_tuple (items:=#[u1,u2]) (I.ok.hd hc) (IsTup.new s1.heap _) fun h' hx'=>?_)));have I3:=I2.kept (h':=h') (t':=s1.toks) fun b o e=>hx' b o (JV (Heap.lt_size e)) e;show wpAny _ _ (assignInOrder [fun v=>bindName X.env y v,fun v=>bindName X.env x v] [u2,u1] >>= fun _=>pure Flow.next) _ _ _;refine wpAny_bind (assignInOrder_cons (wpAny_bindName (eZ I3 hN hj (.inl hy) rw' (fun s2 I4=>?_) (.inr hy))));refine assignInOrder_cons (wpAny_bindName (eZ I4 hN hi (.inl hx) rv (fun s3 I5=>assignInOrder_nil (wpAny_pure ?_)) (.inr hx)));rw[List.set_comm _ _ (Ne.symm hij)]at I5;exact⟨_,H1,I5,q1⟩
noncomputable def tAug(i:Nat)(te:TE)(ti:TIp):TS:=fun D σ H=>∃ x,σ[i]?=some (some x)/\te σ H fun y H1=>ti x y H1 fun z H2=>D.nx (σ.set i (some z)) H2
theorem ps_aug{i:Nat}{x:Str}{e:Expr}{te:TE}{op:Operator}{ti:TIp}{pos':Pos}(hN:X.N.Nodup)(hi:X.N[i]?=some x)(hx:Loc X.env.scope x)(he:PE X e te)(ho:PIp X op ti)(hf:X.fn x=true∨X.env.scope.names.lookup x=some .local:=by first | exact .inl rfl | exact .inr rfl | assumption) :
  PS X (.AugAssign (.Name x pos') op e pos) (tAug i te ti):=by
 intro pins s σ H D I h;obtain⟨v,e1,h⟩:=h;obtain⟨m,hn,hl⟩:=I.loc;have vis:Vis X.env.scope x:=by rcases hx with k | k;exact .inl k;exact .inr (.inl k)
 obtain⟨u,r,l⟩:=hl i x v hi e1 vis;refine wpAny_AugAssign_Name ?_;have go:wpAny (model X.prog X.w) X.A (eval e X.env) (fun w s₂=>wpAny (model X.prog X.w) X.A (inplaceOp op u w) (fun r s₃=>wpAny (model X.prog X.w) X.A (storeName X.env x r) (fun _=>SP X pins D .next) X.xe s₃) X.xe s₂) X.xe s:=by
  refine thn (he pins s σ H _ I h) fun w s1 ⟨y,H1,I1,r1,q1⟩=>?_;refine thn (ho pins s1 σ H1 v y u w _ I1 r r1 q1) fun z s2 ⟨zv,H2,I2,r2,q2⟩=>?_;exact eZ I2 hN hi hx r2 (fun s3 I3=>⟨_,H2,I3,q2⟩) hf
 rcases l with⟨hk,hm⟩ | ⟨hk,c,hc,hcell⟩
 ·exact wpAny_loadName_local I.ok.kind hk hn hm go
 ·rcases hk with hk | hk
  ·exact wpAny_loadName_cell I.ok.kind hk hc hcell go
  ·rcases hx with k | k
   ·have:X.env.scope.names.lookup x=some .free:=hk
    rw[k]at this;cases this
   ·have:X.env.scope.names.lookup x=some .free:=hk
    rw[k]at this;cases this
noncomputable def ipI(f:Int->Int->Int):TIp:=fun x y H Q=>∃ i j,x=.int i/\y=.int j/\Q (.int (f i j)) H
theorem ip_add:PIp X .Add (ipI fun i j=>i+j):=by
 intro pins s σ H x y v u Q I r1 r2 h;obtain⟨i,j,e1,e2,q⟩:=h;subst e1;subst e2;obtain⟨t,rfl⟩:=r1;obtain⟨t',rfl⟩:=r2;exact iadd_int ⟨.int _,H,I.tok _,⟨_,rfl⟩,q⟩
noncomputable def GB(c:TT)(tb:TS):TS:=fun D σ H=>∃ W:Nat->St->Hp->Prop,(∃ m,W m σ H)/\∀ m σ H,W m σ H ->
 c σ H fun b H1=>if b=true then ∃ N:St->Hp->Prop,(∀ σ' H',N σ' H'->∃ m',m'<m/\W m' σ' H')/\tb { D with nx:=N,ct:=N,bk:=D.nx } σ H1 else D.nx σ H1
theorem gO{c:Expr}{body:List Stmt}{tc:TT}{tb:TS}(hp:PassesOwn (model X.prog X.w) X.A X.env X.xe)(hc:PT X c tc)(hb:PSs X body tb):PS X (.While c body [] pos) (GB tc tb):=by
 intro pins s σ H D I h;obtain⟨W,⟨m0,w0⟩,turn⟩:=h;refine wpAny_While (codeAny_whileLoop (fun n s'=>∃ σ' H',Inv X pins σ' H' s'/\W n σ' H') ?_ m0 ⟨σ,H,I,w0⟩);rintro n s1 ⟨σ1,H1,I1,w1⟩;refine wpAny_passesOwn hp (thn (hc pins s1 σ1 H1 _ I1 (turn n σ1 H1 w1)) fun b s2 ⟨H2,I2,q2⟩=>?_)
 cases b with
 |true =>
  obtain⟨N,hN,q2⟩:=q2;rw[if_pos rfl];refine wpAny_passesOwn hp (thn (hb pins s2 σ1 H2 _ I2 q2) fun f s3 q3=>?_)
  cases f with
  |next =>
   obtain⟨σ3,H3,I3,n3⟩:=q3;obtain⟨m',hm,w3⟩:=hN σ3 H3 n3;exact⟨m',hm,σ3,H3,I3,w3⟩
  |cont =>
   obtain⟨σ3,H3,I3,n3⟩:=q3;obtain⟨m',hm,w3⟩:=hN σ3 H3 n3;exact⟨m',hm,σ3,H3,I3,w3⟩
  |brk=>exact q3
  |ret v=>exact q3
 |false =>
  rw[if_neg Kb];exact wpAny_execs_nil ⟨σ1,H2,I2,q2⟩
end
set_option genInjectivity false in
structure It where
 go:Nat->Hp->Prop
 yld:Nat->Hp->V->Hp->Prop
 stop:Nat->Hp->Prop
noncomputable def FpOk(X:Cx)(pins:List (Addr×Obj))(H:Hp)(b:Addr):Prop :=
 H b=none/\b≠X.env.locals/\b∉X.fs/\(b∈X.ex∨X.s₀.heap.objs.size<=b)/\(∀ x c,X.env.cells.lookup x=some c->c≠b)/\∀ p∈X.pn++pins,p.1≠b
theorem Inv.fpOk{X:Cx}{pins:List (Addr×Obj)}{σ:St}{H H':Hp}{s:Shared}{b:Addr}(I:Inv X pins σ H s)(hb:s.heap.objs.size<=b)(hn:H' b=none):FpOk X pins H' b:=by
 refine⟨hn,K5 (Kx I.lt hb),I.nofs hb,.inr (Lf I.sz hb),fun x c e z=>?_,fun p hp z=>?_⟩
 ·obtain⟨v,q⟩:=I.cell x c e;exact absurd (Kx q.lt (by rw[z];exact hb)) (KN _)
 ·exact absurd (Kx (Heap.lt_size (I.pin p hp).1) (by rw[z];exact hb)) (KN _)
structure Turn(P:Program)(w:World)(K:JH)(tg:Expr)(J:It)(fp:List Addr)(it:Addr)(tn:Nat->Heap->Prop):Prop where
 mem:it∈fp
 obj:∀ i h,tn i h->∀ b∈fp,∃ o,h.get? b=some o/\∀ v,o.data≠.cell v
 keep:∀ i h h',tn i h->(∀ b∈fp,∀ o,h.get? b=some o->h'.get? b=some o)->tn i h'
 item:∀(X:Cx),X.prog=P->X.w=w->X.K=K->X.calm=true->∀(i:Nat)(pins:List (Addr×Obj))(s:Shared)(σ:St)(H:Hp)(E:Value->Shared->Prop),Inv X pins σ H s->(∀ b∈fp,FpOk X pins H b)->tn i s.heap->J.go i H ->
  wpAny (model P w) X.A (pyNext (.ref it)) (fun r s1=>∃ u,r=some u /\
   wpAny (model P w) X.A (letOwnedTupleGo tg (.ref it) u) (fun _ s2=>∃ x H',Inv X pins σ H' s2/\RelV x u/\J.yld i H x H'/\tn (i+1) s2.heap/\∀ b∈fp,H' b=none) E s1) E s
 done:∀(X:Cx),X.prog=P->X.w=w->X.K=K->X.calm=true->∀(i:Nat)(pins:List (Addr×Obj))(s:Shared)(σ:St)(H:Hp)(E:Value->Shared->Prop),Inv X pins σ H s->(∀ b∈fp,FpOk X pins H b)->tn i s.heap->J.stop i H ->
  wpAny (model P w) X.A (pyNext (.ref it)) (fun r s1=>r=none/\Inv X pins σ H s1) E s
 self:∀(A:Around)(i:Nat)(s:Shared)(Q:Value->Shared->Prop)(E:Value->Shared->Prop),tn i s.heap->Q (.ref it) s->wpAny (model P w) A (pyIter (.ref it)) Q E s
noncomputable abbrev TI:=St->Hp->(It->Hp->Prop)->Prop
noncomputable def PIE(X:Cx)(pins:List (Addr×Obj))(σ:St)(tg:Expr)(R:It->Hp->Prop)(itv:Value)(s2:Shared):Prop :=
 ∃(it:Addr)(fp:List Addr)(tn:Nat->Heap->Prop)(J:It)(H':Hp),itv=.ref it/\Inv X pins σ H' s2/\Turn X.prog X.w X.K tg J fp it tn/\tn 0 s2.heap/\(∀ b∈fp,FpOk X pins H' b)/\R J H'
noncomputable def PI(X:Cx)(tg iter:Expr)(wi:TI):Prop :=
 ∀(pins:List (Addr×Obj))(s:Shared)(σ:St)(H:Hp)(R:It->Hp->Prop),Inv X pins σ H s->wi σ H R ->
  wpAny (model X.prog X.w) X.A (eval iter X.env) (fun v s1=>wpAny (model X.prog X.w) X.A (pyIter v) (PIE X pins σ tg R) X.xe s1) X.xe s
theorem go_of{M:Model}{A:Around}{E:Value->Shared->Prop}{s:Shared}{tg:Expr}{it:Addr}{u:Value}{o:Obj}{n:String}{vs:Array Value}{Q:Unit->Shared->Prop}(ho:s.heap.get? it=some o)(hc:o.cls=.type n)(hd:o.data=.fields vs)
  (hn : ["enumerate","zip","dict_itemiterator","dict_reverseitemiterator","odict_iterator","itertools.zip_longest","itertools.pairwise"].contains n=false) (hQ:Q () s):wpAny M A (letOwnedTupleGo tg (.ref it) u) Q E s:=by
 unfold letOwnedTupleGo
 cases tg<;>first
  |exact wpAny_pure hQ
  | (cases u<;>first
    |exact wpAny_pure hQ
    | (refine wpAny_bind (wpAny_load ho ?_)
       rw[hc,hd]
       show wpAny M A (if(["enumerate","zip","dict_itemiterator","dict_reverseitemiterator","odict_iterator","itertools.zip_longest","itertools.pairwise"].contains n&&vs[0]? == some (rawInt _))=true then _ else _) Q E s
       rw[if_neg (by intro h;rw[hn,Lq]at h;cases h)]
       exact wpAny_pure hQ))
noncomputable def Itl(K:JH)(a:Addr):It :=
 ⟨fun i H=>∃ xs x,SqL K H a xs/\xs[i]?=some x,fun i H x H'=>H'=H/\∀ xs,SqL K H a xs->xs[i]?=some x,fun i H=>∃ xs,SqL K H a xs/\xs.length<=i⟩
noncomputable def Itr(lo:Int)(n:Nat):It:=⟨fun i _=>i<n,fun i H x H'=>H'=H/\x=.int (lo+i),fun i _=>n<=i⟩
theorem AS{P:Program}{w:World}{K:JH}{tg:Expr}(a it:Addr):Turn P w K tg (Itl K a) [it] it (fun i h=>h.IsListIter it a i) where
 mem:=by simp
 obj:=fun i h st b hb=>by
  have e:b=it:=by simpa using hb
  subst e;obtain⟨o,e,c,d⟩:=st;exact⟨o,e,fun v z=>by rw[d]at z;cases z⟩
 keep:=fun i h h' st k=>st.at fun o e=>k it (by simp) o e
 item:=by
  intro X hP hw hK hc i pins s σ H E I hf st hg;subst hP hw hK;obtain⟨xs,x,hq,hx⟩:=hg;obtain⟨its,rv,p,hz⟩:=I.list hq;obtain⟨u,hu,ru⟩:=rv.get hx;obtain⟨f0,f1,f2,f3,f4,f5⟩:=hf it (by simp)
  refine wpAny_pyNext_list_item st p.isList (x:=u) (by simpa using hu) fun h' st' sb=>?_
  have I1:Inv X pins σ H { s with heap:=h' }:=I.turned (t':=s.toks) (fun b o hb e=>(sb.2 b hb).trans e) f0 f1 f3 f4 f5;obtain⟨o,e,c,d⟩:=id st';exact⟨u,rfl,go_of (s:={ s with heap:=h' }) e c d (by decide) ⟨x,H,I1,ru,⟨rfl,fun ys hy=>by rw[I.list_inj hy hq];exact hx⟩,st',fun b hb=>(hf b hb).1⟩⟩
 done:=by
  intro X hP hw hK hc i pins s σ H E I hf st hg;subst hP hw hK;obtain⟨xs,hq,hx⟩:=hg;obtain⟨its,rv,p,hz⟩:=I.list hq;obtain⟨f0,f1,f2,f3,f4,f5⟩:=hf it (by simp)
  have hl:=rv.length;exact wpAny_pyNext_list_end (I.ok.hd hc) st p.isList (by simp;omega) fun h' eb=>⟨rfl,I.turned (t':=s.toks) (fun b o hb e=>eb b o hb e) f0 f1 f3 f4 f5⟩
 self:=fun _ _ _ _ _ st h=>wpAny_pyIter_listiter st h
theorem yM{P:Program}{w:World}{K:JH}{tg:Expr}(it:Addr)(lo:Int)(n:Nat):Turn P w K tg (Itr lo n) [it] it (fun i h=>IsRangeIter h it (lo+(i:Nat)*1) ((n:Int)-(i:Nat)) 1) where
 mem:=by simp
 obj:=fun i h st b hb=>by
  have e:b=it:=by simpa using hb
  subst e
  exact⟨_,st,fun v z=>by
   have z':Data.fields _=Data.cell v:=z
   cases z'⟩
 keep:=fun i h h' st k=>k it (by simp) _ st
 item:=by
  intro X hP hw hK hc i pins s σ H E I hf st hg;subst hP hw hK;obtain⟨f0,f1,f2,f3,f4,f5⟩:=hf it (by simp)
  have W:=Walks.range (prog:=X.prog) (w:=X.w) (I.ok.hd hc) it lo 1 n;refine W.item i s _ _ hg st fun v h' tk hv st' kk=>?_;obtain⟨t,rfl⟩:=hv;have I1:Inv X pins σ H { s with heap:=h',toks:=tk }:=I.turned (fun b o hb e=>kk b o (by simpa using hb) e) f0 f1 f3 f4 f5
  refine⟨_,rfl,go_of (s:={ s with heap:=h',toks:=tk }) (n:="range_iterator") st' rfl rfl (by decide) ⟨.int (lo+i),H,I1,⟨t,?_⟩,⟨rfl,rfl⟩,st',fun b hb=>(hf b hb).1⟩⟩
  rw[Int.mul_one]
 done:=by
  intro X hP hw hK hc i pins s σ H E I hf st hg;subst hP hw hK;obtain⟨f0,f1,f2,f3,f4,f5⟩:=hf it (by simp)
  exact wpAny_pyNext_range_end (I.ok.hd hc) st (by have:n<=i:=hg;omega) fun h' eb=>⟨rfl,I.turned (t':=s.toks) (fun b o hb e=>eb b o hb e) f0 f1 f3 f4 f5⟩
 self:=fun _ _ _ _ _ st h=>wpAny_pyIter_rangeiter st h
section
variable{X:Cx}{tg:Expr}
noncomputable def iList(K:JH)(tl:TE):TI:=fun σ H R=>tl σ H fun x H1=>∃ a,x=.ref a/\(∃ xs,SqL K H1 a xs)/\R (Itl K a) H1
theorem aZ{l:Expr}{tl:TE}(hl:PE X l tl):PI X tg l (iList X.K tl):=by
 intro pins s σ H R I h;refine thn (hl pins s σ H _ I h) fun v s1 ⟨x,H1,I1,r1,q1⟩=>?_;obtain⟨a,e,⟨xs,hq⟩,q⟩:=q1;subst e
 cases r1
 obtain⟨its,rv,p,hz⟩:=I1.list hq;refine wpAny_pyIter_list p.isList ?_;refine⟨s1.heap.objs.size,[s1.heap.objs.size],_,_,H1,rfl,I1.kept (t':=s1.toks) fun b o e=>Heap.get?_push_of_some _ e,AS a _,⟨_,Heap.get?_push_size _ rfl,rfl,rfl⟩,fun b hb=>?_,q⟩;have e:b=s1.heap.objs.size:=by simpa using hb
 subst e;exact I1.fpOk (JF _) (I1.hok.fresh (JF _))
theorem ER{pins:List (Addr×Obj)}{σ:St}{H:Hp}{s:Shared}{R:It->Hp->Prop}{E:Value->Shared->Prop}{lo hi:Int}{t u v:Tok}{tk:Nat}(I:Inv X pins σ H s)(h1 : -(2^62)<=lo)(h2:lo<2^62)(h3 : -(2^62)<=hi)(h4:hi<2^62)
  (q:R (Itr lo (hi-lo).toNat) H):wpAny (model X.prog X.w) X.A (pyIter (.ref s.heap.objs.size)) (PIE X pins σ tg R) E { s with heap:=s.heap.push { cls:=.type "range",data:=.fields #[.int lo t,.int hi u,.int 1 v] },toks:=tk }:=by
 refine wpAny_pyIter_range (IsRange.new ..) (small_one h1 h2 h3 h4) ?_;have I1:Inv X pins σ H { s with heap:=s.heap.push { cls:=.type "range",data:=.fields #[.int lo t,.int hi u,.int 1 v] },toks:=tk }:=I.kept fun b o e=>Heap.get?_push_of_some _ e
 refine⟨(s.heap.push { cls:=.type "range",data:=.fields #[.int lo t,.int hi u,.int 1 v] }).objs.size,[(s.heap.push { cls:=.type "range",data:=.fields #[.int lo t,.int hi u,.int 1 v] }).objs.size],_,_,H,rfl,
  I1.kept (t':=tk) fun b o e=>Heap.get?_push_of_some _ e,yM _ lo (hi-lo).toNat,?_,fun b hb=>?_,q⟩
 ·have e1:lo+((0:Nat):Int)*1=lo:=by simp
  have e2:(((hi-lo).toNat:Nat):Int)-((0:Nat):Int)=Builtin.Range.rangeSize lo hi 1:=by rw[rangeSize_one];split<;>ac_rfl
  show IsRangeIter _ _ (lo+((0:Nat):Int)*1) ((((hi-lo).toNat:Nat):Int)-((0:Nat):Int)) 1;rw[e1,e2];exact Heap.get?_push_size _ rfl
 ·have e:b=(s.heap.push { cls:=.type "range",data:=.fields #[.int lo t,.int hi u,.int 1 v] }).objs.size:=by simpa using hb
  subst e;exact I1.fpOk (JF _) (I1.hok.fresh (JF _))
noncomputable def iRng1(ta:TA):TI:=fun σ H R=>ta σ H fun vs H1=>∃ j:Int,vs = [.int j]/\-(2^62)<=j/\j<2^62/\R (Itr 0 j.toNat) H1
theorem bz{a:Expr}{ta:TA}{p pos:Pos} (hg:Gl X "range") (hm:X.mg "range" = none) (ha:PA X [a] ta) (hs:starEach [a] X.env = [(false,eval a X.env)]:=by rfl):PI X tg (.Call (.Name "range" p) [a] [] pos) (iRng1 ta):=by
 intro pins s σ H R I h;refine Call_ (jo I hg hm boot_range (PyProof.Rows.callWith_type1 (thn (ha pos pins s σ H _ I h) fun us s1 ⟨vs,H1,I1,r1,q1⟩=>?_) hs rfl));obtain⟨j,e,q1,q2,q⟩:=q1;subst e
 cases r1 with
 |cons r rr =>
  cases rr
  obtain⟨t,rfl⟩:=r;exact call_range_1 (ER I1 (by omega) (by omega) q1 q2 (by simpa using q))
noncomputable def tFor(wi:TI)(g:TG)(tb:TS):TS:=fun D σ H=>wi σ H fun J H1=>∃ W:Nat->Nat->St->Hp->Prop,(∃ m,W 0 m σ H1)/\∀ i m σ H,W i m σ H ->
 (J.stop i H/\D.nx σ H)∨(J.go i H/\∃ N:St->Hp->Prop,(∀ σ' H',N σ' H'->∃ m',m'<m/\W (i+1) m' σ' H')/\∀ x H',J.yld i H x H'->g x σ H' fun σ2 H2=>tb { D with nx:=N,ct:=N,bk:=D.nx } σ2 H2)
noncomputable def sr(fp:List Addr)(h:Heap):List (Addr×Obj):=fp.filterMap fun b=>(h.get? b).map fun o=>(b,o)
theorem eQ{fp:List Addr}{h:Heap}{b:Addr}{o:Obj}(hb:b∈fp)(e:h.get? b=some o):(b,o)∈sr fp h:=List.mem_filterMap.mpr ⟨b,hb,by rw[e];rfl⟩
theorem BM{fp:List Addr}{h:Heap}{p:Addr×Obj}(hp:p∈sr fp h):p.1∈fp/\h.get? p.1=some p.2:=by
 obtain⟨b,hb,e⟩:=List.mem_filterMap.mp hp
 cases q:h.get? b with
 |none=>rw[q]at e;cases e
 |some o =>
  rw[q]at e;have e':(b,o)=p:=KH e;subst e';exact⟨hb,q⟩
theorem Inv.pinned{pins:List (Addr×Obj)}{σ:St}{H:Hp}{s:Shared}{fp:List Addr}(I:Inv X pins σ H s)(hf:∀ b∈fp,FpOk X pins H b)(ho:∀ b∈fp,∃ o,s.heap.get? b=some o/\∀ v,o.data≠.cell v):Inv X (pins++sr fp s.heap) σ H s :=
 I.pins_of fun p hp=>(JW.mp hp).elim (fun z=>I.pin p (JT _ z)) fun z=>by
  obtain⟨hb,e⟩:=BM z;obtain⟨f0,f1,f2,_⟩:=hf p.1 hb;obtain⟨o,e',d⟩:=ho p.1 hb;rw[e]at e';cases e';exact⟨e,f0,f1,f2,d⟩
theorem Inv.unpinned{pins pl:List (Addr×Obj)}{σ:St}{H:Hp}{s:Shared}(I:Inv X (pins++pl) σ H s):Inv X pins σ H s:=I.pins_of fun p hp=>I.pin p (JT _ (K3 _ hp))
theorem cR{iter:Expr}{body:List Stmt}{wi:TI}{g:TG}{tb:TS}{pos:Pos}(hp:PassesOwn (model X.prog X.w) X.A X.env X.xe)(hc:X.calm=true)(hi:PI X tg iter wi)(hg:PG X tg g)(hb:PSs X body tb)
  (hs:∀ x,foldedSetIterable iter X.env x=pure x:=by intro _;rfl):PS X (.For tg iter body [] pos) (tFor wi g tb):=by
 intro pins s σ H D I h;refine wpAny_For (thn (hi pins s σ H _ I h) fun v s1 h1=>thn h1 fun itv s2 h2=>?_) hs;obtain⟨it,fp,tn,J,H2,e,I2,T,st2,f2,W,⟨m0,w0⟩,turn⟩:=h2;subst e;have stat:∀{H':Hp},(∀ b∈fp,H' b=none)->∀ b∈fp,FpOk X pins H' b:=fun hn b hb=>⟨hn b hb,(f2 b hb).2⟩;refine codeAny_forLoop_any (fun n s'=>∃ i σ' H',Inv X pins σ' H' s'/\tn i s'.heap/\(∀ b∈fp,H' b=none)/\W i n σ' H') ?_ m0 ⟨0,σ,H2,I2,st2,fun b hb=>(f2 b hb).1,w0⟩;rintro n s3 ⟨i,σ3,H3,I3,st3,fr3,w3⟩;rcases turn i n σ3 H3 w3 with⟨stop,qn⟩ | ⟨go,N,hN,step⟩
 ·refine wpAny_passesOwn hp (thn (T.done X rfl rfl rfl hc i pins s3 σ3 H3 X.xe I3 (stat fr3) st3 stop) fun r s4 ⟨hr,I4⟩=>?_);subst hr;exact wpAny_execs_nil ⟨σ3,H3,I4,qn⟩
 ·refine wpAny_passesOwn hp (thn (T.item X rfl rfl rfl hc i pins s3 σ3 H3 X.xe I3 (stat fr3) st3 go) fun r s4 ⟨u,hr,h4⟩=>?_);subst hr;refine wpAny_passesOwn hp (thn h4 fun _ s5 ⟨x,H5,I5,r5,y5,st5,fr5⟩=>?_);have I5':=I5.pinned (stat fr5) (T.obj _ _ st5);refine wpAny_passesOwn hp (thn (hg _ s5 σ3 H5 x u _ I5' r5 (step x H5 y5)) fun _ s6 ⟨σ6,H6,I6,q6⟩=>?_);refine wpAny_passesOwn hp (thn (hb _ s6 σ6 H6 _ I6 q6) fun f s7 q7=>?_);have again:∀{σ7:St}{H7:Hp},Inv X (pins++sr fp s5.heap) σ7 H7 s7->N σ7 H7->∃ m,m<n/\∃ i σ' H',Inv X pins σ' H' s7/\tn i s7.heap/\(∀ b∈fp,H' b=none)/\W i m σ' H':=fun{σ7 H7} I7 n7=>by
   obtain⟨m',hm,w7⟩:=hN σ7 H7 n7;refine⟨m',hm,i+1,σ7,H7,I7.unpinned,T.keep _ _ _ st5 fun b hb o e=>(I7.pin (b,o) (JT _ (JT _ (eQ hb e)))).1,fun b hb=>?_,w7⟩;obtain⟨o,e,d⟩:=T.obj _ _ st5 b hb;exact(I7.pin (b,o) (JT _ (JT _ (eQ hb e)))).2.1
  cases f with
  |next=>obtain⟨σ7,H7,I7,n7⟩:=q7;exact again I7 n7
  |cont=>obtain⟨σ7,H7,I7,n7⟩:=q7;exact again I7 n7
  |brk=>obtain⟨σ7,H7,I7,q7⟩:=q7;exact⟨σ7,H7,I7.unpinned,q7⟩
  |ret v=>obtain⟨x7,σ7,H7,I7,r7,q7⟩:=q7;exact⟨x7,σ7,H7,I7.unpinned,r7,q7⟩
end
theorem c9{K:JH}{a:Addr}{xs:List V}{g:TG}{tb:TS}{D:Ends}{σ:St}{H:Hp}(Pv:Nat->St->Hp->Prop)(h0:Pv 0 σ H)(hl:∀ i σ H,i<=xs.length->Pv i σ H->SqL K H a xs)
  (hs:∀ i x σ H,xs[i]?=some x->Pv i σ H->g x σ H fun σ2 H2=>tb { D with nx:=Pv (i+1),ct:=Pv (i+1),bk:=D.nx } σ2 H2) (hd:∀ σ H,Pv xs.length σ H->D.nx σ H) :
  ∃ W:Nat->Nat->St->Hp->Prop,(∃ m,W 0 m σ H)/\∀ i m σ H,W i m σ H ->
   ((Itl K a).stop i H/\D.nx σ H)∨((Itl K a).go i H/\∃ N:St->Hp->Prop,(∀ σ' H',N σ' H'->∃ m',m'<m/\W (i+1) m' σ' H')/\∀ x H',(Itl K a).yld i H x H'->g x σ H' fun σ2 H2=>tb { D with nx:=N,ct:=N,bk:=D.nx } σ2 H2):=by
 refine⟨fun i m σ H=>m=xs.length-i/\i<=xs.length/\Pv i σ H,⟨xs.length,by simp,Ky _,h0⟩,?_⟩
 rintro i m σ H ⟨rfl,hi,p⟩;have q:=hl i σ H hi p;by_cases hlt:i<xs.length
 ·refine .inr ⟨⟨xs,xs[i],q,by simp[hlt]⟩,Pv (i+1),fun σ' H' p'=>⟨xs.length-(i+1),by omega,rfl,hlt,p'⟩,fun x H' y=>?_⟩
  obtain⟨e,y⟩:=y;subst e;exact hs i x σ _ (y xs q) p
 ·have e:i=xs.length:=by omega
  subst e;exact .inl ⟨⟨xs,q,JF _⟩,hd σ H p⟩
theorem gi{lo:Int}{n:Nat}{g:TG}{tb:TS}{D:Ends}{σ:St}{H:Hp}(Pv:Nat->St->Hp->Prop)(h0:Pv 0 σ H)
  (hs:∀ i σ H,i<n->Pv i σ H->g (.int (lo+i)) σ H fun σ2 H2=>tb { D with nx:=Pv (i+1),ct:=Pv (i+1),bk:=D.nx } σ2 H2) (hd:∀ σ H,Pv n σ H->D.nx σ H) :
  ∃ W:Nat->Nat->St->Hp->Prop,(∃ m,W 0 m σ H)/\∀ i m σ H,W i m σ H ->
   ((Itr lo n).stop i H/\D.nx σ H)∨((Itr lo n).go i H/\∃ N:St->Hp->Prop,(∀ σ' H',N σ' H'->∃ m',m'<m/\W (i+1) m' σ' H')/\∀ x H',(Itr lo n).yld i H x H'->g x σ H' fun σ2 H2=>tb { D with nx:=N,ct:=N,bk:=D.nx } σ2 H2):=by
 refine⟨fun i m σ H=>m=n-i/\i<=n/\Pv i σ H,⟨n,by simp,Ky _,h0⟩,?_⟩
 rintro i m σ H ⟨rfl,hi,p⟩;by_cases hlt:i<n
 ·refine .inr ⟨hlt,Pv (i+1),fun σ' H' p'=>⟨n-(i+1),by omega,rfl,hlt,p'⟩,fun x H' y=>?_⟩
  obtain⟨e,y⟩:=y;subst e y;exact hs i σ _ hlt p
 ·have e:i=n:=by omega
  subst e;exact .inl ⟨JF _,hd σ H p⟩
theorem gE{c:TT}{tb:TS}{D:Ends}{σ:St}{H:Hp}(Pv:St->Hp->Prop)(μ:St->Hp->Nat)(h0:Pv σ H)
  (hs:∀ σ H,Pv σ H->c σ H fun b H1=>if b=true then tb { D with nx:=fun σ' H'=>Pv σ' H'/\μ σ' H'<μ σ H,ct:=fun σ' H'=>Pv σ' H'/\μ σ' H'<μ σ H,bk:=D.nx } σ H1 else D.nx σ H1)
  (mono:∀ σ H Q Q',(∀ b H1,Q b H1->Q' b H1)->c σ H Q->c σ H Q'):GB c tb D σ H:=by
 refine⟨fun m σ H=>m=μ σ H/\Pv σ H,⟨_,rfl,h0⟩,?_⟩;rintro m σ H ⟨rfl,p⟩;refine mono σ H _ _ (fun b H1 q=>?_) (hs σ H p)
 cases b with
 |true=>exact⟨_,fun σ' H' ⟨p',l⟩=>⟨_,l,rfl,p'⟩,q⟩
 |false=>exact q
noncomputable abbrev R2:=V->V->Hp->VK->Prop
noncomputable def OpR(X:Cx)(f:Value->Value->Sem Value)(r:R2):Prop :=
 ∀(pins:List (Addr×Obj))(s:Shared)(σ:St)(H:Hp)(x y:V)(v u:Value)(Q:VK),Inv X pins σ H s->RelV x v->RelV y u->r x y H Q ->
  wpAny (model X.prog X.w) X.A (f v u) (EP X pins σ Q) X.xe s
noncomputable def iq(X:Cx)(f:Value)(r:List V->Hp->VK->Prop):Prop :=
 ∀(pins:List (Addr×Obj))(s:Shared)(σ:St)(H:Hp)(xs:List V)(us:List Value)(Q:VK),Inv X pins σ H s->Vals xs us->r xs H Q ->
  wpAny (model X.prog X.w) X.A (call f us) (EP X pins σ Q) X.xe s
noncomputable def tOp(r:R2)(ta tb:TE):TE:=fun σ H Q=>ta σ H fun x H1=>tb σ H1 fun y H2=>r x y H2 Q
noncomputable def rI(C:Int->Int->Prop)(g:Int->Int->V):R2:=fun x y H Q=>∃ i j,x=.int i/\y=.int j/\C i j/\Q (g i j) H
noncomputable def rI0(g:Int->Int->V):R2:=fun x y H Q=>∃ i j,x=.int i/\y=.int j/\Q (g i j) H
section
variable{X:Cx}{a b c:Expr}{ta tb tc:TE}{pos:Pos}
theorem binT(ha:PE X a ta)(hb:PE X b tb){pins:List (Addr×Obj)}{s:Shared}{σ:St}{H:Hp}{R:V->V->Hp->Prop}(I:Inv X pins σ H s)
  (h:ta σ H fun x H1=>tb σ H1 fun y H2=>R x y H2) {Q:Value->Shared->Prop} {f:Value->Value->Sem Value}
  (hf:∀ v u s2 x y H2,Inv X pins σ H2 s2->RelV x v->RelV y u->R x y H2->wpAny (model X.prog X.w) X.A (f v u) Q X.xe s2) :
  wpAny (model X.prog X.w) X.A (eval a X.env) (fun v s₁=>wpAny (model X.prog X.w) X.A (eval b X.env) (fun u s₂=>wpAny (model X.prog X.w) X.A (f v u) Q X.xe s₂) X.xe s₁) X.xe s:=by
 refine thn (ha pins s σ H _ I h) fun v s1 ⟨x,H1,I1,r1,q1⟩=>?_;refine thn (hb pins s1 σ H1 _ I1 q1) fun u s2 ⟨y,H2,I2,r2,q2⟩=>?_;exact hf v u s2 x y H2 I2 r1 r2 q2
theorem ar{op:Operator}{r:R2}(ho:OpR X (binaryOp op) r)(ha:PE X a ta)(hb:PE X b tb):PE X (.BinOp a op b pos) (tOp r ta tb):=by
 intro pins s σ H Q I h;exact wpAny_BinOp (binT ha hb I h fun v u s2 x y H2 I2 rx ry q=>ho pins s2 σ H2 x y v u Q I2 rx ry q)
theorem opI{f:Value->Value->Sem Value}{C:Int->Int->Prop}{g:Int->Int->Int}
  (rule:∀(i j:Int)(t u:Tok)(s:Shared)(Q:Value->Shared->Prop)(E:Value->Shared->Prop),C i j->Q (.int (g i j) s.toks) { s with toks:=s.toks+1 }->wpAny (model X.prog X.w) X.A (f (.int i t) (.int j u)) Q E s) :
  OpR X f (rI C fun i j=>.int (g i j)):=by
 intro pins s σ H x y v u Q I rx ry h;obtain⟨i,j,rfl,rfl,hc,q⟩:=h;obtain⟨t,rfl⟩:=rx;obtain⟨t',rfl⟩:=ry;exact rule i j t t' s _ _ hc ⟨.int (g i j),H,I.tok _,⟨_,rfl⟩,q⟩
theorem opI0{f:Value->Value->Sem Value}{g:Int->Int->Int}
  (rule:∀(i j:Int)(t u:Tok)(s:Shared)(Q:Value->Shared->Prop)(E:Value->Shared->Prop),Q (.int (g i j) s.toks) { s with toks:=s.toks+1 }->wpAny (model X.prog X.w) X.A (f (.int i t) (.int j u)) Q E s) :
  OpR X f (rI0 fun i j=>.int (g i j)):=by
 intro pins s σ H x y v u Q I rx ry h;obtain⟨i,j,rfl,rfl,q⟩:=h;obtain⟨t,rfl⟩:=rx;obtain⟨t',rfl⟩:=ry;exact rule i j t t' s _ _ ⟨.int (g i j),H,I.tok _,⟨_,rfl⟩,q⟩
theorem opB0{f:Value->Value->Sem Value}{g:Int->Int->Bool}
  (rule:∀(i j:Int)(t u:Tok)(s:Shared)(Q:Value->Shared->Prop)(E:Value->Shared->Prop),Q (.bool (g i j)) s->wpAny (model X.prog X.w) X.A (f (.int i t) (.int j u)) Q E s) :
  OpR X f (rI0 fun i j=>.bl (g i j)):=by
 intro pins s σ H x y v u Q I rx ry h;obtain⟨i,j,rfl,rfl,q⟩:=h;obtain⟨t,rfl⟩:=rx;obtain⟨t',rfl⟩:=ry;exact rule i j t t' s _ _ ⟨.bl (g i j),H,I,rfl,q⟩
noncomputable def CDiv(i j:Int):Prop:=0<j/\j<1073741824
noncomputable def CPow(i j:Int):Prop:=0<=j/\j<=1000000/\i.natAbs<2^64
noncomputable def CMul(i j:Int):Prop:=(-(2^64)<i/\i<2^64)∨(-(2^64)<j/\j<2^64)
theorem CMul.ok{i j:Int}(h:CMul i j):IntMulOk i j:=by
 rcases h with⟨h1,h2⟩ | ⟨h1,h2⟩
 ·exact .of_left (intBits_le_64 h1 h2)
 ·exact .of_right (intBits_le_64 h1 h2)
theorem yL(k:Nat):(0:Int)<=2^k:=by
 rw[two_pow_cast];exact LS _
theorem b8:OpR X (binaryOp .Add) (rI0 fun i j=>.int (i+j)):=opI0 fun _ _ _ _ _ _ _ q=>add_int q
theorem ir:OpR X (binaryOp .Sub) (rI0 fun i j=>.int (i-j)):=opI0 fun _ _ _ _ _ _ _ q=>sub_int q
theorem fX:OpR X (binaryOp .Mult) (rI CMul fun i j=>.int (i*j)):=opI fun _ _ _ _ _ _ _ hc q=>mul_int q hc.ok
theorem j5:OpR X (binaryOp .FloorDiv) (rI CDiv fun i j=>.int (i/j)):=opI fun i j _ _ _ _ _ hc q=>by
 have h1:(0:Int)<j:=hc.1;have h2:j<1073741824:=hc.2;exact floordiv_int (by omega) (by rw[NO i (by omega)];exact q) (.inl (PyProof.noPylong_small (by omega)))
theorem bO:OpR X (binaryOp .Mod) (rI (fun _ j=>0<j) fun i j=>.int (i%j)):=opI fun i j _ _ _ _ _ hc q=>by
 have h1:(0:Int)<j:=hc;exact mod_int' (by omega) (by rw[Int.fmod_eq_emod_of_nonneg i (by omega)];exact q)
theorem GQ:OpR X (binaryOp .Pow) (rI CPow fun i j=>.int (i^j.toNat)):=opI fun _ _ _ _ _ _ _ hc q=>pow_int_small hc.1 hc.2.1 hc.2.2 q
theorem bF:OpR X (binaryOp .LShift) (rI CPow fun i j=>.int (i*2^j.toNat)):=opI fun _ _ _ _ _ _ _ hc q=>lshift_int_small hc.1 hc.2.1 hc.2.2 q
theorem dM:OpR X (binaryOp .RShift) (rI (fun _ j=>0<=j) fun i j=>.int (i/2^j.toNat)):=opI fun i j _ _ _ _ _ hc q =>
 rshift_int hc (by rw[NO i (yL _)];exact q)
theorem eO:OpR X (binaryOp .BitAnd) (rI0 fun i j=>.int (Builtin.bitAnd i j)):=opI0 fun _ _ _ _ _ _ _ q=>and_int q
theorem BD:OpR X (binaryOp .BitOr) (rI0 fun i j=>.int (Builtin.bitOr i j)):=opI0 fun _ _ _ _ _ _ _ q=>or_int q
theorem eN:OpR X (binaryOp .BitXor) (rI0 fun i j=>.int (Builtin.bitXor i j)):=opI0 fun _ _ _ _ _ _ _ q=>xor_int q
end
noncomputable def scal:V->V->Bool
 |.non,.non=>true | .non,.int _=>true | .int _,.non=>true | .non,.bl _=>true | .bl _,.non=>true | .non,.str _=>true | .str _,.non=>true
 |.int _,.int _=>true | .bl _,.bl _=>true | .str _,.str _=>true | .byt _,.byt _=>true
 |.int _,.str _=>true | .str _,.int _=>true | .bl _,.str _=>true | .str _,.bl _=>true
 |_,_=>false
noncomputable def rEq:R2:=fun x y H Q=>scal x y=true/\Q (.bl (decide (x=y))) H
noncomputable def rNe:R2:=fun x y H Q=>scal x y=true/\Q (.bl (!decide (x=y))) H
theorem Dj{i j:Int}:decide (V.int i=V.int j)=(i == j):=by
 rw[Mr];simp
theorem G0{i j:Bool}:decide (V.bl i=V.bl j)=(i == j):=by
 rw[Mr];simp
theorem Di{i j:Str}:decide (V.str i=V.str j)=(i == j):=by
 rw[Mr];simp
theorem Dk{i j:Array UInt8}:decide (V.byt i=V.byt j)=(i.toList == j.toList):=by
 rw[Mr]
 cases i
 cases j
 simp
section
variable{X:Cx}{a b c:Expr}{ta tb tc:TE}{pos:Pos}
theorem aX{pins:List (Addr×Obj)}{σ:St}{H:Hp}{s:Shared}{Q:VK}{k k':Bool}(I:Inv X pins σ H s)(q:Q (.bl k) H)(e:k=k'):EP X pins σ Q (.bool k') s:=by
 subst e;exact⟨.bl k,H,I,rfl,q⟩
theorem dQ:OpR X (compareOp .Eq) rEq:=by
 intro pins s σ H x y v u Q I rx ry h;obtain⟨hs,q⟩:=h
 cases x with
 |non =>
  cases rx
  cases y with
  |non=>cases ry;exact PySem.EqNone.eq_none_none (aX I q (by simp))
  |bl j=>cases ry;exact PySem.EqNone.eq_none_bool (aX I q (by simp))
  |int j=>obtain⟨t',rfl⟩:=ry;exact PySem.EqNone.eq_none_int (aX I q (by simp))
  |str j=>obtain⟨t',rfl⟩:=ry;exact PySem.EqNone.eq_none_str (aX I q (by simp))
  |_=>exact absurd (show false=true from hs) Kb
 |bl i =>
  cases rx
  cases y with
  |non=>cases ry;exact PySem.EqNone.eq_bool_none (aX I q (by simp))
  |bl j=>cases ry;exact eq_bool (aX I q G0)
  |str j=>obtain⟨t',rfl⟩:=ry;exact PySem.EqMixed.eq_bool_str (aX I q (by simp))
  |_=>exact absurd (show false=true from hs) Kb
 |int i =>
  obtain⟨t,rfl⟩:=rx
  cases y with
  |non=>cases ry;exact PySem.EqNone.eq_int_none (aX I q (by simp))
  |int j=>obtain⟨t',rfl⟩:=ry;exact eq_int (aX I q Dj)
  |str j=>obtain⟨t',rfl⟩:=ry;exact PySem.EqMixed.eq_int_str (aX I q (by simp))
  |_=>exact absurd (show false=true from hs) Kb
 |str i =>
  obtain⟨t,rfl⟩:=rx
  cases y with
  |non=>cases ry;exact PySem.EqNone.eq_str_none (aX I q (by simp))
  |bl j=>cases ry;exact PySem.EqMixed.eq_str_bool (aX I q (by simp))
  |int j=>obtain⟨t',rfl⟩:=ry;exact PySem.EqMixed.eq_str_int (aX I q (by simp))
  |str j=>obtain⟨t',rfl⟩:=ry;exact eq_str (aX I q Di)
  |_=>exact absurd (show false=true from hs) Kb
 |byt i =>
  obtain⟨t,rfl⟩:=rx
  cases y with
  |byt j=>obtain⟨t',rfl⟩:=ry;exact PySem.W.eq_bytes (aX I q Dk)
  |_=>exact absurd (show false=true from hs) Kb
 |_=>cases y<;>exact absurd (show false=true from hs) Kb
theorem j4:OpR X (compareOp .NotEq) rNe:=by
 intro pins s σ H x y v u Q I rx ry h;obtain⟨hs,q⟩:=h
 cases x with
 |non =>
  cases rx
  cases y with
  |non=>cases ry;exact PySem.EqNone.ne_none_none (aX I q (by simp))
  |bl j=>cases ry;exact PySem.EqNone.ne_none_bool (aX I q (by simp))
  |int j=>obtain⟨t',rfl⟩:=ry;exact PySem.EqNone.ne_none_int (aX I q (by simp))
  |str j=>obtain⟨t',rfl⟩:=ry;exact PySem.EqNone.ne_none_str (aX I q (by simp))
  |_=>exact absurd (show false=true from hs) Kb
 |bl i =>
  cases rx
  cases y with
  |non=>cases ry;exact PySem.EqNone.ne_bool_none (aX I q (by simp))
  |bl j=>cases ry;exact ne_bool (aX I q (congrArg not G0))
  |str j=>obtain⟨t',rfl⟩:=ry;exact PySem.EqMixed.ne_bool_str (aX I q (by simp))
  |_=>exact absurd (show false=true from hs) Kb
 |int i =>
  obtain⟨t,rfl⟩:=rx
  cases y with
  |non=>cases ry;exact PySem.EqNone.ne_int_none (aX I q (by simp))
  |int j=>obtain⟨t',rfl⟩:=ry;exact ne_int (aX I q (congrArg not Dj))
  |str j=>obtain⟨t',rfl⟩:=ry;exact PySem.EqMixed.ne_int_str (aX I q (by simp))
  |_=>exact absurd (show false=true from hs) Kb
 |str i =>
  obtain⟨t,rfl⟩:=rx
  cases y with
  |non=>cases ry;exact PySem.EqNone.ne_str_none (aX I q (by simp))
  |bl j=>cases ry;exact PySem.EqMixed.ne_str_bool (aX I q (by simp))
  |int j=>obtain⟨t',rfl⟩:=ry;exact PySem.EqMixed.ne_str_int (aX I q (by simp))
  |str j=>obtain⟨t',rfl⟩:=ry;exact ne_str (aX I q (congrArg not Di))
  |_=>exact absurd (show false=true from hs) Kb
 |byt i =>
  obtain⟨t,rfl⟩:=rx
  cases y with
  |byt j=>obtain⟨t',rfl⟩:=ry;exact PySem.W.ne_bytes (aX I q (congrArg not Dk))
  |_=>exact absurd (show false=true from hs) Kb
 |_=>cases y<;>exact absurd (show false=true from hs) Kb
theorem zd:OpR X (compareOp .Lt) (rI0 fun i j=>.bl (decide (i<j))):=opB0 fun _ _ _ _ _ _ _ q=>lt_int q
theorem op_le:OpR X (compareOp .LtE) (rI0 fun i j=>.bl (decide (i<=j))):=opB0 fun _ _ _ _ _ _ _ q=>le_int q
theorem BE:OpR X (compareOp .Gt) (rI0 fun i j=>.bl (decide (j<i))):=opB0 fun _ _ _ _ _ _ _ q=>gt_int q
theorem op_ge:OpR X (compareOp .GtE) (rI0 fun i j=>.bl (decide (j<=i))):=opB0 fun _ _ _ _ _ _ _ q=>ge_int q
theorem GR:OpR X (compareOp .Is) (fun x y H Q=>y=.non/\Q (.bl (decide (x=.non))) H):=by
 intro pins s σ H x y v u Q I rx ry h;obtain⟨rfl,q⟩:=h
 cases ry
 refine is_none_gen (aX I q ?_)
 cases x<;>first
  | (cases rx;rfl)
  | (obtain⟨t,rfl⟩:=rx;rfl)
theorem Ik:OpR X (compareOp .IsNot) (fun x y H Q=>y=.non/\Q (.bl (!decide (x=.non))) H):=by
 intro pins s σ H x y v u Q I rx ry h;obtain⟨rfl,q⟩:=h
 cases ry
 refine isnot_none_gen (aX I q ?_)
 cases x<;>first
  | (cases rx;rfl)
  | (obtain⟨t,rfl⟩:=rx;rfl)
theorem aB(b:Expr){op:CmpOp}(h:op≠.In:=by decide)(h2:op≠.NotIn:=by decide):behindInMarks op b=false:=by
 have e1:(op == CmpOp.In)=false:=by cases op<;>first | rfl | exact absurd rfl h
 have e2:(op == CmpOp.NotIn)=false:=by cases op<;>first | rfl | exact absurd rfl h2
 cases b<;>simp[behindInMarks,e1,e2]
theorem bX{op:CmpOp}{r:R2}(ho:OpR X (compareOp op) r)(ha:PE X a ta)(hb:PE X b tb)(hm:behindInMarks op b=false):PE X (.Compare a [op] [b] pos) (tOp r ta tb):=by
 intro pins s σ H Q I h;exact wpAny_Compare1 (binT ha hb I h fun v u s2 x y H2 I2 rx ry q=>ho pins s2 σ H2 x y v u Q I2 rx ry q) hm
noncomputable def tTest(t:TE):TT:=fun σ H Q=>t σ H fun x H'=>∃ k,x=.bl k/\Q k H'
theorem az{op:CmpOp}{r:R2}(ho:OpR X (compareOp op) r)(ha:PE X a ta)(hb:PE X b tb)(hm:behindInMarks op b=false):PT X (.Compare a [op] [b] pos) (tTest (tOp r ta tb)):=by
 intro pins s σ H Q I h
 refine wpAny_isTrue_Compare1 (thn (ha pins s σ H _ I h) fun v s1 ⟨x,H1,I1,r1,q1⟩=>thn (hb pins s1 σ H1 _ I1 q1) fun u s2 ⟨y,H2,I2,r2,q2⟩ =>
  thn (ho pins s2 σ H2 x y v u _ I2 r1 r2 q2) fun c s3 ⟨z,H3,I3,r3,k,e,q3⟩=>?_) hm
 subst e
 cases r3
 exact wpAny_truthy_bool ⟨H3,I3,q3⟩
theorem pe:(sizeLine:Nat)<2^63:=by rw[sizeLine_eq];decide
theorem ja{x:V}{us:List Value}(r:Vals [x] us):∃ u,us = [u]/\RelV x u:=by
 cases r with
 |cons r1 r2=>cases r2;exact⟨_,rfl,r1⟩
theorem AQ{x y:V}{us:List Value}(r:Vals [x,y] us):∃ u w',us = [u,w']/\RelV x u/\RelV y w':=by
 cases r with
 |cons r1 r2 =>
  cases r2 with
  |cons r3 r4=>cases r4;exact⟨_,_,rfl,r1,r3⟩
theorem uf(hc:X.calm=true):iq X (.builtin "max") (fun xs H Q=>∃ i j,xs = [.int i,.int j]/\Q (.int (if j > i then j else i)) H):=by
 intro pins s σ H xs us Q I r h;obtain⟨i,j,rfl,q⟩:=h;obtain⟨u,w',rfl,⟨t,rfl⟩,⟨t',rfl⟩⟩:=AQ r;refine max_two_ints (I.ok.hd hc) fun h' tk k=>⟨_,H,I.kept k,?_,q⟩;by_cases hj:j > i
 ·rw[if_pos hj,if_pos hj];exact⟨_,rfl⟩
 ·rw[if_neg hj,if_neg hj];exact⟨_,rfl⟩
theorem DP(hc:X.calm=true):iq X (.builtin "min") (fun xs H Q=>∃ i j,xs = [.int i,.int j]/\Q (.int (if j<i then j else i)) H):=by
 intro pins s σ H xs us Q I r h;obtain⟨i,j,rfl,q⟩:=h;obtain⟨u,w',rfl,⟨t,rfl⟩,⟨t',rfl⟩⟩:=AQ r;refine min_two_ints (I.ok.hd hc) fun h' tk k=>⟨_,H,I.kept k,?_,q⟩;by_cases hj:j<i
 ·rw[if_pos hj,if_pos hj];exact⟨_,rfl⟩
 ·rw[if_neg hj,if_neg hj];exact⟨_,rfl⟩
theorem DQ:iq X (.type "int") (fun xs H Q=>(∃ i,xs = [.int i]/\Q (.int i) H)∨∃ k,xs = [.bl k]/\Q (.int (if k then 1 else 0)) H):=by
 intro pins s σ H xs us Q I r h;rcases h with⟨i,rfl,q⟩ | ⟨k,rfl,q⟩
 ·obtain⟨u,rfl,t,rfl⟩:=ja r;exact call_int_int ⟨.int i,H,I,⟨_,rfl⟩,q⟩
 ·obtain⟨u,rfl,r1⟩:=ja r
  cases r1
  exact call_int_bool ⟨.int (if k then 1 else 0),H,I.tok _,⟨_,rfl⟩,q⟩
end
structure ObjM(h:Heap)(x dx C:Addr)(mA:Str->Option Value):Prop where
 obj:h.get? x=some (NI C dx)
 ns:h.Ns1 dx mA
 ne:dx≠x
theorem Ct{h:Heap}{dx:Addr}{mA:Str->Option Value}(n:h.Ns1 dx mA):∃ od,h.get? dx=some od/\∀ name,NR name od=some (mA name):=by
 obtain⟨o,es,ep,ho,hd,hk,_,hm⟩:=n;refine⟨o,ho,fun name=>?_⟩;have e:=hm name;unfold nsFind findBy at e;rw[← Array.find?_toList]at e;unfold NR;rw[hd];dsimp only;split
 ·rename_i y q;rw[q]at e;exact congrArg some e
 ·rename_i q;rw[q]at e;have a:es.toList.any (·.refKey)=false:=by
   rw[List.any_eq_false];intro y hy;obtain⟨z,t,hkey⟩:=hk y (Array.mem_toList_iff.mp hy);simp[DictEntry.refKey,hkey]
  have a':¬ es.toList.any (·.refKey)=true:=by rw[a];exact Kb
  rw[if_neg a'];exact congrArg some e
theorem ObjM.look{h:Heap}{x dx C:Addr}{mA:Str->Option Value}(I:ObjM h x dx C mA):∃ od,PySem.W.InstAt h x (NI C dx) C (some od)/\∀ name,NR name od=some (mA name) :=
 let ⟨od,ho,hl⟩:=Ct I.ns
 ⟨od,⟨I.obj,rfl,rfl,ho⟩,hl⟩
section
variable{prog:Program}{w:World}{A:Around}{E:Value->Shared->Prop}{s:Shared}{K:JH}{x dx C f:Addr}{mA:Str->Option Value}{name:Str}{v:Value}
end
theorem RelO.some_of{v:V}{o:Option Value}(r:RelO (some v) o):∃ u,o=some u/\RelV v u:=by
 cases o with
 |none=>exact(show False from r).elim
 |some u=>exact⟨u,rfl,r⟩
section
variable{P:Program}{w:World}{H H':Hp}{h h':Heap}{a C dx:Addr}{fs fs':List (Str×V)}
theorem IY(hok:HOk P w H h)(e:H a=some (.ins C dx fs)):∃ mA,ObjM h a dx C mA/\(∀ f,RelO (fs.lookup f) (mA f))/\PySem.Within mA (fs.map (·.1))/\fs.length<=1000/\H dx=some (.own a):=by
 obtain⟨d,z,ne,ob,mA,n,r,q⟩:=(show bf P w H h a (.ins C dx fs) from hok a _ e);exact⟨mA,⟨ob,n,ne⟩,r,q,z,d⟩
end
structure Cls(K:JH)(C:Addr):Prop where
 pg:PySem.W.plainGet K C Str.empty=true
 hd:PySem.W.hasDictIn K C=true
 po:PySem.W.plainOver K C=true
 sa:PySem.W.findIn K (.ref C) "__setattr__" = some (some (.builtin "object.__setattr__"))
theorem Cls.get{K:JH}{C:Addr}(c:Cls K C)(f:Str):PySem.W.plainGet K C f=true:=c.pg
section
variable{X:Cx}{pins:List (Addr×Obj)}{σ:St}{H:Hp}{s:Shared}{a C dx:Addr}{fs:List (Str×V)}{f:Str}{v:V}{A:Around}{E:Value->Shared->Prop}
end
section
variable{X:Cx}{o e value:Expr}{f:Str}{pos pos' tpos:Pos}{ta tv:TE}
end
section
variable{X:Cx}{pins:List (Addr×Obj)}{σ:St}{H:Hp}{s:Shared}{A:Around}{E:Value->Shared->Prop}{Q:Value->Shared->Prop}{c:Value}{b:Bool}
inductive TyOf(K:JH)(H:Hp):V->Value->Prop where
 |non:TyOf K H .non (.type "NoneType")
 |bl (x:Bool):TyOf K H (.bl x) (.type "bool")
 |int (i:Int):TyOf K H (.int i) (.type "int")
 |str (x:Str):TyOf K H (.str x) (.type "str")
 |flt (x:UInt64):TyOf K H (.flt x) (.type "float")
 |lst {a:Addr} {xs:List V} (e:H a=some (.lst xs)):TyOf K H (.ref a) (.type "list")
 |frz {a:Addr} {o:Obj} {xs:List V} (e:H a=some (.frz o (.lst xs))):TyOf K H (.ref a) (.type "list")
 |tup {a:Addr} {xs:List V} (e:H a=some (.tup xs)):TyOf K H (.ref a) (.type "tuple")
 |dK {a:Addr} {kvs:List (Key×V)} (e:H a=some (.dK kvs)):TyOf K H (.ref a) (.type "dict")
 |dT {a:Addr} {kvs:List (List Key×V)} (e:H a=some (.dT kvs)):TyOf K H (.ref a) (.type "dict")
 |ins {a C dx:Addr} {fs:List (Str×V)} (e:H a=some (.ins C dx fs)) (cl:Cls K C) (ha:PySem.W.findIn K (.ref C) "__class__" = some (some (.builtin "object.__class__")))
   (hn:PySem.W.specialIn K (.builtin "object.__class__") "__get__" = some (some (.builtin "getset_descriptor.__get__"))) (htk:PySem.W.takesIn K (.builtin "object.__class__")=some true)
   (hm:PySem.W.mroIn K C (.type "object")=some true):TyOf K H (.ref a) (.ref C)
theorem CK{x:V}{u t:Value}(I:Inv X pins σ H s)(rx:RelV x u)(ty:TyOf X.K H x t)(e:Mz X.K t c=some b)(h:∀ tk,Q (.bool b) { s with toks:=tk }) :
  wpAny (model X.prog X.w) A (call (.builtin "isinstance") [u,c]) Q E s:=by
 cases ty with
 |non=>cases (show u=Value.none from rx);exact Lr PySem.W.kitx_none I.kIn True.intro e (fun z=>nomatch z) h
 |bl y=>cases (show u=Value.bool y from rx);exact Lr PySem.W.kitx_bool I.kIn True.intro e (fun z=>nomatch z) h
 |int i=>obtain⟨t,q⟩:=(show ∃ t,u=Value.int i t from rx);cases q;exact Lr PySem.W.kitx_int I.kIn True.intro e (fun z=>nomatch z) h
 |str y=>obtain⟨t,q⟩:=(show ∃ t,u=Value.str y t from rx);cases q;exact Lr PySem.W.kitx_str I.kIn True.intro e (fun z=>nomatch z) h
 |flt y=>obtain⟨t,q⟩:=(show ∃ t,u=Value.float y t from rx);cases q;exact Lr PySem.W.kitx_float I.kIn True.intro e (fun z=>nomatch z) h
 | @lst a xs ea =>
  cases (show u=Value.ref a from rx)
  obtain⟨_,_,n,_,h1⟩:=(show bf X.prog X.w H s.heap a (.lst xs) from I.hok a _ ea);exact Lr PySem.W.kitx_list I.kIn ⟨_,h1,rfl⟩ e (fun z=>nomatch z) h
 | @frz a ob xs ea =>
  cases (show u=Value.ref a from rx)
  obtain⟨_,_,_,n,_,h1⟩:=(show bf X.prog X.w H s.heap a (.frz ob (.lst xs)) from I.hok a _ ea);exact Lr PySem.W.kitx_list I.kIn ⟨_,h1,rfl⟩ e (fun z=>nomatch z) h
 | @tup a xs ea =>
  cases (show u=Value.ref a from rx)
  obtain⟨_,_,_,p⟩:=(show bf X.prog X.w H s.heap a (.tup xs) from I.hok a _ ea);obtain⟨o,h1,h2,_⟩:=p;exact Lr PySem.W.kitx_tuple I.kIn ⟨o,h1,h2⟩ e (fun z=>nomatch z) h
 | @dK a kvs ea =>
  cases (show u=Value.ref a from rx)
  obtain⟨_,_,vs,_,p⟩:=(show bf X.prog X.w H s.heap a (.dK kvs) from I.hok a _ ea);obtain⟨o,es,ep,h1,h2,_⟩:=p;exact Lr PySem.W.kitx_dict I.kIn ⟨o,h1,h2.1⟩ e (fun z=>nomatch z) h
 | @dT a kvs ea =>
  cases (show u=Value.ref a from rx)
  obtain⟨_,_,xs,_,o,es,ep,h1,h2,_⟩:=(show bf X.prog X.w H s.heap a (.dT kvs) from I.hok a _ ea);exact Lr PySem.W.kitx_dict I.kIn ⟨o,h1,h2.1⟩ e (fun z=>nomatch z) h
 | @ins a C dx fs ea cl ha hn htk hm =>
  cases (show u=Value.ref a from rx)
  obtain⟨mA,O,_⟩:=IY I.hok ea;obtain⟨od,J,_⟩:=O.look;exact Lr (PySem.W.kitx_own (cl.get _) cl.hd ha hn htk hm) I.kIn J e (fun z=>nomatch z) h
end
structure Room(k:Nat)(A:Around):Prop where
 hd:A.handled=none
 dp:A.depth+3*k+5<recursionLimit
 un:A.units+16*k+200<cLine
theorem Room.mono{j k:Nat}{A:Around}(r:Room k A)(h:j<=k):Room j A:=⟨r.hd,by have:=r.dp;omega,by have:=r.un;omega⟩
theorem Room.deeper{k:Nat}{A:Around}(r:Room (k+1) A)(env:Env):Room k (A.deeper env) :=
 ⟨r.hd,by have:=r.dp;show A.depth+1+3*k+5<_;omega,by have:=r.un;show A.units+3+16*k+200<_;omega⟩
theorem Room.depth{k:Nat}{A:Around}(r:Room k A):A.depth<recursionLimit:=by have:=r.dp;omega
theorem Room.units{k:Nat}{A:Around}(r:Room k A):A.units+64<cLine:=by have:=r.un;omega
noncomputable def tNil:TA:=fun _ H Q=>Q [] H
noncomputable def tCons(ta:TE)(tr:TA):TA:=fun σ H Q=>ta σ H fun x H1=>tr σ H1 fun xs H2=>Q (x::xs) H2
section
variable{X:Cx}{e:Expr}{es:List Expr}{te:TE}{t:TA}{pos:Pos}
theorem aj:PA X [] tNil:=fun _ _ _ _ H Q I h=>Calls.spliced_nil ⟨[],H,I,.nil,h⟩
theorem ae(ha:PE X e te)(hr:PA X es t)(hs:starEach (e::es) X.env=(false,eval e X.env)::starEach es X.env:=by rfl):PA X (e::es) (tCons te t):=by
 intro pos pins s σ H Q I h;rw[hs];show wpAny _ _ (spliced ((false,eval e X.env)::backTo pos (starEach es X.env))) _ _ s;refine Calls.spliced_cons (thn (ha pins s σ H _ I h) fun u s1 ⟨x,H1,I1,r1,q1⟩=>?_);exact thn (hr pos pins s1 σ H1 _ I1 q1) fun us s2 ⟨xs,H2,I2,r2,q2⟩=>⟨x::xs,H2,I2,.cons r1 r2,q2⟩
noncomputable def tTup(t:TA):TE:=fun σ H Q=>t σ H fun xs H1=>xs.length<=sizeLine/\∀ p,H1 p=none->Q (.ref p) (upd H1 p (.tup xs))
noncomputable def tLst(t:TA):TE:=fun σ H Q=>t σ H fun xs H1=>xs.length<=sizeLine/\∀ p,H1 p=none->Q (.ref p) (upd H1 p (.lst xs))
theorem kK{x1}(h:PA X es t):PE X (.Tuple es x1 pos) (tTup t):=by
 intro pins s σ H Q I hq;refine wpAny_Tuple_spliced (thn (h pos pins s σ H _ I hq) fun us s1 ⟨xs,H1,I1,r,z,q⟩=>⟨by rw[← r.length];exact z,?_⟩)
 have hf:H1 s1.heap.objs.size=none:=I1.hok.fresh (JF _);refine⟨.ref s1.heap.objs.size,upd H1 s1.heap.objs.size (.tup xs),I1.laid (t':=s1.toks) (fun b u e=>Heap.get?_push_of_some _ e) (JF _) ?_,rfl,q _ hf⟩;exact⟨z,us,r,⟨_,Heap.get?_push_size _ rfl,rfl,_,rfl⟩⟩
theorem jh(h:PA X es t):PE X (.List es pos) (tLst t):=by
 intro pins s σ H Q I hq;refine wpAny_List_spliced (thn (h pos pins s σ H _ I hq) fun us s1 ⟨xs,H1,I1,r,z,q⟩=>⟨by rw[← r.length];exact z,?_⟩)
 have hf:H1 s1.heap.objs.size=none:=I1.hok.fresh (JF _);refine⟨.ref s1.heap.objs.size,upd H1 s1.heap.objs.size (.lst xs),I1.laid (t':=s1.toks) (fun b u e=>Heap.get?_push_of_some _ e) (JF _) ?_,rfl,q _ hf⟩;exact⟨z,us,0,r,Heap.get?_push_size _ rfl⟩
end
noncomputable abbrev Sp:=List V->Hp->VK->XK->Prop
noncomputable abbrev CXT:=List Env->Hp->Shared->XK->Value->Shared->Prop
structure Env0(P:Program)(w:World)(K:JH)(mg:Str->Option Value)(base:Heap)(A:Around)(outer:List Env)(s:Shared)(H:Hp):Prop where
 frames:A.frames=some outer
 mod:Mod K mg base
 bs:∀ b o,base.get? b=some o->s.heap.get? b=some o/\H b=none
 bsz:base.objs.size<=s.heap.objs.size
 funs:s.heap.FunFrames base outer
 frf:∀ b∈frs outer,H b=none
 hok:HOk P w H s.heap
 bare:AllBare s.gens
noncomputable def CE(outer:List Env)(P:Program)(w:World)(H:Hp)(s:Shared)(Q:VK)(u:Value)(s':Shared):Prop :=
 ∃ v H',s'.os=s.os/\AllBare s'.gens/\Un (frs outer) [] H H' s.heap s'.heap/\HOk P w H' s'.heap/\RelV v u/\Q v H'
noncomputable def CR(CX:CXT)(outer:List Env)(P:Program)(w:World)(H:Hp)(s:Shared)(Q:VK)(E:XK)(r:Result)(s':Shared):Prop :=
 match r with
 |.ok (.ret u)=>CE outer P w H s Q u s'
 |.ok _=>False
 |.error e=>CX outer H s E e s'
structure FnOk(P:Program)(w:World)(K:JH)(mg:Str->Option Value)(base:Heap)(CX:CXT)(k:Nat)(f:Addr)(fd:FuncData)(ps:List Str)(sp:Sp):Prop where
 len:∀ vs H Q E,sp vs H Q E->vs.length=ps.length
 run:∀(A:Around)(outer:List Env)(s:Shared)(H:Hp)(args:Args)(us:List Value)(vs:List V)(Q:VK)(E:XK),Room k A->Env0 P w K mg base A outer s H->BindsTo s fd args (ps.zip us)->Vals vs us->sp vs H Q E ->
  codeAny (model P w) A (.call (.ref f) args) (CR CX outer P w H s Q E) s
section
variable{X:Cx}{pins:List (Addr×Obj)}{σ:St}{H:Hp}{s s':Shared}
theorem Inv.env0(I:Inv X pins σ H s):Env0 X.prog X.w X.K X.mg X.base X.A X.stack s H :=
 ⟨I.ok.frames,I.ok.mod,I.bs,Lf I.ok.bsz I.sz,I.stack,I.stkFree,I.hok,I.bare⟩
theorem Inv.after{Q:VK}{u:Value}(I:Inv X pins σ H s)(h:CE X.stack X.prog X.w H s Q u s'):EP X pins σ Q u s':=by
 obtain⟨v,H',os,bare,un,hok,r,q⟩:=h;obtain⟨hh,g,d,t,os'⟩:=s';obtain rfl:os'=s.os:=os;exact⟨v,H',I.call (h':=hh) (g':=g) (d':=d) (t':=t) (ch:=[]) un hok bare (fun b z=>absurd z (by simp)),r,q⟩
end
noncomputable def tCall(sp:Sp)(dvs:List V)(E:XK)(t:TA):TE:=fun σ H Q=>t σ H fun vs H1=>sp (vs++dvs) H1 Q E
noncomputable def uJ(K:JH)(fd:FuncData)(ps:List Str)(ds:List Value):Prop :=
 ∀(s:Shared)(us:List Value),K.In s.heap->(us++ds).length=ps.length->BindsTo s fd ⟨us,[]⟩ (ps.zip (us++ds))
theorem uJ.all{K:JH}{fd:FuncData}{ps:List Str}(h:∀ us:List Value,us.length=ps.length->bindArgs fd ⟨us,[]⟩=pure (ps.zip us)):uJ K fd ps []:=fun s us _ hl=>by
 rw[LZ]at hl ⊢;exact .of_eq (h us hl)
noncomputable def yD(CX:CXT)(X:Cx)(E:XK):Prop:=∀(pins:List (Addr×Obj))(σ:St)(H:Hp)(s:Shared)(e:Value)(s':Shared),Inv X pins σ H s->CX X.stack H s E e s'->X.xe e s'
section
variable{X:Cx}{CX:CXT}{k:Nat}{f C:Addr}{fd:FuncData}{ps:List Str}{sp:Sp}{dvs:List V}{ds:List Value}{E:XK}{x m:Str}{p pos apos:Pos}{e o:Expr}{es:List Expr}{ta:TE}{t:TA}
theorem GI{pins:List (Addr×Obj)}{σ:St}{H:Hp}{s:Shared}{Q:VK}{us:List Value}{vs:List V}(F:FnOk X.prog X.w X.K X.mg X.base CX k f fd ps sp)(hr:Room k X.A)(hb:uJ X.K fd ps ds)(hd:Vals dvs ds)(hx:yD CX X E)
  (I:Inv X pins σ H s) (r:Vals vs us) (h:sp (vs++dvs) H Q E):wpAny (model X.prog X.w) X.A (call (.ref f) us) (EP X pins σ Q) X.xe s:=by
 have r2:Vals (vs++dvs) (us++ds):=r.append hd;have hl:(us++ds).length=ps.length:=by rw[← r2.length];exact F.len _ _ _ _ h
 refine wpAny_call (codeAny_mono (F.run X.A X.stack s H ⟨us,[]⟩ (us++ds) (vs++dvs) Q E hr I.env0 (hb s us I.kIn hl) r2 h) fun r s' hq=>?_)
 cases r with
 |error e=>exact hx pins σ H s e s' I hq
 |ok fl =>
  cases fl with
  |ret u=>exact I.after hq
  |next=>exact False.elim hq
  |brk=>exact False.elim hq
  |cont=>exact False.elim hq
theorem av(F:FnOk X.prog X.w X.K X.mg X.base CX k f fd ps sp)(hr:Room k X.A)(hg:Gl X x)(hm:X.mg x=some (.ref f))(hk:JX X.K (.ref f)=true)(hb:uJ X.K fd ps ds)(hd:Vals dvs ds)(hx:yD CX X E)
  (ha:PA X (e::es) t) (hdb:(x == ("__debug__" : Str))=false:=by decide) (he:starEach (e::es) X.env=(false,eval e X.env)::starEach es X.env:=by rfl) (hpl:(backTo pos (starEach es X.env)).any (·.1)=false:=by rfl) :
  PE X (.Call (.Name x p) (e::es) [] pos) (tCall sp dvs E t):=by
 intro pins s σ H Q I h;refine wpAny_Call_Name_kw (vV I hg hm ?_ hdb);refine PySem.W.callWith_K (h₀:=X.base) I.ok.mod.kin hk (thn (ha pos pins s σ H _ I h) fun us s1 ⟨vs,H1,I1,r,q⟩=>⟨I1.kIn,?_⟩) he hpl;exact GI F hr hb hd hx I1 r q
theorem xY(F:FnOk X.prog X.w X.K X.mg X.base CX k f fd ps sp)(hr:Room k X.A)(hg:Gl X x)(hm:X.mg x=some (.ref f))(hk:JX X.K (.ref f)=true)(hb:uJ X.K fd ps ds)(hd:Vals dvs ds)(hx:yD CX X E)
  (hdb:(x == ("__debug__" : Str))=false:=by decide):PE X (.Call (.Name x p) [] [] pos) (tCall sp dvs E tNil):=by
 intro pins s σ H Q I h;refine wpAny_Call_Name_kw (vV I hg hm ?_ hdb);exact PySem.W.callWith_K0 I.kIn hk (GI (us:=[]) F hr hb hd hx I .nil h)
end
section
variable{X:Cx}{CX:CXT}{k:Nat}{f C:Addr}{fd:FuncData}{ps ks:List Str}{sp:Sp}{E:XK}{x m:Str}{p pos apos kpos:Pos}{e o:Expr}{es:List Expr}{kws:List Keyword}{te ta:TE}{t tk:TA}{nm:Option Str}
variable{g:List Value->List Value->List Value}{gV:List V->List V->List V}
end
structure aD(N P:List Str)(sc:Scope):Prop where
 kind:sc.kind=.function
 co:sc.isCoroutine=false
 gen:sc.isGenerator=false
 nd:N.Nodup
 pre:N.take P.length=P
 par:∀ x∈P,sc.names.lookup x=some .local∨sc.names.lookup x=some .cell
 nofree:∀ y∈sc.names,y.2≠.free
theorem uj{kindOf:Str->Option NameKind}{x:Str}:∀{binds:List (Str×Value)}{m:Str->Option Value},(∀ v,(x,v)∉binds)->bindL kindOf binds m x=m x
 |[],_,_=>rfl
 | (n,v)::r,m,h=>by
  unfold bindL;rw[uj fun w hw=>h w (JK _ hw)];split
  ·have:x≠n:=by rintro rfl;exact h v JO
   simp[this]
  ·rfl
theorem uo{kindOf:Str->Option NameKind}{x:Str}:∀{binds:List (Str×Value)}{m:Str->Option Value},(∀ v,(x,v)∉binds)->bindC kindOf binds m x=m x
 |[],_,_=>rfl
 | (n,v)::r,m,h=>by
  unfold bindC;rw[uo fun w hw=>h w (JK _ hw)];split
  ·rfl
  ·have:x≠n:=by rintro rfl;exact h v JO
   simp[this]
theorem uk{kindOf:Str->Option NameKind}{x:Str}{v:Value}:∀{P:List Str}{vs:List Value}{i:Nat}{m:Str->Option Value},P.Nodup->P[i]?=some x->vs[i]?=some v->kindOf x=some .local ->
  bindL kindOf (P.zip vs) m x=some v
 |[],_,_,_,_,h,_,_=>by simp at h
 |_::_,[],_,_,_,_,h,_=>by simp at h
 |p::P,w::vs,0,m,nd,h1,h2,hk=>by
  simp at h1 h2;subst h1;subst h2;show bindL kindOf ((p,w)::P.zip vs) m p=_;unfold bindL;rw[uj fun v hv=>(Kq.mp nd).1 (Ng hv).1,if_pos hk];simp
 |p::P,w::vs,i+1,m,nd,h1,h2,hk=>by
  show bindL kindOf ((p,w)::P.zip vs) m x=_;unfold bindL;exact uk (i:=i) (Kq.mp nd).2 (by simpa using h1) (by simpa using h2) hk
theorem uq{kindOf:Str->Option NameKind}{x:Str}{v:Value}:∀{P:List Str}{vs:List Value}{i:Nat}{m:Str->Option Value},P.Nodup->P[i]?=some x->vs[i]?=some v->kindOf x≠some .local ->
  bindC kindOf (P.zip vs) m x=some v
 |[],_,_,_,_,h,_,_=>by simp at h
 |_::_,[],_,_,_,_,h,_=>by simp at h
 |p::P,w::vs,0,m,nd,h1,h2,hk=>by
  simp at h1 h2;subst h1;subst h2;show bindC kindOf ((p,w)::P.zip vs) m p=_;unfold bindC;rw[uo fun v hv=>(Kq.mp nd).1 (Ng hv).1,if_neg hk];simp
 |p::P,w::vs,i+1,m,nd,h1,h2,hk=>by
  show bindC kindOf ((p,w)::P.zip vs) m x=_;unfold bindC;exact uq (i:=i) (Kq.mp nd).2 (by simpa using h1) (by simpa using h2) hk
noncomputable def pU(N:List Str)(vs:List V):St:=vs.map some++JM (N.length-vs.length) none
noncomputable def cxOf(CX:CXT)(P:Program)(w:World)(K:JH)(mg:Str->Option Value)(base:Heap)(N:List Str)(qual:Str)(scope:Scope)(f:Addr)(cd:Value)(A:Around)(outer:List Env)(s:Shared)(H:Hp)(E:XK):Cx where
 prog:=P
 w:=w
 K:=K
 mg:=mg
 base:=base
 A:=A.deeper (envOfC qual scope s.heap.objs.size f cd)
 N:=N
 s₀:=s
 H₀:=H
 env:=envOfC qual scope s.heap.objs.size f cd
 outer:=outer
 stack:=envOfC qual scope s.heap.objs.size f cd::outer
 ex:=[]
 calm:=true
 fn:=fun _=>true
 pn:=[]
 xe:=fun e s'=>wpAny (model P w) (A.deeper (envOfC qual scope s.heap.objs.size f cd)) (leaving (envOfC qual scope s.heap.objs.size f cd) e) (fun _ s''=>CX outer H s E e s'') (fun e' s''=>CX outer H s E e' s'') s'
theorem yu{sc:Scope}{n:Nat}{x:Str}(h:sc.names.lookup x=some .cell):∃ c,(cellsFrom n sc.names []).lookup x=some c:=by
 have q:=PySem.W.cellsFrom_some sc.names n [] (.inl h);exact NX.mp q
theorem CL{CX:CXT}{P:Program}{w:World}{K:JH}{mg:Str->Option Value}{base:Heap}{N ps:List Str}{qual:Str}{scope:Scope}{f:Addr}{cd:Value}{A:Around}{outer:List Env}{s s1:Shared}{H:Hp}{E:XK}{us:List Value}{vs:List V}
  (S:aD N ps scope) (hd:A.handled=none) (e0:Env0 P w K mg base A outer s H) (hl:vs.length=ps.length) (r:Vals vs us)
  (x:InCallC s s.heap.objs.size (bindL (envOfC qual scope s.heap.objs.size f cd).kindOf (ps.zip us) fun _=>none) (cellsFrom (s.heap.objs.size+1) scope.names []) (bindC (envOfC qual scope s.heap.objs.size f cd).kindOf (ps.zip us) fun _=>none) s1) :
  Inv (cxOf CX P w K mg base N qual scope f cd A outer s H E) [] (pU N vs) H s1:=by
 have hpl:ps.length<=N.length:=by have:=congrArg Nr S.pre;rw[JZ]at this;omega
 obtain⟨h1,tk,rfl,hk⟩:=x.done;have noA:∀ b:Addr,b∉(cxOf CX P w K mg base N qual scope f cd A outer s H E).ex:=fun b z=>absurd (show b∈([]:List Addr) from z) (by simp)
 refine⟨⟨e0.mod,S.kind,rfl,rfl,JF _,fun y z c h1 h2=>?_,fun y hy=>?_,fun y c _ h=>?_,fun _=>hd,Around.frames_deeper e0.frames,.inr ⟨rfl,rfl⟩,fun b z=>absurd z (noA b),e0.bs,e0.bsz,fun b _ _=>noA b,fun b z=>absurd z (noA b),e0.funs,e0.frf⟩,
  rfl,e0.bare,Un.kept hk,⟨_,x.toInCall.ns,fun i y v h1 h2 h3=>?_⟩,fun y c h=>⟨_,x.cell y c h⟩,e0.hok.fresh (JF _),fun y c h=>?_,fun p hp=>absurd (show p∈([]:List (Addr×Obj)) from hp) (by simp),e0.hok.kept hk,?_⟩
 ·exact name_of_addr x.apart (Lj h1) (Lj h2)
 ·have hy:scope.names.lookup y=some .cell∨scope.names.lookup y=some .free:=hy
  rcases hy with hy | hy
  ·exact yu hy
  ·exact absurd rfl (S.nofree _ (Lj hy))
 ·exact Kw (x.above y c (Lj h))
 ·have hi:i<vs.length:=by
   unfold pU at h2;by_cases hi:i<vs.length
   ·exact hi
   ·rw[Ka (by simpa using hi)]at h2
    rw[LK]at h2;split at h2<;>cases h2
  have ha:vs[i]?=some v:=by
   unfold pU at h2;rw[Kj (by simpa using hi),JJ]at h2
   cases e:vs[i]? with
   |none=>rw[e]at h2;cases h2
   |some a=>rw[e]at h2;cases h2;rfl
  obtain⟨u,hu,rv⟩:=r.get ha;have hp:ps[i]?=some y:=by
   rw[← S.pre,List.getElem?_take_of_lt (by omega)];exact h1
  have ndP:ps.Nodup:=by rw[← S.pre];exact S.nd.sublist (Nx _ _)
  refine⟨u,rv,?_⟩;rcases S.par y (JG hp)with k | k
  ·exact .inl ⟨k,uk ndP hp hu k⟩
  ·obtain⟨c,e⟩:=yu (n:=s.heap.objs.size+1) k;refine .inr ⟨.inl k,c,e,?_⟩;have q:=x.cell y c e;rw[uq ndP hp hu (by show scope.names.lookup y≠_;rw[k];decide)]at q
   exact q
 ·exact e0.hok.fresh (Kw (x.above y c (Lj h)))
 ·unfold pU;show _=N.length;rw[JN,JC,LA];omega
theorem fn_of{CX:CXT}{P:Program}{w:World}{K:JH}{mg:Str->Option Value}{base:Heap}{k:Nat}{f:Addr}{name qual:Str}{params:Arguments}{body:List Stmt}{scope:Scope}{dV kV doc pm cdv ct oc:Value}{an od:Option Addr}
  {osl:Array (Option Value)} {N ps:List Str} {sp:Sp} (lk:K.lookup f=some ⟨oc,od,.func (Kh name qual params body scope dV kV doc pm an cdv ct),osl⟩) (hcd:Kd K cdv qual=true) (S:aD N ps scope)
  (len:∀ vs H Q E,sp vs H Q E->vs.length=ps.length)
  (hbody:∀(A:Around)(outer:List Env)(s:Shared)(H:Hp)(vs:List V)(Q:VK)(E:XK),Room k (A.deeper (envOfC qual scope s.heap.objs.size f cdv))->sp vs H Q E ->
   ∃ t,PSs (cxOf CX P w K mg base N qual scope f cdv A outer s H E) body t/\t { nx:=fun _ H'=>Q .non H',rt:=Q } (pU N vs) H) :
  FnOk P w K mg base CX (k+1) f (Kh name qual params body scope dV kV doc pm an cdv ct) ps sp:=by
 refine⟨len,fun A outer s H args us vs Q E hr e0 hb r hsp=>?_⟩;have hl:=len _ _ _ _ hsp;have KX:K.In s.heap:=e0.mod.kin.keeps fun b o e=>(e0.bs b o e).1;have lim:s.heap.NoLimit:=e0.mod.nolimit.keeps fun b o e=>(e0.bs b o e).1;have hkind:∀ y∈ps.zip us,scope.names.lookup y.1=some .local∨(scope.names.lookup y.1=some .cell/\((cellsFrom (s.heap.objs.size+1) scope.names []).lookup y.1).isSome=true):=fun⟨n,v⟩ hy=>by
  rcases S.par n (Ng hy).1 with q | q
  ·exact .inl q
  ·exact .inr ⟨q,PySem.W.cellsFrom_some _ _ _ (.inl q)⟩
 refine codeAny_call_function hr.depth (KX _ _ lk) rfl S.co S.gen rfl (PySem.W.codeRec_of KX hcd) (hb _ _ _ _ ?_);refine wpAny_newFunctionEnv_cells S.kind hkind fun env he s1 x=>?_;subst he;refine⟨lim.keeps x.toInCall.keep,codeAny_func ?_⟩;obtain⟨t,ht,hq⟩:=hbody A outer s H vs Q E (hr.deeper _) hsp;have I:Inv (cxOf CX P w K mg base N qual scope f cdv A outer s H E) [] (pU N vs) H s1:=CL S hr.hd e0 hl r x;refine wpAny_mono (ht [] s1 (pU N vs) H _ I hq) (fun fl s' hs=>?_) fun e s' hs=>hs;have fin:∀{σ':St}{H':Hp}{v:V}{u:Value},Inv (cxOf CX P w K mg base N qual scope f cdv A outer s H E) [] σ' H' s'->RelV v u->Q v H'->CE outer P w H s Q u s' :=
  fun{σ' H' v u} J rv q=>⟨v,H',J.os,J.bare,J.base,J.hok,rv,q⟩
 cases fl with
 |ret u =>
  obtain⟨v,σ',H',J,rv,q⟩:=hs;exact fin J rv q
 |next =>
  obtain⟨σ',H',J,q⟩:=hs;exact fin (v:=V.non) (u:=Value.none) J rfl q
 |brk =>
  obtain⟨_,_,_,q⟩:=hs;exact False.elim q
 |cont =>
  obtain⟨_,_,_,q⟩:=hs;exact False.elim q
section
variable{X:Cx}{x:Str}{p pos:Pos}{e:Expr}{es:List Expr}{t:TA}{id T:String}{r:List V->Hp->VK->Prop}
noncomputable def tCB(r:List V->Hp->VK->Prop)(t:TA):TE:=fun σ H Q=>t σ H fun vs H1=>r vs H1 Q
theorem aE(hc:iq X (.builtin id) r)(hg:Gl X x)(hm:X.mg x=none)(hv:bootBuiltins x=some (.builtin id))(ha:PA X (e::es) t) (hn:x≠"__name__":=by decide) (hdb:(x == ("__debug__" : Str))=false:=by decide)
  (he:starEach (e::es) X.env=(false,eval e X.env)::starEach es X.env:=by rfl) (hpl:(backTo pos (starEach es X.env)).any (·.1)=false:=by rfl):PE X (.Call (.Name x p) (e::es) [] pos) (tCB r t):=by
 intro pins s σ H Q I h;refine wpAny_Call_Name_kw (jo I hg hm hv ?_ hn hdb);exact PyProof.Rows.callWith_builtin1 (thn (ha pos pins s σ H _ I h) fun us s1 ⟨vs,H1,I1,r1,q1⟩=>hc pins s1 σ H1 vs us Q I1 r1 q1) he hpl
theorem fW(hc:iq X (.type T) r)(hg:Gl X x)(hm:X.mg x=none)(hv:bootBuiltins x=some (.type T))(ha:PA X (e::es) t) (hn:x≠"__name__":=by decide) (hdb:(x == ("__debug__" : Str))=false:=by decide)
  (he:starEach (e::es) X.env=(false,eval e X.env)::starEach es X.env:=by rfl) (hpl:(backTo pos (starEach es X.env)).any (·.1)=false:=by rfl):PE X (.Call (.Name x p) (e::es) [] pos) (tCB r t):=by
 intro pins s σ H Q I h;refine wpAny_Call_Name_kw (jo I hg hm hv ?_ hn hdb);exact PyProof.Rows.callWith_type1 (thn (ha pos pins s σ H _ I h) fun us s1 ⟨vs,H1,I1,r1,q1⟩=>hc pins s1 σ H1 vs us Q I1 r1 q1) he hpl
end
end L2
namespace HT
open PySem PyProof.Rows
section
open PySem.SeqAt
open PySem.AutoSeq1 (wpAny_loadPart')
open PySem.MeetsSeq PySem.MeetsSeq2 PySem.MeetsSeq3
end
section
variable{prog:Program}{w:World}{A:Around}{E:Value->Shared->Prop}{s:Shared}
noncomputable def sIx(n d:Nat):Option Int->Nat
 |none=>d
 |some v=>if v<0 then(v+(n:Int)).toNat else min v.toNat n
theorem sIx_none(n d:Nat):sIx n d none=d:=rfl
theorem sIx_nat(n d k:Nat):sIx n d (some (k:Int))=min k n:=by
 show(if(k:Int)<0 then((k:Int)+(n:Int)).toNat else min (k:Int).toNat n)=min k n;rw[if_neg (by omega),JL]
end
end HT
namespace L2
open PySem PySem.Spec PyProof.Rows
noncomputable abbrev TO:=St->Hp->(Option Int->Hp->Prop)->Prop
noncomputable def PO(X:Cx)(e:Option Expr)(t:TO):Prop :=
 ∀(pins:List (Addr×Obj))(s:Shared)(σ:St)(H:Hp)(Q:Option Int->Hp->Prop),Inv X pins σ H s->t σ H Q ->
  wpAny (model X.prog X.w) X.A (evalPart e X.env) (fun u s'=>∃ o H',Inv X pins σ H' s'/\IsPart u o/\Q o H') X.xe s
noncomputable def HH:TO:=fun _ H Q=>Q none H
noncomputable def tPart(t:TE):TO:=fun σ H Q=>t σ H fun x H1=>∃ i,x=.int i/\Q (some i) H1
section
variable{X:Cx}{e:Expr}{te:TE}{lo hi:Option Expr}{tl th:TO}{pos p2:Pos}
theorem iJ:PO X none HH:=by
 intro pins s σ H Q I h;rw[evalPart_none];exact wpAny_pure ⟨none,H,I,.none,h⟩
theorem iI(h:PE X e te):PO X (some e) (tPart te):=by
 intro pins s σ H Q I hw;rw[evalPart_some];refine thn (h pins s σ H _ I hw) fun u s1 ⟨x,H1,I1,r1,q1⟩=>?_;obtain⟨i,rfl,q⟩:=q1;obtain⟨t,rfl⟩:=r1;exact⟨some i,H1,I1,.int i t,q⟩
noncomputable def SlR(X:Cx)(r:V->Option Int->Option Int->Hp->VK->Prop):Prop :=
 ∀(pins:List (Addr×Obj))(s:Shared)(σ:St)(H:Hp)(x:V)(v vl vu:Value)(lo hi:Option Int)(sl:Addr)(Q:VK),Inv X pins σ H s->RelV x v->s.heap.IsSliceOf sl vl vu .none->IsPart vl lo->IsPart vu hi->r x lo hi H Q ->
  ∃ T id,typeLookup (.type T) "__getitem__" = pure (some (.builtin id))/\s.TypeIs v T/\wpAny (model X.prog X.w) X.A (getItem v (.ref sl)) (EP X pins σ Q) X.xe s
noncomputable def tSl(r:V->Option Int->Option Int->Hp->VK->Prop)(te:TE)(tl th:TO):TE:=fun σ H Q=>te σ H fun x H1=>tl σ H1 fun l H2=>th σ H2 fun u H3=>r x l u H3 Q
theorem fm{r:V->Option Int->Option Int->Hp->VK->Prop}(hr:SlR X r)(he:PE X e te)(hl:PO X lo tl)(hu:PO X hi th):PE X (.Subscript e (.Slice lo hi none p2) pos) (tSl r te tl th):=by
 intro pins s σ H Q I h;refine Subscript_ (thn (he pins s σ H _ I h) fun v s1 ⟨x,H1,I1,r1,q1⟩=>?_);refine wpAny_Slice (thn (hl pins s1 σ H1 _ I1 q1) fun vl s2 ⟨l,H2,I2,pl,q2⟩=>thn (hu pins s2 σ H2 _ I2 q2) fun vu s3 ⟨u,H3,I3,pu,q3⟩=>?_);rw[evalPart_none];refine wpAny_pure ?_;have I4:Inv X pins σ H3 { s3 with heap:=s3.heap.push { cls:=.type "slice",data:=.fields #[vl,vu,.none] } }:=I3.kept (t':=s3.toks) fun b ob q=>Heap.get?_push_of_some _ q;obtain⟨T,id,hT,ht,hg⟩:=hr pins { s3 with heap:=s3.heap.push { cls:=.type "slice",data:=.fields #[vl,vu,.none] } } σ H3 x v vl vu l u s3.heap.objs.size Q I4 r1 (Heap.IsSliceOf.new ..) pl pu q3;show wpAny (model X.prog X.w) X.A (subscriptTail e (.Slice lo hi none p2) v (.ref s3.heap.objs.size)) (EP X pins σ Q) X.xe { s3 with heap:=s3.heap.push { cls:=.type "slice",data:=.fields #[vl,vu,.none] } };exact tail_any (ops:=[.ref s3.heap.objs.size,v]) ht hT hg (by with_unfolding_all rfl)
noncomputable def cutV(xs:List V)(lo hi:Option Int):List V:=(xs.drop (HT.sIx xs.length 0 lo)).take (HT.sIx xs.length xs.length hi-HT.sIx xs.length 0 lo)
theorem wN(xs:List V)(lo hi:Option Int):(cutV xs lo hi).length<=xs.length:=by
 unfold cutV;rw[JZ,Ku];omega
end
noncomputable def ixN(n:Nat)(i:Int):Option Nat:=if 0<=i then(if i<n then some i.toNat else none) else if -(n:Int)<=i then some (i+n).toNat else none
noncomputable def atI{α:Type}(xs:List α)(i:Int):Option α:=(ixN xs.length i).bind fun j=>xs[j]?
theorem CH{n:Nat}{i:Int}{j:Nat}(h:ixN n i=some j):seqIndex? i n=some j/\j<n/\-(n:Int)<=i/\i<n:=by
 unfold ixN at h;by_cases h0:0<=i
 ·rw[if_pos h0]at h;by_cases h1:i<n
  ·rw[if_pos h1]at h;have e:i.toNat=j:=KH h;exact⟨by rw[seqIndex_of h0 h1,e],by omega,by omega,h1⟩
  ·rw[if_neg h1]at h;cases h
 ·rw[if_neg h0]at h;by_cases h1 : -(n:Int)<=i
  ·rw[if_pos h1]at h;have e:(i+n).toNat=j:=KH h;exact⟨by rw[seqIndex_neg (by omega) h1,e],by omega,h1,by omega⟩
  ·rw[if_neg h1]at h;cases h
theorem D9{α:Type}{xs:List α}{i:Int}{v:α}(h:atI xs i=some v):∃ j,seqIndex? i xs.length=some j/\xs[j]?=some v/\j<xs.length/\-(xs.length:Int)<=i/\i<xs.length:=by
 unfold atI at h
 cases e:ixN xs.length i with
 |none=>rw[e]at h;cases h
 |some j =>
  rw[e]at h;obtain⟨h1,h2,h3,h4⟩:=CH e;exact⟨j,h1,h,h2,h3,h4⟩
theorem aN{α:Type}{xs:List α}{j:Nat}{v:α}(h:xs[j]?=some v):atI xs (j:Int)=some v:=by
 have hj:j<xs.length:=(JD.mp h).1;have e:ixN xs.length (j:Int)=some j:=by
  unfold ixN;rw[if_pos (by omega),if_pos (by omega)];simp
 unfold atI;rw[e];exact h
noncomputable def JA(b:Expr):Prop:=∀ o i,subscripted b false o i=operate [o,i] (getItem o i)
noncomputable def IxR(X:Cx)(r:R2):Prop :=
 ∀(value slice:Expr)(pins:List (Addr×Obj))(s:Shared)(σ:St)(H:Hp)(x y:V)(v u:Value)(Q:VK),Inv X pins σ H s->RelV x v->RelV y u->r x y H Q ->
  subscripted slice false v u=operate [v,u] (getItem v u)->wpAny (model X.prog X.w) X.A (subscriptTail value slice v u) (EP X pins σ Q) X.xe s
noncomputable def MtR(X:Cx)(id:String)(r:V->List V->Hp->VK->Prop):Prop :=
 ∀(pins:List (Addr×Obj))(s:Shared)(σ:St)(H:Hp)(x:V)(xs:List V)(v:Value)(us:List Value)(Q:VK),Inv X pins σ H s->RelV x v->Vals xs us->r x xs H Q ->
  wpAny (model X.prog X.w) X.A (call (.builtin id) (v::us)) (EP X pins σ Q) X.xe s
section
variable{X:Cx}{a b:Expr}{ta tb:TE}{pos:Pos}
theorem aC{r:R2}(hr:IxR X r)(ha:PE X a ta)(hb:PE X b tb)(hs:JA b):PE X (.Subscript a b pos) (tOp r ta tb):=by
 intro pins s σ H Q I h;exact Subscript_ (binT ha hb I h fun v u s2 x y H2 I2 rx ry q=>hr a b pins s2 σ H2 x y v u Q I2 rx ry q (hs _ _))
noncomputable def rIxL(K:JH):R2:=fun x y H Q=>∃ p xs i v,x=.ref p/\y=.int i/\SqL K H p xs/\atI xs i=some v/\Q v H
noncomputable def rIxT(K:JH):R2:=fun x y H Q=>∃ p xs i v,x=.ref p/\y=.int i/\SqT K H p xs/\atI xs i=some v/\Q v H
theorem aP:IxR X (rIxL X.K):=by
 intro value slice pins s σ H x y v u Q I rx ry h hs;obtain⟨p,xs,i,z,rfl,rfl,hq,he,q⟩:=h
 cases rx
 obtain⟨t,rfl⟩:=ry;obtain⟨its,r,pl,hz⟩:=I.list hq;obtain⟨j,h1,h2,h3,h4,h5⟩:=D9 he;obtain⟨w,ew,rw'⟩:=r.get h2;have hl:=r.length;have hn:=pe;have fin:EP X pins σ Q w s:=⟨z,H,I,rw',q⟩;by_cases h0:0<=i
 ·have hj:i.toNat=j:=by
   rw[seqIndex_of h0 h5]at h1;exact KH h1
  exact item_listR pl.isList h0 (by omega) (by rw[hj];simpa using ew) fin hs
 ·have hj:(i+(its.toArray.size:Int)).toNat=j:=by
   rw[seqIndex_neg (by omega) h4]at h1
   rw[JU,← hl];exact KH h1
  exact subscriptTail_builtinR (x:=w) pl.isList.typeIs slot_list_getitem.lookup
   (wpAny_getItem_list_neg (Q:=fun r s'=>r=w/\EP X pins σ Q r s') pl.isList (by omega) (by rw[JU]<;>omega) (by omega) (by rw[hj];simpa using ew) ⟨rfl,fin⟩) hs
theorem aV:IxR X (rIxT X.K):=by
 intro value slice pins s σ H x y v u Q I rx ry h hs;obtain⟨p,xs,i,z,rfl,rfl,hq,he,q⟩:=h
 cases rx
 obtain⟨t,rfl⟩:=ry;obtain⟨its,r,pl,hz⟩:=I.tuple hq;obtain⟨j,h1,h2,h3,h4,h5⟩:=D9 he;obtain⟨w,ew,rw'⟩:=r.get h2;have hl:=r.length;have hn:=pe;have fin:EP X pins σ Q w s:=⟨z,H,I,rw',q⟩;exact subscriptTail_builtinR (x:=w) pl.typeIs slot_tuple_getitem.lookup
  (getItem_tuple (j:=j) (Q:=fun r s'=>r=w/\EP X pins σ Q r s') pl (by omega) (by omega) (by rw[JU,← hl];exact h1) (by simpa using ew) ⟨rfl,fin⟩) hs
theorem zF(its:List Value)(n j:Nat)(u:Value):Obj.mapSeq (·.setIfInBounds j u) { cls:=.type "list",data:=.seq its.toArray n }={ cls:=.type "list",data:=.seq (its.set j u).toArray n }:=by
 simp[Obj.mapSeq]
theorem Inv.lst{pins:List (Addr×Obj)}{σ:St}{H:Hp}{s:Shared}{p:Addr}{xs:List V}(I:Inv X pins σ H s)(h:H p=some (.lst xs)) :
  ∃(its:List Value)(n:Nat),Vals xs its/\s.heap.get? p=some { cls:=.type "list",data:=.seq its.toArray n }/\xs.length<=sizeLine:=by
 obtain⟨z,its,n,r,e⟩:=I.hok p _ h;exact⟨its,n,r,e,z⟩
theorem Inv.lstUpd{pins:List (Addr×Obj)}{σ:St}{H:Hp}{s:Shared}{p:Addr}{xs ys:List V}{its its':List Value}{n n':Nat}{f:Obj->Obj}(I:Inv X pins σ H s)(h:H p=some (.lst xs))
  (ho:s.heap.get? p=some { cls:=.type "list",data:=.seq its.toArray n }) (hf:f { cls:=.type "list",data:=.seq its.toArray n }={ cls:=.type "list",data:=.seq its'.toArray n' }) (r:Vals ys its') (hz:ys.length<=sizeLine) (t:Nat) :
  Inv X pins σ (upd H p (.lst ys)) { s with heap:=s.heap.update p f,toks:=t }:=by
 have e:(s.heap.update p f).get? p=some { cls:=.type "list",data:=.seq its'.toArray n' }:=by
  rw[Heap.get?_update_self f ho (by rw[hf]<;>rfl),hf]
 refine I.write (x:=p) (e:=p) (by rw[h];trivial) (.inl rfl) (fun b u hb q=>(Heap.get?_update_other _ _ (Ne.symm hb)).trans q) ⟨_,e⟩ ?_
 exact⟨hz,its',n',r,e⟩
noncomputable def rSetL:V->V->V->Hp->(Hp->Prop)->Prop:=fun o i v H Q=>∃ p xs k j,o=.ref p/\i=.int k/\H p=some (.lst xs)/\ixN xs.length k=some j/\Q (upd H p (.lst (xs.set j v)))
theorem p8:PSet X rSetL:=by
 intro pins s σ H o i v ov iv u Q I ro ri rv h;obtain⟨p,xs,k,j,rfl,rfl,hp,hj,q⟩:=h
 cases ro
 obtain⟨t,rfl⟩:=ri;obtain⟨its,n,r,ho,hz⟩:=I.lst hp;obtain⟨h1,h2,h3,h4⟩:=CH hj;have hl:=r.length;have hn:=pe;have I':Inv X pins σ (upd H p (.lst (xs.set j v))) { s with heap:=s.heap.update p (Obj.mapSeq (·.setIfInBounds j u)) } :=
  I.lstUpd hp ho (zF its n j u) (r.set rv j) (by rw[L5];exact hz) s.toks
 by_cases h0:0<=k
 ·have hk:k.toNat=j:=by
   rw[seqIndex_of h0 h4]at h1;exact KH h1
  exact PySem.W.ki_setAt ho h0 (by omega) (by rw[JU,← hl];exact h4) (by rw[hk];exact⟨_,I',q⟩)
 ·have hk:(k+(its.toArray.size:Int)).toNat=j:=by
   rw[seqIndex_neg (by omega) h3]at h1
   rw[JU,← hl];exact KH h1
  exact PySem.W.ki_setBack ho (by omega) (by rw[JU,← hl];exact h3) (by omega) (by rw[hk];exact⟨_,I',q⟩)
theorem rQ(lo hi:Option Int)(n:Nat):(sliceBounds lo hi none n).1=((HT.sIx n 0 lo:Nat):Int)/\(sliceBounds lo hi none n).2.1=((HT.sIx n n hi:Nat):Int)/\(sliceBounds lo hi none n).2.2=1:=by
 refine⟨?_,?_,rfl⟩
 ·cases lo with
  |none=>simp[sliceBounds,HT.sIx]
  |some i =>
   simp only[sliceBounds,HT.sIx,Option.getD_none,show(1:Int) > 0 by decide,if_true]
   by_cases h:i<0
   ·simp only[h,if_true]<;>omega
   ·simp only[h,if_false]<;>omega
 ·cases hi with
  |none=>simp[sliceBounds,HT.sIx]
  |some i =>
   simp only[sliceBounds,HT.sIx,Option.getD_none,show(1:Int) > 0 by decide,if_true]
   by_cases h:i<0
   ·simp only[h,if_true]<;>omega
   ·simp only[h,if_false]<;>omega
theorem p6(its:List Value)(lo hi:Option Int):slicePick its.toArray lo hi none=((its.drop (HT.sIx its.length 0 lo)).take (HT.sIx its.length its.length hi-HT.sIx its.length 0 lo)).toArray:=by
 obtain⟨h1,h2,h3⟩:=rQ lo hi its.toArray.size;unfold slicePick;rw[h1,h2,h3];simp only[sliceRange_one,pick_run,JU]<;>rfl
noncomputable def rSlL(K:JH):V->Option Int->Option Int->Hp->VK->Prop:=fun x lo hi H Q=>∃ a xs,x=.ref a/\SqL K H a xs/\∀ p,H p=none->Q (.ref p) (upd H p (.lst (cutV xs lo hi)))
theorem iF:SlR X (rSlL X.K):=by
 intro pins s σ H x v vl vu lo hi sl Q I rx hs pl pu h;obtain⟨a,xs,rfl,hx,q⟩:=h
 cases rx
 obtain⟨its,r,ht,hz⟩:=I.list hx;have hlen:=r.length;refine⟨"list",_,slot_list_getitem.lookup,ht.isList.typeIs,?_⟩;refine wpAny_getItem_list_slice ht.isList hs pl pu .none (by simp) ?_ (by rw[JU]<;>omega)
 rw[p6,← hlen];refine⟨.ref s.heap.objs.size,_,I.laid (t':=s.toks) (o:=.lst (cutV xs lo hi)) (fun b ob q=>Heap.get?_push_of_some _ q) (JF _) ?_,rfl,q _ (I.hok.fresh (JF _))⟩;exact⟨Lf (wN xs lo hi) hz,_,0,(r.drop (HT.sIx xs.length 0 lo)).take (HT.sIx xs.length xs.length hi-HT.sIx xs.length 0 lo),Heap.get?_push_size _ rfl⟩
theorem aQ:iq X (.builtin "len") (fun xs H Q=>∃ p ys,xs = [.ref p]/\(SqL X.K H p ys∨SqT X.K H p ys)/\Q (.int ys.length) H):=by
 intro pins s σ H xs us Q I r h;obtain⟨p,ys,rfl,hq,q⟩:=h;obtain⟨u,rfl,rx⟩:=ja r
 cases rx
 have hn:=pe;rcases hq with hq | hq
 ·obtain⟨its,r',pl,hz⟩:=I.list hq;have hlen:=r'.length;exact Calls.call_len_list pl.isList (by simp only[JU]<;>omega) ⟨.int ys.length,H,I.tok _,⟨s.toks+1,by rw[JU,hlen]⟩,q⟩
 ·obtain⟨its,r',pl,hz⟩:=I.tuple hq;have hlen:=r'.length;exact len_tuple pl (by simp only[JU]<;>omega) ⟨.int ys.length,H,I.tok _,⟨s.toks+1,by rw[JU,hlen]⟩,q⟩
theorem kX:iq X (.type "list") (fun xs H Q=>∃ p ys,xs = [.ref p]/\(SqL X.K H p ys∨SqT X.K H p ys)/\∀ l,H l=none->Q (.ref l) (upd H l (.lst ys))):=by
 intro pins s σ H xs us Q I r h;obtain⟨p,ys,rfl,hq,q⟩:=h;obtain⟨u,rfl,rx⟩:=ja r
 cases rx
 have fin:∀(its:List Value),Vals ys its->ys.length<=sizeLine->∀(h':Heap)(c':Nat),(∀ b o',s.heap.get? b=some o'->h'.get? b=some o') ->
   h'.get? s.heap.objs.size=some { cls:=.type "list",dict:=none,data:=.seq its.toArray c',slots:=#[] }->EP X pins σ Q (.ref s.heap.objs.size) { s with heap:=h' }:=fun its r' hz h' c' kp e =>
  ⟨.ref s.heap.objs.size,_,I.laid (t':=s.toks) kp (JF _) (show bf X.prog X.w _ h' _ (.lst ys) from⟨hz,its,c',r',e⟩),rfl,q _ (I.hok.fresh (JF _))⟩
 rcases hq with hq | hq
 ·obtain⟨its,r',pl,hz⟩:=I.list hq;have hlen:=r'.length;obtain⟨o,ho,hc,n,hd⟩:=pl.isList;exact call_list_seq p (.inl rfl) ho hc hd (fun h' c' kp e=>fin its r' hz h' c' kp e) (by simp only[JU]<;>omega)
 ·obtain⟨its,r',pl,hz⟩:=I.tuple hq;have hlen:=r'.length;obtain⟨o,ho,hc,n,hd⟩:=pl;exact call_list_seq p (.inr rfl) ho hc hd (fun h' c' kp e=>fin its r' hz h' c' kp e) (by simp only[JU]<;>omega)
noncomputable def tyV(K:JH)(T:String)(x:V)(H:Hp):Prop:=match x with
 |.str _=>T = "str"
 |.int _=>T = "int"
 |.ref p=>(T = "list"/\∃ xs,SqL K H p xs)∨(T = "tuple"/\∃ o,K.lookup p=some o/\o.cls=.type "tuple"/\o.dict=none) ∨
   (T = "dict"/\((∃ kvs,H p=some (.dK kvs))∨∃ kvs,H p=some (.dT kvs)))∨(T = "set"/\∃ S n,H p=some (.set S n))
 |_=>False
theorem Gz{pins:List (Addr×Obj)}{σ:St}{H:Hp}{s:Shared}{T:String}{x:V}{v:Value}(I:Inv X pins σ H s)(r:RelV x v)(ty:tyV X.K T x H) :
  s.TypeIs v T/\∀ a,v=.ref a->∃ ob,s.heap.get? a=some ob/\ob.dict=none:=by
 cases x with
 |str z =>
  obtain⟨t,rfl⟩:=r
  cases (show T = "str" from ty)
  exact⟨typeIs_str s z t,fun _ e=>nomatch e⟩
 |int i =>
  obtain⟨t,rfl⟩:=r
  cases (show T = "int" from ty)
  exact⟨typeIs_int s i t,fun _ e=>nomatch e⟩
 |ref p =>
  cases r
  rcases ty with⟨rfl,xs,hq⟩ | ⟨rfl,o,hk,hc,hd⟩ | ⟨rfl,hk⟩ | ⟨rfl,S,n,hk⟩
  ·obtain⟨its,_,pl,_⟩:=I.list hq;refine⟨pl.isList.typeIs,fun a e=>?_⟩
   cases e
   obtain⟨o,n,e,c,hd,_⟩:=pl;exact⟨o,e,hd⟩
  ·refine⟨⟨o,I.kIn p o hk,hc⟩,fun a e=>?_⟩
   cases e
   exact⟨o,I.kIn _ o hk,hd⟩
  ·have z:∃ o,s.heap.get? p=some o/\o.ExactDict:=by
    rcases hk with⟨kvs,hk⟩ | ⟨kvs,hk⟩
    ·obtain⟨_,_,_,_,o,_,_,e,ex,_⟩:=I.hok p _ hk;exact⟨o,e,ex⟩
    ·obtain⟨_,_,_,_,o,_,_,e,ex,_⟩:=I.hok p _ hk;exact⟨o,e,ex⟩
   obtain⟨o,e,ex⟩:=z;refine⟨⟨o,e,ex.1⟩,fun a e2=>?_⟩
   cases e2
   exact⟨o,e,ex.2.1⟩
  ·obtain⟨o,_,_,_,e,ex,_⟩:=I.hok p _ hk;refine⟨⟨o,e,ex.1⟩,fun a e2=>?_⟩
   cases e2
   exact⟨o,e,ex.2.1⟩
 |_=>exact False.elim ty
noncomputable def tBM0(K:JH)(T:String)(r:V->List V->Hp->VK->Prop)(to:TE):TE:=fun σ H Q=>to σ H fun x H1=>tyV K T x H1/\r x [] H1 Q
noncomputable def tBM(K:JH)(T:String)(r:V->List V->Hp->VK->Prop)(to:TE)(t:TA):TE:=fun σ H Q=>to σ H fun x H1=>tyV K T x H1/\t σ H1 fun xs H2=>r x xs H2 Q
variable{o e:Expr}{es:List Expr}{to:TE}{t:TA}{name:Str}{apos cpos:Pos}{T id:String}{r:V->List V->Hp->VK->Prop}
theorem pe_bm0(pa:PlainAttrs T)(slot:Slot T name id) (hty:typeOf (.builtin id)=pure (.type "method_descriptor")) (hm:MtR X id r) (ho:PE X o to)
  (hbase:attributeBase o name X.env (eval o X.env)=eval o X.env:=by rfl) (hline:(apos.endLine == cpos.line)=true:=by rfl):PE X (.Call (.Attribute o name apos) [] [] cpos) (tBM0 X.K T r to):=by
 intro pins s σ H Q I h;refine wpAny_Call_method0_late hbase hline (thn (ho pins s σ H _ I h) fun v s1 ⟨x,H1,I1,r1,ty,q1⟩=>?_);obtain⟨h1,h2⟩:=Gz I1 r1 ty;exact⟨T,id,pa,slot,hty,h1,h2,Calls.callWith_builtin rfl (PySem.evalArgs_none (hm pins s1 σ H1 x [] v [] Q I1 r1 .nil q1))⟩
theorem qj(pa:PlainAttrs T)(slot:Slot T name id) (hty:typeOf (.builtin id)=pure (.type "method_descriptor")) (hm:MtR X id r) (ho:PE X o to) (ha:PA X (e::es) t)
  (hbase:attributeBase o name X.env (eval o X.env)=eval o X.env:=by rfl)
  (hfew:((backTo cpos (starEach (e::es) X.env)).all (fun x=>!x.1)&&(backToKw cpos (keywordEach [] X.env)).all (fun x=>x.1.isSome)
   && decide ((e::es).length+([]:List Keyword).length+(if([]:List Keyword).isEmpty then 0 else 1)<30))=true:=by rfl)
  (hline:(apos.endLine == cpos.line)=true:=by rfl) (hs:starEach (e::es) X.env=(false,eval e X.env)::starEach es X.env:=by rfl) (hplain:(backTo cpos (starEach es X.env)).any (·.1)=false:=by rfl) :
  PE X (.Call (.Attribute o name apos) (e::es) [] cpos) (tBM X.K T r to t):=by
 intro pins s σ H Q I h;refine wpAny_Call_method_late hbase hfew hline rfl (thn (ho pins s σ H _ I h) fun v s1 ⟨x,H1,I1,r1,ty,q1⟩=>?_);obtain⟨h1,h2⟩:=Gz I1 r1 ty;refine⟨T,id,pa,slot,hty,h1,h2,?_⟩;have hA:=ha cpos pins s1 σ H1 _ I1 q1;rw[hs]at hA ⊢;refine Calls.callWith_builtin (by show(false||(backTo cpos (starEach es X.env)).any (·.1))=false;rw[hplain]<;>rfl) (Calls.evalArgs_plain ?_)
 exact thn hA fun us s2 ⟨vs,H2,I2,r2,q2⟩=>hm pins s2 σ H2 x vs v us Q I2 r1 r2 q2
end
noncomputable def MtM(X:Cx)(id:String)(r:V->List V->Hp->VK->Prop):Prop :=
 ∀(pins:List (Addr×Obj))(s:Shared)(σ:St)(H:Hp)(x:V)(xs:List V)(v:Value)(us:List Value)(Q:VK),Inv X pins σ H s->RelV x v->Vals xs us->r x xs H Q ->
  wpAny (model X.prog X.w) X.A (call (.builtin id) (v::us)) (EP X pins σ Q) X.xe s
theorem Vals.one:∀{x:V}{us:List Value},Vals [x] us->∃ u,us = [u]/\RelV x u
 |_,_,.cons r .nil=>⟨_,rfl,r⟩
theorem Vals.two:∀{x y:V}{us:List Value},Vals [x,y] us->∃ u v,us = [u,v]/\RelV x u/\RelV y v
 |_,_,_,.cons r (.cons q .nil)=>⟨_,_,rfl,r,q⟩
theorem Vals.zero:∀{us:List Value},Vals [] us->us = []
 |_,.nil=>rfl
theorem Vals.reverse{xs:List V}{us:List Value}(h:Vals xs us):Vals xs.reverse us.reverse:=by
 induction h with
 |nil=>exact .nil
 |cons r t ih=>rw[List.reverse_cons,List.reverse_cons];exact Vals.append ih (.cons r .nil)
section
variable{X:Cx}{pins:List (Addr×Obj)}{σ:St}{H:Hp}{s:Shared}{l b:Addr}{xs ys zs:List V}
theorem Inv.lset{its its':List Value}{n:Nat}{f:Array Value->Array Value}{t':Nat}(I:Inv X pins σ H s)(hH:H l=some (.lst xs))
  (e:s.heap.get? l=some { cls:=.type "list",data:=.seq its.toArray n }) (hf:f its.toArray=its'.toArray) (hv:Vals ys its') (hz:ys.length<=sizeLine) :
  Inv X pins σ (upd H l (.lst ys)) { s with heap:=s.heap.update l (Obj.mapSeq f),toks:=t' }:=by
 have q:=PySem.IsL.update e f;rw[hf]at q;refine I.write (x:=l) (e:=l) (by rw[hH];exact trivial) (.inl rfl) (fun b' u hb hu=>(Heap.get?_update_other s.heap (Obj.mapSeq f) (Ne.symm hb)).trans hu) ⟨_,q⟩ ?_
 exact⟨hz,its',_,hv,q⟩
theorem Inv.lnew{its:List Value}{t':Nat}(I:Inv X pins σ H s)(hv:Vals ys its)(hz:ys.length<=sizeLine) :
  Inv X pins σ (upd H s.heap.objs.size (.lst ys)) { s with heap:=s.heap.push { cls:=.type "list",data:=.seq its.toArray },toks:=t' } :=
 I.laid (fun _ _ q=>Heap.get?_push_of_some _ q) (JF _) ⟨hz,its,0,hv,Heap.get?_push_size _ rfl⟩
theorem Inv.fresh(I:Inv X pins σ H s):H s.heap.objs.size=none:=I.hok.fresh (JF _)
theorem Inv.lstM(I:Inv X pins σ H s)(hH:H l=some (.lst xs)):xs.length<=sizeLine/\∃(its:List Value)(n:Nat),Vals xs its/\xs.length=its.length/\s.heap.get? l=some { cls:=.type "list",data:=.seq its.toArray n }:=by
 obtain⟨z,its,n,r,e⟩:=I.hok l _ hH;exact⟨z,its,n,r,r.length,e⟩
theorem Fq{n:Nat}(h:n<=sizeLine):Builtin.List.listTooLong n=false:=by
 unfold Builtin.List.listTooLong;exact decide_eq_false (by omega)
end
section
variable{X:Cx}
noncomputable def Ie:V->List V->Hp->VK->Prop:=fun x vs H Q=>∃ l xs y,x=.ref l/\vs = [y]/\H l=some (.lst xs)/\xs.length<sizeLine/\Q .non (upd H l (.lst (xs++[y])))
theorem dB:MtM X "list.append" Ie:=by
 intro pins s σ H x vs v us Q I rx rv h;obtain⟨l,xs,y,rfl,rfl,hH,hz,q⟩:=h
 cases rx
 obtain⟨u,rfl,ru⟩:=rv.one;obtain⟨z,its,n,r,hl,e⟩:=I.lstM hH;refine call_meets F.slot_list_append ⟨_,e,rfl⟩ F.entry_list_append (F.args_list_append_2 _ _) (PySem.list_append l its.toArray n u (by rw[JU];omega)) ⟨e,?_⟩
 refine⟨.non,_,I.lset (its':=its++[u]) hH e (by simp) (r.append (.cons ru .nil)) ?_,rfl,q⟩
 rw[JN,Lc];omega
noncomputable def Ic:V->List V->Hp->VK->Prop:=fun x vs H Q=>∃ l b xs zs,x=.ref l/\vs = [.ref b]/\H l=some (.lst xs)/\H b=some (.lst zs)/\xs.length+zs.length<=sizeLine/\Q .non (upd H l (.lst (xs++zs)))
theorem B0:MtM X "list.extend" Ic:=by
 intro pins s σ H x vs v us Q I rx rv h;obtain⟨l,b,xs,zs,rfl,rfl,hH,hB,hz,q⟩:=h
 cases rx
 obtain⟨u,rfl,ru⟩:=rv.one
 cases ru
 obtain⟨z,its,n,r,hl,e⟩:=I.lstM hH;obtain⟨z2,its2,n2,r2,hl2,e2⟩:=I.lstM hB;have hsz:its.toArray.size+its2.toArray.size<=sizeLine:=by rw[JU,JU];omega
 have hlong:¬ (!its.toArray.isEmpty&&Builtin.List.listTooLong (its.toArray.size+its2.toArray.size))=true:=by
  rw[Fq hsz,Nq];exact Kb
 refine call_meets F.slot_list_extend ⟨_,e,rfl⟩ F.entry_list_extend (F.args_list_extend_2 _ _)
  (AutoSeq1.list_extend_list_list_0 l its.toArray n b its2.toArray n2 hlong (by rw[JU];omega) (by omega)) ⟨e,e2,?_⟩
 refine⟨.non,_,I.lset (its':=its++its2) hH e (by simp) (r.append r2) ?_,rfl,q⟩
 rw[JN];omega
end
section
variable{prog:Program}{w:World}{A:Around}{E:Value->Shared->Prop}{s:Shared}
end
section
variable{X:Cx}
end
end L2
namespace Att
open PySem PySem.W PySem.Calls PyProof.Rows
theorem m7{P:Params}{h:Heap}:∀(ns:List Int)(vs:List Value),WellAll P h vs (ns.map WData.int)->IntsAre vs ns:=by
 intro ns;induction ns with
 |nil =>
  intro vs w;rw[List.map_nil]at w
  cases w
  exact .nil
 |cons n ns ih =>
  intro vs w;rw[JQ]at w
  cases w with
  |cons a b =>
   cases a
   exact .cons _ _ (ih _ b)
theorem Bi{l:OpenLaw}{n:Nat}(hn:l.most=some n){P:Params}{h:Heap}{args:List WData}{vals:List Value}
  (hpre:l.row.toRowW.claim.pre args=true) (hwl:WellAll P h vals args) :
  ∃ a vs ns,vals = [Value.ref a]/\args = [WData.list (ns.map WData.int)]/\h.get? a=some { cls:=.type "list",data:=.seq vs.toArray }/\IntsAre vs ns/\ns.length<=n:=by
 have hsh:WShape.hasAll [] args [.list .int]=true:=(pre_splitW hpre).1;have hc:l.pre.holds [] { args:=args }=true:=(pre_splitW hpre).2;obtain⟨d,r,rfl,h1,h2⟩:=hasAllW_cons hsh;obtain rfl:=hasAllW_nil h2;obtain⟨xs,rfl,h3⟩:=hasW_list h1;obtain⟨ns,rfl⟩:=items_int h3;have hlen:ns.length<=n:=by
  unfold OpenLaw.pre at hc;have h4:(WTm.not (.lt (.lit (.int (n:Int))) (.len (.arg 0)))).holds [] { args:=[.list (ns.map .int)] }=true:=by
   have h4:=(holds_andW hc).1;rw[hn]at h4;exact h4
  have h5:=condW_of h4 (w_not (w_lt w_lit (w_len_list (w_arg rfl))));rw[JC]at h5;refine MD fun q=>?_;have q':(n:Int)<((ns.length:Nat):Int):=by omega
  first
   | (rw[decide_eq_true q']at h5;exact absurd h5 (by decide))
   | (simp at h5;omega)
 cases hwl with
 |cons w1 w2 =>
  cases w2
  cases w1 with
  |list ho hall=>exact⟨_,_,ns,rfl,rfl,ho,m7 ns _ hall,hlen⟩
theorem Bq(l:OpenLaw)(args:List WData):l.row.toRowW.claim.post args (.bool true) args=true :=
 postW_of (r:=l.row.toRowW) (X:=(true == true))
  (show WShape.has [] (.bool true) .bool=true by first | rfl | decide | simp[WShape.has,WShape.arms,WShape.armsAll])
  (show(WTm.eq .res (.lit (.bool true))).value [] { args:=args,res:=some (.bool true),after:=args }=some (.bool (true == true)) from w_eq_bool (w_res rfl) w_lit) rfl
theorem attach_call{l:OpenLaw}{n:Nat}{q:Program}{loose:List Str}{XP:(Str->Option Value)->Heap->Prop}{YP:World->Heap->Prop}{d:DefRec}
  (hn:l.most=some n) (hdf:d.params.defaults = [])
  (call:∀(w:World)(s₀ s₁:Shared)(mg mb:Str->Option Value)(fa:Addr)(o:Obj)(pm cd doc:Value)(a:Addr)(vs:List Value)(ns:List Int),
   Ground q loose [] XP w s₀ mg mb s₁.heap->YP w s₁.heap ->
   s₁.heap.get? fa=some o->o.data=.func (docDef d.name d.params d.body d.scope pm cd doc)->s₁.heap.CodeRec cd d.name->mg d.name=some (.ref fa) ->
   s₁.heap.get? a=some { cls:=.type "list",data:=.seq vs.toArray }->IntsAre vs ns->ns.length<=n->s₁.gens=#[] ->
   codeAny (model l.prog w) callerA (.call (.ref fa) ⟨[.ref a],[]⟩) (fun r s'=>r=.ok (.ret (.bool true))/\OldK s₁.heap s'.heap/\s'.os=s₁.os/\AllBare s'.gens) s₁) :
  WalkO q loose XP YP l.row.toRowW d [] (fun f vs=>PySem.call f vs):=by
 intro w s₀ s₁ mg mb G Y fa o pm cd doc dV kV ho hd hcd hD hmg hg args vals as hpre hlay hrd hwl hlo;obtain rfl:dV=.none:=Dflts.none hD hdf;obtain rfl:kV=.none:=Dflts.noKw hD;obtain⟨a,vs,ns,rfl,rfl,hobj,hints,hlen⟩:=Bi hn hpre hwl;refine enter_call (codeAny_mono (call w s₀ s₁ mg mb fa o pm cd doc a vs ns G Y ho (fd_plain hd) hcd hmg hobj hints hlen hg) fun r s' hq=>?_);obtain⟨rfl,h2,h3,h4⟩:=hq;exact⟨.inl ⟨.bool true,.bool true,[],rfl,fun _=>rfl,.bool true,Bq l _,fun _=>⟨My,fun _ hm=>(nomatch hm)⟩⟩,h2,h3,h4⟩
section
variable{prog:Program}{w:World}{A:Around}{E:Value->Shared->Prop}{s:Shared}{K:Frag}
end
end Att
namespace L2
open PySem PySem.Spec PyProof.Rows
theorem rM:∀{vs:List Value}{ns:List Int},IntsAre vs ns->Vals (ns.map V.int) vs
 |_,_,.nil=>.nil
 |_,_,.cons n t h=>.cons ⟨t,rfl⟩ (rM h)
noncomputable def aA(s:Stmt):Arguments:=match s with
 |.FunctionDef _ a _ _ _ _ _ _ _ _=>a
 |_=>{ posonlyargs:=[],args:=[],vararg:=none,kwonlyargs:=[],kw_defaults:=[],kwarg:=none,defaults:=[] }
noncomputable def ay(s:Stmt):List Stmt:=match s with
 |.FunctionDef _ _ b _ _ _ _ _ _ _=>b
 |_=>[]
noncomputable def ai(s:Stmt):Scope:=match s with
 |.FunctionDef _ _ _ _ _ _ sc _ _ _=>sc
 |_=>{ kind:=.function,names:=[],isGenerator:=false,isCoroutine:=false }
noncomputable abbrev CX0:CXT:=fun _ _ _ _ _ _=>False
noncomputable abbrev E0:XK:=fun _ _ _=>False
theorem aR{X:Cx}:yD CX0 X E0:=fun _ _ _ _ _ _ _ h=>h.elim
structure Fun(K:JH)(x qual:Str)(st:Stmt)(f:Addr)(fd:FuncData):Prop where
 ex:∃(oc:Value)(od:Option Addr)(kV doc pm:Value)(an:Option Addr)(cdv ct:Value)(osl:Array (Option Value)),
  fd=Kh x qual (aA st) (ay st) (ai st) .none kV doc pm an cdv ct/\K.lookup f=some ⟨oc,od,.func fd,osl⟩/\Kd K cdv qual=true
 kp:JX K (.ref f)=true
section
variable{P:Program}{w:World}{K:JH}{mg:Str->Option Value}{base:Heap}
theorem Fun.ok{x qual:Str}{st:Stmt}{f:Addr}{fd:FuncData}{N ps:List Str}{k:Nat}{sp:Sp}(F:Fun K x qual st f fd)(S:aD N ps (ai st))(len:∀ vs H Q E,sp vs H Q E->vs.length=ps.length)
  (hbody:∀(cdv:Value)(A:Around)(outer:List Env)(s:Shared)(H:Hp)(vs:List V)(Q:VK)(E:XK),Room k (A.deeper (envOfC qual (ai st) s.heap.objs.size f cdv))->sp vs H Q E ->
   ∃ t,PSs (cxOf CX0 P w K mg base N qual (ai st) f cdv A outer s H E).nox (ay st) t/\t { nx:=fun _ H'=>Q .non H',rt:=Q } (pU N vs) H):FnOk P w K mg base CX0 (k+1) f fd ps sp:=by
 obtain⟨oc,od,kV,doc,pm,an,cdv,ct,osl,rfl,lk,hcd⟩:=F.ex;refine fn_of lk hcd S len fun A outer s H vs Q E hr hsp=>?_;obtain⟨t,h,q⟩:=hbody cdv A outer s H vs Q E hr hsp;exact⟨t,h.nox,q⟩
theorem Fun.binds{x qual:Str}{st:Stmt}{f:Addr}{fd:FuncData}{ps:List Str}(F:Fun K x qual st f fd)
  (h:∀(kV doc pm:Value)(an:Option Addr)(cdv ct:Value)(us:List Value),us.length=ps.length->bindArgs (Kh x qual (aA st) (ay st) (ai st) .none kV doc pm an cdv ct) ⟨us,[]⟩=pure (ps.zip us)):uJ K fd ps []:=by
 obtain⟨oc,od,kV,doc,pm,an,cdv,ct,osl,rfl,lk,hcd⟩:=F.ex;exact .all (h kV doc pm an cdv ct)
theorem aU{x qual:Str}{st:Stmt}{f:Addr}{oc:Value}{od an:Option Addr}{osl:Array (Option Value)}{kV doc pm cdv ct:Value}(l:K.lookup f=some ⟨oc,od,.func (Kh x qual (aA st) (ay st) (ai st) .none kV doc pm an cdv ct),osl⟩)
  (c:Kd K cdv qual=true) (k:JX K (.ref f)=true):Fun K x qual st f (Kh x qual (aA st) (ay st) (ai st) .none kV doc pm an cdv ct):=⟨⟨oc,od,kV,doc,pm,an,cdv,ct,osl,rfl,l,c⟩,k⟩
end
theorem CO{A:Around}{k:Nat}(hr:Room k A):A.units+1<cLine:=MQ (Nat.add_le_add_left (by decide:1<=64) _) hr.units
theorem ax{n:Nat}(h:n<=1000):n<sizeLine:=MQ h (by decide)
section
variable{X:Cx}
theorem pv(i:Nat){x:Str}{pos:Pos}(hN:X.N[i]?=some x:=by rfl)(hv:Vis X.env.scope x:=by first | exact Or.inl rfl | exact Or.inr (Or.inl rfl) | exact Or.inr (Or.inr rfl)) (hd:(x == ("__debug__" : Str))=false:=by decide)
  (hcd:(x == ("__classdict__" : Str))=false:=by decide):PE X (.Name x pos) (tVar i):=pe_var hN hv hd hcd
end
theorem iteF{A B:Prop}(h:B):if false=true then A else B:=by
 rw[if_neg Kb];exact h
theorem iteT{A B:Prop}(h:A):if true=true then A else B:=by
 rw[if_pos rfl];exact h
theorem ite2{c A B:Prop} [Decidable c] (h1:c->A) (h2:¬ c->B):if c then A else B:=by
 by_cases h:c
 ·rw[if_pos h];exact h1 h
 ·rw[if_neg h];exact h2 h
theorem FO{c A B:Prop} [Decidable c] (hc:c) (h:B):if(!decide c)=true then A else B:=by
 rw[decide_eq_true hc];exact iteF h
noncomputable def Same(H H':Hp):Prop:=∀ b o,H b=some o->H' b=some o
theorem Same.trans{H H1 H2:Hp}(a:Same H H1)(b:Same H1 H2):Same H H2:=fun c o h=>b c o (a c o h)
theorem Same.seq{K:JH}{H H':Hp}{a:Addr}{xs:List V}(e:Same H H')(h:SqL K H a xs):SqL K H' a xs:=by
 rcases h with(h | ⟨o,h⟩) | h
 ·exact .inl (.inl (e _ _ h))
 ·exact .inl (.inr ⟨o,e _ _ h⟩)
 ·exact .inr h
end L2
set_option maxRecDepth 100000
set_option maxHeartbeats 4000000
namespace L2
open PySem PySem.Spec PyProof.Rows
section
variable{κ:Type} [DecidableEq κ]
noncomputable def valV(kvs:List (κ×V))(k:κ):Option V:=(kvs.find? fun kv=>decide (kv.1=k)).map (·.2)
noncomputable def putK(kvs:List (κ×V))(k:κ)(v:V):List (κ×V) :=
 if(kvs.any fun kv=>decide (kv.1=k))=true then kvs.map (fun kv=>if kv.1=k then(kv.1,v) else kv) else kvs++[(k,v)]
noncomputable def lr(kvs:List (κ×V))(k:κ):List (κ×V):=kvs.filter fun kv=>decide (kv.1≠k)
theorem a9{p:κ×V}{r:List (κ×V)}{k:κ}(e:p.1=k):valV (p::r) k=some p.2:=by simp[valV,L7,e]
theorem bg{p:κ×V}{r:List (κ×V)}{k:κ}(e:¬ p.1=k):valV (p::r) k=valV r k:=by simp[valV,L7,e]
theorem eY(k:κ):∀ kvs:List (κ×V),(kvs.any fun kv=>decide (kv.1=k))=(valV kvs k).isSome
 |[]=>rfl
 |p::r=>by
  rw[N7];by_cases e:p.1=k
  ·simp only[a9 e,decide_eq_true e,Bool.true_or,Option.isSome_some]
  ·rw[bg e,decide_eq_false e,Bool.false_or];exact eY k r
theorem xI(k j:κ)(y:V):∀ kvs:List (κ×V),valV (kvs.map fun kv=>if kv.1=k then(kv.1,y) else kv) j=(valV kvs j).map fun x=>if j=k then y else x
 |[]=>rfl
 |p::r=>by
  have ih:=xI k j y r;rw[JQ];by_cases h:p.1=k
  ·rw[if_pos h];by_cases e:p.1=j
   ·rw[a9 (p:=(p.1,y)) e,a9 e,Nc,if_pos (e.symm.trans h)]
   ·rw[bg (p:=(p.1,y)) e,bg e,ih]
  ·rw[if_neg h];by_cases e:p.1=j
   ·rw[a9 (p:=p) e,a9 e,Nc,if_neg (fun z=>h (e.trans z))]
   ·rw[bg (p:=p) e,bg e,ih]
theorem rN(k j:κ)(y:V):∀ kvs:List (κ×V),valV kvs k=none->valV (kvs++[(k,y)]) j=if j=k then some y else valV kvs j
 |[],_=>by
  by_cases e:k=j
  ·rw[if_pos e.symm];exact a9 (p:=(k,y)) e
  ·rw[if_neg (fun z=>e z.symm)];exact bg (p:=(k,y)) e
 |p::r,hn=>by
  rw[List.cons_append];have hk:¬ p.1=k:=fun z=>by rw[a9 z]at hn;cases hn
  rw[bg hk]at hn;have ih:=rN k j y r hn;by_cases e:p.1=j
  ·rw[a9 e,a9 e,if_neg (fun z=>hk (e.trans z))]
  ·rw[bg e,bg e,ih]
theorem lF(kvs:List (κ×V))(k j:κ)(y:V):valV (putK kvs k y) j=if j=k then some y else valV kvs j:=by
 unfold putK;by_cases a:(kvs.any fun kv=>decide (kv.1=k))=true
 ·rw[if_pos a,xI];rw[eY]at a;by_cases e:j=k
  ·obtain⟨x,hx⟩:=NX.mp a;rw[if_pos e,e,hx,Nc,if_pos rfl]
  ·rw[if_neg e]
   cases valV kvs j with
   |none=>rfl
   |some x=>rw[Nc,if_neg e]
 ·rw[if_neg a];refine rN k j y kvs ?_;rw[eY]at a
  cases q:valV kvs k with
  |none=>rfl
  |some x=>rw[q]at a;exact(a rfl).elim
theorem iM(kvs:List (κ×V))(k:κ)(v:V):(putK kvs k v).length<=kvs.length+1:=by
 unfold putK;split
 ·rw[JC];omega
 ·rw[JN,Ke,LY];omega
theorem xT{kvs:List (κ×V)}{k:κ}(v:V)(h:valV kvs k=none):putK kvs k v=kvs++[(k,v)]:=by
 unfold putK;rw[eY,h];exact if_neg (by decide)
theorem RelO.isSome_eq{o:Option V}{u:Option Value}(r:RelO o u):o.isSome=u.isSome:=by
 cases o with
 |none=>cases u with
  |none=>rfl
  |some _=>exact(show False from r).elim
 |some _=>cases u with
  |none=>exact(show False from r).elim
  |some _=>rfl
theorem RelO.getD{o:Option V}{u:Option Value}{d:V}{d':Value}(r:RelO o u)(rd:RelV d d'):RelV (o.getD d) (u.getD d'):=by
 cases o with
 |none=>cases u with
  |none=>exact rd
  |some _=>exact(show False from r).elim
 |some _=>cases u with
  |none=>exact(show False from r).elim
  |some _=>exact r
theorem KV.val{kvs:List (κ×V)}{vs:List (κ×Value)}(r:KV kvs vs)(k:κ):RelO (valV kvs k) (valueAt vs k):=by
 unfold KV at r;induction r with
 |nil=>exact True.intro
 | @cons p q ps qs h t ih =>
  obtain⟨h1,h2⟩:=h;by_cases e:p.1=k
  ·have e':q.1=k:=h1.symm.trans e
   have b:valueAt (q::qs) k=some q.2:=by simp[valueAt,L7,e']
   rw[a9 e,b];exact h2
  ·have e':¬ q.1=k:=fun z=>e (h1.trans z)
   have b:valueAt (q::qs) k=valueAt qs k:=by simp[valueAt,L7,e']
   rw[bg e,b];exact ih
theorem KV.any{kvs:List (κ×V)}{vs:List (κ×Value)}(r:KV kvs vs)(k:κ):(kvs.any fun kv=>decide (kv.1=k))=vs.any fun kv=>decide (kv.1=k):=by
 unfold KV at r;induction r with
 |nil=>rfl
 |cons h t ih=>rw[N7,N7,ih,h.1]
theorem KV.repl{kvs:List (κ×V)}{vs:List (κ×Value)}(r:KV kvs vs)(k:κ){y:V}{u:Value}(ry:RelV y u) :
  KV (kvs.map fun kv=>if kv.1=k then(kv.1,y) else kv) (vs.map fun kv=>if kv.1=k then(kv.1,u) else kv):=by
 unfold KV at r ⊢;induction r with
 |nil=>exact .nil
 | @cons p q ps qs h t ih =>
  rw[JQ,JQ];refine .cons ?_ ih;obtain⟨h1,h2⟩:=h;by_cases e:p.1=k
  ·rw[if_pos e,if_pos (h1.symm.trans e)];exact⟨h1,ry⟩
  ·rw[if_neg e,if_neg (fun z=>e (h1.trans z))];exact⟨h1,h2⟩
theorem KV.put{kvs:List (κ×V)}{vs:List (κ×Value)}(r:KV kvs vs)(k:κ){y:V}{u:Value}(ry:RelV y u):KV (putK kvs k y) (stored vs k u):=by
 unfold putK stored;rw[r.any k];by_cases e:(vs.any fun kv=>decide (kv.1=k))=true
 ·rw[if_pos e,if_pos e];exact r.repl k ry
 ·rw[if_neg e,if_neg e];exact Paired.snoc r ⟨rfl,ry⟩
theorem KV.drop{kvs:List (κ×V)}{vs:List (κ×Value)}(r:KV kvs vs)(k:κ):KV (lr kvs k) (without vs k):=by
 unfold KV at r ⊢;unfold lr without;induction r with
 |nil=>exact .nil
 | @cons p q ps qs h t ih =>
  obtain⟨h1,h2⟩:=h;rw[Lv,Lv];by_cases e:p.1=k
  ·have a:¬ decide (p.1≠k)=true:=by simp[e]
   have b:¬ decide (q.1≠k)=true:=by simp[h1.symm.trans e]
   rw[if_neg a,if_neg b];exact ih
  ·have e':¬ q.1=k:=fun z=>e (h1.trans z)
   have a:decide (p.1≠k)=true:=by simp[e]
   have b:decide (q.1≠k)=true:=by simp[e']
   rw[if_pos a,if_pos b];exact .cons ⟨h1,h2⟩ ih
theorem KV.length{kvs:List (κ×V)}{vs:List (κ×Value)}(r:KV kvs vs):kvs.length=vs.length:=Paired.length r
theorem F3(kvs:List (κ×V))(k:κ):(lr kvs k).length<=kvs.length:=L6 _ _
end
theorem wq{P:Program}{w:World}{k:Key}{u:Value}(r:RelV (kV k) u):(bh P w).is k u=true:=by
 cases k with
 |inl i=>obtain⟨t,e⟩:=(show ∃ t,u=Value.int i t from r);subst e;exact vL P w i t
 |inr x=>obtain⟨t,e⟩:=(show ∃ t,u=Value.str x t from r);subst e;exact vK P w x t
theorem tG{P:Program}{w:World}:∀{ks:List Key}{us:List Value},Vals (ks.map kV) us->ItemsAre (bh P w) ks us
 |[],_,r=>by rw[List.map_nil]at r;cases r;exact .nil
 |k::ks,_,r=>by
  rw[JQ]at r
  cases r with
  |cons h t=>exact .cons (wq h) (tG t)
noncomputable abbrev KT(H:Hp):List (List Key×V)->List (List Key×Addr×Value)->Prop:=Paired fun p q=>p.1=q.1/\H q.2.1=some (.tup (p.1.map kV))/\RelV p.2 q.2.2
theorem KT.val{H:Hp}{kvs:List (List Key×V)}{xs:List (List Key×Addr×Value)}(r:KT H kvs xs)(k:List Key):RelO (valV kvs k) ((atKey xs k).map (·.2)):=by
 induction r with
 |nil=>exact True.intro
 | @cons p q ps qs h t ih =>
  obtain⟨h1,_,h2⟩:=h;by_cases e:p.1=k
  ·have e':q.1=k:=h1.symm.trans e
   have b:atKey (q::qs) k=some q.2:=by simp[atKey,L7,e']
   rw[a9 e,b];exact h2
  ·have e':¬ q.1=k:=fun z=>e (h1.trans z)
   have b:atKey (q::qs) k=atKey qs k:=by simp[atKey,L7,e']
   rw[bg e,b];exact ih
theorem KT.repl{H:Hp}{kvs:List (List Key×V)}{xs:List (List Key×Addr×Value)}(r:KT H kvs xs)(k:List Key){y:V}{u:Value}(ry:RelV y u) :
  KT H (kvs.map fun kv=>if kv.1=k then(kv.1,y) else kv) (xs.map (putAt k u)):=by
 induction r with
 |nil=>exact .nil
 | @cons p q ps qs h t ih =>
  rw[JQ,JQ];refine .cons ?_ ih;obtain⟨h1,h2,h3⟩:=h;unfold putAt;by_cases e:p.1=k
  ·rw[if_pos e,if_pos (h1.symm.trans e)];exact⟨h1,h2,ry⟩
  ·rw[if_neg e,if_neg (fun z=>e (h1.trans z))];exact⟨h1,h2,h3⟩
theorem KT.put{H:Hp}{kvs:List (List Key×V)}{xs:List (List Key×Addr×Value)}(r:KT H kvs xs)(k:List Key){b:Addr}{y:V}{u:Value}(hb:H b=some (.tup (k.map kV)))(ry:RelV y u) :
  KT H (putK kvs k y) (storedH xs k b u):=by
 have e:(kvs.any fun kv=>decide (kv.1=k))=(atKey xs k).isSome:=by
  rw[eY,(r.val k).isSome_eq,Option.isSome_map]
 unfold putK storedH;rw[e];by_cases q:(atKey xs k).isSome=true
 ·rw[if_pos q,if_pos q];exact r.repl k ry
 ·rw[if_neg q,if_neg q];exact Paired.snoc r ⟨rfl,hb,ry⟩
theorem KT.keeps{H H':Hp}{kvs:List (List Key×V)}{xs:List (List Key×Addr×Value)}(r:KT H kvs xs)(ht:∀ b ys,H b=some (.tup ys)->H' b=some (.tup ys)):KT H' kvs xs :=
 Paired.mapP r fun _ _ z=>⟨z.1,ht _ _ z.2.1,z.2.2⟩
section
variable{P:Program}{w:World}{H:Hp}{h:Heap}{a:Addr}
theorem rd_of{u:HO}(ok:HOk P w H h)(e:Rd H a u):bf P w H h a u:=e.ok ok
theorem z7{kvs:List (Key×V)}(ok:HOk P w H h)(e:Rd H a (.dK kvs)):kvs.length<=sizeLine/\(a == sysModules)=false/\∃ vs,KV kvs vs/\h.DictOf (bh P w) a vs :=
 show bf P w H h a (.dK kvs) from rd_of ok e
theorem z8{kvs:List (Key×V)}(ok:HOk P w H h)(e:H a=some (.dK kvs)):kvs.length<=sizeLine/\(a == sysModules)=false/\∃ vs,KV kvs vs/\h.DictOf (bh P w) a vs:=z7 ok (.inl e)
theorem sZ{ks:List Key}(ok:HOk P w H h)(e:H a=some (.tup (ks.map kV))):(tupleKind (bh P w)).is h ks a:=by
 obtain⟨_,its,r,o,h1,h2,n,h3⟩:=(show bf P w H h a (.tup (ks.map kV)) from ok a _ e);exact⟨o,its.toArray,n,h1,h2,h3,by simpa using tG r⟩
theorem z5{kvs:List (List Key×V)}(ok:HOk P w H h)(e:Rd H a (.dT kvs)):kvs.length<=sizeLine/\(a == sysModules)=false /\
  ∃ xs,KT H kvs xs/\h.DictOfH (tupleKind (bh P w)) a xs:=by
 obtain⟨z,y,xs,r,o,es,ep,h1,h2,h3,h4,h5⟩:=(show bf P w H h a (.dT kvs) from rd_of ok e);refine⟨z,y,xs,r,o,es,ep,h1,h2,h3,h4,fun x hx=>?_,h5⟩;have all:∀{l:List (List Key×V)}{m:List (List Key×Addr×Value)},KT H l m->∀ x∈m,(tupleKind (bh P w)).is h x.1 x.2.1:=by
  intro l m q;induction q with
  |nil=>intro x hx;exact nomatch hx
  | @cons p q ps qs hq t ih =>
   intro x hx;rcases JI.mp hx with e | hx
   ·subst e;exact sZ ok (by rw[← hq.1];exact hq.2.1)
   ·exact ih x hx
 exact all r x hx
theorem dt_of{kvs:List (List Key×V)}(ok:HOk P w H h)(e:H a=some (.dT kvs)):kvs.length<=sizeLine/\(a == sysModules)=false /\
  ∃ xs,KT H kvs xs/\h.DictOfH (tupleKind (bh P w)) a xs:=z5 ok (.inl e)
end
noncomputable def DGet(H:Hp)(a:Addr)(y:V)(r:Option V):Prop :=
 (∃ kvs k,Rd H a (.dK kvs)/\y=kV k/\r=valV kvs k)∨∃ kvs k b,Rd H a (.dT kvs)/\y=.ref b/\H b=some (.tup (k.map kV))/\r=valV kvs k
noncomputable def DPut(H:Hp)(a:Addr)(y v:V)(H':Hp):Prop :=
 (∃ kvs k,H a=some (.dK kvs)/\y=kV k/\kvs.length<sizeLine/\H'=upd H a (.dK (putK kvs k v))) ∨
 ∃ kvs k b,H a=some (.dT kvs)/\y=.ref b/\H b=some (.tup (k.map kV))/\kvs.length<sizeLine/\H'=upd H a (.dT (putK kvs k v))
theorem DGet.k{H:Hp}{a:Addr}{kvs:List (Key×V)}{k:Key}(e:H a=some (.dK kvs)):DGet H a (kV k) (valV kvs k):=.inl ⟨kvs,k,.inl e,rfl,rfl⟩
theorem DPut.k{H:Hp}{a:Addr}{kvs:List (Key×V)}{k:Key}{v:V}(e:H a=some (.dK kvs))(hl:kvs.length<sizeLine):DPut H a (kV k) v (upd H a (.dK (putK kvs k v))):=.inl ⟨kvs,k,e,rfl,hl,rfl⟩
section
variable{X:Cx}{pins:List (Addr×Obj)}{σ:St}{H:Hp}{s:Shared}{a:Addr}{y v:V}{u r:Value}{o:Option V}{A:Around}{E:Value->Shared->Prop}
theorem Inv.big(I:Inv X pins σ H s):sysModules<s.heap.objs.size:=by
 have h:mainGlobals<s.heap.objs.size:=(I.mod.glob.keeps I.bk).lt;exact LL (by decide) h
theorem Dt{Q:Value->Shared->Prop}(hu:A.units+1<cLine)(I:Inv X pins σ H s)(g:DGet H a y (some v))(ry:RelV y u)(h:∀ w' s',Inv X pins σ H s'->RelV v w'->Q w' s') :
  wpAny (model X.prog X.w) A (getItem (.ref a) u) Q E s:=by
 rcases g with⟨kvs,k,e,ey,l⟩ | ⟨kvs,k,b,e,ey,eb,l⟩
 ·subst ey;obtain⟨z,hd,vs,rel,dd⟩:=z7 I.hok e;obtain⟨w',hw,rw'⟩:=RelO.some_of (v:=v) (o:=valueAt vs k) (by rw[l];exact rel.val k)
  exact wpAny_getItem_of (wq ry) dd.mapOf hw (h w' _ (I.tok _) rw')
 ·subst ey
  cases (show u=Value.ref b from ry)
  obtain⟨z,hd,xs,rel,dd⟩:=z5 I.hok e;obtain⟨w',hw,rw'⟩:=RelO.some_of (v:=v) (o:=(atKey xs k).map (·.2)) (by rw[l];exact rel.val k)
  obtain⟨p,hp,hp2⟩:=Km.mp hw;refine wpAny_getItem_heap (tupleKind_room_in1 hu) (sZ I.hok eb) dd hp ?_;rw[hp2];exact h w' _ (I.tok _) rw'
theorem Jh{Q:Value->Shared->Prop}(hu:A.units+1<cLine)(I:Inv X pins σ H s)(g:DGet H a y o)(ry:RelV y u)(h:∀ s',Inv X pins σ H s'->Q (.bool (!o.isSome)) s') :
  wpAny (model X.prog X.w) A (compareOp .NotIn u (.ref a)) Q E s:=by
 rcases g with⟨kvs,k,e,ey,l⟩ | ⟨kvs,k,b,e,ey,eb,l⟩
 ·subst ey;obtain⟨z,hd,vs,rel,dd⟩:=z7 I.hok e;refine wpAny_notIn_of (wq ry) hd dd.mapOf ?_;rw[← (rel.val k).isSome_eq,← l];exact h _ (I.tok _)
 ·subst ey
  cases (show u=Value.ref b from ry)
  obtain⟨z,hd,xs,rel,dd⟩:=z5 I.hok e;refine wpAny_notIn_heap (tupleKind_room_in1 hu) (sZ I.hok eb) hd dd ?_;have q:=(rel.val k).isSome_eq;rw[Option.isSome_map]at q;rw[← q,← l];exact h _ (I.tok _)
theorem qU{h':Heap}{t':Nat}{ob:HO}(I:Inv X pins σ H s)(mu:Mut (H a))(hs:Heap.SameBut a s.heap h')(he:∃ q,h'.get? a=some q)(new:bf X.prog X.w (upd H a ob) h' a ob) :
  Inv X pins σ (upd H a ob) { s with heap:=h',toks:=t' } :=
 I.write (x:=a) (e:=a) mu (.inl rfl) (fun b q hb z=>(hs.2 b hb).trans z) he new
theorem Dg{P:Program}{w:World}{H':Hp}{h':Heap}{kvs:List (Key×V)}{vs:List (Key×Value)}(z:kvs.length<=sizeLine)(hd:(a == sysModules)=false)(rel:KV kvs vs)(dd:h'.DictOf (bh P w) a vs) :
  bf P w H' h' a (.dK kvs):=⟨z,hd,vs,rel,dd⟩
theorem Dr{H':Hp}{Q:Unit->Shared->Prop}(hu:A.units+1<cLine)(I:Inv X pins σ H s)(g:DPut H a y v H')(ry:RelV y u)(rv:RelV v r)(h:∀ s',Inv X pins σ H' s'->Q () s') :
  wpAny (model X.prog X.w) A (setItem (.ref a) u r) Q E s:=by
 rcases g with⟨kvs,k,e,ey,l,eH⟩ | ⟨kvs,k,b,e,ey,eb,l,eH⟩
 ·subst ey eH;obtain⟨z,hd,vs,rel,dd⟩:=z8 I.hok e;have hz:vs.length<=sizeLine:=by rw[← rel.length];exact z
  have hl:(putK kvs k v).length<=sizeLine:=by have:=iM kvs k v;omega
  refine wpAny_setItem_pairs (hsz:=hz) (wq ry) dd fun h' dd' hs=>h _ ?_;have he:∃ q,h'.get? a=some q:=let ⟨q,_,_,hq,_⟩:=dd';⟨q,hq⟩;exact qU I (by rw[e];exact True.intro) hs he (Dg hl hd (rel.put k rv) dd')
 ·subst ey eH
  cases (show u=Value.ref b from ry)
  obtain⟨z,hd,xs,rel,dd⟩:=dt_of I.hok e;have hz:xs.length<=sizeLine:=by rw[← Paired.length rel];exact z
  have hl:(putK kvs k v).length<=sizeLine:=by have:=iM kvs k v;omega
  refine wpAny_setItem_heap (hsz:=hz) (tupleKind_room_in1 hu) (sZ I.hok eb) dd fun h' dd' hs=>h _ ?_;obtain⟨q,es,ep,hq,h2,h3,h4,_,h5⟩:=dd';refine qU I (by rw[e];exact True.intro) hs ⟨q,hq⟩ ⟨hl,hd,_,(rel.put k eb rv).keeps fun c ys ec=>?_,q,es,ep,hq,h2,h3,h4,h5⟩
  rw[ao (ne_of ec e (fun z=>nomatch z))];exact ec
end
section
variable{X:Cx}{pins:List (Addr×Obj)}{σ:St}{H:Hp}{s:Shared}{a:Addr}{kvs:List (Key×V)}{k:Key}{u:Value}{A:Around}{E:Value->Shared->Prop}
theorem d_pop{v:V}{more:List Value}{Q:Value->Shared->Prop}(I:Inv X pins σ H s)(e:H a=some (.dK kvs))(ry:RelV (kV k) u)(l:valV kvs k=some v)(hm:more = []∨∃ x,more = [x])
  (h:∀ w' s',Inv X pins σ (upd H a (.dK (lr kvs k))) s'->RelV v w'->Q w' s'):wpAny (model X.prog X.w) A (call (.builtin "dict.pop") (.ref a::u::more)) Q E s:=by
 obtain⟨z,hd,vs,rel,dd⟩:=z8 I.hok e;obtain⟨w',hw,rw'⟩:=RelO.some_of (v:=v) (o:=valueAt vs k) (by rw[← l];exact rel.val k)
 have hp:(keyPart u).isSome=true:=by
  cases k with
  |inl i=>obtain⟨t,q⟩:=(show ∃ t,u=Value.int i t from ry);subst q;rfl
  |inr x=>obtain⟨t,q⟩:=(show ∃ t,u=Value.str x t from ry);subst q;rfl
 have ha:argsOk "dict.pop" ⟨.ref a::u::more,[]⟩:=by
  rcases hm with q | ⟨x,q⟩
  ·subst q;exact PySem.F.args_dict_pop_2 _ _
  ·subst q;exact PySem.F.args_dict_pop_3 _ _ _
 refine call_meetsIn PySem.F.slot_dict_pop dd.typeIs PySem.F.entry_dict_pop ha (meets_dict_pop_there (bh X.prog X.w) a (wq ry) more hm hp)
  ⟨vs,w',dd,by rw[← rel.length];exact z,hw,fun h' dd' hs=>h w' _ ?_ rw'⟩
 have he:∃ q,h'.get? a=some q:=let ⟨q,_,_,hq,_⟩:=dd';⟨q,hq⟩;exact qU I (by rw[e];exact True.intro) hs he (Dg (Lf (F3 kvs k) z) hd (rel.drop k) dd')
end
noncomputable def NoSl(i:Expr):Prop:=∀ ov iv,subscripted i false ov iv=operate [ov,iv] (getItem ov iv)
theorem HK{prog:Program}{w:World}{A:Around}{E:Value->Shared->Prop}{s:Shared}{env:Env}{value slice:Expr}{pos:Pos}{T id:String}{Q:Value->Shared->Prop}
  (hl:typeLookup (.type T) "__getitem__" = pure (some (.builtin id))) (hs:NoSl slice)
  (h:wpAny (model prog w) A (eval value env) (fun o s₁=>wpAny (model prog w) A (eval slice env) (fun i s₂=>s₂.TypeIs o T/\wpAny (model prog w) A (getItem o i) Q E s₂) E s₁) E s) :
  wpAny (model prog w) A (eval (.Subscript value slice pos) env) Q E s:=by
 refine Subscript_ (wpAny_mono h (fun o s₁ h₁=>wpAny_mono h₁ (fun i s₂ h₂=>?_) fun _ _ x=>x) fun _ _ x=>x);obtain⟨hT,h₂⟩:=h₂;unfold subscriptTail;refine wpAny_bind ?_;rw[getitemInPython_of_ne hT.not_modules];refine wpAny_bind (wpAny_specialOf hT hl ?_);have fin:wpAny (model prog w) A (subscripted slice false o i) (fun r s₃=>wpAny (model prog w) A (letTemporaryGo value o r >>= fun _=>pure r) Q E s₃) E s₂:=by
  rw[hs o i];exact wpAny_operating (wpAny_mono h₂ (fun r s₃ h₃=>wpAny_bind (wpAny_letTemporaryGo (wpAny_pure h₃))) fun _ _ x=>x)
 first
  |exact wpAny_pure (wpAny_bind fin)
  |exact wpAny_bind (wpAny_pure (wpAny_bind fin))
  |exact wpAny_bind fin
theorem wG{X:Cx}{pins:List (Addr×Obj)}{σ:St}{H:Hp}{s:Shared}{a:Addr}{y:V}{o:Option V}(I:Inv X pins σ H s)(g:DGet H a y o):s.TypeIs (.ref a) "dict":=by
 rcases g with⟨kvs,k,e,_,_⟩ | ⟨kvs,k,b,e,_,_,_⟩
 ·obtain⟨_,_,vs,_,dd⟩:=z7 I.hok e;exact dd.typeIs
 ·obtain⟨_,_,xs,_,dd⟩:=z5 I.hok e;exact dd.typeIs
noncomputable def tDGet(td ty:TE):TE:=fun σ H Q=>td σ H fun x H1=>ty σ H1 fun y H2=>∃ a v,x=.ref a/\DGet H2 a y (some v)/\Q v H2
noncomputable def HJ(ty td:TE):TE:=fun σ H Q=>ty σ H fun y H1=>td σ H1 fun x H2=>∃ a o,x=.ref a/\DGet H2 a y o/\Q (.bl (!o.isSome)) H2
noncomputable def sDPut(td ty tv:TE):TS:=fun D σ H=>tv σ H fun v H1=>td σ H1 fun x H2=>ty σ H2 fun y H3=>∃ a H4,x=.ref a/\DPut H3 a y v H4/\D.nx σ H4
section
variable{X:Cx}{o i e value:Expr}{pos pos' tpos:Pos}{td ty tv:TE}
theorem vp(hu:X.A.units+1<cLine)(ho:PE X o td)(hi:PE X i ty)(hs:NoSl i):PE X (.Subscript o i pos) (tDGet td ty):=by
 intro pins s σ H Q I h;refine HK PySem.F.slot_dict_getitem.lookup hs (thn (ho pins s σ H _ I h) fun u s1 ⟨x,H1,I1,rx,q1⟩=>thn (hi pins s1 σ H1 _ I1 q1) fun iv s2 ⟨y,H2,I2,ry,a,v,ex,g,q2⟩=>?_);subst ex;obtain rfl:u=Value.ref a:=rx;exact⟨wG I2 g,Dt hu I2 g ry fun w' s3 I3 rw'=>⟨v,H2,I3,rw',q2⟩⟩
theorem Bz(hu:X.A.units+1<cLine)(hi:PE X i ty)(ho:PE X o td):PC X .NotIn i o (HJ ty td):=by
 intro pins s σ H Q I h;refine thn (hi pins s σ H _ I h) fun iv s1 ⟨y,H1,I1,ry,q1⟩=>thn (ho pins s1 σ H1 _ I1 q1) fun u s2 ⟨x,H2,I2,rx,a,ov,ex,g,q2⟩=>?_;subst ex;obtain rfl:u=Value.ref a:=rx;exact Jh hu I2 g ry fun s3 I3=>⟨.bl (!ov.isSome),H2,I3,rfl,q2⟩
theorem vg(hu:X.A.units+1<cLine)(ho:PE X o td)(hi:PE X i ty)(hv:PE X value tv)(hs:swapsWith value (some (.Subscript o i pos')) pos.line X.env=pure false) :
  PS X (.Assign [.Subscript o i pos'] value pos) (sDPut td ty tv):=by
 intro pins s σ H D I h;refine wpAny_Assign_Subscript (thn (hv pins s σ H _ I h) fun r s1 ⟨v,H1,I1,rv,q1⟩=>thn (ho pins s1 σ H1 _ I1 q1) fun u s2 ⟨x,H2,I2,rx,q2⟩=>thn (hi pins s2 σ H2 _ I2 q2) fun iv s3 ⟨y,H3,I3,ry,a,H4,ex,g,q3⟩=>?_) hs;subst ex;obtain rfl:u=Value.ref a:=rx;exact Dr hu I3 g ry rv fun s4 I4=>⟨σ,H4,I4,q3⟩
end
theorem yt{P:Program}{w:World}{H:Hp}(h:Heap)(hb:sysModules<h.objs.size):bf P w H (h.push { cls:=.type "dict",data:=.dict #[] }) h.objs.size (.dK []) :=
 ⟨Ky _,beq_eq_false_iff_ne.mpr (Ne.symm (JV hb)),[],.nil,Heap.DictOf.new h⟩
noncomputable def tDNewK:TE:=fun _ H Q=>∀ p,H p=none->Q (.ref p) (upd H p (.dK []))
section
variable{X:Cx}{pos:Pos}
theorem xX:PE X (.Dict [] [] pos) tDNewK:=fun pins s σ H Q I h =>
 wpAny_Dict_empty ⟨.ref s.heap.objs.size,_,I.laid (a:=s.heap.objs.size) (o:=.dK []) (t':=s.toks) (fun _ _ q=>Heap.get?_push_of_some _ q) (JF _) (yt s.heap I.big),rfl,h _ (I.hok.fresh (JF _))⟩
end
noncomputable def AV:List (TE×TE)->St->Hp->(List (V×V)->Hp->Prop)->Prop
 |[],_,H,Q=>Q [] H
 | (tk,tv)::r,σ,H,Q=>tk σ H fun x H1=>tv σ H1 fun y H2=>AV r σ H2 fun ps H3=>Q ((x,y)::ps) H3
noncomputable abbrev VV:List (V×V)->List (Value×Value)->Prop:=Paired fun p q=>RelV p.1 q.1/\RelV p.2 q.2
noncomputable def PPs(X:Cx)(pos:Pos)(keys:List (Option Expr))(values:List Expr)(trs:List (TE×TE)):Prop :=
 ∀(pins:List (Addr×Obj))(s:Shared)(σ:St)(H:Hp)(Q:List (V×V)->Hp->Prop),Inv X pins σ H s->AV trs σ H Q ->
  wpAny (model X.prog X.w) X.A (evalPairs (pairTrees keys values X.env pos)) (fun vs s'=>∃ ps H',Inv X pins σ H' s'/\VV ps vs/\Q ps H') X.xe s
theorem Bp{X:Cx}{pos:Pos}:PPs X pos [] [] []:=fun pins s σ H Q I h=>pairTrees_nil_walk ⟨[],H,I,.nil,h⟩
theorem xV{X:Cx}{pos:Pos}{k v:Expr}{ks:List (Option Expr)}{vs:List Expr}{tk tv:TE}{trs:List (TE×TE)}(hk:PE X k tk)(hv:PE X v tv)(hr:PPs X pos ks vs trs) :
  PPs X pos (some k::ks) (v::vs) ((tk,tv)::trs):=fun pins s σ H Q I h =>
 pairTrees_cons_walk (thn (hk pins s σ H _ I h) fun u s1 ⟨x,H1,I1,rx,q1⟩=>thn (hv pins s1 σ H1 _ I1 q1) fun w2 s2 ⟨y,H2,I2,ry,q2⟩ =>
  thn (hr pins s2 σ H2 _ I2 q2) fun ws s3 ⟨ps,H3,I3,rel,q3⟩=>⟨(x,y)::ps,H3,I3,.cons ⟨rx,ry⟩ rel,q3⟩)
noncomputable def iu(kvs more:List (Key×V)):List (Key×V):=more.foldl (fun acc kv=>putK acc kv.1 kv.2) kvs
theorem KV.merge:∀{more:List (Key×V)}{rs:List (Key×Value)}{kvs:List (Key×V)}{vs:List (Key×Value)},KV more rs->KV kvs vs->KV (iu kvs more) (merged vs rs):=by
 intro more rs kvs vs r;unfold KV at r;induction r generalizing kvs vs with
 |nil=>intro q;exact q
 | @cons p q ps qs h t ih =>
  intro r0;have e:KV (putK kvs p.1 p.2) (stored vs q.1 q.2):=by
   have:=r0.put p.1 h.2;rw[← h.1];exact this
  exact ih e
theorem jk:∀(more kvs:List (Key×V)),(iu kvs more).length<=kvs.length+more.length
 |[],kvs=>by show kvs.length<=kvs.length+0;omega
 |p::r,kvs=>by
  have h1:=jk r (putK kvs p.1 p.2);have h2:=iM kvs p.1 p.2;show(iu (putK kvs p.1 p.2) r).length<=_;rw[Ke];omega
theorem pI{P:Program}{w:World}:∀{kvs:List (Key×V)}{ws:List (Value×Value)},VV (kvs.map fun kv=>(kV kv.1,kv.2)) ws->∃ rs,Carries (bh P w) ws rs/\KV kvs rs
 |[],_,r=>by rw[List.map_nil]at r;cases r;exact⟨[],True.intro,.nil⟩
 |p::kvs,_,r=>by
  rw[JQ]at r
  cases r with
  | @cons a b as bs h t =>
   obtain⟨rs,c,q⟩:=pI (P:=P) (w:=w) t;obtain⟨b1,b2⟩:=b;exact⟨(p.1,b2)::rs,⟨wq h.1,rfl,c⟩,.cons ⟨rfl,h.2⟩ q⟩
noncomputable def tDisp(trs:List (TE×TE)):TE:=fun σ H Q=>∀ p,H p=none->AV trs σ (upd H p (.dK [])) fun ps H2=>H2 p=some (.dK [])/\∃ kvs:List (Key×V),ps=kvs.map (fun kv=>(kV kv.1,kv.2))/\kvs.length<=15/\Q (.ref p) (upd H2 p (.dK (iu [] kvs)))
theorem By{X:Cx}{pos:Pos}{keys:List (Option Expr)}{values:List Expr}{trs:List (TE×TE)}(h:PPs X pos keys values trs)(hall:keys.all (·.isSome)=true)(hl:keys.length=values.length)(h0:keys≠[])
  (h15:keys.length<=15):PE X (.Dict keys values pos) (tDisp trs):=by
 intro pins s σ H Q I q;have hn:=I.hok.fresh (JF s.heap.objs.size);have I1:=I.laid (a:=s.heap.objs.size) (o:=.dK []) (h':=s.heap.push { cls:=.type "dict",data:=.dict #[] }) (t':=s.toks) (fun _ _ q=>Heap.get?_push_of_some _ q) (JF _) (yt s.heap I.big);refine wpAny_Dict_walk (knd:=bh X.prog X.w) hall hl h0 h15 (thn (h pins _ σ _ _ I1 (q _ hn)) fun ws s2 ⟨ps,H2,I2,rel,e,kvs,ep,lk,q2⟩=>?_);subst ep;obtain⟨rs,c,rk⟩:=pI (P:=X.prog) (w:=X.w) rel;obtain⟨z,hd,vs0,r0,dd⟩:=z8 I2.hok e
 cases r0
 refine⟨rs,c,dd,fun h' dd' hs=>⟨.ref s.heap.objs.size,_,?_,rfl,q2⟩⟩;have hz:(iu [] kvs).length<=sizeLine:=by
  have h1:=jk kvs [];rw[LY]at h1;rw[sizeLine_eq];omega
 have he:∃ q,h'.get? s.heap.objs.size=some q:=let ⟨q,_,_,hq,_⟩:=dd';⟨q,hq⟩;exact qU I2 (by rw[e];exact True.intro) hs he (Dg hz hd (rk.merge .nil) dd')
structure M1(X:Cx)(o:Expr)(m:Str)(apos:Pos)(e:Expr)(cpos:Pos):Prop where
 base:attributeBase o m X.env (eval o X.env)=eval o X.env
 few:((backTo cpos (starEach [e] X.env)).all (fun x=>!x.1)&&(backToKw cpos (keywordEach [] X.env)).all (fun x=>x.1.isSome)
  && decide (([e]:List Expr).length+([]:List Keyword).length+(if([]:List Keyword).isEmpty then 0 else 1)<30))=true
 line:(apos.endLine == cpos.line)=true
 trees:backTo cpos (starEach [e] X.env) = [(false,eval e X.env)]
structure M2(X:Cx)(o:Expr)(m:Str)(apos:Pos)(e f:Expr)(cpos:Pos):Prop where
 base:attributeBase o m X.env (eval o X.env)=eval o X.env
 few:((backTo cpos (starEach [e,f] X.env)).all (fun x=>!x.1)&&(backToKw cpos (keywordEach [] X.env)).all (fun x=>x.1.isSome)
  && decide (([e,f]:List Expr).length+([]:List Keyword).length+(if([]:List Keyword).isEmpty then 0 else 1)<30))=true
 line:(apos.endLine == cpos.line)=true
 trees:backTo cpos (starEach [e,f] X.env) = [(false,eval e X.env),(false,eval f X.env)]
noncomputable def IsD(H:Hp)(a:Addr):Prop:=(∃ kvs,Rd H a (.dK kvs))∨∃ kvs,Rd H a (.dT kvs)
theorem GY{X:Cx}{pins:List (Addr×Obj)}{σ:St}{H:Hp}{s:Shared}{a:Addr}(I:Inv X pins σ H s)(d:IsD H a) :
  s.TypeIs (.ref a) "dict"/\(∀ b,Value.ref a=.ref b->∃ ob,s.heap.get? b=some ob/\ob.dict=none)/\(a == sysModules)=false:=by
 rcases d with⟨kvs,e⟩ | ⟨kvs,e⟩
 ·obtain⟨_,hd,vs,_,dd⟩:=z7 I.hok e;refine⟨dd.typeIs,fun b q=>?_,hd⟩
  cases q
  obtain⟨ob,_,_,h1,h2,_⟩:=dd;exact⟨ob,h1,h2.2.1⟩
 ·obtain⟨_,hd,xs,_,dd⟩:=z5 I.hok e;refine⟨dd.typeIs,fun b q=>?_,hd⟩
  cases q
  obtain⟨ob,_,_,h1,h2,_⟩:=dd;exact⟨ob,h1,h2.2.1⟩
section
variable{X:Cx}{pins:List (Addr×Obj)}{σ:St}{H:Hp}{s:Shared}{a:Addr}{y d:V}{u r:Value}{o:Option V}{A:Around}{E:Value->Shared->Prop}
theorem d_get2{Q:Value->Shared->Prop}(hu:A.units+1<cLine)(I:Inv X pins σ H s)(g:DGet H a y o)(ry:RelV y u)(rd:RelV d r)(h:∀ w' s',Inv X pins σ H s'->RelV (o.getD d) w'->Q w' s') :
  wpAny (model X.prog X.w) A (call (.builtin "dict.get") [.ref a,u,r]) Q E s:=by
 rcases g with⟨kvs,k,e,ey,l⟩ | ⟨kvs,k,b,e,ey,eb,l⟩
 ·subst ey;obtain⟨z,hd,vs,rel,dd⟩:=z7 I.hok e;refine call_meetsIn Nb dd.typeIs PySem.F.entry_dict_get (N5 _ _ _) (meets_dict_get_default (bh X.prog X.w) a (wq ry) hd r) ⟨_,dd.mapOf,h _ _ (I.tok _) ?_⟩;rw[l];exact(rel.val k).getD rd
 ·subst ey
  cases (show u=Value.ref b from ry)
  obtain⟨z,hd,xs,rel,dd⟩:=z5 I.hok e;refine call_meetsIn Nb dd.typeIs PySem.F.entry_dict_get (N5 _ _ _) (meetsH_dict_get_default (tupleKind (bh X.prog X.w)) a b hd r) ⟨tupleKind_room_in1 hu,k,xs,sZ I.hok eb,dd,h _ _ (I.tok _) ?_⟩;rw[l];exact(rel.val k).getD rd
end
noncomputable def tDGet2(td ty tx:TE):TE:=fun σ H Q=>td σ H fun x H1=>∃ a,x=.ref a/\IsD H1 a/\ty σ H1 fun y H2=>tx σ H2 fun z H3=>∃ o,DGet H3 a y o/\Q (o.getD z) H3
noncomputable def tDPop1(td ty:TE):TE:=fun σ H Q=>td σ H fun x H1=>∃ a,x=.ref a/\IsD H1 a/\ty σ H1 fun y H2=>∃ kvs k v,H2 a=some (.dK kvs)/\y=kV k/\valV kvs k=some v/\Q v (upd H2 a (.dK (lr kvs k)))
section
variable{X:Cx}{o e f:Expr}{apos cpos:Pos}{td ty tx:TE}
theorem EZ(hu:X.A.units+1<cLine)(ho:PE X o td)(he:PE X e ty)(hf:PE X f tx) (m:M2 X o "get" apos e f cpos):PE X (.Call (.Attribute o "get" apos) [e,f] [] cpos) (tDGet2 td ty tx):=by
 intro pins s σ H Q I h;refine wpAny_Call_method m.base m.few m.line MY Nb PySem.F.type_dict_get (thn (ho pins s σ H _ I h) fun u s1 ⟨x,H1,I1,rx,a,ex,d,q1⟩=>?_);subst ex;obtain rfl:u=Value.ref a:=rx;obtain⟨t1,t2,_⟩:=GY I1 d;refine⟨t1,t2,?_⟩;rw[m.trees]
 refine Calls.callWith_builtin rfl (Calls.evalArgs_plain (Calls.spliced_cons (thn (he pins s1 σ H1 _ I1 q1) fun iv s2 ⟨y,H2,I2,ry,q2⟩ =>
  Calls.spliced_cons (thn (hf pins s2 σ H2 _ I2 q2) fun fv s3 ⟨z,H3,I3,rz,ov,g,q3⟩=>Calls.spliced_nil ?_))))
 exact d_get2 hu I3 g ry rz fun w' s4 I4 rw'=>⟨_,H3,I4,rw',q3⟩
theorem EY(ho:PE X o td)(he:PE X e ty) (m:M1 X o "pop" apos e cpos):PE X (.Call (.Attribute o "pop" apos) [e] [] cpos) (tDPop1 td ty):=by
 intro pins s σ H Q I h;refine wpAny_Call_method m.base m.few m.line MY PySem.F.slot_dict_pop PySem.F.type_dict_pop (thn (ho pins s σ H _ I h) fun u s1 ⟨x,H1,I1,rx,a,ex,d,q1⟩=>?_);subst ex;obtain rfl:u=Value.ref a:=rx;obtain⟨t1,t2,_⟩:=GY I1 d;refine⟨t1,t2,?_⟩;rw[m.trees];refine Calls.callWith_builtin rfl (Calls.evalArgs_plain (Calls.spliced_cons (thn (he pins s1 σ H1 _ I1 q1) fun iv s2 ⟨y,H2,I2,ry,kvs,k,v,ea,ey,l,q2⟩=>Calls.spliced_nil ?_)));subst ey;exact d_pop I2 ea ry l (.inl rfl) fun w' s3 I3 rw'=>⟨v,_,I3,rw',q2⟩
end
section
variable{X:Cx}{pins:List (Addr×Obj)}{σ:St}{H:Hp}{s:Shared}{a:Addr}{kvs:List (Key×V)}{A:Around}{E:Value->Shared->Prop}
end
section
variable{X:Cx}{pins:List (Addr×Obj)}{σ:St}{H:Hp}{s:Shared}{a:Addr}{y:V}{u:Value}{A:Around}{E:Value->Shared->Prop}
end
section
variable{P:Program}{w:World}{K:JH}{mg:Str->Option Value}{base:Heap}
end
section
variable{X:Cx}
end
section
variable{κ:Type} [DecidableEq κ]
theorem xH{kvs:List (κ×V)}{k:κ}(h:valV kvs k=none):¬ k∈kvs.map (·.1):=by
 intro m;obtain⟨p,hp,e⟩:=Kk.mp m;have q:(kvs.any fun kv=>decide (kv.1=k))=true:=NG.mpr ⟨p,hp,decide_eq_true e⟩;rw[eY,h]at q;exact absurd q (by simp)
theorem vJ:∀{l:List κ}{k:κ},l.Nodup->¬ k∈l->(l++[k]).Nodup
 |[],k,_,_=>by simp
 |a::r,k,h,hk=>by
  obtain⟨h1,h2⟩:=Kq.mp h;show(a::(r++[k])).Nodup;refine Kq.mpr ⟨fun m=>?_,vJ h2 fun m=>hk (JI.mpr (Or.inr m))⟩;rcases JW.mp m with q | q
  ·exact h1 q
  ·exact hk (JI.mpr (Or.inl (JR.mp q).symm))
theorem IE{kvs:List (κ×V)}{k:κ}(v:V)(hn:(kvs.map (·.1)).Nodup)(h:valV kvs k=none):((putK kvs k v).map (·.1)).Nodup:=by
 rw[xT v h,Kc];exact vJ hn (xH h)
theorem De{p:κ×V}{r:List (κ×V)}{k:κ}(e:p.1=k):lr (p::r) k=lr r k:=by
 unfold lr;rw[Lv,if_neg (by simp[e])]
theorem Df{p:κ×V}{r:List (κ×V)}{k:κ}(e:¬ p.1=k):lr (p::r) k=p::lr r k:=by
 unfold lr;rw[Lv,if_pos (by simp[e])]
end
noncomputable def clOf(env:Env)(fr:List (Str×Nat)):List (Str×Addr):=fr.map fun p=>(p.1,(env.cells.lookup p.1).getD 0)
noncomputable def frOf(fr:List (Str×Nat))(σ:St):St:=fr.map fun p=>(σ[p.2]?).join
noncomputable def cY(X:Cx)(scope:Scope)(fr:List (Str×Nat))(x:Str)(C:Addr)(ex:List Addr)(s:Shared)(H:Hp):Cx where
 prog:=X.prog
 w:=X.w
 K:=X.K
 mg:=X.mg
 base:=X.base
 A:=X.A
 N:=x::fr.map (·.1)
 s₀:=s
 H₀:=H
 env:=compEnvC scope (clOf X.env fr) C X.env
 outer:=X.stack
 stack:=X.stack
 ex:=ex
 fn:=fun _=>false
 calm:=X.calm
 pn:=[]
 xe:=fun _ _=>False
structure bQ(X:Cx)(scope:Scope)(fr:List (Str×Nat))(x:Str):Prop where
 clos:closureFor scope X.env=pure (clOf X.env fr)
 cell:∀ y∈scope.names,y.2≠.cell
 kind:scope.kind=.function
 names:∀ y∈scope.names,y.2=.local->scope.names.lookup y.1=some .local
 xl:scope.names.lookup x=some .local
 nd:(x::fr.map (·.1)).Nodup
 slot:∀ p∈fr,X.N[p.2]?=some p.1/\X.env.kindOf p.1=some .cell
 has:∀ y∈(relabel scope X.env).names,(y.2=.cell∨y.2=.free)->y.1∈fr.map (·.1)
 frk:∀ p∈fr,(relabel scope X.env).names.lookup p.1=some .cell
theorem bQ.plain{X:Cx}{scope:Scope}{x:Str}(clos:closureFor scope X.env=pure [])(cell:∀ y∈scope.names,y.2≠.cell)(kind:scope.kind=.function)(names:∀ y∈scope.names,y.2=.local->scope.names.lookup y.1=some .local)
  (hx:scope.names.lookup x=some .local) (nf:∀ y∈scope.names,y.2≠.free):bQ X scope [] x where
 clos:=clos
 cell:=cell
 kind:=kind
 names:=names
 xl:=hx
 nd:=by simp
 slot:=fun p hp=>nomatch hp
 has:=fun y hy hk=>by
  obtain⟨⟨n,k⟩,hz,e⟩:=Kk.mp (show y∈scope.names.map _ from hy);have h1:=nf _ hz;have h2:=cell _ hz;dsimp only at e h1 h2;have hf:(k == NameKind.free)=false:=by simpa using h1
  rw[hf]at e;simp only[Lq,Kv,if_false]at e;subst e;exact(hk.elim h2 h1).elim
 frk:=fun p hp=>nomatch hp
theorem bQ.one{X:Cx}{scope:Scope}{x y:Str}{j:Nat}(clos:closureFor scope X.env=pure (clOf X.env [(y,j)]))(cell:∀ y∈scope.names,y.2≠.cell)(kind:scope.kind=.function)(names:∀ y∈scope.names,y.2=.local->scope.names.lookup y.1=some .local)
  (hx:scope.names.lookup x=some .local) (nd:([x,y]:List Str).Nodup) (hN:X.N[j]?=some y) (hk:X.env.kindOf y=some .cell) (nf:∀ z∈scope.names,z.2=.free->z.1=y) (hr:(relabel scope X.env).names.lookup y=some .cell):bQ X scope [(y,j)] x where
 clos:=clos
 cell:=cell
 kind:=kind
 names:=names
 xl:=hx
 nd:=nd
 slot:=fun p hp=>by
  have e:p=(y,j):=by simpa using hp
  subst e;exact⟨hN,hk⟩
 has:=fun z hz hk=>by
  obtain⟨⟨n,k⟩,hm,e⟩:=Kk.mp (show z∈scope.names.map _ from hz);have h2:=cell _ hm;dsimp only at e h2;have hn:z.1=n:=by rw[← e];split<;>rfl
  have hf:k=.free:=by
   by_cases q:k=.free
   ·exact q
   ·have hb:(k == NameKind.free)=false:=by simpa using q
    rw[hb]at e;simp only[Lq,Kv,if_false]at e;subst e;exact(hk.elim h2 q).elim
  have:=nf _ hm hf;rw[hn];simp[← this]
 frk:=fun p hp=>by
  have e:p=(y,j):=by simpa using hp
  subst e;exact hr
theorem dS{env:Env}:∀{fr:List (Str×Nat)}{y:Str}{c:Addr},(clOf env fr).lookup y=some c->y∈fr.map (·.1)/\c=(env.cells.lookup y).getD 0
 |[],_,_,h=>by cases h
 |p::r,y,c,h=>by
  unfold clOf at h;rw[JQ,List.lookup_cons]at h
  cases e:y == p.1 with
  |true =>
   rw[e]at h;have ey:y=p.1:=eq_of_beq e
   cases h
   exact⟨by rw[ey];exact JO,by rw[ey]⟩
  |false =>
   rw[e]at h;obtain⟨a,b⟩:=dS (env:=env) (fr:=r) h;exact⟨JK _ a,b⟩
theorem bA{env:Env}:∀{fr:List (Str×Nat)}{y:Str},y∈fr.map (·.1)->(clOf env fr).lookup y=some ((env.cells.lookup y).getD 0)
 |[],_,h=>by cases h
 |p::r,y,h=>by
  unfold clOf;rw[JQ,List.lookup_cons]
  cases e:y == p.1 with
  |true =>
   have ey:y=p.1:=eq_of_beq e;rw[ey]
  |false =>
   have ny:y≠p.1:=fun z=>by rw[z]at e;simp at e
   rcases JI.mp h with z | z
   ·exact absurd z ny
   ·exact bA (env:=env) (fr:=r) z
section
variable{X:Cx}{pins:List (Addr×Obj)}{σ:St}{H:Hp}{s:Shared}{scope:Scope}{fr:List (Str×Nat)}{x:Str}
theorem bQ.cells(O:bQ X scope fr x)(I:Inv X pins σ H s){y:Str}{c:Addr}(h:(clOf X.env fr).lookup y=some c):X.env.cells.lookup y=some c:=by
 obtain⟨hm,e⟩:=dS h;obtain⟨p,hp,ep⟩:=Kk.mp hm;have k:=(O.slot p hp).2;rw[ep]at k;obtain⟨c',e'⟩:=I.ok.has y (.inl k);rw[e']at e;rw[e',e];rfl
theorem FQ{fp:List Addr}(O:bQ X scope fr x)(I:Inv X pins σ H s)(hf:∀ b∈fp,FpOk X pins H b)(hfs:∀ b∈fp,b<s.heap.objs.size){g h':Heap}{tk:Nat}(hg:g=s.heap.push (LCg.lst []))
  (hk:∀ b o,g.get? b=some o->h'.get? b=some o) (hC:h'.Ns g.objs.size fun _=>none) :
  Inv (cY X scope fr x g.objs.size (s.heap.objs.size::fp) { s with heap:=g } H) (X.pn++pins++[(s.heap.objs.size,LCg.lst [])]) (none::frOf fr σ) H { s with heap:=h',toks:=tk }:=by
 have hsz:g.objs.size=s.heap.objs.size+1:=by rw[hg,Heap.size_push]
 have kp:∀ b o,s.heap.get? b=some o->g.get? b=some o:=fun b o e=>by rw[hg];exact Heap.get?_push_of_some _ e
 have hk0:∀ b o,s.heap.get? b=some o->h'.get? b=some o:=fun b o e=>hk b o (kp b o e);have hDo:h'.get? s.heap.objs.size=some (LCg.lst []):=hk _ _ (by rw[hg];exact Heap.get?_push_size _ rfl)
 have neC:∀ b,b<s.heap.objs.size->b≠g.objs.size:=fun b e=>by rw[hsz];exact JV (Lw e)
 have hDC:s.heap.objs.size≠g.objs.size:=by rw[hsz];exact JV (K4 _)
 have hfr:H g.objs.size=none:=I.hok.fresh (by rw[hsz];exact L1 _)
 have hfD:H s.heap.objs.size=none:=I.hok.fresh (JF _);have cne:∀ y c,X.env.cells.lookup y=some c->c<s.heap.objs.size:=fun y c e=>by
  obtain⟨v,q⟩:=I.cell y c e;exact q.lt
 have nst:∀ b,b≠X.env.locals->b∉X.fs->b∉frs X.stack:=fun b h1 h2 z=>(JI.mp (I.stkSub b z)).elim h1 h2;have nstD:s.heap.objs.size∉frs X.stack:=nst _ (K5 I.lt) (I.nofs (JF _));refine⟨⟨I.ok.mod,O.kind,I.ok.glob,I.ok.blt,JF _,?_,?_,fun _ _ z _=>(by cases z),I.ok.hd,I.ok.frames,.inl rfl,?_,?_,?_,?_,?_,?_,I.stkFree⟩,rfl,I.bare,Un.kept hk,?_,?_,hfr,?_,?_,I.hok.kept hk0,?_⟩
 ·intro y z c h1 h2;exact I.ok.inj y z c (O.cells I h1) (O.cells I h2)
 ·intro y hy;have hm:y∈fr.map (·.1):=by
   rcases hy with hy | hy
   ·exact O.has (y,_) (Lj hy) (.inl rfl)
   ·exact O.has (y,_) (Lj hy) (.inr rfl)
  exact⟨_,bA hm⟩
 ·intro b hb;rcases JI.mp hb with rfl | hb
  ·exact⟨hDC,fun y c e=>JV (cne y c (O.cells I e))⟩
  ·exact⟨neC b (hfs b hb),fun y c e=>(hf b hb).2.2.2.2.1 y c (O.cells I e)⟩
 ·intro b o e;exact⟨kp b o (I.bs b o e).1,(I.bs b o e).2⟩
 ·show X.base.objs.size<=g.objs.size;rw[hsz];exact MS (Lf I.ok.bsz I.sz)
 ·intro b o e hb;rcases JI.mp hb with z | hb
  ·have:=Heap.lt_size (I.bs b o e).1
   rw[z]at this;exact KN _ this
  ·rcases(hf b hb).2.2.2.1 with z | z
   ·exact I.ok.noex b o e z
   ·exact absurd (Kx (Heap.lt_size (I.ok.bs b o e).1) z) (KN _)
 ·intro b hb;rcases JI.mp hb with z | hb
  ·rw[z];exact nstD
  ·exact nst b (hf b hb).2.1 (hf b hb).2.2.1
 ·exact(I.kept (h':=g) (t':=s.toks) kp).stack
 ·refine⟨_,hC,fun i y v e1 e2 e3=>?_⟩
  cases i with
  |zero=>cases e2
  |succ k =>
   have e1':(fr.map (·.1))[k]?=some y:=e1;have e2':(frOf fr σ)[k]?=some (some v):=e2;unfold frOf at e2';rw[JJ]at e1' e2'
   cases q:fr[k]? with
   |none=>rw[q]at e1';cases e1'
   |some p =>
    rw[q]at e1' e2';have ey:p.1=y:=KH e1';have ev:(σ[p.2]?).join=some v:=KH e2';have hp:p∈fr:=JG q;obtain⟨hN,hK⟩:=O.slot p hp;have hkk:=O.frk p hp;rw[ey]at hN hK hkk;have ev':σ[p.2]?=some (some v):=by
     cases q2:σ[p.2]? with
     |none=>rw[q2]at ev;cases ev
     |some w=>rw[q2]at ev;exact congrArg some ev
    obtain⟨m,hn,hl⟩:=I.loc;obtain⟨u,r,l⟩:=hl p.2 y v hN ev' (.inr (.inl hK));refine⟨u,r,?_⟩;rcases l with⟨k1,_⟩ | ⟨_,c,ec,z⟩
    ·rw[hK]at k1;cases k1
    ·have hm:y∈fr.map (·.1):=by rw[← ey];exact Kk.mpr ⟨p,hp,rfl⟩
     have el:=bA (env:=X.env) hm;rw[ec]at el;exact .inr ⟨.inl hkk,c,el,by obtain⟨o,ho,hd⟩:=z;exact⟨o,hk0 _ _ ho,hd⟩⟩
 ·intro y c e;obtain⟨v,o,ho,hd⟩:=I.cell y c (O.cells I e);exact⟨v,o,hk0 _ _ ho,hd⟩
 ·intro y c e;exact I.freeC y c (O.cells I e)
 ·intro p hp;rcases JW.mp hp with hp | hp
  ·cases hp
  ·rcases JW.mp hp with hp | hp
   ·obtain⟨e,n,ne,nf,d⟩:=I.pin p hp;exact⟨hk0 _ _ e,n,neC _ (Heap.lt_size e),nst _ ne nf,d⟩
   ·have ep:p=(s.heap.objs.size,LCg.lst []):=by simpa using hp
    subst ep;exact⟨hDo,hfD,hDC,nstD,fun v z=>by cases z⟩
 ·show(none::frOf fr σ).length=(x::fr.map (·.1)).length;unfold frOf;simp
theorem tH{fp:List Addr}{g:Heap}{s':Shared}{H':Hp}{σ':St}{ys:List V}{us:List Value}(I:Inv X pins σ H s)(hf:∀ b∈fp,FpOk X pins H b)(hg:g=s.heap.push (LCg.lst []))
  (J:Inv (cY X scope fr x g.objs.size (s.heap.objs.size::fp) { s with heap:=g } H) (X.pn++pins++[(s.heap.objs.size,LCg.lst us)]) σ' H' s') (hv:Vals ys us) (hl:ys.length<=sizeLine) :
  Inv X pins σ (upd H' s.heap.objs.size (.lst ys)) s'/\H' s.heap.objs.size=none/\FpOk X pins (upd H' s.heap.objs.size (.lst ys)) g.objs.size/\∃ m,s'.heap.Ns g.objs.size m:=by
 have hsz:g.objs.size=s.heap.objs.size+1:=by rw[hg,Heap.size_push]
 have kp:∀ b o,s.heap.get? b=some o->g.get? b=some o:=fun b o e=>by rw[hg];exact Heap.get?_push_of_some _ e
 obtain⟨eD,nD,_,_,_⟩:=J.pin (s.heap.objs.size,LCg.lst us) (by simp)
 have hDC:g.objs.size≠s.heap.objs.size:=by rw[hsz];exact K5 (K4 _)
 have nD':∀ b u,H' b=some u->b≠s.heap.objs.size:=fun b u e z=>by rw[z]at e;rw[e]at nD;cases nD
 have hx:∀ b o,s.heap.get? b=some o->b∉fp->b∉s.heap.objs.size::fp:=fun b o e hb z=>by
  rcases JI.mp z with z | z
  ·have:=Heap.lt_size e
   rw[z]at this;exact KN _ this
  ·exact hb z
 have bU:Un (frs X.stack) (s.heap.objs.size::fp) H H' g s'.heap:=J.base;have ltD:∀ b o,s.heap.get? b=some o->b≠s.heap.objs.size:=fun b o e=>JV (Heap.lt_size e);have un:Un (frs X.stack) fp H (upd H' s.heap.objs.size (.lst ys)) s.heap s'.heap:=by
  refine⟨fun b o e n hb he=>bU.keep b o (kp b o e) n hb (hx b o e he),fun b o e n hb he=>bU.slot b o (kp b o e) n hb (hx b o e he),fun b o e n he=>?_,fun b o e he=>bU.there b o (kp b o e) (hx b o e he),fun b xs e=>?_,fun b o u e=>?_,fun b ps e=>?_⟩
  ·rw[ao (ltD b o e)];exact bU.free b o (kp b o e) n (hx b o e he)
  ·have q:=bU.tups b xs e
   rw[ao (nD' b _ q)];exact q
  ·have q:=bU.frzs b o u e
   rw[ao (nD' b _ q)];exact q
  ·obtain⟨more,q⟩:=bU.tbls b ps e;exact⟨more,by rw[ao (nD' b _ q)];exact q⟩
 have hok:HOk X.prog X.w (upd H' s.heap.objs.size (.lst ys)) s'.heap:=fun b u e=>by
  by_cases hb:b=s.heap.objs.size
  ·rw[hb,ag]at e
   cases e
   rw[hb];exact⟨hl,us,us.length,hv,eD⟩
  ·rw[ao hb]at e;exact(J.hok b u e).stay (fun c v _ q=>q) (fun c q=>by rw[ao (nD' c _ q)];exact q) fun c xs q=>by rw[ao (nD' c _ q)];exact q
 have os:s'.os=s.os:=J.os;refine⟨I.call' os un hok J.bare fun b hb=>⟨(hf b hb).2.2.2.1,(hf b hb).2.1,(hf b hb).2.2.2.2⟩,nD,?_,?_⟩
 ·refine I.fpOk (H':=upd H' s.heap.objs.size (.lst ys)) (b:=g.objs.size) (by rw[hsz];exact L1 _) ?_
  rw[ao hDC];exact J.free
 ·obtain⟨m,hn,_⟩:=J.loc;exact⟨m,hn⟩
end
noncomputable def rO(te:TE)(fv:St)(J:It)(H1:Hp)(QQ:List V->Hp->Prop):Prop :=
 ∃ W:Nat->Nat->List V->Hp->Prop,(∃ m,W 0 m [] H1)/\∀ i m ys H,W i m ys H->ys.length<=sizeLine /\
  ((J.stop i H/\QQ ys H)∨(J.go i H/\∃ N:V->Hp->Prop,(∀ y H2,N y H2->∃ m',m'<m/\W (i+1) m' (ys++[y]) H2)/\∀ x H',J.yld i H x H'->te (some x::fv) H' N))
section
variable{X:Cx}{scope:Scope}{fr:List (Str×Nat)}{x:Str}{elt iter:Expr}{px pos:Pos}{te:TE}{wi:TI}
theorem tZ{pins:List (Addr×Obj)}{σ:St}{H:Hp}{s:Shared}{E:Value->Shared->Prop}{it:Addr}{fp:List Addr}{tn:Nat->Heap->Prop}{J:It}{RR:Value->Addr->Result->Shared->Prop}{QQ:List V->Hp->Prop}(hc:X.calm=true)(O:bQ X scope fr x)
  (he:∀ C ex s H,PE (cY X scope fr x C ex s H) elt te) (I:Inv X pins σ H s) (T:Turn X.prog X.w X.K (.Name x px) J fp it tn) (st:tn 0 s.heap) (hf:∀ b∈fp,FpOk X pins H b) (hq:rO te (frOf fr σ) J H QQ)
  (fin:∀ D C H4 ys s4 m,Inv X pins σ (upd H4 D (.lst ys)) s4->H4 D=none->FpOk X pins (upd H4 D (.lst ys)) C->s4.heap.Ns C m->QQ ys H4->RR (.ref D) C (.ok .next) s4) :
  wpAny (model X.prog X.w) X.A (newList []) (fun acc s₃=>wpAny (model X.prog X.w) X.A (newFunctionEnv scope X.env.globals (clOf X.env fr) [] X.env.qual none .none (some X.env)) (fun cenv s₄ =>
   codeAny (model X.prog X.w) X.A (.compStart (.ListComp elt [⟨.Name x px,iter,[],0⟩] scope pos) 0 (.ref it) acc { cenv with scope:=relabel scope X.env }) (RR acc cenv.locals) s₄) E s₃) E s:=by
 obtain⟨W,⟨m0,w0⟩,turn⟩:=hq;have hfs:∀ b∈fp,b<s.heap.objs.size:=fun b hb=>by
  obtain⟨o,e,_⟩:=T.obj 0 s.heap st b hb;exact Heap.lt_size e
 refine wpAny_newObj_type (wpAny_newFunctionEnv O.cell (by intro y hy;simp at hy) (fun h₁ hns₁ hsb₁=>?_) O.kind)
 dsimp only at hns₁ hsb₁ ⊢;generalize hH2:s.heap.push { cls:=.type "list",dict:=none,data:=.seq ([]:List Value).toArray }=g at hns₁ hsb₁ ⊢;have hg:g=s.heap.push (LCg.lst []):=hH2.symm;have hsz:g.objs.size=s.heap.objs.size+1:=by rw[hg,Heap.size_push]
 have hk:∀ b o,g.get? b=some o->h₁.get? b=some o:=fun b o e=>hsb₁.extBut b o (JV (Heap.lt_size e)) (Heap.get?_push_of_some _ e);have kp:∀ b o,s.heap.get? b=some o->h₁.get? b=some o:=fun b o e=>hk b o (by rw[hg];exact Heap.get?_push_of_some _ e)
 have J0:=FQ (h':=h₁) (tk:=s.toks+([]:List (Str×Value)).length) O I hf hfs hg hk hns₁;have stat:∀{H':Hp}{us:List Value},(∀ b∈fp,H' b=none)->∀ b∈fp,FpOk (cY X scope fr x g.objs.size (s.heap.objs.size::fp) { s with heap:=g } H) (X.pn++pins++[(s.heap.objs.size,LCg.lst us)]) H' b:=fun{H' us} hn b hb=>by
  obtain⟨_,f1,f2,f3,f4,f5⟩:=hf b hb;refine⟨hn b hb,?_,fun z=>(JI.mp (I.stkSub b z)).elim f1 f2,.inl (JK _ hb),fun y c e=>f4 y c (O.cells I e),fun p hp=>?_⟩
  ·show b≠g.objs.size;rw[hsz];exact JV (Lw (hfs b hb))
  ·rcases JW.mp hp with hp | hp
   ·cases hp
   ·rcases JW.mp hp with hp | hp
    ·exact f5 p hp
    ·have ep:p=(s.heap.objs.size,LCg.lst us):=by simpa using hp
     rw[ep];exact K5 (hfs b hb)
 have loop:codeAny (model X.prog X.w) X.A (.compLoop (.ListComp elt [⟨.Name x px,iter,[],0⟩] scope pos) 0 (.ref it) (.ref s.heap.objs.size) (compEnvC scope (clOf X.env fr) g.objs.size X.env))
   (RR (.ref s.heap.objs.size) g.objs.size) { s with heap:=h₁,toks:=s.toks+([]:List (Str×Value)).length }:=by
  refine codeAny_compLoop_tests (fun n s'=>∃ i ys us H',Inv (cY X scope fr x g.objs.size (s.heap.objs.size::fp) { s with heap:=g } H) (X.pn++pins++[(s.heap.objs.size,LCg.lst us)]) (none::frOf fr σ) H' s'/\Vals ys us/\tn i s'.heap/\(∀ b∈fp,H' b=none)/\W i n ys H') ?_ m0
   ⟨0,[],[],H,J0,.nil,T.keep 0 s.heap h₁ st fun b _ o e=>kp b o e,fun b hb=>(hf b hb).1,w0⟩
  rintro n s3 ⟨i,ys,us,H3,J3,hv,st3,fr3,w3⟩;obtain⟨hlen,hh⟩:=turn i n ys H3 w3;have none_err:∀{α:Type}{t:Sem α}{Q:α->Shared->Prop}{E':Value->Shared->Prop}{s:Shared},wpAny (model X.prog X.w) X.A t Q (fun _ _=>False) s->wpAny (model X.prog X.w) X.A t Q E' s:=fun h=>wpAny_mono h (fun _ _ q=>q) fun _ _ z=>z.elim;rcases hh with⟨stop,qn⟩ | ⟨go,N,hN,step⟩
  ·refine none_err (thn (T.done (cY X scope fr x g.objs.size (s.heap.objs.size::fp) { s with heap:=g } H) rfl rfl rfl hc i _ s3 _ H3 _ J3 (stat fr3) st3 stop) fun r s4 ⟨hr,J4⟩=>?_);subst hr;obtain⟨I4,nD,fC,m,hn⟩:=tH I hf hg J4 hv hlen;exact fin _ _ H3 ys s4 m I4 nD fC hn qn
  ·refine none_err (thn (T.item (cY X scope fr x g.objs.size (s.heap.objs.size::fp) { s with heap:=g } H) rfl rfl rfl hc i _ s3 _ H3 _ J3 (stat fr3) st3 go) fun r s4 ⟨u,hr,h4⟩=>?_);subst hr
   have h4':=wpAny_bind (f:=fun _=>assign (.Name x px) (compEnvC scope (clOf X.env fr) g.objs.size X.env) u) (thn h4 (Q':=fun _ s5=>wpAny (model X.prog X.w) X.A (assign (.Name x px) (compEnvC scope (clOf X.env fr) g.objs.size X.env) u) (fun _ s6=>∃(σ6:St)(H6:Hp)(v:V)(s5':Shared)(H5:Hp),Inv (cY X scope fr x g.objs.size (s.heap.objs.size::fp) { s with heap:=g } H) (X.pn++pins++[(s.heap.objs.size,LCg.lst us)]++sr fp s5'.heap) σ6 H6 s6/\σ6=some v::frOf fr σ/\H6=H5/\J.yld i H3 v H5/\tn (i+1) s5'.heap) (fun _ _=>False) s5) fun _ s5 ⟨v,H5,J5,r5,y5,st5,fr5⟩=>by
    have J5':=J5.pinned (stat fr5) (T.obj _ _ st5);have hNd:(cY X scope fr x g.objs.size (s.heap.objs.size::fp) { s with heap:=g } H).N.Nodup:=O.nd;have hxl:(cY X scope fr x g.objs.size (s.heap.objs.size::fp) { s with heap:=g } H).env.scope.names.lookup x=some .local:=lookup_relabel_local O.xl
    exact thn (aw (X:=cY X scope fr x g.objs.size (s.heap.objs.size::fp) { s with heap:=g } H) (i:=0) hNd rfl (.inl hxl) (.inr hxl) _ s5 _ H5 v u (fun σ6 H6=>σ6=some v::frOf fr σ/\H6=H5) J5' r5 ⟨rfl,rfl⟩) fun _ s6 ⟨σ6,H6,J6,e6,e7⟩=>⟨σ6,H6,v,s5,H5,J6,e6,e7,y5,st5⟩)
   refine none_err (thn h4' fun _ s6 ⟨σ6,H6,v,s5,H5,J6,e6,e7,y5,st5⟩=>?_);subst e6 e7;refine wpAny_tests_nil ?_;rw[if_pos rfl];refine none_err (thn (he _ _ _ _ _ s6 _ H6 _ J6 (step v H6 y5)) fun u7 s7 ⟨v7,H7,J7,r7,q7⟩=>?_);obtain⟨m',hm,w7⟩:=hN v7 H7 q7;obtain⟨eD,nD,dC,dF,dd⟩:=J7.pin (s.heap.objs.size,LCg.lst us) (JT _ (K3 _ (JT _ (by simp))))
   have hvl:=hv.length;refine append_at (hsz:=by show us.toArray.size<=sizeLine;rw[JU,← hvl];exact hlen) eD fun h8 hs8 hD8=>?_
   have pinD:∀ p∈X.pn++pins,p.1≠s.heap.objs.size:=fun p hp z=>by
    have:=Heap.lt_size (I.pin p hp).1;rw[z]at this;exact KN _ this
   have J7a:Inv (cY X scope fr x g.objs.size (s.heap.objs.size::fp) { s with heap:=g } H) (X.pn++pins) _ H7 s7:=J7.pins_of fun p hp=>J7.pin p (JT _ (K3 _ (K3 _ hp)))
   have J8:Inv (cY X scope fr x g.objs.size (s.heap.objs.size::fp) { s with heap:=g } H) (X.pn++pins) _ H7 { s7 with heap:=h8 }:=J7a.turned (t':=s7.toks) (fun b o hb e=>(hs8.2 b hb).trans e) nD dC (.inl JO) (fun y c e z=>by
    obtain⟨w',q⟩:=I.cell y c (O.cells I e);have:=q.lt;rw[z]at this
    exact KN _ this) (fun p hp=>(JW.mp hp).elim (fun z=>by cases z) (pinD p))
   have J9:Inv (cY X scope fr x g.objs.size (s.heap.objs.size::fp) { s with heap:=g } H) (X.pn++pins++[(s.heap.objs.size,LCg.lst (us++[u7]))]) _ H7 { s7 with heap:=h8 }:=J8.pins_of fun p hp=>by
    rcases JW.mp hp with hp | hp
    ·exact J8.pin p (JT _ hp)
    ·have ep:p=(s.heap.objs.size,LCg.lst (us++[u7])):=by simpa using hp
     subst ep;exact⟨hD8.trans (congrArg some (LCg.lst_snoc us u7)),nD,dC,dF,fun v z=>by cases z⟩
   have J10:=J9.weak (σ':=none::frOf fr σ) rfl fun i v e=>by
    cases i with
    |zero=>cases e
    |succ k=>exact e
   have pinF:∀ b∈fp,∀ o,s5.heap.get? b=some o->s7.heap.get? b=some o/\H7 b=none:=fun b hb o e=>by
    obtain⟨q1,q2,_⟩:=J7.pin (b,o) (JT _ (JT _ (eQ hb e)));exact⟨q1,q2⟩
   refine⟨m',hm,i+1,ys++[v7],us++[u7],H7,J10,hv.append (.cons r7 .nil),T.keep _ _ _ st5 fun b hb o e=>(hs8.2 b (JV (hfs b hb))).trans (pinF b hb o e).1,fun b hb=>?_,w7⟩;obtain⟨o,e,_⟩:=T.obj _ _ st5 b hb;exact(pinF b hb o e).2
 exact codeAny_compStart_list loop (T.self X.A 0 _ _ _ (T.keep 0 s.heap h₁ st fun b _ o e=>kp b o e) loop)
noncomputable def tComp(wi:TI)(te:TE)(fr:List (Str×Nat)):TE:=fun σ H Q=>wi σ H fun J H1=>rO te (frOf fr σ) J H1 fun ys H2=>∀ D,H2 D=none->Q (.ref D) (upd H2 D (.lst ys))
theorem iK(hc:X.calm=true)(O:bQ X scope fr x)(hi:PI X (.Name x px) iter wi)(he:∀ C ex s H,PE (cY X scope fr x C ex s H) elt te)(hs:∀ x,foldedSetIterable iter X.env x=pure x:=by intro _;rfl) :
  PE X (.ListComp elt [⟨.Name x px,iter,[],0⟩] scope pos) (tComp wi te fr):=by
 intro pins s σ H Q I h;rw[eval_ListComp];refine wpAny_comprehension_free (use:=none) rfl hs O.clos O.kind O.names (thn (hi pins s σ H _ I h) fun xv s1 h1=>thn h1 fun itv s2 h2=>?_);obtain⟨it,fp,tn,J,H2,e,I2,T,st2,f2,q2⟩:=h2;subst e;refine tZ (RR:=fun acc C=>compPost (model X.prog X.w) X.A X.xe none (EP X pins σ Q) acc C) hc O he I2 T st2 f2 q2 ?_;intro D C H4 ys s4 m I4 nD fC hn q4;refine⟨m,hn,fun h' hs'=>?_⟩;obtain⟨g0,g1,g2,g3,g4,g5⟩:=fC;exact⟨.ref D,_,I4.turned (t':=s4.toks) (fun b o hb e=>(hs'.2 b hb).trans e) g0 g1 g3 g4 g5,rfl,q4 D nD⟩
noncomputable def EC(i:Nat)(wi:TI)(te:TE)(fr:List (Str×Nat)):TS:=fun D σ H=>wi σ H fun J H1=>rO te (frOf fr σ) J H1 fun ys H2=>∀ a,H2 a=none->D.nx (σ.set i (some (.ref a))) (upd H2 a (.lst ys))
theorem j0{i:Nat}{y:Str}{py spos:Pos}(hc:X.calm=true)(hN:X.N.Nodup)(hi':X.N[i]?=some y)(hy:X.env.scope.names.lookup y=some .local)(O:bQ X scope fr x)(hi:PI X (.Name x px) iter wi)(he:∀ C ex s H,PE (cY X scope fr x C ex s H) elt te)
  (hsw:swapsWith (.ListComp elt [⟨.Name x px,iter,[],0⟩] scope pos) (some (.Name y py)) spos.line X.env=pure true:=by rfl) (hs:∀ x,foldedSetIterable iter X.env x=pure x:=by intro _;rfl) :
  PS X (.Assign [.Name y py] (.ListComp elt [⟨.Name x px,iter,[],0⟩] scope pos) spos) (EC i wi te fr):=by
 intro pins s σ H D I h;rw[exec_Assign_Name_used _ _ _ _ hsw];refine wpAny_bind (wpAny_standAt (wpAny_bind ?_));show wpAny _ X.A (do let _ ← comprehension (.ListComp elt [⟨.Name x px,iter,[],0⟩] scope pos) scope X.env _ (newList []) false (eval iter X.env) (some (assign (.Name y py) X.env))) _ _ s
 refine wpAny_bind (thn (wpAny_comprehension_free (use:=some (assign (.Name y py) X.env)) (Q:=fun _ s'=>SP X pins D .next s') rfl hs O.clos O.kind O.names (thn (hi pins s σ H _ I h) fun xv s1 h1=>thn h1 fun itv s2 h2=>?_)) fun _ s' hq=>wpAny_pure (wpAny_pure hq));obtain⟨it,fp,tn,J,H2,e,I2,T,st2,f2,q2⟩:=h2;subst e;refine tZ (RR:=fun acc C=>compPost (model X.prog X.w) X.A X.xe (some (assign (.Name y py) X.env)) (fun _ s'=>SP X pins D .next s') acc C) hc O he I2 T st2 f2 q2 ?_;intro a C H4 ys s4 m I4 nD fC hn q4;obtain⟨g0,g1,g2,g3,g4,g5⟩:=fC;obtain⟨oC,eC,hoC⟩:=LCg.ns_obj hn;have I5:Inv X (pins++[(C,oC)]) σ (upd H4 a (.lst ys)) s4:=I4.pins_of fun p hp=>by
  rcases JW.mp hp with hp | hp
  ·exact I4.pin p (JT _ hp)
  ·have ep:p=(C,oC):=by simpa using hp
   subst ep;obtain⟨es,epp,hd,_⟩:=hoC;exact⟨eC,g0,g1,g2,fun v z=>by rw[hd]at z;cases z⟩
 show wpAny _ X.A (assign (.Name y py) X.env (.ref a)) _ _ _;refine wpAny_assign_Name (eZ I5 hN hi' (.inl hy) (v:=.ref a) rfl (fun s6 I6=>?_) (.inr hy));obtain⟨e6,_⟩:=I6.pin (C,oC) (JT _ (JT _ (by simp)))
 refine⟨m,hoC.ns e6,fun h' hs'=>?_⟩;exact⟨_,_,I6.unpinned.turned (t':=s6.toks) (fun b o hb e=>(hs'.2 b hb).trans e) g0 g1 g3 g4 g5,q4 a nD⟩
end
theorem eU{K:JH}{a:Addr}{xs:List V}{te:TE}{fv:St}{H1:Hp}{QQ:List V->Hp->Prop}(Pv:Nat->List V->Hp->Prop)(hz:xs.length<=sizeLine)(h0:Pv 0 [] H1)(hl:∀ i ys H,i<=xs.length->Pv i ys H->SqL K H a xs)
  (hs:∀ i x ys H,xs[i]?=some x->Pv i ys H->te (some x::fv) H fun y H2=>Pv (i+1) (ys++[y]) H2) (hd:∀ ys H,ys.length=xs.length->Pv xs.length ys H->QQ ys H)
  : rO te fv (Itl K a) H1 QQ:=by
 refine⟨fun i m ys H=>m=xs.length-i/\i<=xs.length/\ys.length=i/\Pv i ys H,⟨xs.length,by simp,Ky _,rfl,h0⟩,?_⟩
 rintro i m ys H ⟨rfl,hi,hy,p⟩;have q:=hl i ys H hi p;refine⟨by omega,?_⟩
 by_cases hlt:i<xs.length
 ·refine .inr ⟨⟨xs,xs[i],q,by simp[hlt]⟩,fun y H2=>Pv (i+1) (ys++[y]) H2,fun y H2 p2=>⟨xs.length-(i+1),by omega,rfl,hlt,by rw[JN,hy];rfl,p2⟩,fun x H' y=>?_⟩
  obtain⟨e,y⟩:=y;subst e;exact hs i x ys _ (y xs q) p
 ·have e:i=xs.length:=by omega
  subst e;exact .inl ⟨⟨xs,q,JF _⟩,hd ys H hy p⟩
theorem ig{lo:Int}{n:Nat}{te:TE}{fv:St}{H1:Hp}{QQ:List V->Hp->Prop}(Pv:Nat->List V->Hp->Prop)(hz:n<=sizeLine)(h0:Pv 0 [] H1)
  (hs:∀ i ys H,i<n->Pv i ys H->te (some (.int (lo+i))::fv) H fun y H2=>Pv (i+1) (ys++[y]) H2) (hd:∀ ys H,ys.length=n->Pv n ys H->QQ ys H)
  : rO te fv (Itr lo n) H1 QQ:=by
 refine⟨fun i m ys H=>m=n-i/\i<=n/\ys.length=i/\Pv i ys H,⟨n,by simp,Ky _,rfl,h0⟩,?_⟩
 rintro i m ys H ⟨rfl,hi,hy,p⟩;refine⟨by omega,?_⟩
 by_cases hlt:i<n
 ·refine .inr ⟨hlt,fun y H2=>Pv (i+1) (ys++[y]) H2,fun y H2 p2=>⟨n-(i+1),by omega,rfl,hlt,by rw[JN,hy];rfl,p2⟩,fun x H' y=>?_⟩
  obtain⟨e,y⟩:=y;subst e y;exact hs i ys _ hlt p
 ·have e:i=n:=by omega
  subst e;exact .inl ⟨JF _,hd ys H hy p⟩
theorem He:bootBuiltins "int" = some (.type "int"):=by decide
theorem Jp:bootBuiltins "bool" = some (.type "bool"):=by decide
theorem nR:bootBuiltins "list" = some (.type "list"):=by decide
theorem Gg:bootBuiltins "tuple" = some (.type "tuple"):=by decide
theorem eX:bootBuiltins "len" = some (.builtin "len"):=by decide
theorem dh:bootBuiltins "isinstance" = some (.builtin "isinstance"):=by decide
theorem uh:bootBuiltins "sorted" = some (.builtin "sorted"):=by decide
theorem w8:bootBuiltins "reversed" = some (.type "reversed"):=by decide
theorem ui:bootBuiltins "enumerate" = some (.type "enumerate"):=by decide
structure Cal(P:Program)(w:World)(K:JH)(mg:Str->Option Value)(base:Heap)(k:Nat)(x:Str)(ps:List Str)(sp:Sp)(f:Addr)(fd:FuncData):Prop where
 ok:FnOk P w K mg base CX0 k f fd ps sp
 bn:uJ K fd ps []
 mg:mg x=some (.ref f)
 kp:JX K (.ref f)=true
theorem mD{X:Cx}{sts:List Stmt}{t t2:TS}(h:PSs X sts t)(i:∀ D σ H,t2 D σ H->t D σ H):PSs X sts t2:=fun pins s σ H D I q=>h pins s σ H D I (i D σ H q)
section
variable{X:Cx}
noncomputable def rIsi(K:JH):List V->Hp->VK->Prop:=fun xs H Q=>∃ x c t b u,xs = [x,c]/\TyOf K H x t/\((∃ n,c=.ty n/\u=Value.type n)∨∃ a,c=.ref a/\u=Value.ref a)/\Mz K t u=some b/\Q (.bl b) H
theorem l8:iq X (.builtin "isinstance") (rIsi X.K):=by
 intro pins s σ H xs us Q I r h;obtain⟨x,c,t,b,u,rfl,ty,hu,e,q⟩:=h;obtain⟨v1,v2,rfl,r1,r2⟩:=AQ r;have e2:v2=u:=by
  rcases hu with⟨n,rfl,rfl⟩ | ⟨a,rfl,rfl⟩
  ·exact r2
  ·exact r2
 subst e2;exact CK I r1 ty e fun tk=>⟨.bl b,H,I.tok tk,rfl,q⟩
theorem kit_ii(K:JH):Mz K (.type "int") (.type "int")=some true:=by with_unfolding_all rfl
theorem kit_ib(K:JH):Mz K (.type "int") (.type "bool")=some false:=by with_unfolding_all rfl
theorem kit_ll(K:JH):Mz K (.type "list") (.type "list")=some true:=by with_unfolding_all rfl
theorem kit_tt(K:JH):Mz K (.type "tuple") (.type "tuple")=some true:=by with_unfolding_all rfl
end
inductive RdD(K:JH)(H:Hp):V->PyData->Prop where
 |non:RdD K H .non .none
 |bl (b:Bool):RdD K H (.bl b) (.bool b)
 |int (i:Int):RdD K H (.int i) (.int i)
 |lst {a:Addr} {xs:List V} {ds:List PyData} (h:SqL K H a xs) (hl:xs.length=ds.length) (r:∀(i:Nat)(x:V)(d:PyData),xs[i]?=some x->ds[i]?=some d->RdD K H x d):RdD K H (.ref a) (.list ds)
 |tup {a:Addr} {xs:List V} {ds:List PyData} (h:SqT K H a xs) (hl:xs.length=ds.length) (r:∀(i:Nat)(x:V)(d:PyData),xs[i]?=some x->ds[i]?=some d->RdD K H x d):RdD K H (.ref a) (.tuple ds)
theorem iH{h:Heap}:∀{xs:List V}{us:List Value}{ds:List PyData},Vals xs us->xs.length=ds.length->(∀(i:Nat) x d,xs[i]?=some x->ds[i]?=some d->∀ u,RelV x u->∃ as,Reads h u d as)->∃ as,ReadsAll h us ds as
 |_,_,[],.nil,_,_=>⟨_,.nil⟩
 |_,_,_::_,.nil,e,_=>by cases e
 |_,_,[],.cons _ _,e,_=>by cases e
 |_,_,d::ds,.cons r rr,e,k=>by
  obtain⟨a1,q1⟩:=k 0 _ d rfl rfl _ r;obtain⟨a2,q2⟩:=iH rr (Nat.succ.inj e) fun i x d' e1 e2=>k (i+1) x d' e1 e2;exact⟨_,.cons q1 q2⟩
section
variable{X:Cx}
theorem RdD.reads{pins:List (Addr×Obj)}{σ:St}{H:Hp}{s:Shared}(I:Inv X pins σ H s){x:V}{d:PyData}(r:RdD X.K H x d):∀ u,RelV x u->∃ as,Reads s.heap u d as:=by
 induction r with
 |non=>intro u hu;cases hu;exact⟨_,.none⟩
 |bl b=>intro u hu;cases hu;exact⟨_,.bool b⟩
 |int i=>intro u hu;obtain⟨t,rfl⟩:=hu;exact⟨_,.int i t⟩
 |lst h hl r ih =>
  intro u hu
  cases hu
  obtain⟨its,rv,p,_⟩:=I.list h;obtain⟨as,q⟩:=iH (h:=s.heap) rv hl ih;obtain⟨o,n,e,c,_,d⟩:=p;exact⟨_,.list e c d (by simpa using q)⟩
 |tup h hl r ih =>
  intro u hu
  cases hu
  obtain⟨its,rv,p,_⟩:=I.tuple h;obtain⟨as,q⟩:=iH (h:=s.heap) rv hl ih;obtain⟨o,e,c,n,d⟩:=p;exact⟨_,.tuple e c d (by simpa using q)⟩
noncomputable def rSame(b:Bool)(K:JH):R2:=fun x y H Q=>∃ d,RdD K H x d/\RdD K H y d/\SeqAt.shaped d=true/\Q (.bl b) H
theorem GS(hu:X.A.units+64<cLine):OpR X (compareOp .Eq) (rSame true X.K):=by
 intro pins s σ H x y v u Q I rx ry h;obtain⟨d,r1,r2,hs,q⟩:=h;obtain⟨as,q1⟩:=r1.reads I v rx;obtain⟨bs,q2⟩:=r2.reads I u ry;refine eq_dataH q1 q2 hs hs hu ?_;rw[SeqAt.eqv_refl d (SeqAt.canLay_of_shaped hs)];exact⟨.bl true,H,I,rfl,q⟩
theorem op_neD(hu:X.A.units+64<cLine):OpR X (compareOp .NotEq) (rSame false X.K):=by
 intro pins s σ H x y v u Q I rx ry h;obtain⟨d,r1,r2,hs,q⟩:=h;obtain⟨as,q1⟩:=r1.reads I v rx;obtain⟨bs,q2⟩:=r2.reads I u ry;refine ne_dataH q1 q2 hs hs hu ?_;rw[SeqAt.eqv_refl d (SeqAt.canLay_of_shaped hs)];exact⟨.bl false,H,I,rfl,q⟩
end
section
variable{X:Cx}{tg:Expr}
end
section
variable{P:Program}{w:World}{H:Hp}{h:Heap}{a:Addr}{o:HO}
theorem bf.get(x:bf P w H h a o):∃ ob,h.get? a=some ob:=by
 cases o with
 |lst xs=>obtain⟨_,_,_,_,e⟩:=x;exact⟨_,e⟩
 |tup xs=>obtain⟨_,_,_,ob,e,_⟩:=x;exact⟨_,e⟩
 |dK kvs=>obtain⟨_,_,_,_,o,_,_,e,_⟩:=x;exact⟨_,e⟩
 |dT kvs=>obtain⟨_,_,_,_,o,_,_,e,_⟩:=x;exact⟨_,e⟩
 |set S n=>obtain⟨o,_,_,_,e,_⟩:=x;exact⟨_,e⟩
 |ins C dx fs=>obtain⟨_,_,_,e,_⟩:=x;exact⟨_,e⟩
 |own y=>exact x
 |xd fs=>obtain⟨_,⟨_,_,_,e,_⟩,_⟩:=x;exact⟨_,e⟩
 |rng lo hi=>obtain⟨_,_,_,e⟩:=x;exact⟨_,e⟩
 |frz ob u=>exact⟨_,x.1⟩
 |tbl ps=>exact⟨_,(show h.get? a=some _ from x)⟩
 |met f y=>exact⟨_,(show h.get? a=some _ from x)⟩
 |ext φ=>exact x.2.1
theorem HOk.none_of(x:HOk P w H h)(e:h.get? a=none):H a=none:=by
 cases q:H a with
 |none=>rfl
 |some u =>
  obtain⟨ob,z⟩:=(x a u q).get;rw[e]at z
  cases z
end
structure XOk(X:Cx)(pins:List (Addr×Obj))(H:Hp)(b:Addr):Prop where
 old:X.s₀.heap.get? b=none
 trk:H b=none
 nl:b≠X.env.locals
 nc:∀ x c,X.env.cells.lookup x=some c->c≠b
 np:∀ p∈X.pn++pins,p.1≠b
section
variable{X:Cx}{pins:List (Addr×Obj)}{σ:St}{H H':Hp}{s s':Shared}{b:Addr}
theorem Inv.xok(I:Inv X pins σ H s)(hx:X.ex = [])(e:s.heap.get? b=none)(n:H' b=none):XOk X pins H' b:=by
 refine⟨?_,n,fun z=>?_,fun x c q z=>?_,fun p hp z=>?_⟩
 ·cases q:X.s₀.heap.get? b with
  |none=>rfl
  |some o =>
   obtain⟨o',e'⟩:=I.base.there b o q (by rw[hx];simp)
   rw[e]at e'
   cases e'
 ·obtain⟨m,⟨o,_,_,ho,_⟩,_⟩:=I.loc;rw[z,ho]at e
  cases e
 ·obtain⟨v,o,ho,_⟩:=I.cell x c q;rw[z,e]at ho
  cases ho
 ·have:=(I.pin p hp).1
  rw[z,e]at this
  cases this
theorem Inv.xtrack{a:Addr}{o:HO}(I:Inv X pins σ H s)(f:XOk X pins H a)(new:bf X.prog X.w (upd H a o) s.heap a o):Inv X pins σ (upd H a o) s:=by
 have ne:∀ b u,H b=some u->b≠a:=fun b u e=>bw e f.trk;have nb:∀ b u,s.heap.get? b=some u->b≠a->H b=none->upd H a o b=none:=fun b u _ n q=>by rw[ao n];exact q
 refine⟨I.ok,I.os,I.bare,⟨I.base.keep,I.base.slot,fun b ob e n hx=>?_,I.base.there,fun b xs e=>?_,fun b ob xs e=>?_,fun b ps e=>?_⟩,I.loc,I.cell,?_,fun x c e=>?_,fun p hp=>?_,fun b u e=>?_,I.len⟩
 ·rw[ao (fun z=>by rw[z,f.old]at e;cases e)]
  exact I.base.free b ob e n hx
 ·have:=I.base.tups b xs e
  rw[ao (ne _ _ this)];exact this
 ·have:=I.base.frzs b ob xs e
  rw[ao (ne _ _ this)];exact this
 ·obtain⟨m,q⟩:=I.base.tbls b ps e;exact⟨m,by rw[ao (ne _ _ q)];exact q⟩
 ·rw[ao (Ne.symm f.nl)];exact I.free
 ·rw[ao (f.nc x c e)];exact I.freeC x c e
 ·obtain⟨e,n,r⟩:=I.pin p hp;exact⟨e,by rw[ao (f.np p hp)];exact n,r⟩
 ·by_cases hb:b=a
  ·rw[hb,ag]at e
   cases e
   rw[hb];exact new
  ·rw[ao hb]at e;exact(I.hok b u e).stay (fun c v _ q=>q) (fun c q=>by rw[ao (ne c _ q)];exact q) fun c xs q=>by rw[ao (ne c _ q)];exact q
end
section
variable{X:Cx}{pins:List (Addr×Obj)}{σ:St}{H:Hp}{s:Shared}{x:Addr}{C:Value}{E:Value->Shared->Prop}
end
section
variable{X:Cx}{k:Nat}{f C:Addr}{fd:FuncData}{ps:List Str}{sp:Sp}{dvs:List V}{ds:List Value}{W:WK}{x m:Str}{p pos apos:Pos}{e o:Expr}{es:List Expr}{ta:TE}{t:TA}
end
section
variable{prog:Program}{w:World}{A:Around}{E:Value->Shared->Prop}{s:Shared}
theorem Cp:typeLookup (.type "list_reverseiterator") "__len__" = pure none:=by rw[typeLookup_type,builtinLookup_eq_fast];kernel_rfl
theorem FD:typeLookup (.type "list_reverseiterator") "__length_hint__" = pure (some (.builtin "list_reverseiterator.__length_hint__")):=by rw[typeLookup_type,builtinLookup_eq_fast];kernel_rfl
theorem FU{r:Addr}{Q:Bool->Shared->Prop} (hT:s.TypeIs (.ref r) "list_reverseiterator") (h:Q false s):wpAny (model prog w) A (Builtin.List.listLengthHint (.ref r)) Q E s:=by
 unfold Builtin.List.listLengthHint;refine wpAny_bind (wpAny_specialOf hT Cp ?_);wp_delta;refine wpAny_ite_split (fun hab=>absurd hab (by decide)) (fun _=>?_)
 refine wpAny_ite_split (fun hab=>absurd hab (by decide)) (fun _=>?_)
 refine wpAny_bind (wpAny_specialOf hT FD ?_);generalize hid:("list_reverseiterator.__length_hint__" : String)=id0;wp_delta;rw[show splitId id0=some ("list_reverseiterator","__length_hint__") from by subst hid;decide]
 subst hid;refine wpAny_bind (wpAny_isInstance (T:="list_reverseiterator") (b:=true) hT (by rw[isSubtype_type];kernel_rfl) ?_)
 refine wpAny_ite_split (fun hab=>absurd hab (by decide)) (fun _=>?_)
 refine wpAny_ite_split (fun _=>?_) (fun hab=>absurd (by decide) hab)
 refine wpAny_ite_split (fun hab=>absurd hab (by decide)) (fun _=>?_)
 exact wpAny_pure h
theorem zY{R:Result->Shared->Prop}{r l S:Addr}{items:Array Value}(hh:A.handled=none)(hit:s.heap.IsRevIter r l ((items.size:Int)-1))(hl:s.heap.IsList l items)(hSr:S≠r)(hSl:S≠l)(hrl:l≠r)(res:Value)(c0:Nat)
  (hS:s.heap.get? S=some { cls:=.type "list",data:=.seq #[] c0 })
  (hR:∀ h' tk acc' c',(∀ b o,b≠S->b≠r->s.heap.get? b=some o->h'.get? b=some o)->h'.get? S=some { cls:=.type "list",dict:=none,data:=.seq acc' c',slots:=#[] }->ItemsOf (fun i v=>items[items.size-1-i]?=some v) acc' items.size->R (.ok (.ret res)) { s with heap:=h',toks:=tk }) (hn:items.size<=sizeLine) :
  wpAny (model prog w) A.in1 (Builtin.List.listExtendWith (.ref S) (.ref r) res)
   (fun fin s'=>match fin with | .done f=>R (.ok f) s' | .again c'=>c'.quiet=true/\codeAny (model prog w) A c' R s') (fun e s'=>R (.error e) s') s:=by
 have W:=Walks.listRev (prog:=prog) (w:=w) (A:=A.in1) hh r l hrl items;have hSf:S∉[r,l]:=by simp only[JI,Kf,or_false,not_or];exact⟨hSr,hSl⟩
 have key:∀(h:Heap)(c1 tk:Nat),(0<=items.size/\h.IsRevIter r l ((items.size:Int)-1-((0:Nat):Int))/\h.IsList l items)->(∀ b o,b≠S->b≠r->s.heap.get? b=some o->h.get? b=some o) ->
   h.get? S=some { cls:=.type "list",data:=.seq #[] c1 }->codeAny (model prog w) A (.builtin "list.extend.loop" ⟨[.ref S,.ref r,res],[]⟩) R { s with heap:=h,toks:=tk }:=by
  intro h c1 tk hst hk hS1;refine codeAny_extend_loopS W.toS hn S hSf res items.size 0 _ #[] c1 rfl (Ky _) hst hS1 (ItemsOf.nil _) fun s' acc' c' hm hS' hacc=>?_;rw[Moved.eq_with hm];refine hR s'.heap s'.toks acc' c' (fun b o hb hbr e=>hm.heap b o (fun hmem=>?_) (hk b o hb hbr e)) hS' hacc;rcases JI.mp hmem with e' | hmem
  ·exact hb e'
  ·exact hbr (JR.mp hmem)
 have hit0:s.heap.IsRevIter r l ((items.size:Int)-1-((0:Nat):Int)):=by
  have e:(items.size:Int)-1-((0:Nat):Int)=(items.size:Int)-1:=by omega
  rw[e];exact hit
 unfold Builtin.List.listExtendWith;refine wpAny_bind (wpAny_typeOf (T:="list_reverseiterator") hit.typeIs ?_);have h1:Builtin.List.listSameRef (.ref S) (.ref r)=false:=by simp[Builtin.List.listSameRef,hSr]
 have h2:(Value.type "list_reverseiterator" == Value.type "list")=false:=by decide
 have h3:(Value.type "list_reverseiterator" == Value.type "tuple")=false:=by decide
 simp only[h1,h2,h3,N8,Kv,if_false];refine wpAny_bind (wpAny_pyIter_revIter hit ?_);refine wpAny_bind (wpAny_holding (FU hit.typeIs ?_));refine wpAny_ite_split (fun _=>?_) (fun _=>wpAny_pure ⟨plainId_quiet Ly _,key _ c0 _ ⟨Ky _,hit0,hl⟩ (fun b o _ _ e=>e) hS⟩);refine wpAny_bind (wpAny_rule ?_);refine wpAny_bind ?_;show wpAny _ _ (updateSeq S (·.push .none) >>= fun _=>updateSeq S (·.pop)) _ _ _;refine wpAny_bind (wpAny_updateSeq hS rfl ?_);have hS2:=Heap.get?_update_self (Obj.mapSeq (·.push Value.none)) hS rfl;refine wpAny_updateSeq (hz:=by seq_fits) hS2 rfl ?_
 have hS3:=Heap.get?_update_self (Obj.mapSeq (·.pop)) hS2 rfl;have oth:∀ b o,b≠S->s.heap.get? b=some o->((s.heap.update S (Obj.mapSeq (·.push Value.none))).update S (Obj.mapSeq (·.pop))).get? b=some o:=fun b o hb e=>(Heap.get?_update_other _ _ (Ne.symm hb)).trans ((Heap.get?_update_other _ _ (Ne.symm hb)).trans e);refine wpAny_pure ⟨plainId_quiet Ly _,key _ _ _ ⟨Ky _,hit0.at fun o e=>oth r o (Ne.symm hSr) e,hl.at fun o e=>oth l o (Ne.symm hSl) e⟩ (fun b o hb _ e=>oth b o hb e) hS3⟩
theorem FR{R:Result->Shared->Prop}{r l S:Addr}{items:Array Value}(hh:A.handled=none)(hit:s.heap.IsRevIter r l ((items.size:Int)-1))(hl:s.heap.IsList l items)(hSr:S≠r)(hSl:S≠l)(hrl:l≠r)
  (hS:s.heap.get? S=some { cls:=.type "list",data:=.seq #[] })
  (hR:∀ h' tk acc' c',(∀ b o,b≠S->b≠r->s.heap.get? b=some o->h'.get? b=some o)->h'.get? S=some { cls:=.type "list",dict:=none,data:=.seq acc' c',slots:=#[] }->ItemsOf (fun i v=>items[items.size-1-i]?=some v) acc' items.size->R (.ok (.ret .none)) { s with heap:=h',toks:=tk }) (hn:items.size<=sizeLine) :
  wpAny (model prog w) A.in1 (Builtin.«list.__init__» ⟨[.ref S,.ref r],[]⟩)
   (fun fin s'=>match fin with | .done f=>R (.ok f) s' | .again c'=>c'.quiet=true/\codeAny (model prog w) A c' R s') (fun e s'=>R (.error e) s') s:=by
 show wpAny _ _ (do let old ← Builtin.List.listItems (.ref S);Builtin.List.listUpdate (.ref S) (fun _=>#[]);letGo old.toList.reverse;Builtin.List.listExtendWith (.ref S) (.ref r) .none) _ _ s
 refine wpAny_bind ?_;unfold Builtin.List.listItems;refine wpAny_bind (wpAny_seqItems hS rfl (wpAny_pure ?_));show wpAny _ _ (updateSeq S (fun _=>#[]) >>= fun _=>letGo (#[]:Array Value).toList.reverse >>= fun _=>Builtin.List.listExtendWith (.ref S) (.ref r) .none) _ _ s;refine wpAny_bind (wpAny_updateSeq hS rfl ?_);have hS2:=Heap.get?_update_self (Obj.mapSeq (fun _=>(#[]:Array Value))) hS rfl;have oth:∀ b o,b≠S->s.heap.get? b=some o->(s.heap.update S (Obj.mapSeq (fun _=>(#[]:Array Value)))).get? b=some o:=fun b o hb e=>(Heap.get?_update_other _ _ (Ne.symm hb)).trans e;refine wpAny_bind (wpAny_letGo ?_);refine zY hh (hit.at fun o e=>oth r o (Ne.symm hSr) e) (hl.at fun o e=>oth l o (Ne.symm hSl) e) hSr hSl hrl .none _ hS2 (fun h' tk acc' c' hk hS' hacc=>?_) hn;exact hR h' tk acc' c' (fun b o hb hbr e=>hk b o hb hbr (oth b o hb e)) hS' hacc
theorem vU{r l:Addr}{items:Array Value}{Q:Value->Shared->Prop}(hh:A.handled=none)(hit:s.heap.IsRevIter r l ((items.size:Int)-1))(hl:s.heap.IsList l items)(hrl:l≠r)(hn:items.size<=sizeLine)
  (hQ:∀ h' tk acc' c',(∀ b o,b≠r->s.heap.get? b=some o->h'.get? b=some o)->h'.get? s.heap.objs.size=some { cls:=.type "list",dict:=none,data:=.seq acc' c',slots:=#[] }->ItemsOf (fun i v=>items[items.size-1-i]?=some v) acc' items.size->Q (.ref s.heap.objs.size) { s with heap:=h',toks:=tk }) :
  wpAny (model prog w) A (call (.type "list") [.ref r]) Q E s:=by
 refine callType_codes (Q₁:=fun obj s₁=>obj=.ref s.heap.objs.size/\s₁={ s with heap:=s.heap.push { cls:=.type "list",data:=.seq #[] } }) PySem.F.called_list (N1 _) N4
  (code_list_new _ ⟨rfl,rfl⟩) fun obj s₁ h₁=>?_
 obtain⟨rfl,rfl⟩:=h₁;have hS:(s.heap.push { cls:=.type "list",data:=.seq #[] }).get? s.heap.objs.size=some { cls:=.type "list",data:=.seq #[] }:=Heap.get?_push_size _ rfl;have hr:r<s.heap.objs.size:=let ⟨_,ho,_⟩:=hit;Heap.lt_size ho;have hl':l<s.heap.objs.size:=let ⟨_,ho,_⟩:=hl;Heap.lt_size ho;refine⟨⟨_,hS,rfl⟩,NW _ _,FR (A:=A.in1) hh (hit.at fun o e=>Heap.get?_push_of_some _ e) (hl.push _) (K5 hr) (K5 hl') hrl hS (fun h' tk acc' c' hk hS' hacc=>?_) hn⟩;exact⟨rfl,hQ h' tk acc' c' (fun b o hb e=>hk b o (JV (Heap.lt_size e)) hb (Heap.get?_push_of_some _ e)) hS' hacc⟩
end
section
variable{X:Cx}
theorem Inv.track{pins:List (Addr×Obj)}{σ:St}{H:Hp}{s:Shared}{a:Addr}{o:HO}(I:Inv X pins σ H s)(f:FpOk X pins H a)(new:bf X.prog X.w (upd H a o) s.heap a o):Inv X pins σ (upd H a o) s:=by
 obtain⟨f0,f1,f2,f3,f4,f5⟩:=f;have ne:∀ b u,H b=some u->b≠a:=fun b u e=>bw e f0;refine I.step (g':=s.gens) (t':=s.toks) (d':=s.drawn) (h':=s.heap) (ch:=[a]) (fun b hb=>?_) (fun b o _ _ _ e _=>e) (fun b o _ _ _ e _=>⟨o.slots,e⟩) (fun b o hc e n=>?_) (fun b o _ e=>⟨o,e⟩) (fun b xs e=>by rw[ao (ne b _ e)];exact e) (fun b o u e=>by rw[ao (ne b _ e)];exact e)
  (fun b ps e=>⟨#[],by rw[ao (ne b _ e),e];simp⟩) (fun m hm=>hm) (fun b u e=>?_) I.bare
 ·have eb:b=a:=by simpa using hb
  rw[eb];exact⟨f3,f1,f4,f5⟩
 ·rw[ao (fun z=>hc (by simp[z]))]
  exact n
 ·by_cases hb:b=a
  ·rw[hb,ag]at e
   cases e
   rw[hb];exact new
  ·rw[ao hb]at e;exact(I.hok b u e).stay (fun c v _ q=>q) (fun c q=>by rw[ao (ne c _ q)];exact q) fun c xs q=>by rw[ao (ne c _ q)];exact q
theorem Et{ys:List V}{its:List Value}{acc:Array Value}(rv:Vals ys its)(h:ItemsOf (fun i v=>its.toArray[its.toArray.size-1-i]?=some v) acc its.toArray.size):Vals ys.reverse acc.toList:=by
 have e:acc.toList=its.reverse:=by
  apply MV;intro i;by_cases hi:i<its.length
  ·have hacc:i<acc.size:=by rw[h.1];simpa using hi
   have q:=h.2 i acc[i] (K8 hacc);rw[KL,K8 hacc,Ni hi,← q];simp
  ·rw[Ld (by rw[Kg,h.1];simpa using hi),Ld (by rw[Mh];omega)]
 rw[e];exact rv.reverse
theorem o8{e:Expr}{te:TE}{p p2 pos pos2:Pos}(hc:X.calm=true) (hg:Gl X "list") (hm:X.mg "list" = none) (hg2:Gl X "reversed") (hm2:X.mg "reversed" = none) (he:PE X e te)
  (h1:starEach [.Call (.Name "reversed" p2) [e] [] pos2] X.env = [(false,eval (.Call (.Name "reversed" p2) [e] [] pos2) X.env)]:=by rfl) (h2:starEach [e] X.env=(false,eval e X.env)::starEach [] X.env:=by rfl) :
  PE X (.Call (.Name "list" p) [.Call (.Name "reversed" p2) [e] [] pos2] [] pos) (fun σ H Q=>te σ H fun x H1=>∃ l ys,x=.ref l/\SqL X.K H1 l ys/\∀ q,H1 q=none->Q (.ref q) (upd H1 q (.lst ys.reverse))):=by
 intro pins s σ H Q I h;refine wpAny_Call_Name_kw (jo I hg hm nR ?_);refine PyProof.Rows.callWith_type1 ?_ h1 rfl;rw[h1];refine Calls.spliced_cons ?_;refine wpAny_Call_Name_kw (jo I hg2 hm2 w8 ?_);refine PyProof.Rows.callWith_type1 ?_ h2 rfl;rw[h2];refine Calls.spliced_cons (thn (he pins s σ H _ I h) fun u s1 ⟨x,H1,I1,r1,q1⟩=>?_);obtain⟨l,ys,rfl,hq,q⟩:=q1
 cases r1
 refine Calls.spliced_nil ?_;obtain⟨its,rv,pl,hz⟩:=I1.list hq;have hn:its.toArray.size=ys.length:=by rw[JU,rv.length]
 refine call_reversed_list pl.isList ?_;refine Calls.spliced_nil ?_;have hlt:l<s1.heap.objs.size:=by
  obtain⟨o,n,e1,_⟩:=pl;exact Heap.lt_size e1
 have I2:Inv X pins σ H1 { s1 with heap:=s1.heap.push (revObj l ((its.toArray.size:Int)-1)) }:=I1.kept (t':=s1.toks) fun b o e=>Heap.get?_push_of_some _ e;have hit:(s1.heap.push (revObj l ((its.toArray.size:Int)-1))).IsRevIter s1.heap.objs.size l ((its.toArray.size:Int)-1):=⟨_,Heap.get?_push_size _ rfl,rfl,rfl⟩;refine vU (I.ok.hd hc) hit (pl.isList.push _) (JV hlt) (by rw[hn];exact hz) fun h' tk acc' c' hk hS hacc=>?_
 obtain⟨f0,f1,f2,f3,f4,f5⟩:=I1.fpOk (H':=H1) (JF _) (I1.hok.fresh (JF _));have I3:Inv X pins σ H1 { s1 with heap:=h',toks:=tk }:=I2.turned (t':=tk) (fun b o hb e=>hk b o hb e) f0 f1 f3 f4 f5;have fS:=I2.fpOk (H':=H1) (JF _) (I2.hok.fresh (JF _));have I4:=I3.track (o:=.lst ys.reverse) fS ⟨by rw[Mh];exact hz,acc'.toList,c',Et rv hacc,by rw[Array.toArray_toList];exact hS⟩
 exact⟨.ref _,_,I4,rfl,q _ fS.1⟩
end
theorem Inv.turnedL{X:Cx}{pins:List (Addr×Obj)}{σ:St}{H:Hp}{s:Shared}{h':Heap}{t':Nat}{fp:List Addr}(I:Inv X pins σ H s)(k:∀ b o,b∉fp->s.heap.get? b=some o->h'.get? b=some o)(hf:∀ b∈fp,FpOk X pins H b):Inv X pins σ H { s with heap:=h',toks:=t' }:=by
 have nit:∀ b u,H b=some u->b∉fp:=fun b u e z=>by rw[(hf b z).1]at e;cases e
 refine I.step (g':=s.gens) (d':=s.drawn) (ch:=fp) (fun b hb=>?_) (fun b o _ _ hc e _=>k b o hc e) (fun b o _ _ hc e _=>⟨o.slots,k b o hc e⟩) (fun _ _ _ _ n=>n)
  (fun b o hc e=>⟨o,k b o hc e⟩) (fun _ _ e=>e) (fun _ _ _ e=>e) (fun b ps e=>⟨#[],by rw[e];simp⟩) (fun m hm=>?_) (fun b u e=>?_) I.bare
 ·obtain⟨f0,f1,f2,f3,f4,f5⟩:=hf b hb;exact⟨f3,f1,f4,f5⟩
 ·obtain⟨o,es,ep,ho,r⟩:=hm;exact⟨o,es,ep,k _ o (fun z=>(hf _ z).2.1 rfl) ho,r⟩
 ·refine(I.hok b u e).stay (fun c v hc q=>k c v ?_ q) (fun _ q=>q) fun _ _ q=>q;rcases hc with z | z
  ·rw[z];exact nit b u e
  ·exact nit c _ z
noncomputable def Ite(K:JH)(a:Addr):It :=
 ⟨fun i H=>∃ xs x,SqL K H a xs/\xs[i]?=some x,fun i H v H'=>∃ T x,H T=none/\v=.ref T/\H'=upd H T (.tup [.int (i:Int),x])/\∀ xs,SqL K H a xs->xs[i]?=some x,fun i H=>∃ xs,SqL K H a xs/\xs.length<=i⟩
theorem AU{P:Program}{w:World}{K:JH}{es:List Expr}{k:Nat}{pos:Pos}(a e it:Addr)(hei:e≠it):Turn P w K (.Tuple es k pos) (Ite K a) [e,it] e (fun i h=>(∃ old,IsEnum h e it ((i:Nat):Int) old)/\h.IsListIter it a i) where
 mem:=by simp
 obj:=fun i h st b hb=>by
  obtain⟨⟨old,he⟩,o,e2,c,d⟩:=st;rcases JI.mp hb with rfl | hb
  ·exact⟨_,he,fun v z=>by
    have z':Data.fields _=Data.cell v:=z
    cases z'⟩
  ·have e3:b=it:=by simpa using hb
   subst e3;exact⟨o,e2,fun v z=>by rw[d]at z;cases z⟩
 keep:=fun i h h' st kk=>by
  obtain⟨⟨old,he⟩,hit⟩:=st;exact⟨⟨old,kk e (by simp) _ he⟩,hit.at fun o q=>kk it (by simp) o q⟩
 item:=by
  intro X hP hw hK hc i pins s σ H E I hf st hg;subst hP hw hK;obtain⟨xs,x,hq,hx⟩:=hg;obtain⟨its,rv,p,hz⟩:=I.list hq;obtain⟨u,hu,ru⟩:=rv.get hx;obtain⟨⟨old,he⟩,hit⟩:=st;refine wpAny_pyNext_enum_item he hit p.isList (x:=u) (by simpa using hu) hei fun h' ho hit' hT hsz hk=>?_
  refine⟨_,rfl,?_⟩;refine wpAny_letOwnedTupleGo_enum ho fun h2 he2 hs2=>?_;have hs2':Heap.SameBut e h' h2:=hs2;have hel:e<s.heap.objs.size:=Heap.lt_size he;have hil:it<s.heap.objs.size:=by obtain⟨_,q,_⟩:=hit;exact Heap.lt_size q
  have hfr:H s.heap.objs.size=none:=I.hok.fresh (JF _);have I0:Inv X pins σ (upd H s.heap.objs.size (.tup [.int (i:Int),x])) { s with heap:=s.heap.push { cls:=.type "tuple",data:=.seq #[.int (i:Int) s.toks,u] },toks:=s.toks+1 } :=
   I.laid (t':=s.toks+1) (fun b u e=>Heap.get?_push_of_some _ e) (JF _) ⟨by show 2<=sizeLine;decide,[.int (i:Int) s.toks,u],.cons ⟨_,rfl⟩ (.cons ru .nil),⟨_,Heap.get?_push_size _ rfl,rfl,_,rfl⟩⟩
  have hfb:∀ b∈[e,it],b<s.heap.objs.size:=fun b hb=>by
   rcases JI.mp hb with rfl | hb
   ·exact hel
   ·have e3:b=it:=by simpa using hb
    rw[e3];exact hil
  have hn:∀ b∈[e,it],upd H s.heap.objs.size (.tup [.int (i:Int),x]) b=none:=fun b hb=>by
   rw[ao (JV (hfb b hb))];exact(hf b hb).1
  have I2:Inv X pins σ (upd H s.heap.objs.size (.tup [.int (i:Int),x])) { s with heap:=h2,toks:=s.toks+1 }:=Inv.turnedL (s:={ s with heap:=s.heap.push { cls:=.type "tuple",data:=.seq #[.int (i:Int) s.toks,u] },toks:=s.toks+1 }) (h':=h2) I0 (t':=s.toks+1) (fp:=[e,it]) (fun b o hb q=>by
   have nb:b≠e:=fun z=>hb (by simp[z])
   have nb2:b≠it:=fun z=>hb (by simp[z])
   refine(hs2'.2 b nb).trans ?_;rcases Heap.get?_push_cases q with⟨z1,z2⟩ | q
   ·rw[z1,z2];exact hT
   ·exact hk b o nb nb2 q) fun b hb=>⟨hn b hb,(hf b hb).2⟩
  refine⟨.ref s.heap.objs.size,_,I2,rfl,⟨s.heap.objs.size,x,hfr,rfl,rfl,fun ys hy=>by rw[I.list_inj hy hq];exact hx⟩,?_,hn⟩
  refine⟨⟨u,?_⟩,hit'.at fun o q=>(hs2'.2 it (Ne.symm hei)).trans q⟩;have e4:(((i+1:Nat):Nat):Int)=(i:Int)+1:=by omega
  rw[e4];exact he2
 done:=by
  intro X hP hw hK hc i pins s σ H E I hf st hg;subst hP hw hK;obtain⟨xs,hq,hx⟩:=hg;obtain⟨its,rv,p,hz⟩:=I.list hq;obtain⟨⟨old,he⟩,hit⟩:=st;have hl:=rv.length;obtain⟨f0,f1,f2,f3,f4,f5⟩:=hf it (by simp)
  exact wpAny_pyNext_enum_end (I.ok.hd hc) he hit p.isList (by simp;omega) fun h' eb=>⟨rfl,I.turned (t':=s.toks) (fun b o hb e=>eb b o hb e) f0 f1 f3 f4 f5⟩
 self:=fun _ _ _ _ _ st h=>by
  obtain⟨⟨old,he⟩,_⟩:=st;exact wpAny_pyIter_enum he h
section
variable{X:Cx}
noncomputable def iEnum(K:JH)(ta:TA):TI:=fun σ H R=>ta σ H fun vs H1=>∃ a,vs = [.ref a]/\(∃ xs,SqL K H1 a xs)/\R (Ite K a) H1
theorem mH{l:Expr}{ta:TA}{es:List Expr}{k:Nat}{tp p pos:Pos} (hg:Gl X "enumerate") (hm:X.mg "enumerate" = none) (ha:PA X [l] ta) (hs:starEach [l] X.env = [(false,eval l X.env)]:=by rfl) :
  PI X (.Tuple es k tp) (.Call (.Name "enumerate" p) [l] [] pos) (iEnum X.K ta):=by
 intro pins s σ H R I h;refine Call_ (jo I hg hm ui (PyProof.Rows.callWith_type1 (thn (ha pos pins s σ H _ I h) fun us s1 ⟨vs,H1,I1,r1,q1⟩=>?_) hs rfl));obtain⟨a,e,⟨xs,hq⟩,q⟩:=q1;subst e;obtain⟨u,rfl,ru⟩:=ja r1
 cases ru
 obtain⟨its,rv,p,hz⟩:=I1.list hq;refine call_enumerate_list p.isList fun h' he hit hsz hk=>?_;refine wpAny_pyIter_enum he ?_;refine⟨s1.heap.objs.size+1,[s1.heap.objs.size+1,s1.heap.objs.size],_,_,H1,rfl,I1.kept (t':=s1.toks) hk,AU a _ _ (Nat.succ_ne_self _),⟨⟨_,he⟩,hit⟩,fun b hb=>?_,q⟩;have hb':s1.heap.objs.size<=b:=by
  rcases JI.mp hb with rfl | hb
  ·exact L1 _
  ·have e3:b=s1.heap.objs.size:=by simpa using hb
   rw[e3];exact JF _
 exact I1.fpOk hb' (I1.hok.fresh hb')
end
theorem ym{K:JH}{a:Addr}{xs:List V}{g:TG}{tb:TS}{D:Ends}{σ:St}{H:Hp}(Pv:Nat->St->Hp->Prop)(h0:Pv 0 σ H)(hl:∀ i σ H,i<=xs.length->Pv i σ H->SqL K H a xs)
  (hs:∀ i x σ H T,xs[i]?=some x->Pv i σ H->H T=none->g (.ref T) σ (upd H T (.tup [.int (i:Int),x])) fun σ2 H2=>tb { D with nx:=Pv (i+1),ct:=Pv (i+1),bk:=D.nx } σ2 H2) (hd:∀ σ H,Pv xs.length σ H->D.nx σ H) :
  ∃ W:Nat->Nat->St->Hp->Prop,(∃ m,W 0 m σ H)/\∀ i m σ H,W i m σ H ->
   ((Ite K a).stop i H/\D.nx σ H)∨((Ite K a).go i H/\∃ N:St->Hp->Prop,(∀ σ' H',N σ' H'->∃ m',m'<m/\W (i+1) m' σ' H')/\∀ x H',(Ite K a).yld i H x H'->g x σ H' fun σ2 H2=>tb { D with nx:=N,ct:=N,bk:=D.nx } σ2 H2):=by
 refine⟨fun i m σ H=>m=xs.length-i/\i<=xs.length/\Pv i σ H,⟨xs.length,by simp,Ky _,h0⟩,?_⟩
 rintro i m σ H ⟨rfl,hi,p⟩;have q:=hl i σ H hi p;by_cases hlt:i<xs.length
 ·refine .inr ⟨⟨xs,xs[i],q,by simp[hlt]⟩,Pv (i+1),fun σ' H' p'=>⟨xs.length-(i+1),by omega,rfl,hlt,p'⟩,fun v H' y=>?_⟩
  obtain⟨T,x,hT,rfl,rfl,y⟩:=y;exact hs i x σ _ T (y xs q) p hT
 ·have e:i=xs.length:=by omega
  subst e;exact .inl ⟨⟨xs,q,JF _⟩,hd σ H p⟩
section
variable{X:Cx}
end
theorem wx{n j:Nat}(h:j<n):ixN n (j:Int)=some j:=by
 unfold ixN;rw[if_pos (by omega),if_pos (by omega)]
 rfl
theorem kW:∀{ds:List PyData},(∀ d∈ds,d.canLay0=true)->PyData.canLayAll0 ds=true
 |[],_=>by simp[PyData.canLayAll0]
 |d::ds,h=>by
  rw[PyData.canLayAll0,h d (by simp),kW fun x hx=>h x (by simp[hx])]
  rfl
theorem m9{n:Nat}:∀{ds:List PyData},(∀ d∈ds,d.depth<=n)->PyData.depthAll ds<=n
 |[],_=>by simp[PyData.depthAll]
 |d::ds,h=>by
  have h1:=h d (by simp)
  have h2:=m9 (ds:=ds) fun x hx=>h x (JK _ hx);rw[PyData.depthAll];omega
theorem mz{ds:List PyData}(h:∀ d∈ds,d.canLay0=true/\d.depth<=10):SeqAt.shaped (.list ds)=true:=by
 have h1:=kW fun d hd=>(h d hd).1;have h2:=m9 fun d hd=>(h d hd).2;have h3:PyData.depth (.list ds)<=64:=by simp only[PyData.depth];omega
 show(PyData.canLay0 (.list ds)&&decide (PyData.depth (.list ds)<=64))=true;rw[LG];exact⟨by simp only[PyData.canLay0];exact h1,decide_eq_true h3⟩
theorem flat3(i j k:Int):(PyData.tuple [.int i,.int j,.int k]).canLay0=true/\(PyData.tuple [.int i,.int j,.int k]).depth<=10:=by
 constructor
 ·simp[PyData.canLay0,PyData.canLayAll0]
 ·simp[PyData.depth,PyData.depthAll]
theorem flat2(i j:Int):(PyData.tuple [.int i,.int j]).canLay0=true/\(PyData.tuple [.int i,.int j]).depth<=10:=by
 constructor
 ·simp[PyData.canLay0,PyData.canLayAll0]
 ·simp[PyData.depth,PyData.depthAll]
noncomputable def cxG(X:Cx)(scope:Scope)(fr:List (Str×Nat))(xs:List Str)(C:Addr)(ex:List Addr)(s:Shared)(H:Hp):Cx where
 prog:=X.prog
 w:=X.w
 K:=X.K
 mg:=X.mg
 base:=X.base
 A:=X.A
 N:=xs++fr.map (·.1)
 s₀:=s
 H₀:=H
 env:=compEnvC scope (clOf X.env fr) C X.env
 outer:=X.stack
 stack:=X.stack
 ex:=ex
 fn:=fun _=>false
 calm:=X.calm
 pn:=[]
 xe:=fun _ _=>False
structure dI(X:Cx)(scope:Scope)(fr:List (Str×Nat))(xs:List Str):Prop where
 clos:closureFor scope X.env=pure (clOf X.env fr)
 cell:∀ y∈scope.names,y.2≠.cell
 kind:scope.kind=.function
 names:∀ y∈scope.names,y.2=.local->scope.names.lookup y.1=some .local
 slot:∀ p∈fr,X.N[p.2]?=some p.1/\X.env.kindOf p.1=some .cell
 has:∀ y∈(relabel scope X.env).names,(y.2=.cell∨y.2=.free)->y.1∈fr.map (·.1)
 frk:∀ p∈fr,(relabel scope X.env).names.lookup p.1=some .cell
theorem dI.of{X:Cx}{scope:Scope}{fr:List (Str×Nat)}{xs:List Str}(clos:closureFor scope X.env=pure (clOf X.env fr))(cell:∀ y∈scope.names,y.2≠.cell)(kind:scope.kind=.function)(names:∀ y∈scope.names,y.2=.local->scope.names.lookup y.1=some .local)
  (slot:∀ p∈fr,X.N[p.2]?=some p.1/\X.env.kindOf p.1=some .cell) (nf:∀ z∈scope.names,z.2=.free->z.1∈fr.map (·.1)) (frk:∀ p∈fr,(relabel scope X.env).names.lookup p.1=some .cell):dI X scope fr xs where
 clos:=clos
 cell:=cell
 kind:=kind
 names:=names
 slot:=slot
 has:=fun z hz hk=>by
  obtain⟨⟨n,k⟩,hm,e⟩:=Kk.mp (show z∈scope.names.map _ from hz);have h2:=cell _ hm;dsimp only at e h2;have hn:z.1=n:=by rw[← e];split<;>rfl
  have hf:k=.free:=by
   by_cases q:k=.free
   ·exact q
   ·have hb:(k == NameKind.free)=false:=by simpa using q
    rw[hb]at e;simp only[Lq,Kv,if_false]at e;subst e;exact(hk.elim h2 q).elim
  have:=nf _ hm hf;rw[hn];exact this
 frk:=frk
noncomputable abbrev nons(xs:List Str):St:=JM xs.length none
section
variable{X:Cx}{pins:List (Addr×Obj)}{σ:St}{H:Hp}{s:Shared}{scope:Scope}{fr:List (Str×Nat)}{xs:List Str}
theorem dI.cells(O:dI X scope fr xs)(I:Inv X pins σ H s){y:Str}{c:Addr}(h:(clOf X.env fr).lookup y=some c):X.env.cells.lookup y=some c:=by
 obtain⟨hm,e⟩:=dS h;obtain⟨p,hp,ep⟩:=Kk.mp hm;have k:=(O.slot p hp).2;rw[ep]at k;obtain⟨c',e'⟩:=I.ok.has y (.inl k);rw[e']at e;rw[e',e];rfl
theorem CM{fp:List Addr}(O:dI X scope fr xs)(I:Inv X pins σ H s)(hf:∀ b∈fp,FpOk X pins H b)(hfs:∀ b∈fp,b<s.heap.objs.size){g h':Heap}{tk:Nat}(hg:g=s.heap.push (LCg.lst []))
  (hk:∀ b o,g.get? b=some o->h'.get? b=some o) (hC:h'.Ns g.objs.size fun _=>none) :
  Inv (cxG X scope fr xs g.objs.size (s.heap.objs.size::fp) { s with heap:=g } H) (X.pn++pins++[(s.heap.objs.size,LCg.lst [])]) (nons xs++frOf fr σ) H { s with heap:=h',toks:=tk }:=by
 have hsz:g.objs.size=s.heap.objs.size+1:=by rw[hg,Heap.size_push]
 have kp:∀ b o,s.heap.get? b=some o->g.get? b=some o:=fun b o e=>by rw[hg];exact Heap.get?_push_of_some _ e
 have hk0:∀ b o,s.heap.get? b=some o->h'.get? b=some o:=fun b o e=>hk b o (kp b o e);have hDo:h'.get? s.heap.objs.size=some (LCg.lst []):=hk _ _ (by rw[hg];exact Heap.get?_push_size _ rfl)
 have neC:∀ b,b<s.heap.objs.size->b≠g.objs.size:=fun b e=>by rw[hsz];exact JV (Lw e)
 have hDC:s.heap.objs.size≠g.objs.size:=by rw[hsz];exact JV (K4 _)
 have hfr:H g.objs.size=none:=I.hok.fresh (by rw[hsz];exact L1 _)
 have hfD:H s.heap.objs.size=none:=I.hok.fresh (JF _);have cne:∀ y c,X.env.cells.lookup y=some c->c<s.heap.objs.size:=fun y c e=>by
  obtain⟨v,q⟩:=I.cell y c e;exact q.lt
 have nst:∀ b,b≠X.env.locals->b∉X.fs->b∉frs X.stack:=fun b h1 h2 z=>(JI.mp (I.stkSub b z)).elim h1 h2;have nstD:s.heap.objs.size∉frs X.stack:=nst _ (K5 I.lt) (I.nofs (JF _));refine⟨⟨I.ok.mod,O.kind,I.ok.glob,I.ok.blt,JF _,?_,?_,fun _ _ z _=>(by cases z),I.ok.hd,I.ok.frames,.inl rfl,?_,?_,?_,?_,?_,?_,I.stkFree⟩,rfl,I.bare,Un.kept hk,?_,?_,hfr,?_,?_,I.hok.kept hk0,?_⟩
 ·intro y z c h1 h2;exact I.ok.inj y z c (O.cells I h1) (O.cells I h2)
 ·intro y hy;have hm:y∈fr.map (·.1):=by
   rcases hy with hy | hy
   ·exact O.has (y,_) (Lj hy) (.inl rfl)
   ·exact O.has (y,_) (Lj hy) (.inr rfl)
  exact⟨_,bA hm⟩
 ·intro b hb;rcases JI.mp hb with rfl | hb
  ·exact⟨hDC,fun y c e=>JV (cne y c (O.cells I e))⟩
  ·exact⟨neC b (hfs b hb),fun y c e=>(hf b hb).2.2.2.2.1 y c (O.cells I e)⟩
 ·intro b o e;exact⟨kp b o (I.bs b o e).1,(I.bs b o e).2⟩
 ·show X.base.objs.size<=g.objs.size;rw[hsz];exact MS (Lf I.ok.bsz I.sz)
 ·intro b o e hb;rcases JI.mp hb with z | hb
  ·have:=Heap.lt_size (I.bs b o e).1
   rw[z]at this;exact KN _ this
  ·rcases(hf b hb).2.2.2.1 with z | z
   ·exact I.ok.noex b o e z
   ·exact absurd (Kx (Heap.lt_size (I.ok.bs b o e).1) z) (KN _)
 ·intro b hb;rcases JI.mp hb with z | hb
  ·rw[z];exact nstD
  ·exact nst b (hf b hb).2.1 (hf b hb).2.2.1
 ·exact(I.kept (h':=g) (t':=s.toks) kp).stack
 ·refine⟨_,hC,fun i y v e1 e2 e3=>?_⟩;have e1a:(xs++fr.map (·.1))[i]?=some y:=e1;by_cases hi:i<xs.length
  ·rw[Kj (by simpa using hi)]at e2
   rw[LK,if_pos hi]at e2
   cases e2
  ·have e1':(fr.map (·.1))[i-xs.length]?=some y:=by
    rw[Ka (by omega)]at e1a
    exact e1a
   have e2':(frOf fr σ)[i-xs.length]?=some (some v):=by
    rw[Ka (by simp;omega)]at e2
    simpa using e2
   generalize i-xs.length=k at e1' e2';unfold frOf at e2';rw[JJ]at e1' e2'
   cases q:fr[k]? with
   |none=>rw[q]at e1';cases e1'
   |some p =>
    rw[q]at e1' e2';have ey:p.1=y:=KH e1';have ev:(σ[p.2]?).join=some v:=KH e2';have hp:p∈fr:=JG q;obtain⟨hN,hK⟩:=O.slot p hp;have hkk:=O.frk p hp;rw[ey]at hN hK hkk;have ev':σ[p.2]?=some (some v):=by
     cases q2:σ[p.2]? with
     |none=>rw[q2]at ev;cases ev
     |some w=>rw[q2]at ev;exact congrArg some ev
    obtain⟨m,hn,hl⟩:=I.loc;obtain⟨u,r,l⟩:=hl p.2 y v hN ev' (.inr (.inl hK));refine⟨u,r,?_⟩;rcases l with⟨k1,_⟩ | ⟨_,c,ec,z⟩
    ·rw[hK]at k1;cases k1
    ·have hm:y∈fr.map (·.1):=by rw[← ey];exact Kk.mpr ⟨p,hp,rfl⟩
     have el:=bA (env:=X.env) hm;rw[ec]at el;exact .inr ⟨.inl hkk,c,el,by obtain⟨o,ho,hd⟩:=z;exact⟨o,hk0 _ _ ho,hd⟩⟩
 ·intro y c e;obtain⟨v,o,ho,hd⟩:=I.cell y c (O.cells I e);exact⟨v,o,hk0 _ _ ho,hd⟩
 ·intro y c e;exact I.freeC y c (O.cells I e)
 ·intro p hp;rcases JW.mp hp with hp | hp
  ·cases hp
  ·rcases JW.mp hp with hp | hp
   ·obtain⟨e,n,ne,nf,d⟩:=I.pin p hp;exact⟨hk0 _ _ e,n,neC _ (Heap.lt_size e),nst _ ne nf,d⟩
   ·have ep:p=(s.heap.objs.size,LCg.lst []):=by simpa using hp
    subst ep;exact⟨hDo,hfD,hDC,nstD,fun v z=>by cases z⟩
 ·show(nons xs++frOf fr σ).length=(xs++fr.map (·.1)).length;unfold frOf;simp
theorem qL{fp:List Addr}{g:Heap}{s':Shared}{H':Hp}{σ':St}{ys:List V}{us:List Value}(I:Inv X pins σ H s)(hf:∀ b∈fp,FpOk X pins H b)(hg:g=s.heap.push (LCg.lst []))
  (J:Inv (cxG X scope fr xs g.objs.size (s.heap.objs.size::fp) { s with heap:=g } H) (X.pn++pins++[(s.heap.objs.size,LCg.lst us)]) σ' H' s') (hv:Vals ys us) (hl:ys.length<=sizeLine) :
  Inv X pins σ (upd H' s.heap.objs.size (.lst ys)) s'/\H' s.heap.objs.size=none/\FpOk X pins (upd H' s.heap.objs.size (.lst ys)) g.objs.size/\∃ m,s'.heap.Ns g.objs.size m:=by
 have hsz:g.objs.size=s.heap.objs.size+1:=by rw[hg,Heap.size_push]
 have kp:∀ b o,s.heap.get? b=some o->g.get? b=some o:=fun b o e=>by rw[hg];exact Heap.get?_push_of_some _ e
 obtain⟨eD,nD,_,_,_⟩:=J.pin (s.heap.objs.size,LCg.lst us) (by simp)
 have hDC:g.objs.size≠s.heap.objs.size:=by rw[hsz];exact K5 (K4 _)
 have nD':∀ b u,H' b=some u->b≠s.heap.objs.size:=fun b u e z=>by rw[z]at e;rw[e]at nD;cases nD
 have hx:∀ b o,s.heap.get? b=some o->b∉fp->b∉s.heap.objs.size::fp:=fun b o e hb z=>by
  rcases JI.mp z with z | z
  ·have:=Heap.lt_size e
   rw[z]at this;exact KN _ this
  ·exact hb z
 have bU:Un (frs X.stack) (s.heap.objs.size::fp) H H' g s'.heap:=J.base;have ltD:∀ b o,s.heap.get? b=some o->b≠s.heap.objs.size:=fun b o e=>JV (Heap.lt_size e);have un:Un (frs X.stack) fp H (upd H' s.heap.objs.size (.lst ys)) s.heap s'.heap:=by
  refine⟨fun b o e n hb he=>bU.keep b o (kp b o e) n hb (hx b o e he),fun b o e n hb he=>bU.slot b o (kp b o e) n hb (hx b o e he),fun b o e n he=>?_,fun b o e he=>bU.there b o (kp b o e) (hx b o e he),fun b xs e=>?_,fun b o u e=>?_,fun b ps e=>?_⟩
  ·rw[ao (ltD b o e)];exact bU.free b o (kp b o e) n (hx b o e he)
  ·have q:=bU.tups b xs e
   rw[ao (nD' b _ q)];exact q
  ·have q:=bU.frzs b o u e
   rw[ao (nD' b _ q)];exact q
  ·obtain⟨more,q⟩:=bU.tbls b ps e;exact⟨more,by rw[ao (nD' b _ q)];exact q⟩
 have hok:HOk X.prog X.w (upd H' s.heap.objs.size (.lst ys)) s'.heap:=fun b u e=>by
  by_cases hb:b=s.heap.objs.size
  ·rw[hb,ag]at e
   cases e
   rw[hb];exact⟨hl,us,us.length,hv,eD⟩
  ·rw[ao hb]at e;exact(J.hok b u e).stay (fun c v _ q=>q) (fun c q=>by rw[ao (nD' c _ q)];exact q) fun c xs q=>by rw[ao (nD' c _ q)];exact q
 have os:s'.os=s.os:=J.os;refine⟨I.call' os un hok J.bare fun b hb=>⟨(hf b hb).2.2.2.1,(hf b hb).2.1,(hf b hb).2.2.2.2⟩,nD,?_,?_⟩
 ·refine I.fpOk (H':=upd H' s.heap.objs.size (.lst ys)) (b:=g.objs.size) (by rw[hsz];exact L1 _) ?_
  rw[ao hDC];exact J.free
 ·obtain⟨m,hn,_⟩:=J.loc;exact⟨m,hn⟩
end
noncomputable def PTs(X:Cx)(ifs:List Expr)(t:TT):Prop :=
 ∀(pins:List (Addr×Obj))(s:Shared)(σ:St)(H:Hp)(Q:Bool->Hp->Prop),Inv X pins σ H s->t σ H Q ->
  wpAny (model X.prog X.w) X.A (forIn ifs true fun c r=>if r=true then do let ok ← isTrue c X.env (eval c X.env);pure (ForInStep.yield ok) else pure (ForInStep.yield r)) (fun b s'=>∃ H',Inv X pins σ H' s'/\Q b H') X.xe s
noncomputable def tYes:TT:=fun _ H Q=>Q true H
theorem dA{X:Cx}:PTs X [] tYes:=fun _ _ _ H _ I h=>wpAny_tests_nil ⟨H,I,h⟩
theorem qf{X:Cx}{c:Expr}{t:TT}(h:PT X c t):PTs X [c] t:=fun pins s σ H Q I q=>wpAny_tests_one (h pins s σ H Q I q)
section
variable{prog:Program}{w:World}{A:Around}{s:Shared}
theorem DG{elt target iter:Expr}{ifs:List Expr}{scope:Scope}{pos:Pos}{it acc:Value}{env:Env}{R:Result->Shared->Prop}(I:Nat->Shared->Prop)
  (turn:∀ n s,I n s->wpAny (model prog w) A (pyNext it) (fun r s₁=>match r with
   |none=>R (.ok .next) s₁
   |some v=>wpAny (model prog w) A (letOwnedTupleGo target it v) (fun _ s₀=>wpAny (model prog w) A (assign target env v) (fun _ s₂ =>
     wpAny (model prog w) A (forIn ifs true fun c r=>if r=true then do let ok ← isTrue c env (eval c env);pure (ForInStep.yield ok) else pure (ForInStep.yield r)) (fun ok s₃=>if ok=true then wpAny (model prog w) A (eval elt env) (fun x s₄ =>
      wpAny (model prog w) A (call (.builtin "list.append") [acc,x]) (fun _ s₅=>∃ m,m<n/\I m s₅) (notedBy (model prog w) A env fun e s'=>R (.error e) s') s₄) (notedBy (model prog w) A env fun e s'=>R (.error e) s') s₃
      else ∃ m,m<n/\I m s₃) (notedBy (model prog w) A env fun e s'=>R (.error e) s') s₂)
     (notedBy (model prog w) A env fun e s'=>R (.error e) s') s₀) (notedBy (model prog w) A env fun e s'=>R (.error e) s') s₁) (notedBy (model prog w) A env fun e s'=>R (.error e) s') s)
  (n:Nat) (h:I n s):codeAny (model prog w) A (.compLoop (.ListComp elt [⟨target,iter,ifs,0⟩] scope pos) 0 it acc env) R s:=by
 refine codeAny_loop rfl I (fun n s hI=>?_) n h;show wpAny _ A ((compTurn (.ListComp elt [⟨target,iter,ifs,0⟩] scope pos) 0 it acc env).onRaise (fun x=>do noteFrame x env;theTreesLotGoes x)) _ _ s
 refine wpAny_noted ?_;rw[compTurn_list];refine wpAny_bind (wpAny_standAt (wpAny_bind (wpAny_mono (turn n s hI) (fun r s₁ h₁=>?_) fun _ _ h'=>h')))
 cases r with
 |none=>exact wpAny_pure h₁
 |some v =>
  refine wpAny_bind (wpAny_mono h₁ (fun _ s₀ h₀'=>?_) fun _ _ h'=>h');refine wpAny_bind (wpAny_mono h₀' (fun _ s₂ h₂=>?_) fun _ _ h'=>h');refine wpAny_bind (wpAny_mono h₂ (fun okb s₃ h₃=>?_) fun _ _ h'=>h')
  cases okb with
  |false=>exact wpAny_pure ⟨rfl,h₃⟩
  |true=>exact wpAny_bind (wpAny_bind (wpAny_mono h₃ (fun x s₄ h₄=>wpAny_bind (wpAny_mono h₄ (fun _ s₅ h₅=>wpAny_pure (wpAny_pure ⟨rfl,h₅⟩)) fun _ _ h'=>h')) fun _ _ h'=>h'))
end
noncomputable def mj(g:TG)(tt:TT)(te:TE)(n:Nat)(fv:St)(J:It)(H1:Hp)(QQ:List V->Hp->Prop):Prop :=
 ∃ W:Nat->Nat->List V->Hp->Prop,(∃ m,W 0 m [] H1)/\∀ i m ys H,W i m ys H->ys.length<=sizeLine /\
  ((J.stop i H/\QQ ys H)∨(J.go i H/\∃ N:List V->Hp->Prop,(∀ zs H2,N zs H2->∃ m',m'<m/\W (i+1) m' zs H2) /\
   ∀ x H',J.yld i H x H'->g x (JM n none++fv) H' fun σ2 H2=>σ2.drop n=fv/\tt σ2 H2 fun b H3=>if b=true then te σ2 H3 (fun y H4=>N (ys++[y]) H4) else N ys H3))
section
variable{X:Cx}{scope:Scope}{fr:List (Str×Nat)}{xs:List Str}{elt iter tg:Expr}{ifs:List Expr}{pos:Pos}{te:TE}{tt:TT}{tgt:TG}{wi:TI}
theorem pq{pins:List (Addr×Obj)}{σ:St}{H:Hp}{s:Shared}{E:Value->Shared->Prop}{it:Addr}{fp:List Addr}{tn:Nat->Heap->Prop}{J:It}{RR:Value->Addr->Result->Shared->Prop}{QQ:List V->Hp->Prop}(hc:X.calm=true)(O:dI X scope fr xs)
  (hg0:∀ C ex s H,PG (cxG X scope fr xs C ex s H) tg tgt) (ht:∀ C ex s H,PTs (cxG X scope fr xs C ex s H) ifs tt) (he:∀ C ex s H,PE (cxG X scope fr xs C ex s H) elt te) (I:Inv X pins σ H s) (T:Turn X.prog X.w X.K tg J fp it tn) (st:tn 0 s.heap) (hf:∀ b∈fp,FpOk X pins H b) (hq:mj tgt tt te xs.length (frOf fr σ) J H QQ)
  (fin:∀ D C H4 ys s4 m,Inv X pins σ (upd H4 D (.lst ys)) s4->H4 D=none->FpOk X pins (upd H4 D (.lst ys)) C->s4.heap.Ns C m->QQ ys H4->RR (.ref D) C (.ok .next) s4) :
  wpAny (model X.prog X.w) X.A (newList []) (fun acc s₃=>wpAny (model X.prog X.w) X.A (newFunctionEnv scope X.env.globals (clOf X.env fr) [] X.env.qual none .none (some X.env)) (fun cenv s₄ =>
   codeAny (model X.prog X.w) X.A (.compStart (.ListComp elt [⟨tg,iter,ifs,0⟩] scope pos) 0 (.ref it) acc { cenv with scope:=relabel scope X.env }) (RR acc cenv.locals) s₄) E s₃) E s:=by
 obtain⟨W,⟨m0,w0⟩,turn⟩:=hq;have hfs:∀ b∈fp,b<s.heap.objs.size:=fun b hb=>by
  obtain⟨o,e,_⟩:=T.obj 0 s.heap st b hb;exact Heap.lt_size e
 refine wpAny_newObj_type (wpAny_newFunctionEnv O.cell (by intro y hy;simp at hy) (fun h₁ hns₁ hsb₁=>?_) O.kind)
 dsimp only at hns₁ hsb₁ ⊢;generalize hH2:s.heap.push { cls:=.type "list",dict:=none,data:=.seq ([]:List Value).toArray }=g at hns₁ hsb₁ ⊢;have hg:g=s.heap.push (LCg.lst []):=hH2.symm;have hsz:g.objs.size=s.heap.objs.size+1:=by rw[hg,Heap.size_push]
 have hk:∀ b o,g.get? b=some o->h₁.get? b=some o:=fun b o e=>hsb₁.extBut b o (JV (Heap.lt_size e)) (Heap.get?_push_of_some _ e);have kp:∀ b o,s.heap.get? b=some o->h₁.get? b=some o:=fun b o e=>hk b o (by rw[hg];exact Heap.get?_push_of_some _ e)
 have J0:=CM (h':=h₁) (tk:=s.toks+([]:List (Str×Value)).length) O I hf hfs hg hk hns₁;have stat:∀{H':Hp}{us:List Value},(∀ b∈fp,H' b=none)->∀ b∈fp,FpOk (cxG X scope fr xs g.objs.size (s.heap.objs.size::fp) { s with heap:=g } H) (X.pn++pins++[(s.heap.objs.size,LCg.lst us)]) H' b:=fun{H' us} hn b hb=>by
  obtain⟨_,f1,f2,f3,f4,f5⟩:=hf b hb;refine⟨hn b hb,?_,fun z=>(JI.mp (I.stkSub b z)).elim f1 f2,.inl (JK _ hb),fun y c e=>f4 y c (O.cells I e),fun p hp=>?_⟩
  ·show b≠g.objs.size;rw[hsz];exact JV (Lw (hfs b hb))
  ·rcases JW.mp hp with hp | hp
   ·cases hp
   ·rcases JW.mp hp with hp | hp
    ·exact f5 p hp
    ·have ep:p=(s.heap.objs.size,LCg.lst us):=by simpa using hp
     rw[ep];exact K5 (hfs b hb)
 have loop:codeAny (model X.prog X.w) X.A (.compLoop (.ListComp elt [⟨tg,iter,ifs,0⟩] scope pos) 0 (.ref it) (.ref s.heap.objs.size) (compEnvC scope (clOf X.env fr) g.objs.size X.env))
   (RR (.ref s.heap.objs.size) g.objs.size) { s with heap:=h₁,toks:=s.toks+([]:List (Str×Value)).length }:=by
  refine DG (fun n s'=>∃ i ys us H',Inv (cxG X scope fr xs g.objs.size (s.heap.objs.size::fp) { s with heap:=g } H) (X.pn++pins++[(s.heap.objs.size,LCg.lst us)]) (nons xs++frOf fr σ) H' s'/\Vals ys us/\tn i s'.heap/\(∀ b∈fp,H' b=none)/\W i n ys H') ?_ m0
   ⟨0,[],[],H,J0,.nil,T.keep 0 s.heap h₁ st fun b _ o e=>kp b o e,fun b hb=>(hf b hb).1,w0⟩
  rintro n s3 ⟨i,ys,us,H3,J3,hv,st3,fr3,w3⟩;obtain⟨hlen,hh⟩:=turn i n ys H3 w3;have none_err:∀{α:Type}{t:Sem α}{Q:α->Shared->Prop}{E':Value->Shared->Prop}{s:Shared},wpAny (model X.prog X.w) X.A t Q (fun _ _=>False) s->wpAny (model X.prog X.w) X.A t Q E' s:=fun h=>wpAny_mono h (fun _ _ q=>q) fun _ _ z=>z.elim;have weakN:∀{σ6:St},σ6.length=(nons xs++frOf fr σ).length->σ6.drop xs.length=frOf fr σ->∀(i:Nat) v,(nons xs++frOf fr σ)[i]?=some (some v)->σ6[i]?=some (some v):=fun{σ6} hl6 e6 i v e=>by
   by_cases hi:i<xs.length
   ·rw[Kj (by simpa using hi),LK,if_pos hi]at e
    cases e
   ·rw[Ka (by simp;omega),← e6,LD]at e
    have:xs.length+(i-(nons xs).length)=i:=by simp;omega
    rw[this]at e;exact e
  rcases hh with⟨stop,qn⟩ | ⟨go,N,hN,step⟩
  ·refine none_err (thn (T.done (cxG X scope fr xs g.objs.size (s.heap.objs.size::fp) { s with heap:=g } H) rfl rfl rfl hc i _ s3 _ H3 _ J3 (stat fr3) st3 stop) fun r s4 ⟨hr,J4⟩=>?_);subst hr;obtain⟨I4,nD,fC,m,hn⟩:=qL I hf hg J4 hv hlen;exact fin _ _ H3 ys s4 m I4 nD fC hn qn
  ·refine none_err (thn (T.item (cxG X scope fr xs g.objs.size (s.heap.objs.size::fp) { s with heap:=g } H) rfl rfl rfl hc i _ s3 _ H3 _ J3 (stat fr3) st3 go) fun r s4 ⟨u,hr,h4⟩=>?_);subst hr;refine none_err (thn h4 fun _ s5 ⟨v,H5,J5,r5,y5,st5,fr5⟩=>?_);have J5':=J5.pinned (stat fr5) (T.obj _ _ st5);refine none_err (thn (hg0 _ _ _ _ _ s5 _ H5 v u _ J5' r5 (step v H5 y5)) fun _ s6 ⟨σ6,H6,J6,e6,q6⟩=>?_);refine none_err (thn (ht _ _ _ _ _ s6 σ6 H6 _ J6 q6) fun b s6' ⟨H6',J6',q6'⟩=>?_);have hl6:σ6.length=(nons xs++frOf fr σ).length:=J6.len.trans J3.len.symm
   cases b with
   |false =>
    rw[if_neg Kb]at q6' ⊢;obtain⟨m',hm,w7⟩:=hN ys H6' q6';have pinF:∀ b∈fp,∀ o,s5.heap.get? b=some o->s6'.heap.get? b=some o/\H6' b=none:=fun b hb o e=>by
     obtain⟨q1,q2,_⟩:=J6'.pin (b,o) (JT _ (JT _ (eQ hb e)));exact⟨q1,q2⟩
    refine⟨m',hm,i+1,ys,us,H6',J6'.unpinned.weak (σ':=nons xs++frOf fr σ) hl6.symm (weakN hl6 e6),hv,T.keep _ _ _ st5 fun b hb o e=>(pinF b hb o e).1,fun b hb=>?_,w7⟩;obtain⟨o,e,_⟩:=T.obj _ _ st5 b hb;exact(pinF b hb o e).2
   |true =>
    rw[if_pos rfl]at q6' ⊢;refine none_err (thn (he _ _ _ _ _ s6' _ H6' _ J6' q6') fun u7 s7 ⟨v7,H7,J7,r7,q7⟩=>?_);obtain⟨m',hm,w7⟩:=hN _ H7 q7;obtain⟨eD,nD,dC,dF,dd⟩:=J7.pin (s.heap.objs.size,LCg.lst us) (JT _ (K3 _ (JT _ (by simp))))
    have hvl:=hv.length;refine append_at (hsz:=by show us.toArray.size<=sizeLine;rw[JU,← hvl];exact hlen) eD fun h8 hs8 hD8=>?_
    have pinD:∀ p∈X.pn++pins,p.1≠s.heap.objs.size:=fun p hp z=>by
     have:=Heap.lt_size (I.pin p hp).1;rw[z]at this;exact KN _ this
    have J7a:Inv (cxG X scope fr xs g.objs.size (s.heap.objs.size::fp) { s with heap:=g } H) (X.pn++pins) _ H7 s7:=J7.pins_of fun p hp=>J7.pin p (JT _ (K3 _ (K3 _ hp)))
    have J8:Inv (cxG X scope fr xs g.objs.size (s.heap.objs.size::fp) { s with heap:=g } H) (X.pn++pins) _ H7 { s7 with heap:=h8 }:=J7a.turned (t':=s7.toks) (fun b o hb e=>(hs8.2 b hb).trans e) nD dC (.inl JO) (fun y c e z=>by
     obtain⟨w',q⟩:=I.cell y c (O.cells I e);have:=q.lt;rw[z]at this
     exact KN _ this) (fun p hp=>(JW.mp hp).elim (fun z=>by cases z) (pinD p))
    have J9:Inv (cxG X scope fr xs g.objs.size (s.heap.objs.size::fp) { s with heap:=g } H) (X.pn++pins++[(s.heap.objs.size,LCg.lst (us++[u7]))]) _ H7 { s7 with heap:=h8 }:=J8.pins_of fun p hp=>by
     rcases JW.mp hp with hp | hp
     ·exact J8.pin p (JT _ hp)
     ·have ep:p=(s.heap.objs.size,LCg.lst (us++[u7])):=by simpa using hp
      subst ep;exact⟨hD8.trans (congrArg some (LCg.lst_snoc us u7)),nD,dC,dF,fun v z=>by cases z⟩
    have J10:=J9.weak (σ':=nons xs++frOf fr σ) hl6.symm (weakN hl6 e6);have pinF:∀ b∈fp,∀ o,s5.heap.get? b=some o->s7.heap.get? b=some o/\H7 b=none:=fun b hb o e=>by
     obtain⟨q1,q2,_⟩:=J7.pin (b,o) (JT _ (JT _ (eQ hb e)));exact⟨q1,q2⟩
    refine⟨m',hm,i+1,ys++[v7],us++[u7],H7,J10,hv.append (.cons r7 .nil),T.keep _ _ _ st5 fun b hb o e=>(hs8.2 b (JV (hfs b hb))).trans (pinF b hb o e).1,fun b hb=>?_,w7⟩;obtain⟨o,e,_⟩:=T.obj _ _ st5 b hb;exact(pinF b hb o e).2
 exact codeAny_compStart_list loop (T.self X.A 0 _ _ _ (T.keep 0 s.heap h₁ st fun b _ o e=>kp b o e) loop)
noncomputable def tCompE(wi:TI)(g:TG)(tt:TT)(te:TE)(n:Nat)(fr:List (Str×Nat)):TE:=fun σ H Q=>wi σ H fun J H1=>mj g tt te n (frOf fr σ) J H1 fun ys H2=>∀ D,H2 D=none->Q (.ref D) (upd H2 D (.lst ys))
theorem c7(hc:X.calm=true)(O:dI X scope fr xs)(hi:PI X tg iter wi)(hg0:∀ C ex s H,PG (cxG X scope fr xs C ex s H) tg tgt)(ht:∀ C ex s H,PTs (cxG X scope fr xs C ex s H) ifs tt)(he:∀ C ex s H,PE (cxG X scope fr xs C ex s H) elt te)(hs:∀ x,foldedSetIterable iter X.env x=pure x:=by intro _;rfl) :
  PE X (.ListComp elt [⟨tg,iter,ifs,0⟩] scope pos) (tCompE wi tgt tt te xs.length fr):=by
 intro pins s σ H Q I h;rw[eval_ListComp];refine wpAny_comprehension_free (use:=none) rfl hs O.clos O.kind O.names (thn (hi pins s σ H _ I h) fun xv s1 h1=>thn h1 fun itv s2 h2=>?_);obtain⟨it,fp,tn,J,H2,e,I2,T,st2,f2,q2⟩:=h2;subst e;refine pq (RR:=fun acc C=>compPost (model X.prog X.w) X.A X.xe none (EP X pins σ Q) acc C) hc O hg0 ht he I2 T st2 f2 q2 ?_;intro D C H4 ys s4 m I4 nD fC hn q4;refine⟨m,hn,fun h' hs'=>?_⟩;obtain⟨g0,g1,g2,g3,g4,g5⟩:=fC;exact⟨.ref D,_,I4.turned (t':=s4.toks) (fun b o hb e=>(hs'.2 b hb).trans e) g0 g1 g3 g4 g5,rfl,q4 D nD⟩
noncomputable def AW(i:Nat)(wi:TI)(g:TG)(tt:TT)(te:TE)(n:Nat)(fr:List (Str×Nat)):TS:=fun D σ H=>wi σ H fun J H1=>mj g tt te n (frOf fr σ) J H1 fun ys H2=>∀ a,H2 a=none->D.nx (σ.set i (some (.ref a))) (upd H2 a (.lst ys))
theorem cG{i:Nat}{y:Str}{py spos:Pos}(hc:X.calm=true)(hN:X.N.Nodup)(hi':X.N[i]?=some y)(hy:X.env.scope.names.lookup y=some .local)(O:dI X scope fr xs)(hi:PI X tg iter wi)(hg0:∀ C ex s H,PG (cxG X scope fr xs C ex s H) tg tgt)(ht:∀ C ex s H,PTs (cxG X scope fr xs C ex s H) ifs tt)(he:∀ C ex s H,PE (cxG X scope fr xs C ex s H) elt te)
  (hsw:swapsWith (.ListComp elt [⟨tg,iter,ifs,0⟩] scope pos) (some (.Name y py)) spos.line X.env=pure true:=by rfl) (hs:∀ x,foldedSetIterable iter X.env x=pure x:=by intro _;rfl) :
  PS X (.Assign [.Name y py] (.ListComp elt [⟨tg,iter,ifs,0⟩] scope pos) spos) (AW i wi tgt tt te xs.length fr):=by
 intro pins s σ H D I h;rw[exec_Assign_Name_used _ _ _ _ hsw];refine wpAny_bind (wpAny_standAt (wpAny_bind ?_));show wpAny _ X.A (do let _ ← comprehension (.ListComp elt [⟨tg,iter,ifs,0⟩] scope pos) scope X.env _ (newList []) false (eval iter X.env) (some (assign (.Name y py) X.env))) _ _ s
 refine wpAny_bind (thn (wpAny_comprehension_free (use:=some (assign (.Name y py) X.env)) (Q:=fun _ s'=>SP X pins D .next s') rfl hs O.clos O.kind O.names (thn (hi pins s σ H _ I h) fun xv s1 h1=>thn h1 fun itv s2 h2=>?_)) fun _ s' hq=>wpAny_pure (wpAny_pure hq));obtain⟨it,fp,tn,J,H2,e,I2,T,st2,f2,q2⟩:=h2;subst e;refine pq (RR:=fun acc C=>compPost (model X.prog X.w) X.A X.xe (some (assign (.Name y py) X.env)) (fun _ s'=>SP X pins D .next s') acc C) hc O hg0 ht he I2 T st2 f2 q2 ?_;intro a C H4 ys s4 m I4 nD fC hn q4;obtain⟨g0,g1,g2,g3,g4,g5⟩:=fC;obtain⟨oC,eC,hoC⟩:=LCg.ns_obj hn;have I5:Inv X (pins++[(C,oC)]) σ (upd H4 a (.lst ys)) s4:=I4.pins_of fun p hp=>by
  rcases JW.mp hp with hp | hp
  ·exact I4.pin p (JT _ hp)
  ·have ep:p=(C,oC):=by simpa using hp
   subst ep;obtain⟨es,epp,hd,_⟩:=hoC;exact⟨eC,g0,g1,g2,fun v z=>by rw[hd]at z;cases z⟩
 show wpAny _ X.A (assign (.Name y py) X.env (.ref a)) _ _ _;refine wpAny_assign_Name (eZ I5 hN hi' (.inl hy) (v:=.ref a) rfl (fun s6 I6=>?_) (.inr hy));obtain⟨e6,_⟩:=I6.pin (C,oC) (JT _ (JT _ (by simp)))
 refine⟨m,hoC.ns e6,fun h' hs'=>?_⟩;exact⟨_,_,I6.unpinned.turned (t':=s6.toks) (fun b o hb e=>(hs'.2 b hb).trans e) g0 g1 g3 g4 g5,q4 a nD⟩
end
theorem bE{K:JH}{a:Addr}{xs:List V}{g:TG}{tt:TT}{te:TE}{n:Nat}{fv:St}{H1:Hp}{QQ:List V->Hp->Prop}(Pv:Nat->List V->Hp->Prop)(hz:xs.length<=sizeLine)(h0:Pv 0 [] H1)(hl:∀ i ys H,i<=xs.length->Pv i ys H->SqL K H a xs)
  (hs:∀ i x ys H,xs[i]?=some x->Pv i ys H->g x (JM n none++fv) H fun σ2 H2=>σ2.drop n=fv/\tt σ2 H2 fun b H3=>if b=true then te σ2 H3 (fun y H4=>Pv (i+1) (ys++[y]) H4) else Pv (i+1) ys H3) (hd:∀ ys H,Pv xs.length ys H->QQ ys H) (hy:∀ i ys H,Pv i ys H->ys.length<=i)
  : mj g tt te n fv (Itl K a) H1 QQ:=by
 refine⟨fun i m ys H=>m=xs.length-i/\i<=xs.length/\Pv i ys H,⟨xs.length,by simp,Ky _,h0⟩,?_⟩
 rintro i m ys H ⟨rfl,hi,p⟩;have q:=hl i ys H hi p;have hyl:=hy i ys H p;refine⟨by omega,?_⟩
 by_cases hlt:i<xs.length
 ·refine .inr ⟨⟨xs,xs[i],q,by simp[hlt]⟩,fun zs H2=>Pv (i+1) zs H2,fun zs H2 p2=>⟨xs.length-(i+1),by omega,rfl,hlt,p2⟩,fun x H' y=>?_⟩
  obtain⟨e,y⟩:=y;subst e;exact hs i x ys _ (y xs q) p
 ·have e:i=xs.length:=by omega
  subst e;exact .inl ⟨⟨xs,q,JF _⟩,hd ys H p⟩
theorem nA{lo:Int}{k:Nat}{g:TG}{tt:TT}{te:TE}{n:Nat}{fv:St}{H1:Hp}{QQ:List V->Hp->Prop}(Pv:Nat->List V->Hp->Prop)(hz:k<=sizeLine)(h0:Pv 0 [] H1)
  (hs:∀ i ys H,i<k->Pv i ys H->g (.int (lo+i)) (JM n none++fv) H fun σ2 H2=>σ2.drop n=fv/\tt σ2 H2 fun b H3=>if b=true then te σ2 H3 (fun y H4=>Pv (i+1) (ys++[y]) H4) else Pv (i+1) ys H3) (hd:∀ ys H,Pv k ys H->QQ ys H) (hy:∀ i ys H,Pv i ys H->ys.length<=i)
  : mj g tt te n fv (Itr lo k) H1 QQ:=by
 refine⟨fun i m ys H=>m=k-i/\i<=k/\Pv i ys H,⟨k,by simp,Ky _,h0⟩,?_⟩
 rintro i m ys H ⟨rfl,hi,p⟩;have hyl:=hy i ys H p;refine⟨by omega,?_⟩
 by_cases hlt:i<k
 ·refine .inr ⟨hlt,fun zs H2=>Pv (i+1) zs H2,fun zs H2 p2=>⟨k-(i+1),by omega,rfl,hlt,p2⟩,fun x H' y=>?_⟩
  obtain⟨e,y⟩:=y;subst e y;exact hs i ys _ hlt p
 ·have e:i=k:=by omega
  subst e;exact .inl ⟨JF _,hd ys H p⟩
theorem km{K:JH}{a:Addr}{xs:List V}{g:TG}{tt:TT}{te:TE}{n:Nat}{fv:St}{H1:Hp}{QQ:List V->Hp->Prop}(Pv:Nat->List V->Hp->Prop)(hz:xs.length<=sizeLine)(h0:Pv 0 [] H1)(hl:∀ i ys H,i<=xs.length->Pv i ys H->SqL K H a xs)
  (hs:∀ i x ys H T,xs[i]?=some x->Pv i ys H->H T=none->g (.ref T) (JM n none++fv) (upd H T (.tup [.int (i:Int),x])) fun σ2 H2=>σ2.drop n=fv/\tt σ2 H2 fun b H3=>if b=true then te σ2 H3 (fun y H4=>Pv (i+1) (ys++[y]) H4) else Pv (i+1) ys H3) (hd:∀ ys H,Pv xs.length ys H->QQ ys H) (hy:∀ i ys H,Pv i ys H->ys.length<=i)
  : mj g tt te n fv (Ite K a) H1 QQ:=by
 refine⟨fun i m ys H=>m=xs.length-i/\i<=xs.length/\Pv i ys H,⟨xs.length,by simp,Ky _,h0⟩,?_⟩
 rintro i m ys H ⟨rfl,hi,p⟩;have q:=hl i ys H hi p;have hyl:=hy i ys H p;refine⟨by omega,?_⟩
 by_cases hlt:i<xs.length
 ·refine .inr ⟨⟨xs,xs[i],q,by simp[hlt]⟩,fun zs H2=>Pv (i+1) zs H2,fun zs H2 p2=>⟨xs.length-(i+1),by omega,rfl,hlt,p2⟩,fun v H' y=>?_⟩
  obtain⟨T,x,hT,rfl,rfl,y⟩:=y;exact hs i x ys _ T (y xs q) p hT
 ·have e:i=xs.length:=by omega
  subst e;exact .inl ⟨⟨xs,q,JF _⟩,hd ys H p⟩
section
variable{X:Cx}{K:JH}{pos:Pos}
theorem jA(h:X.K=K):IxR X (rIxL K):=h▸aP
theorem bZ(h:X.K=K):IxR X (rIxT K):=h▸aV
theorem fj{es:List Expr}{k:Nat}{t:TGs}{n:Nat}(hK:X.K=K)(hc:X.calm=true)(h:PGs X es t)(hn:(assignEach es X.env).length=n:=by rfl)(hst:(assignEach es X.env).findIdx? (·.1)=none:=by rfl):PG X (.Tuple es k pos) (gTup K n t):=hK▸sC hc h hn hst
end
section
variable{X:Cx}
noncomputable def Ib:V->List V->Hp->VK->Prop:=fun x vs H Q=>∃ l xs k y,x=.ref l/\vs = [.int k,y]/\H l=some (.lst xs)/\0<=k/\k<=xs.length/\xs.length<sizeLine/\Q .non (upd H l (.lst (xs.take k.toNat++y::xs.drop k.toNat)))
theorem BZ:MtM X "list.insert" Ib:=by
 intro pins s σ H x vs v us Q I rx rv h;obtain⟨l,xs,k,y,rfl,rfl,hH,h0,hk,hz,q⟩:=h
 cases rx
 obtain⟨u1,u2,rfl,r1,r2⟩:=rv.two;obtain⟨t,rfl⟩:=r1;obtain⟨z,its,n,r,hl,e⟩:=I.lstM hH;have hn:=pe;have hfit:¬ (!Builtin.List.listFitsIndex k)=true:=by
  rw[fitsIndex_both (by omega) (by omega)]
  exact Kb
 refine call_meets F.slot_list_insert ⟨_,e,rfl⟩ F.entry_list_insert (F.args_list_insert_3 _ _ _) (AutoListH.list_insert_list_int_val_1 l its.toArray n k t u2 hfit (by rw[JU];omega)) ⟨e,?_⟩
 refine⟨.non,_,I.lset (its':=its.take k.toNat++u2::its.drop k.toNat) hH e ?_ ((r.take _).append (.cons r2 (r.drop _))) ?_,rfl,q⟩
 ·dsimp only;rw[if_neg (by omega),JU,LX (by omega)]
  simp;exact KA (by rw[Ku];omega)
 ·rw[JN,Ke,JZ,Ku];omega
theorem qM:∀{ns:List Int}{us:List Value},Vals (ns.map V.int) us->IntsAre us ns
 |[],_,.nil=>.nil
 |n::ns,_,.cons r rr=>by
  obtain⟨t,rfl⟩:=r;exact .cons n t (qM rr)
theorem ij(hc:X.calm=true):iq X (.builtin "sum") (fun xs H Q=>∃(p:Addr)(ns:List Int),xs = [.ref p]/\SqL X.K H p (ns.map V.int)/\Q (.int ns.sum) H):=by
 intro pins s σ H xs us Q I r h;obtain⟨p,ns,rfl,hq,q⟩:=h;obtain⟨u,rfl,ru⟩:=ja r
 cases ru
 obtain⟨its,rv,pl,hz⟩:=I.list hq;have hi:=qM rv;obtain⟨zs,e⟩:=hi.allInts.items;have hns:(numsOf its)=ns:=hi.numsOf;have hl:s.heap.IsList p (intItems zs):=by rw[← e];exact pl.isList
 refine sum_intListG (I.ok.hd hc) hl fun h' tk t' hk=>⟨.int ns.sum,H,I.kept (t':=tk) hk,⟨t',?_⟩,q⟩;have h2:numsOf (intItems zs).toList=ns:=by rw[← e];exact hns
 rw[nums_intItems]at h2;rw[preSum_eq,KA (by simp),← h2]
end
theorem AO:∀{us:List Value}{ns:List Int},IntsAre us ns->Vals (ns.map V.int) us
 |_,_,.nil=>.nil
 |_,_,.cons _ t r=>.cons ⟨t,rfl⟩ (AO r)
section
variable{X:Cx}
end
theorem yA:bootBuiltins "min" = some (.builtin "min"):=by decide
theorem Hd:bootBuiltins "max" = some (.builtin "max"):=by decide
section
variable{X:Cx}
noncomputable def rCatS(K:JH):R2:=fun x y H Q=>∃ l b xs zs,x=.ref l/\y=.ref b/\SqL K H l xs/\SqL K H b zs/\xs.length+zs.length<=sizeLine/\∀ p,H p=none->Q (.ref p) (upd H p (.lst (xs++zs)))
theorem Il:OpR X (binaryOp .Add) (rCatS X.K):=by
 intro pins s σ H x y v u Q I rx ry h;obtain⟨l,b,xs,zs,rfl,rfl,hH,hB,hz,q⟩:=h
 cases rx
 cases ry
 obtain⟨its,r,pl,_⟩:=I.list hH;obtain⟨its2,r2,pl2,_⟩:=I.list hB;obtain⟨⟨cls,dd,data,sl⟩,ho,hc,n,hd⟩:=pl.isList;obtain⟨⟨cls2,dd2,data2,sl2⟩,ho2,hc2,n2,hd2⟩:=pl2.isList;simp only at hc hd hc2 hd2;subst hc hd hc2 hd2;have ea:its.toArray++its2.toArray=(its++its2).toArray:=by simp
 have e1:=r.length;have e2:=r2.length;refine concat_meets ⟨_,ho,rfl⟩ ⟨_,ho2,rfl⟩ noFill_list_add seq_list_add PySem.F.slot_list_add PySem.F.entry_list_add (PySem.F.args_list_add_2 _ _) (list_addW l b its.toArray its2.toArray n n2 dd dd2 sl sl2 (by rw[JU,JU];omega)) ⟨ho,ho2,?_⟩
 rw[ea];exact⟨.ref _,_,I.lnew (t':=s.toks) (r.append r2) (by rw[JN];omega),rfl,q _ I.fresh⟩
theorem x5:∀{ns:List Int}{us:List Value},Vals (ns.map V.int) us->IntsAre us ns
 |[],_,.nil=>.nil
 |n::ns,_,.cons r rr=>by
  obtain⟨t,rfl⟩:=r;exact .cons n t (x5 rr)
end
theorem pJ:bootBuiltins "sum" = some (.builtin "sum"):=by decide
theorem yesT{σ:St}{H:Hp}{A B:Hp->Prop}(h:A H):tYes σ H fun b H3=>if b=true then A H3 else B H3 :=
 show(if true=true then A H else B H) from iteT (B:=B H) h
theorem bt_zip:bootBuiltins "zip" = some (.type "zip"):=by decide
noncomputable def Itz(K:JH)(a b:Addr):It :=
 ⟨fun i H=>∃ xs ys x y,SqL K H a xs/\SqL K H b ys/\xs[i]?=some x/\ys[i]?=some y,
  fun i H v H'=>∃ T x y,H T=none/\v=.ref T/\H'=upd H T (.tup [x,y])/\(∀ xs,SqL K H a xs->xs[i]?=some x)/\∀ ys,SqL K H b ys->ys[i]?=some y,
  fun i H=>∃ xs ys,SqL K H a xs/\SqL K H b ys/\(xs.length<=i∨ys.length<=i)⟩
theorem Ez{P:Program}{w:World}{K:JH}{es:List Expr}{k:Nat}{pos:Pos}(a b z TI TO i1 i2:Addr)(D:ZipApart z TI TO i1 i2 a b):Turn P w K (.Tuple es k pos) (Itz K a b) [z,TI,TO,i1,i2] z
  (fun i h=>IsZip h z TI TO .none/\IsPair h TI (.ref i1) (.ref i2)/\(∃ u v,IsPair h TO u v)/\h.IsListIter i1 a i/\h.IsListIter i2 b i) where
 mem:=by simp
 obj:=fun i h st c hc=>by
  obtain⟨kz,kI,⟨u,v,kO⟩,⟨o1,q1,c1,d1⟩,⟨o2,q2,c2,d2⟩⟩:=st;simp only[JI,Kf,or_false]at hc;rcases hc with rfl | rfl | rfl | rfl | rfl
  ·exact⟨_,kz,fun v z=>by have z':Data.fields _=Data.cell v:=z;cases z'⟩
  ·exact⟨_,kI,fun v z=>by have z':Data.seq _ _=Data.cell v:=z;cases z'⟩
  ·exact⟨_,kO,fun v z=>by have z':Data.seq _ _=Data.cell v:=z;cases z'⟩
  ·exact⟨o1,q1,fun v z=>by rw[d1]at z;cases z⟩
  ·exact⟨o2,q2,fun v z=>by rw[d2]at z;cases z⟩
 keep:=fun i h h' st kk=>by
  obtain⟨kz,kI,⟨u,v,kO⟩,k1,k2⟩:=st;exact⟨kk _ (by simp) _ kz,kk _ (by simp) _ kI,⟨u,v,kk _ (by simp) _ kO⟩,k1.at fun o q=>kk i1 (by simp) o q,k2.at fun o q=>kk i2 (by simp) o q⟩
 item:=by
  intro X hP hw hK hc i pins s σ H E I hf st hg;subst hP hw hK;obtain⟨xs,ys,x,y,hq,hr,hx,hy⟩:=hg;obtain⟨its,rv,p,hz⟩:=I.list hq;obtain⟨its2,rv2,p2,hz2⟩:=I.list hr;obtain⟨u,hu,ru⟩:=rv.get hx;obtain⟨u2,hu2,ru2⟩:=rv2.get hy;obtain⟨kz,kI,⟨o1,o2,kO⟩,k1,k2⟩:=st;refine wpAny_pyNext_zip_item D kz kI kO k1 k2 p.isList p2.isList (x:=u) (y:=u2) (by simpa using hu) (by simpa using hu2) fun h' a1 a2 a3 a4 a5 a6 hk=>?_
  refine⟨_,rfl,?_⟩;refine wpAny_letOwnedTupleGo_zip a1 fun h2 g1 hs2=>?_;have hs2':Heap.SameBut z h' h2:=hs2;have lz:z<s.heap.objs.size:=Heap.lt_size kz;have lI:TI<s.heap.objs.size:=Heap.lt_size kI;have lO:TO<s.heap.objs.size:=Heap.lt_size kO;have l1:i1<s.heap.objs.size:=by obtain⟨_,q,_⟩:=k1;exact Heap.lt_size q
  have l2:i2<s.heap.objs.size:=by obtain⟨_,q,_⟩:=k2;exact Heap.lt_size q
  have hfr:H s.heap.objs.size=none:=I.hok.fresh (JF _);have I0:Inv X pins σ (upd H s.heap.objs.size (.tup [x,y])) { s with heap:=s.heap.push { cls:=.type "tuple",data:=.seq #[u,u2] },toks:=s.toks } :=
   I.laid (t':=s.toks) (fun b u e=>Heap.get?_push_of_some _ e) (JF _) ⟨by show 2<=sizeLine;decide,[u,u2],.cons ru (.cons ru2 .nil),⟨_,Heap.get?_push_size _ rfl,rfl,_,rfl⟩⟩
  have hfb:∀ c∈[z,TI,TO,i1,i2],c<s.heap.objs.size:=fun c hc=>by
   simp only[JI,Kf,or_false]at hc;rcases hc with rfl | rfl | rfl | rfl | rfl<;>assumption
  have hn:∀ c∈[z,TI,TO,i1,i2],upd H s.heap.objs.size (.tup [x,y]) c=none:=fun c hc=>by
   rw[ao (JV (hfb c hc))];exact(hf c hc).1
  have I2:Inv X pins σ (upd H s.heap.objs.size (.tup [x,y])) { s with heap:=h2,toks:=s.toks }:=Inv.turnedL (s:={ s with heap:=s.heap.push { cls:=.type "tuple",data:=.seq #[u,u2] },toks:=s.toks }) (h':=h2) I0 (t':=s.toks) (fp:=[z,TI,TO,i1,i2]) (fun c o hc q=>by
   have n1:c≠z:=fun e=>hc (by simp[e])
   have n3:c≠TO:=fun e=>hc (by simp[e])
   have n4:c≠i1:=fun e=>hc (by simp[e])
   have n5:c≠i2:=fun e=>hc (by simp[e])
   refine(hs2'.2 c n1).trans ?_;rcases Heap.get?_push_cases q with⟨z1,z2⟩ | q
   ·rw[z1,z2];exact a5
   ·exact hk c o n1 n3 n4 n5 q) fun c hc=>⟨hn c hc,(hf c hc).2⟩
  refine⟨.ref s.heap.objs.size,_,I2,rfl,⟨s.heap.objs.size,x,y,hfr,rfl,rfl,fun zs h=>by rw[I.list_inj h hq];exact hx,fun zs h=>by rw[I.list_inj h hr];exact hy⟩,?_,hn⟩
  refine⟨g1,(hs2'.2 TI D.TIz).trans (hk _ _ D.TIz D.TITO D.TIi1 D.TIi2 kI),⟨_,_,(hs2'.2 TO D.TOz).trans a2⟩,a3.at fun o q=>(hs2'.2 i1 D.i1z).trans q,a4.at fun o q=>(hs2'.2 i2 D.i2z).trans q⟩
 done:=by
  intro X hP hw hK hc i pins s σ H E I hf st hg;subst hP hw hK;obtain⟨xs,ys,hq,hr,hx⟩:=hg;obtain⟨its,rv,p,hz⟩:=I.list hq;obtain⟨its2,rv2,p2,hz2⟩:=I.list hr;obtain⟨kz,kI,⟨o1,o2,kO⟩,k1,k2⟩:=st;have hl:=rv.length;have hl2:=rv2.length;refine wpAny_pyNext_zip_end (I.ok.hd hc) D kz kI kO k1 k2 p.isList p2.isList ?_ fun h' eb=>⟨rfl,Inv.turnedL I (t':=s.toks) (fun c o hc e=>eb c o (fun e=>hc (by simp[e])) (fun e=>hc (by simp[e])) (fun e=>hc (by simp[e])) (fun e=>hc (by simp[e])) e) hf⟩
  rcases hx with hx | hx
  ·exact .inl (by simp;omega)
  ·exact .inr (by simp;omega)
 self:=fun _ _ _ _ _ st h=>wpAny_pyIter_zip st.1 h
theorem b9(x y:Nat)(h:¬ x=y):@Ne Addr x y:=h
theorem AI(n a b:Nat)(ha:a<n)(hb:b<n):ZipApart (n+4) (n+2) (n+3) n (n+1) a b :=
 ⟨b9 _ _ (by omega),b9 _ _ (by omega),b9 _ _ (by omega),b9 _ _ (by omega),b9 _ _ (by omega),b9 _ _ (by omega),b9 _ _ (by omega),b9 _ _ (by omega),b9 _ _ (by omega),
  b9 _ _ (by omega),b9 _ _ (by omega),b9 _ _ (by omega),b9 _ _ (by omega),b9 _ _ (by omega),b9 _ _ (by omega),b9 _ _ (by omega),b9 _ _ (by omega),b9 _ _ (by omega)⟩
section
variable{X:Cx}
noncomputable def iZip(K:JH)(ta:TA):TI:=fun σ H R=>ta σ H fun vs H1=>∃ a b,vs = [.ref a,.ref b]/\(∃ xs,SqL K H1 a xs)/\(∃ ys,SqL K H1 b ys)/\R (Itz K a b) H1
theorem GN{l1 l2:Expr}{ta:TA}{es:List Expr}{k:Nat}{tp p pos:Pos} (hg:Gl X "zip") (hm:X.mg "zip" = none) (ha:PA X [l1,l2] ta) (hs:starEach [l1,l2] X.env=(false,eval l1 X.env)::starEach [l2] X.env:=by rfl) (hs2:(backTo pos (starEach [l2] X.env)).any (·.1)=false:=by rfl) :
  PI X (.Tuple es k tp) (.Call (.Name "zip" p) [l1,l2] [] pos) (iZip X.K ta):=by
 intro pins s σ H R I h;refine Call_ (jo I hg hm bt_zip (PyProof.Rows.callWith_type1 (thn (ha pos pins s σ H _ I h) fun us s1 ⟨vs,H1,I1,r1,q1⟩=>?_) hs hs2));obtain⟨a,b,e,⟨xs,hq⟩,⟨ys,hr⟩,q⟩:=q1;subst e;obtain⟨u,u2,rfl,ru,ru2⟩:=AQ r1
 cases ru
 cases ru2
 obtain⟨its,rv,p,hz⟩:=I1.list hq;obtain⟨its2,rv2,p2,hz2⟩:=I1.list hr;have la:a<s1.heap.objs.size:=by obtain⟨_,_,q,_⟩:=p;exact Heap.lt_size q
 have lb:b<s1.heap.objs.size:=by obtain⟨_,_,q,_⟩:=p2;exact Heap.lt_size q
 refine call_zip_2 p.isList p2.isList fun h' kz kI kO k1 k2 hsz hk=>?_;refine wpAny_pyIter_zip kz ?_
 refine⟨s1.heap.objs.size+4,[s1.heap.objs.size+4,s1.heap.objs.size+2,s1.heap.objs.size+3,s1.heap.objs.size,s1.heap.objs.size+1],_,_,H1,rfl,I1.kept (t':=s1.toks) hk,
  Ez a b (s1.heap.objs.size+4) (s1.heap.objs.size+2) (s1.heap.objs.size+3) s1.heap.objs.size (s1.heap.objs.size+1) (AI _ a b la lb),⟨kz,kI,⟨_,_,kO⟩,k1,k2⟩,fun c hc=>?_,q⟩
 have hb':s1.heap.objs.size<=c:=by
  simp only[JI,Kf,or_false]at hc;rcases hc with rfl | rfl | rfl | rfl | rfl
  ·exact ME _ _
  ·exact ME _ _
  ·exact ME _ _
  ·exact JF _
  ·exact ME _ _
 exact I1.fpOk hb' (I1.hok.fresh hb')
end
theorem DH{K:JH}{a b:Addr}{xs zs:List V}{g:TG}{tt:TT}{te:TE}{n:Nat}{fv:St}{H1:Hp}{QQ:List V->Hp->Prop}(Pv:Nat->List V->Hp->Prop)(hz:xs.length<=sizeLine)(he:zs.length=xs.length)(h0:Pv 0 [] H1)(hl:∀ i ys H,i<=xs.length->Pv i ys H->SqL K H a xs/\SqL K H b zs)
  (hs:∀ i x z ys H T,xs[i]?=some x->zs[i]?=some z->Pv i ys H->H T=none->g (.ref T) (JM n none++fv) (upd H T (.tup [x,z])) fun σ2 H2=>σ2.drop n=fv/\tt σ2 H2 fun b H3=>if b=true then te σ2 H3 (fun y H4=>Pv (i+1) (ys++[y]) H4) else Pv (i+1) ys H3) (hd:∀ ys H,Pv xs.length ys H->QQ ys H) (hy:∀ i ys H,Pv i ys H->ys.length<=i)
  : mj g tt te n fv (Itz K a b) H1 QQ:=by
 refine⟨fun i m ys H=>m=xs.length-i/\i<=xs.length/\Pv i ys H,⟨xs.length,by simp,Ky _,h0⟩,?_⟩
 rintro i m ys H ⟨rfl,hi,p⟩;have q:=hl i ys H hi p;have hyl:=hy i ys H p;refine⟨by omega,?_⟩
 by_cases hlt:i<xs.length
 ·have hlz:i<zs.length:=by omega
  refine .inr ⟨⟨xs,zs,xs[i],zs[i],q.1,q.2,by simp[hlt],by simp[hlz]⟩,fun zs H2=>Pv (i+1) zs H2,fun zs H2 p2=>⟨xs.length-(i+1),by omega,rfl,hlt,p2⟩,fun v H' y=>?_⟩
  obtain⟨T,x,z,hT,rfl,rfl,y1,y2⟩:=y;exact hs i x z ys _ T (y1 xs q.1) (y2 zs q.2) p hT
 ·have e:i=xs.length:=by omega
  subst e;exact .inl ⟨⟨xs,zs,q.1,q.2,.inl (JF _)⟩,hd ys H p⟩
section
variable{X:Cx}
noncomputable def rMinL(K:JH):List V->Hp->VK->Prop:=fun xs H Q=>∃(p:Addr)(ns:List Int),xs = [.ref p]/\SqL K H p (ns.map V.int)/\0<ns.length/\∀ m:Int,m∈ns->(∀ x∈ns,m<=x)->Q (.int m) H
theorem DN(hc:X.calm=true):iq X (.builtin "min") (rMinL X.K):=by
 intro pins s σ H xs us Q I r h;obtain⟨p,ns,rfl,hq,hne,q⟩:=h;obtain⟨u,rfl,ru⟩:=ja r
 cases ru
 obtain⟨its,rv,pl,hz⟩:=I.list hq;have hi:=x5 rv;obtain⟨zs,e⟩:=hi.allInts.items;have hl:s.heap.IsList p (intItems zs):=by rw[← e];exact pl.isList
 have e1:ns=zs.toList.map (·.1):=by
  rw[← nums_intItems,← e];exact(show numsOf its.toArray.toList=ns from hi.numsOf).symm
 subst e1;rw[JC,Kg]at hne;refine min_intList (I.ok.hd hc) hl hne fun v h' tk hv hk=>?_;obtain⟨t,rfl⟩:=intItems_at hv;obtain⟨h1,h2⟩:=argBest_lt (numAt zs) (zs.size-1);refine⟨.int _,H,I.kept (t':=tk) hk,⟨t,rfl⟩,q _ ?_ fun a ha=>?_⟩
 ·rw[numAt_eq];exact PySem.getD_mem (by rw[JC,Kg];omega)
 ·obtain⟨j,hj,rfl⟩:=PySem.mem_getD ha;rw[JC,Kg]at hj;rw[← numAt_eq];exact h2 j (by omega)
end
noncomputable def LsAt{α:Type}(R:Hp->V->α->Prop)(H:Hp)(ys:List V)(xs:List α):Prop:=ys.length=xs.length/\∀(i:Nat)(x:α),xs[i]?=some x->∃ y,ys[i]?=some y/\R H y x
theorem LsAt.nil{α:Type}{R:Hp->V->α->Prop}{H:Hp}:LsAt R H [] []:=⟨rfl,fun i x e=>by simp at e⟩
theorem LsAt.imp{α:Type}{R R':Hp->V->α->Prop}{H H':Hp}{ys:List V}{xs:List α}(h:LsAt R H ys xs)(m:∀ y x,R H y x->R' H' y x):LsAt R' H' ys xs:=⟨h.1,fun i x e=>by
 obtain⟨y,a,b⟩:=h.2 i x e
 exact⟨y,a,m y x b⟩⟩
theorem LsAt.snoc{α:Type}{R:Hp->V->α->Prop}{H:Hp}{ys:List V}{xs:List α}{y:V}{x:α}(h:LsAt R H ys xs)(r:R H y x):LsAt R H (ys++[y]) (xs++[x]):=by
 refine⟨by rw[JN,JN,h.1];rfl,fun j k e=>?_⟩
 by_cases hj:j<xs.length
 ·rw[Kj hj]at e;obtain⟨p,a1,a2⟩:=h.2 j k e;exact⟨p,by rw[Kj (by rw[h.1];exact hj)];exact a1,a2⟩
 ·rw[Ka (by omega)]at e
  have hj2:j=xs.length:=by
   have:=(JD.mp e).1;rw[Lc]at this;omega
  subst hj2;rw[Ln]at e
  cases e
  exact⟨y,by rw[← h.1,Ka (JF _),Ln];rfl,r⟩
theorem LsAt.get{α:Type}{R:Hp->V->α->Prop}{H:Hp}{ys:List V}{xs:List α}{i:Nat}{y:V}(h:LsAt R H ys xs)(e:ys[i]?=some y):∃ x,xs[i]?=some x/\R H y x:=by
 have hi:i<xs.length:=by rw[← h.1];exact(JD.mp e).1
 obtain⟨z,a,b⟩:=h.2 i _ (JB hi);rw[e]at a
 cases a
 exact⟨_,JB hi,b⟩
section
variable{X:Cx}
theorem Hg:bootBuiltins "all" = some (.builtin "all"):=by decide
end
section
variable{prog:Program}{w:World}{A:Around}{E:Value->Shared->Prop}{s:Shared}{d:Addr}
noncomputable def Ent(h:Heap)(d:Addr)(es:Array DictEntry)(ep:Nat):Prop:=∃ o,h.get? d=some o/\o.ExactDict/\o.data=.dict es ep
theorem Ent.ty{es:Array DictEntry}{ep:Nat}(x:Ent s.heap d es ep):s.TypeIs (.ref d) "dict":=by
 obtain⟨o,h1,h2,_⟩:=x;exact⟨o,h1,h2.1⟩
theorem FZ(hd:(d == sysModules)=false):MeetsIn prog w (Builtin.«dict.items» ⟨[.ref d],[]⟩) (fun _ R s=>(∃ es ep,Ent s.heap d es ep)/\R (.ok (.ret (.ref s.heap.objs.size))) { s with heap:=s.heap.push { cls:=.type "dict_items",data:=.fields #[.ref d] } }) :=
 .of_wp fun A R s ⟨⟨es,ep,hm⟩,h⟩=>by
  unfold Builtin.«dict.items» Builtin.Dict.noArgs;refine wpAny_bind (wpAny_bind (wpAny_notOrdered_dict hm.ty ?_));show wpAny _ _ (pure d) _ _ s;refine wpAny_pure ?_;show wpAny _ _ (Builtin.Dict.showsAll d >>= _) _ _ s;unfold Builtin.Dict.showsAll;rw[if_neg (by simp[hd])]
  exact wpAny_bind (wpAny_pure (wpAny_bind (wpAny_newObj_type (wpAny_pure ⟨_,rfl,h⟩))))
theorem F0{v:Addr}{es:Array DictEntry}{ep:Nat}{Q:Value->Shared->Prop}(hv:s.heap.IsItemsView v d)(hm:Ent s.heap d es ep)
  (hQ:Q (.ref s.heap.objs.size) { s with heap:=s.heap.push { cls:=.type "dict_itemiterator",data:=.fields #[.none,.bool false,.ref d,.int 0 0,.int es.size 0,.int ep 0,.none,.none] } }) :
  wpAny (model prog w) A (pyIter (.ref v)) Q E s:=by
 obtain⟨ov,h1,h2,h3⟩:=id hv;obtain⟨o,e1,e2,e3⟩:=hm;refine wpAny_pyIter_slot hv.typeIs F.slot_dict_items_iter (wpAny_call_entry F.slot_dict_items_iter hv.typeIs F.entry_dict_items_iter ?_ (F.args_dict_items_iter_1 _));show wpAny _ _ (Builtin.«dict_items.__iter__» _) _ _ s;unfold Builtin.«dict_items.__iter__» Builtin.Dict_items.dictOf Builtin.Dict_items.newIterator;refine wpAny_bind (wpAny_pure (wpAny_bind (wpAny_bind (wpAny_field h1 h3 (x:=.ref d) rfl (wpAny_pure (wpAny_bind (wpAny_bind (wpAny_dictEntries e1 e3 (wpAny_bind (wpAny_dictEpoch e1 e3 ?_))))))))));simp only[show Builtin.Dict_items.ownsTuple "dict_itemiterator" = true by decide,if_true]
 refine wpAny_newObj_type (wpAny_pure ⟨_,rfl,"dict_itemiterator",_,⟨_,Heap.get?_push_size _ rfl,rfl⟩,F.slot_dict_itemiterator_next.lookup,?_⟩)
  (by simp only[sizeOk,Builtin.Dict_items.ownedTupleFields,JU,JN,Ke,LY,sizeLine_eq];omega)
 simpa[rawInt,Builtin.Dict_items.ownedTupleFields] using hQ
theorem Dc{it:Addr}{i ep:Nat}{es:Array DictEntry}{ok ov:Value}{Q:Option Value->Shared->Prop}(hit:IsItemIter s.heap it d i es.size ep ok ov)(hm:Ent s.heap d es ep)(hh:A.handled=none)
  (hI:∀ e,es[i]?=some e->∀ h',IsItemIterOut h' it d (i+1) es.size ep e.key e.val s.heap.objs.size->h'.get? s.heap.objs.size=some { cls:=.type "tuple",data:=.seq #[e.key,e.val] }->(∀ b o,b≠it->s.heap.get? b=some o->h'.get? b=some o)->Q (some (.ref s.heap.objs.size)) { s with heap:=h' })
  (hE:es[i]?=none->∀ h',Heap.ExtBut it s.heap h'->Q none { s with heap:=h' }):wpAny (model prog w) A (pyNext (.ref it)) Q E s:=by
 obtain⟨o,e1,e2,e3⟩:=hm;have hT:s.TypeIs (.ref it) "dict_itemiterator":=⟨_,hit,rfl⟩;have own:Builtin.Dict_items.ownsTuple "dict_itemiterator" = true:=by decide
 unfold pyNext;refine wpAny_bind (wpAny_attempt (wpAny_callSpecial?_slot (name:=Str.ofString "__next__") hT F.slot_dict_itemiterator_next (wpAny_call_entry F.slot_dict_itemiterator_next hT F.entry_dict_itemiterator_next ?_ (F.args_dict_itemiterator_next_1 _))));refine wpAny_bind (wpAny_pure (wpAny_bind (wpAny_bind (wpAny_bind (wpAny_typeNameOfWhole_itemiter hT (wpAny_pure ?_))))));refine wpAny_bind (wpAny_fieldsOf hit rfl ?_);simp only[own,if_true];show wpAny _ _ (if(Value.ref d == Value.none)=true then _ else _) _ _ _;rw[if_neg (show ¬ ((Value.ref d == Value.none)=true) from Kb)];refine wpAny_bind (wpAny_pure (wpAny_bind (wpAny_dictEntries e1 e3 ?_)));rw[if_neg (by simp)]
 refine wpAny_bind (wpAny_pure (wpAny_bind (wpAny_dictEpoch e1 e3 ?_)));rw[if_neg (by simp)]
 refine wpAny_pure ?_;have n0:¬ ((i:Int)<0):=by omega
 simp only[n0,if_false,JL]
 cases he:es[i]? with
 |none =>
  refine wpAny_bind (wpAny_bind (wpAny_typeNameOfWhole_itemiter hT (wpAny_pure ?_)));show wpAny _ _ (setField (.ref it) 2 .none >>= _) _ _ s;refine wpAny_bind (wpAny_setField hit rfl (by simp) ?_)
  show wpAny _ _ (newExc (.type "StopIteration") [] >>= _) _ _ _;refine wpAny_bind ?_;simp only[newExc,newTuple];refine wpAny_bind (wpAny_newObj_type (wpAny_bind (m:=firstArgMember _ _) (wpAny_of_eq (a:=Value.none) (by first | rfl | (simp only[firstArgMember];rfl)) (wpAny_newObj_type ?_ (by size_fits)))) (by size_fits))
  simp only[raiseNew];refine wpAny_bind (wpAny_handled ?_);rw[show A.in1.handled=none from hh];refine wpAny_bind (wpAny_pure (wpAny_throw ?_));refine wpAny_bind (wpAny_isInstance (T:="StopIteration") (b:=true) ⟨_,Heap.get?_push_size _ rfl,rfl⟩ isSubtype_stop (wpAny_pure ?_));exact hE he _ (((Heap.SameBut.update ..).extBut.push _).push _)
 |some e =>
  refine wpAny_bind (wpAny_bind (wpAny_typeNameOfWhole_itemiter hT (wpAny_pure ?_)));refine wpAny_bind (wpAny_isOneOf_itemiter hT ?_);show wpAny _ _ (setField (.ref it) 3 (rawInt ((i:Int)+1)) >>= _) _ _ s;refine wpAny_bind (wpAny_setField_rec hit (by simp) fun g1 q1 k1=>?_)
  have c1:((i+1:Nat):Int)=(i:Int)+1:=by omega
  have q1':IsItemIter g1 it d (i+1) es.size ep ok ov:=by
   unfold IsItemIter;rw[c1];simpa[rawInt] using q1
  have lt:it<s.heap.objs.size:=Heap.lt_size hit;have z1:g1.objs.size=s.heap.objs.size:=k1.1;have hT1:Shared.TypeIs { s with heap:=g1 } (.ref it) "dict_itemiterator":=⟨_,q1',rfl⟩;refine wpAny_bind (wpAny_holding (wpAny_bind (wpAny_isOneOf_itemiter hT1 (wpAny_bind (wpAny_isOneOf_itemiter hT1 ?_)))));show wpAny _ _ (Builtin.Dict_items.pairFromOwner (.ref it) 6 e.key e.val) _ _ { s with heap:=g1 };unfold Builtin.Dict_items.pairFromOwner Builtin.Dict_items.ownedTupleIsFree;refine wpAny_bind (wpAny_newTuple ?_);have q2:IsItemIter (g1.push { cls:=.type "tuple",data:=.seq #[e.key,e.val] }) it d (i+1) es.size ep ok ov:=Heap.get?_push_of_some _ q1';have t2:(g1.push { cls:=.type "tuple",data:=.seq #[e.key,e.val] }).get? s.heap.objs.size=some { cls:=.type "tuple",data:=.seq #[e.key,e.val] }:=by rw[← z1];exact Heap.get?_push_size _ rfl
  have k2:∀ b o,b≠it->s.heap.get? b=some o->(g1.push { cls:=.type "tuple",data:=.seq #[e.key,e.val] }).get? b=some o:=fun b o hb q=>Heap.get?_push_of_some _ (k1.extBut b o hb q);rw[z1];generalize g1.push { cls:=.type "tuple",data:=.seq #[e.key,e.val] }=g2 at q2 t2 k2;show wpAny _ _ (_ >>= _) _ _ { s with heap:=g2 };refine wpAny_bind (wpAny_bind (wpAny_field q2 rfl (x:=.none) rfl (wpAny_pure ?_)));simp only[if_true];refine wpAny_bind (wpAny_field q2 rfl (x:=ok) rfl (wpAny_bind (wpAny_field q2 rfl (x:=ov) rfl ?_)));refine wpAny_bind (wpAny_setField_rec q2 (by simp) fun g3 q3 k3=>?_)
  replace q3:IsItemIter g3 it d (i+1) es.size ep e.key ov:=q3;refine wpAny_bind (wpAny_setField_rec q3 (by simp) fun g4 q4 k4=>?_)
  replace q4:IsItemIter g4 it d (i+1) es.size ep e.key e.val:=q4;refine wpAny_bind (wpAny_setField_rec q4 (by simp) fun g5 q5 k5=>?_)
  replace q5:IsItemIterOut g5 it d (i+1) es.size ep e.key e.val s.heap.objs.size:=q5;refine wpAny_bind (wpAny_setField_rec q5 (by simp) fun g6 q6 k6=>?_)
  replace q6:IsItemIterOut g6 it d (i+1) es.size ep e.key e.val s.heap.objs.size:=q6;have up:∀ b o,b≠it->g2.get? b=some o->g6.get? b=some o:=fun b o hb q=>k6.extBut b o hb (k5.extBut b o hb (k4.extBut b o hb (k3.extBut b o hb q)));exact wpAny_bind (wpAny_letGo (wpAny_pure (wpAny_pure ⟨_,rfl,wpAny_pure (hI e he g6 q6 (up _ _ (K5 lt) t2) fun b o hb q=>up b o hb (k2 b o hb q))⟩)))
end
noncomputable def yj(v d:Addr):HO:=.ext fun h=>h.IsItemsView v d
noncomputable def KvA(H:Hp)(u:HO)(i:Nat)(x y:V):Prop:=(∃ kvs k,u=.dK kvs/\kvs[i]?=some (k,y)/\x=kV k)∨∃ kvs k t,u=.dT kvs/\kvs[i]?=some (k,y)/\x=.ref t/\H t=some (.tup (k.map kV))
noncomputable def dlen:HO->Nat
 |.dK kvs=>kvs.length
 |.dT kvs=>kvs.length
 |_=>0
noncomputable def isDct:HO->Prop
 |.dK _=>True
 |.dT _=>True
 |_=>False
theorem qp{α β:Type}{F:α->β->Prop}:∀{l₁:List α}{l₂:List β},Paired F l₁ l₂->∀{i:Nat}{b:β},l₂[i]?=some b->∃ a,l₁[i]?=some a/\F a b
 |_,_,.nil,i,b,e=>by simp at e
 |_,_,.cons r t,0,b,e=>⟨_,rfl,by cases e;exact r⟩
 |_,_,.cons r t,i+1,b,e=>qp t (i:=i) e
theorem GZ{P:Program}{w:World}{H:Hp}{h:Heap}{d:Addr}{u:HO}(hd:isDct u)(x:bf P w H h d u):(d == sysModules)=false/\∃ es ep,Ent h d es ep/\es.size=dlen u/\∀ i e,es[i]?=some e->∃ x y,KvA H u i x y/\RelV x e.key/\RelV y e.val:=by
 cases u with
 |dK kvs =>
  obtain⟨hz,lo,vs,rk,o,es,ep,h1,h2,h3,h4,h5,h6⟩:=x;have l1:kvs.length=vs.length:=Paired.length rk;have sz:es.size=vs.length:=by rw[← h5.length,Kg]
  refine⟨lo,es,ep,⟨o,h1,h2,h3⟩,by rw[sz];exact l1.symm,fun i e he=>?_⟩
  have hi:i<vs.length:=by
   have:i<es.size:=(MO.mp he).1;omega
  obtain⟨⟨k,v⟩,hv⟩:∃ q,vs[i]?=some q:=⟨_,JB hi⟩;obtain⟨hk,hval⟩:=h5.get? (e:=e) (by rw[KL];exact he) hv
  obtain⟨⟨k',y⟩,hy,ek,ry⟩:=qp rk hv;have ek':k'=k:=ek;subst ek';refine⟨kV k',y,.inl ⟨kvs,k',rfl,hy,rfl⟩,?_,by rw[hval];exact ry⟩
  rcases aW (show qF k' e.key=true from hk) with⟨j,t,e1,e2⟩ | ⟨z,t,e1,e2⟩
  ·rw[e1,e2];exact⟨t,rfl⟩
  ·rw[e1,e2];exact⟨t,rfl⟩
 |dT kvs =>
  obtain⟨hz,lo,xs,r,o,es,ep,h1,h2,h3,h4,h5⟩:=x;have sz:es.size=xs.length:=by rw[← Kg,h4,JC]
  refine⟨lo,es,ep,⟨o,h1,h2,h3⟩,by rw[sz];exact r.length.symm,fun i e he=>?_⟩
  have e1:es.toList[i]?=some e:=by rw[KL];exact he
  rw[h4,JJ]at e1
  cases hx:xs[i]? with
  |none=>rw[hx]at e1;cases e1
  |some q =>
   rw[hx]at e1
   cases e1
   obtain⟨⟨k,y⟩,hy,ek,ht,ry⟩:=qp r hx;exact⟨.ref q.2.1,y,.inr ⟨kvs,k,q.2.1,rfl,hy,rfl,ht⟩,rfl,ry⟩
 |_=>exact hd.elim
section
variable{X:Cx}{pins:List (Addr×Obj)}{σ:St}{H:Hp}{s:Shared}{d:Addr}{u:HO}{o:Obj}
theorem Ft:MtR X "dict.items" (fun x xs H Q=>∃ d u,x=.ref d/\xs = []/\H d=some u/\isDct u/\∀ v,H v=none->Q (.ref v) (upd H v (yj v d))):=by
 intro pins s σ H x xs v us Q I rx rv h;obtain⟨d,u,rfl,rfl,hd,hu,q⟩:=h
 cases rx
 have hus:=rv.zero;subst hus;obtain⟨lo,es,ep,hm,_⟩:=GZ hu (I.hok d _ hd);refine call_meetsIn N3 hm.ty PySem.F.entry_dict_items (PySem.F.args_dict_items_1 _) (FZ lo) ⟨⟨es,ep,hm⟩,?_⟩;have hv:(s.heap.push { cls:=.type "dict_items",data:=.fields #[.ref d] }).IsItemsView s.heap.objs.size d:=⟨_,Heap.get?_push_size _ rfl,rfl,rfl⟩;refine⟨.ref s.heap.objs.size,_,I.laid (t':=s.toks) (fun b o e=>Heap.get?_push_of_some _ e) (JF _) ?_,rfl,q _ (I.hok.fresh (JF _))⟩;exact⟨hv,⟨_,Heap.get?_push_size _ rfl⟩,fun h1 h2 x k=>let ⟨o,ho,r⟩:=x;⟨o,k _ ho,r⟩⟩
end
section
variable{X:Cx}
end
section
open PySem.W
end
section
open PySem.W
variable{prog:Program}{w:World}{A:Around}{E:Value->Shared->Prop}{s:Shared}
noncomputable def PrV(h:Heap)(v:Value):Prop:=∃ a o n x y tx ty,v=.ref a/\h.get? a=some o/\o.cls=.type "tuple"/\o.data=.seq #[.int x tx,.int y ty] n
theorem xU{M:Model}:∀{vs:List Value},(∀ v∈vs,PrV s.heap v)->∃ fs,KatTups s.heap vs fs/\fs.length=vs.length/\∀ v∈fs,Looks M s.heap (typeOf v) (.type "int")
 |[],_=>⟨[],trivial,rfl,fun v hv=>nomatch hv⟩
 |v::vs,h=>by
  obtain⟨fs,h1,h2,h3⟩:=xU (M:=M) (vs:=vs) fun u hu=>h u (JK _ hu);obtain⟨a,o,n,x,y,tx,ty,rfl,k1,k2,k3⟩:=h v (JO ..);refine⟨.int x tx::fs,KatTups.cons k1 k2 k3 rfl h1,by rw[Ke,Ke,h2],fun u hu=>?_⟩
  rcases JI.mp hu with rfl | hu
  ·exact .now
  ·exact h3 u hu
end
section
variable{X:Cx}
theorem xG:∀{ys:List V}{us:List Value},Vals ys us->∀ u∈us,∃ y∈ys,RelV y u
 |_,_,.nil,u,h=>nomatch h
 |_,_,.cons (a:=y) r t,u,h=>by
  rcases JI.mp h with rfl | h
  ·exact⟨y,JO ..,r⟩
  ·obtain⟨z,hz,rz⟩:=xG t u h;exact⟨z,JK _ hz,rz⟩
theorem rL{ys:List V}{us:List Value}(r:Vals ys us):∀{out:List Value},(∀ u∈out,u∈us)->∃ zs,Vals zs out/\zs.length=out.length/\∀ z∈zs,z∈ys
 |[],_=>⟨[],.nil,rfl,fun z h=>nomatch h⟩
 |u::out,h=>by
  obtain⟨zs,r1,l1,m1⟩:=rL r (out:=out) fun x hx=>h x (JK _ hx);obtain⟨y,hy,ry⟩:=xG r u (h u (JO ..))
  exact⟨y::zs,.cons ry r1,by rw[Ke,Ke,l1],fun z hz=>by
   rcases JI.mp hz with rfl | hz
   ·exact hy
   ·exact m1 z hz⟩
noncomputable def rAllB(K:JH):List V->Hp->VK->Prop:=fun xs H Q=>∃(p:Addr)(bs:List Bool),xs = [.ref p]/\SqL K H p (bs.map V.bl)/\Q (.bl (bs.all id)) H
theorem ug(hc:X.calm=true):iq X (.builtin "all") (rAllB X.K):=by
 intro pins s σ H xs us Q I r h;obtain⟨p,bs,rfl,hq,q⟩:=h;obtain⟨u,rfl,ru⟩:=ja r
 cases ru
 obtain⟨its,rv,pl,hz⟩:=I.list hq;have hln:=rv.length;rw[JC]at hln;have hlt:p<s.heap.objs.size:=by obtain⟨_,_,q,_⟩:=pl;exact Heap.lt_size q
 refine call_all_walk (wpAny_pyIter_list pl.isList ?_);refine⟨s.heap.objs.size,[s.heap.objs.size,p],[s.heap.objs.size],its.toArray.size,_,_,fun i=>bs.getD i true,rfl,Walks.list (A:=X.A.in1) (I.ok.hd hc) _ p (JV hlt) its.toArray,⟨⟨_,Heap.get?_push_size _ rfl,rfl,rfl⟩,pl.isList.push _⟩,fun i v s' Q' E' hP hQ=>?_,fun h' tk hk=>?_⟩
 ·have hv:its[i]?=some v:=by simpa using hP
  have hi:i<bs.length:=by have:=(JD.mp hv).1;omega
  obtain⟨w,hw,rw'⟩:=rv.get (i:=i) (x:=.bl bs[i]) (by rw[JJ,JB hi];rfl)
  rw[hv]at hw
  cases hw
  cases rw'
  replace hQ:Q' (bs.getD i true) s':=hQ;rw[show bs.getD i true=bs[i] by rw[JE,JB hi];rfl]at hQ
  exact wpAny_truthy_bool hQ
 ·have ea:((KO its.toArray.size).all fun i=>bs.getD i true)=bs.all id:=by
   rw[JU,← hln,Mr,M7,M7];constructor
   ·intro h b hb;obtain⟨i,hi,rfl⟩:=KP hb;have:=h i (KS.mpr hi);rw[JE,JB hi]at this;exact this
   ·intro h i hi;have hi':=KS.mp hi;rw[JE,JB hi'];exact h _ (KC hi')
  rw[ea];refine⟨.bl _,H,I.kept (t':=tk) (fun b o e=>hk b o (fun hm=>?_) (Heap.get?_push_of_some _ e)),rfl,q⟩;rw[JR.mp hm]at e;exact KN _ (Heap.lt_size e)
end
noncomputable abbrev pf(p:Pos):Arguments:={ posonlyargs:=[],args:=[{ arg:="each",annotation:=none,pos:=p }],vararg:=none,kwonlyargs:=[],kw_defaults:=[],kwarg:=none,defaults:=[] }
noncomputable abbrev vX:Scope:={ kind:=.function,names:=[("each",.local),("told",.free)],isGenerator:=false,isCoroutine:=false,more:=[] }
noncomputable abbrev zN(p1 p2 p3:Pos):Expr:=.Subscript (.Name "told" p1) (.Name "each" p2) p3
section
variable{prog:Program}{w:World}{A:Around}{E:Value->Shared->Prop}{s:Shared}
theorem IM{f c' ct t:Addr}{qual:Str}{p0 p1 p2 p3:Pos}{pm ctv v:Value}{its:Array Value}{k:Int}{tk:Tok}{Q:Value->Shared->Prop}
  (hroom:A.depth<recursionLimit) (hf:s.heap.get? f=some (Na "<lambda>" qual (pf p0) (zN p1 p2 p3) vX [("told",ct)] pm c' ctv)) (hcr:s.heap.CodeRec (.ref c') qual) (lim:s.heap.NoLimit)
  (hc:s.heap.IsCell ct (some (.ref t))) (hl:s.heap.IsList t its) (k0:0<=k) (k63:k<2^63) (hit:its[k.toNat]?=some v)
  (hQ:∀ h' tk',(∀ b o,s.heap.get? b=some o->h'.get? b=some o)->Q v { s with heap:=h',toks:=tk' }) :
  wpAny (model prog w) A (call (.ref f) [.int k tk]) Q E s:=by
 refine wpAny_call (PySem.W.kla_callFunE hroom hf rfl rfl rfl rfl hcr ?_);have hb:bindArgs (PySem.W.kla_fn "<lambda>" qual (pf p0) (zN p1 p2 p3) vX [("told",ct)] pm (.ref c') ctv) ⟨[.int k tk],[]⟩=(pure [(("each" : Str),Value.int k tk)]:Sem (List (Str×Value))):=rfl;rw[hb];refine wpAny_pure (wpAny_newFunctionEnv (fun x hx=>?_) (fun x hx=>?_) (fun h1 hns hsb=>?_) rfl)
 ·have hx':x=(("each" : Str),NameKind.local)∨x=(("told" : Str),NameKind.free):=by simpa using hx
  rcases hx' with rfl | rfl<;>exact fun z=>by cases z
 ·rw[JR.mp hx];rfl
 have kp:∀ b o,s.heap.get? b=some o->h1.get? b=some o:=fun b o e=>hsb.extBut b o (JV (Heap.lt_size e)) (Heap.get?_push_of_some _ e);refine⟨lim.keeps kp,PySem.W.kla_codeExpr ?_⟩;refine Subscript_ (wpAny_Name (wpAny_loadName_free (c:=ct) rfl rfl rfl (hc.keeps kp) ?_));refine wpAny_Name (wpAny_loadName_local rfl rfl hns rfl ?_);exact item_listR (hl.at fun o e=>kp _ _ e) k0 k63 hit (hQ _ _ kp)
noncomputable abbrev Kp(h h':Heap):Prop:=∀ b o,h.get? b=some o->h'.get? b=some o
theorem Kp.but{g h h':Heap}{I:Addr}(k:Kp g h)(n:g.get? I=none)(m:∀ b o,b∉[I]->h.get? b=some o->h'.get? b=some o):Kp g h':=fun b o e=>m b o (fun z=>by rw[JR.mp z,n]at e;cases e) (k b o e)
theorem Kp.same{g h h':Heap}{S:Addr}(k:Kp g h)(n:g.get? S=none)(m:Heap.SameBut S h h'):Kp g h':=fun b o e=>(m.2 b (fun z=>by rw[z,n]at e;cases e)).trans (k b o e)
theorem Fu{J S q:Addr}{fp:List Addr}{n:Nat}{P:Nat->Value->Prop}{St:Nat->Heap->Prop}{g:Heap}{R:Result->Shared->Prop}(W:Walks prog w A.in1 J fp [J] n P St)(gJ:g.get? J=none)(gS:g.get? S=none)(hSJ:S≠J)(hSf:S∉fp)
  (turn:∀ i v,i<n->P i v->∀(h:Heap)(tk:Nat)(Q:Value->Shared->Prop)(E:Value->Shared->Prop),Kp g h->(∀ nv t h' tk',Kp h h'->Q (.int nv t) { s with heap:=h',toks:=tk' })->wpAny (model prog w) A.in1 (call (.ref q) [v]) Q E { s with heap:=h,toks:=tk })
  (fin:∀ i v h' tk',i<n->P i v->Kp g h'->R (.ok (.ret v)) { s with heap:=h',toks:=tk' }) :
  ∀(r j i:Nat)(h:Heap)(tk:Nat)(vb:Value)(nb:Int)(tb:Tok)(c:Nat),n-(j+1)=r->j+1<=n->Kp g h->h.get? S=some (seqObj "list" #[vb,.int nb tb] c)->St (j+1) h->i<n->P i vb ->
   codeAny (model prog w) A (.builtin "min.loop" ⟨[.ref J,.ref q,.ref S],[]⟩) R { s with heap:=h,toks:=tk }:=by
 have nm:(toString "min"++toString ".loop" : String) = "min.loop":=by decide
 intro r;induction r with
 |zero =>
  intro j i h tk vb nb tb c er hj kg hS st hi hP;have ej:j+1=n:=by omega
  refine codeAny_builtin LP ?_;rw[Around.under_plainId Kz _];refine wpAny_bind (m:=seqItems? (.ref S)) (wpAny_seqItems hS rfl ?_);show wpAny _ A.in1 (tryCatch (pyNext (.ref J)) _ >>= _) _ _ _;refine wpAny_bind (wpAny_tryCatch (W.done _ _ _ (by rw[← ej];exact st) fun h' tk' kk=>?_))
  have kg':=kg.but gJ kk;have hS':=kk S _ (by simpa using hSJ) hS
  have su:=Heap.SameBut.update h' S (Obj.mapSeq fun _=>(#[]:Array Value));refine wpAny_bind (m:=updateSeq S fun _=>#[]) (wpAny_updateSeq hS' rfl (wpAny_bind (wpAny_letGo (wpAny_pure ?_))));exact fin i vb _ _ hi hP (kg'.same gS su)
 |succ r ih =>
  intro j i h tk vb nb tb c er hj kg hS st hi hP;have lt:j+1<n:=by omega
  refine codeAny_builtin LP ?_;rw[Around.under_plainId Kz _];refine wpAny_bind (m:=seqItems? (.ref S)) (wpAny_seqItems hS rfl ?_);show wpAny _ A.in1 (tryCatch (pyNext (.ref J)) _ >>= _) _ _ _;refine wpAny_bind (wpAny_tryCatch (W.item (j+1) _ _ _ lt st fun v h1 tk1 hv st1 k1=>?_));have kg1:=kg.but gJ k1;have hS1:=k1 S _ (by simpa using hSJ) hS
  show wpAny _ A.in1 (tryCatch (holding [v] (call (.ref q) [v])) _ >>= _) _ _ _;refine wpAny_bind (wpAny_tryCatch (wpAny_holding (turn (j+1) v lt hv h1 tk1 _ _ kg1 fun nv t h2 tk2 k2=>?_)));have kg2:Kp g h2:=fun b o e=>k2 b o (kg1 b o e);have hS2:=k2 _ _ hS1;have st2:=W.frame _ _ h2 st1 fun b _ o e=>k2 b o e;show wpAny _ A.in1 (tryCatch (holding [v,.int nv t] (richCompare .Lt (.int nv t) (.int nb tb) >>= _)) _ >>= _) _ _ _;refine wpAny_bind (wpAny_tryCatch (wpAny_holding (wpAny_bind (CmpOf.ints_lt (prog:=prog) (w:=w) (A:=A.in1) (P:=fun(i:Nat) v=>∃ t,v=.int (if i=0 then nv else nb) t) (fun i=>if i=0 then nv else nb) (fun i v h=>h) 0 1 _ _ _ _ _ ⟨t,rfl⟩ ⟨tb,rfl⟩ ?_))));refine wpAny_bind (wpAny_holding (wpAny_truthy_bool (wpAny_bind (wpAny_letGo (wpAny_pure ?_)))));by_cases cc:nv<nb
  ·have su:=Heap.SameBut.update h2 S (Obj.mapSeq fun _=>#[v,.int nv t])
   obtain⟨c2,hc2⟩:∃ c2,(h2.update S (Obj.mapSeq fun _=>#[v,.int nv t])).get? S=some (seqObj "list" #[v,.int nv t] c2):=⟨_,get?_update_seq hS2 fun _=>#[v,.int nv t]⟩;simp[cc];refine wpAny_bind (wpAny_updateSeq hS2 rfl (wpAny_bind (wpAny_letGo ?_)));refine wpAny_pure ⟨plainId_quiet Kz _,ih (j+1) (j+1) _ _ v nv t c2 (by omega) lt (kg2.same gS su) hc2 (W.frame _ _ _ st2 fun b hb o e=>(su.2 b (fun z=>hSf (z▸hb))).trans e) lt hv⟩
  ·simp[cc];refine wpAny_bind (wpAny_letGo (wpAny_pure ?_));refine⟨plainId_quiet Kz _,ih (j+1) i _ _ vb nb tb c (by omega) lt kg2 hS2 st2 hi hP⟩
theorem IF{d q:Addr}{KK:Type} [DecidableEq KK] {knd:PySem.KeyKind prog w KK} {kvs:List (KK×Value)} {ep:Nat} {Q:Value->Shared->Prop} (hh:A.handled=none) (hd:Heap.DictAt knd s.heap d kvs ep) (ds:(d == sysModules)=false) (hne:0<kvs.length)
  (turn:∀(i:Nat)(v:Value)(k:KK)(x:Value),kvs[i]?=some (k,x)->knd.is k v=true->∀(h:Heap)(tk:Nat)(Q:Value->Shared->Prop)(E:Value->Shared->Prop),Kp s.heap h->(∀ nv t h' tk',Kp h h'->Q (.int nv t) { s with heap:=h',toks:=tk' })->wpAny (model prog w) A.in1 (call (.ref q) [v]) Q E { s with heap:=h,toks:=tk })
  (fin:∀(i:Nat)(v:Value)(k:KK)(x:Value)(h':Heap)(tk':Nat),kvs[i]?=some (k,x)->knd.is k v=true->Kp s.heap h'->Q v { s with heap:=h',toks:=tk' }) :
  wpAny (model prog w) A (call (.builtin "min") [.ref d] [(Str.ofString "key",.ref q)]) Q E s:=by
 have nm:(toString "min"++toString ".loop" : String) = "min.loop":=by decide
 obtain⟨od,_,hod,_⟩:=id hd;have dl:d<s.heap.objs.size:=Heap.lt_size hod;refine kmk_tree PySem.F.kind_min PySem.F.plain_min PySem.F.entry_min (kmk_min_key _ _) ?_;show wpAny _ A.in1 (Builtin.Builtins.bindParams "min" ["key","default"] 0 ⟨[],[(Str.ofString "key",.ref q)]⟩ >>= _) _ _ s;refine wpAny_bind (wpAny_of_eq (show Builtin.Builtins.bindParams "min" ["key","default"] 0 ⟨[],[(Str.ofString "key",.ref q)]⟩=pure [some (.ref q),none] from rfl) (wpAny_bind (wpAny_pure (wpAny_bind (wpAny_pyIter_dict ds hd ?_)))));refine wpAny_bind (wpAny_newList ?_ (Ky _));rw[nm];obtain⟨ob,eob⟩:∃ ob:Obj,ob={ cls:=Value.type "dict_keyiterator",data:=Data.fields #[Value.ref d,Value.int 0 0,Value.int (kvs.length:Int) 0,Value.int (ep:Int) 0] }:=⟨_,rfl⟩;rw[← eob];have sz:(s.heap.push ob).objs.size=s.heap.objs.size+1:=by rw[Heap.size_push]
 have neS:(s.heap.push ob).objs.size≠s.heap.objs.size:=by omega
 have neD:d≠s.heap.objs.size:=JV dl;have fr:∀ b,s.heap.objs.size<=b->s.heap.get? b=none:=fun b hb=>Heap.get?_none_of_le hb;have kp:Kp s.heap ((s.heap.push ob).push (seqObj "list" #[] 0)):=fun b o e=>Heap.get?_push_of_some _ (Heap.get?_push_of_some _ e);have hS:((s.heap.push ob).push (seqObj "list" #[] 0)).get? (s.heap.push ob).objs.size=some (seqObj "list" #[] 0):=Heap.get?_push_size _ rfl;have hJ:((s.heap.push ob).push (seqObj "list" #[] 0)).get? s.heap.objs.size=some ob:=Heap.get?_push_of_some _ (Heap.get?_push_size _ (by rw[eob];rfl))
 have W:=Walks.dictKeys (prog:=prog) (w:=w) (knd:=knd) (A:=A.in1) hh s.heap.objs.size d neD kvs ep;have turn':∀(i:Nat)(v:Value),i<kvs.length->(∃ k x,kvs[i]?=some (k,x)/\knd.is k v=true)->∀(h:Heap)(tk:Nat)(Q:Value->Shared->Prop)(E:Value->Shared->Prop),Kp s.heap h->(∀ nv t h' tk',Kp h h'->Q (.int nv t) { s with heap:=h',toks:=tk' })->wpAny (model prog w) A.in1 (call (.ref q) [v]) Q E { s with heap:=h,toks:=tk }:=fun i v _ ⟨k,x,e1,e2⟩=>turn i v k x e1 e2;refine wpAny_pure ⟨plainId_quiet Kz _,codeAny_builtin LP ?_⟩;rw[Around.under_plainId Kz _];refine wpAny_bind (m:=seqItems? (.ref (s.heap.push ob).objs.size)) (wpAny_seqItems hS rfl ?_);show wpAny _ A.in1 (tryCatch (pyNext (.ref s.heap.objs.size)) _ >>= _) _ _ _;refine wpAny_bind (wpAny_tryCatch (W.item 0 _ _ _ hne ⟨⟨ob,hJ,by rw[eob],by rw[eob];rfl⟩,hd.at' fun o e=>kp _ _ e⟩ fun v h1 tk1 hv st1 k1=>?_))
 have kg1:=kp.but (fr _ (JF _)) k1;have hS1:=k1 _ _ (by simpa using neS) hS
 show wpAny _ A.in1 (tryCatch (holding [v] (call (.ref q) [v])) _ >>= _) _ _ _;refine wpAny_bind (wpAny_tryCatch (wpAny_holding (turn' 0 v hne hv h1 tk1 _ _ kg1 fun nv t h2 tk2 k2=>?_)));have kg2:Kp s.heap h2:=fun b o e=>k2 b o (kg1 b o e);have hS2:=k2 _ _ hS1;have st2:=W.frame _ _ h2 st1 fun b _ o e=>k2 b o e;have su:=Heap.SameBut.update h2 (s.heap.push ob).objs.size (Obj.mapSeq fun _=>#[v,.int nv t]);obtain⟨c2,hc2⟩:∃ c2,(h2.update (s.heap.push ob).objs.size (Obj.mapSeq fun _=>#[v,.int nv t])).get? (s.heap.push ob).objs.size=some (seqObj "list" #[v,.int nv t] c2):=⟨_,get?_update_seq hS2 fun _=>#[v,.int nv t]⟩;have nf:(s.heap.push ob).objs.size∉[s.heap.objs.size,d]:=fun z=>by
  rcases JI.mp z with z | z
  ·exact neS z
  ·have z':=JR.mp z
   exact absurd dl (by rw[← z',sz];exact Mf (L1 _))
 refine wpAny_bind (m:=updateSeq _ fun _=>#[v,.int nv t]) (wpAny_updateSeq hS2 rfl ?_);rw[nm];refine wpAny_pure ⟨plainId_quiet Kz _,Fu W (fr _ (JF _)) (fr _ (by omega)) neS nf turn' (fun i v h' tk' _ ⟨k,x,e1,e2⟩ kk=>fin i v k x h' tk' e1 e2 kk) _ 0 0 _ _ v nv t c2 rfl hne (kg2.same (fr _ (by omega)) su) hc2 (W.frame _ _ _ st2 fun b hb o e=>(su.2 b (fun z=>nf (z▸hb))).trans e) hne hv⟩
end
section
variable{X:Cx}{pins:List (Addr×Obj)}{σ:St}{H:Hp}{s:Shared}{h':Heap}{T:Addr}{ps more:Array Value}{t':Nat}
theorem Inv.tab(I:Inv X pins σ H s)(e:H T=some (.tbl ps))(hx:∀ b o,b≠T->s.heap.get? b=some o->h'.get? b=some o)(hT:h'.get? T=some { cls:=.none,data:=.fields (ps++more) }) :
  Inv X pins σ (upd H T (.tbl (ps++more))) { s with heap:=h',toks:=t' }:=by
 have ne:∀{b:Addr}{o:Option HO},H b=o->o≠some (.tbl ps)->b≠T:=fun q n z=>n (by rw[← q,z,e])
 refine I.un ⟨fun b o g n _ _=>hx b o (ne n (by simp)) g,fun b o g n _ _=>⟨o.slots,hx b o (ne n (by simp)) g⟩,fun b o g n _=>?_,fun b o g _=>?_,fun b xs q=>?_,fun b o u q=>?_,fun b p q=>?_⟩ fun b u q=>?_
 ·rw[ao (ne n (by simp))]
  exact n
 ·by_cases z:b=T
  ·rw[z];exact⟨_,hT⟩
  ·exact⟨o,hx b o z g⟩
 ·rw[ao (ne q (by simp))]
  exact q
 ·rw[ao (ne q (by simp))]
  exact q
 ·by_cases z:b=T
  ·subst z;rw[e]at q
   cases q
   exact⟨more,ag⟩
  ·exact⟨#[],by rw[ao z,q];simp⟩
 ·by_cases z:b=T
  ·subst z;rw[ag]at q
   cases q
   exact hT
  ·rw[ao z]at q;refine(I.hok b u q).stay (fun c o hc g=>hx c o (fun y=>?_) g) (fun c g=>?_) fun c o g=>?_
   ·rcases hc with y2 | y2
    ·exact z (y2▸y)
    ·rw[y,e]at y2;cases y2
   ·rw[ao (ne g (by simp))];exact g
   ·rw[ao (ne g (by simp))];exact g
end
noncomputable def codO(c:Addr)(q:Str):HO:=.ext fun h=>h.CodeRec (.ref c) q
noncomputable def Tb(q:Str)(lp:Pos)(T:Addr)(H:Hp):Prop:=H T=some (.tbl #[])∨∃ c,H T=some (.tbl #[rawInt lp.line,rawInt lp.col,.ref c])/\H c=some (codO c q)
noncomputable def TbS(T:Addr)(H H':Hp):Prop:=∀ b o,b≠T->H b=some o->H' b=some o
structure Lam(X:Cx)(c T ct:Addr)(lq:Str):Prop where
 code:X.env.code=.ref c
 hd:L4 X.base c T
 bm:∃ bm o,X.mg "__builtins__" = some (.ref bm)/\bm≠builtinsNs/\X.base.get? bm=some o/\o.cls=.type "module"/\o.dict=some builtinsNs/\o.data=.plain
 kind:X.env.kindOf "told" = some .cell
 cl:closureFor vX X.env=pure [(("told" : Str),ct)]
 cell:X.env.cells.lookup ("told" : Str)=some ct
 q:X.env.qual++"<lambda>" = lq
theorem IS{κ:Type}:∀{kvs:List (κ×V)}{vs:List (κ×Value)},KV kvs vs->∀{i:Nat}{k:κ}{y:Value},vs[i]?=some (k,y)->∃ kv,kv∈kvs/\k=kv.1
 |_,_,.nil,i,k,y,e=>by simp at e
 |p::_,q::_,.cons h r,0,k,y,e=>by
  cases e
  exact⟨p,JO ..,h.1.symm⟩
 |p::_,_::_,.cons _ r,i+1,k,y,e=>by
  obtain⟨kv,m,ek⟩:=IS r (show _=some (k,y) from e);exact⟨kv,JK _ m,ek⟩
noncomputable def tMinK(lq:Str)(lp:Pos)(T:Addr)(it:Nat)(t:TA):TE:=fun σ H Q=>t σ H fun vs H1=>∃ d kvs a xs,vs = [.ref d]/\H1 d=some (.dK kvs)/\kvs≠[]/\σ[it]?=some (some (.ref a))/\H1 a=some (.lst xs)/\Tb lq lp T H1 /\
 (∀ kv∈kvs,∃(k:Nat)(n:Int),kv.1=.inl (k:Int)/\xs[k]?=some (.int n))/\∀ kv∈kvs,∀ H',TbS T H1 H'->Tb lq lp T H'->Q (kV kv.1) H'
theorem Ii{X:Cx}{c T ct:Addr}{lq x:Str}{it:Nat}{t:TA}{np xp p0 p1 p2 p3 lp kp pos:Pos}(L:Lam X c T ct lq)(hx:X.ex = [])(hc:X.calm=true)(hr:Room 0 X.A) (hN:X.N[it]?=some ("told" : Str)) (hv:Vis X.env.scope "told") (hg:Gl X "min") (hm:X.mg "min" = none) (ha:PA X [.Name x xp] t) :
  PE X (.Call (.Name "min" np) [.Name x xp] [⟨some "key",.Lambda (pf p0) (zN p1 p2 p3) vX lp,kp⟩] pos) (tMinK lq lp T it t):=by
 intro pins s σ H Q I h;refine wpAny_Call_Name_kw (jo I hg hm yA ?_);refine callWith_kw (thn (ha pos pins s σ H _ I h) fun us s1 ⟨vs,H1,I1,r1,q1⟩=>?_);obtain⟨d,kvs,a,xs,rfl,hd,hne,hσ,hl,tb,hk,q⟩:=q1;obtain⟨u,rfl,ru⟩:=ja r1
 cases ru
 refine kws_cons (PySem.W.kla_eval rfl ?_);rw[L.q];have lp':0<kvs.length:=List.length_pos_iff.mpr hne;have go:∀(H2:Hp)(s2:Shared)(f c':Addr)(pm ctv:Value),Inv X pins σ H2 s2->s2.heap.get? f=some (Na "<lambda>" lq (pf p0) (zN p1 p2 p3) vX [("told",ct)] pm c' ctv)->s2.heap.CodeRec (.ref c') lq->H2 d=some (.dK kvs)->H2 a=some (.lst xs)->(∀ kv∈kvs,Q (kV kv.1) H2) ->
   wpAny (model X.prog X.w) X.A (call (.builtin "min") [.ref d] [(Str.ofString "key",.ref f)]) (EP X pins σ Q) X.xe s2:=by
  intro H2 s2 f c' pm ctv I2 hf hcr hd2 hl2 q2;obtain⟨_,ds,vs,kv2,od,es,ep,hod⟩:=z8 I2.hok hd2;have vl:=kv2.length;refine IF (knd:=bh X.prog X.w) (kvs:=vs) (ep:=ep) (I2.ok.hd hc) ⟨od,es,hod⟩ ds (by omega) ?_ ?_
  ·intro i v k y e1 e2 h' tk Q' E' kk hQ';obtain⟨⟨k1,w1⟩,m1,ek⟩:=IS kv2 e1;obtain⟨j,n,ej,hn⟩:=hk _ m1;have ek':k=.inl (j:Int):=ek.trans ej;subst ek';have sh:∃ t,v=Value.int (j:Int) t:=by
    rcases aW (show qF (.inl (j:Int)) v=true from e2) with⟨i',t',z1,z2⟩ | ⟨_,_,z1,_⟩
    ·cases z1;exact⟨t',z2⟩
    ·cases z1
   obtain⟨tv,rfl⟩:=sh;obtain⟨hz,its,ncap,rv,hgl⟩:=I2.hok a _ hl2;obtain⟨wv,hwv,rwv⟩:=rv.get hn;obtain⟨tn,rfl⟩:=rwv;have jl:j<xs.length:=(JD.mp hn).1;have l63:=pe;obtain⟨m,hns,hlook⟩:=I2.loc;obtain⟨u,ru,lk⟩:=hlook it "told" (.ref a) hN hσ hv
   cases ru
   have hcell:s2.heap.IsCell ct (some (.ref a)):=by
    rcases lk with⟨kl,_⟩ | ⟨_,c2,ec,z⟩
    ·exact absurd kl (by rw[L.kind];intro z;cases z)
    ·rw[L.cell]at ec;cases ec;exact z
   refine IM (A:=X.A.in1) (f:=f) (c':=c') (t:=a) (its:=its.toArray) (k:=(j:Int)) ?_ (kk _ _ hf) (hcr.keeps kk) (I2.nolimit.keeps kk) (hcell.keeps kk) ⟨_,kk _ _ hgl,rfl,_,rfl⟩ (by omega) (by omega) (by rw[JL];simpa using hwv) fun h3 tk3 k3=>hQ' _ _ _ _ k3
   have:=hr.dp;show X.A.depth<recursionLimit;omega
  ·intro i v k y h' tk e1 e2 kk;obtain⟨kv,m1,ek⟩:=IS kv2 e1;refine⟨kV k,H2,I2.kept kk,?_,by rw[ek];exact q2 kv m1⟩
   rcases aW (show qF k v=true from e2) with⟨i',t',rfl,rfl⟩ | ⟨y',t',rfl,rfl⟩
   ·exact⟨t',rfl⟩
   ·exact⟨t',rfl⟩
 have bat:s1.heap.BuiltinsAt X.mg T:=by
  obtain⟨bm,o,b1,b2,b3,b4,b5,b6⟩:=L.bm;obtain⟨o1,es1,ep1,g1,g2,_⟩:=id I1.mod.glob;have hT:H1 T≠none:=by
   rcases tb with z | ⟨_,z,_⟩<;>rw[z]<;>simp
  refine⟨bm,o,b1,b2,fun z=>?_,fun z=>?_,I1.bk _ _ b3,b4,b5,b6⟩
  ·rw[z,g1]at b3;cases b3;rw[g2]at b6;cases b6
  ·rw[z]at b3;exact hT (I1.bs _ _ b3).2
 have neT:mainGlobals≠T:=fun z=>by
  obtain⟨o1,es1,ep1,g1,g2,_⟩:=id I1.mod.glob;have:=(I1.bs _ _ g1).2;rw[z]at this;rcases tb with y | ⟨_,y,_⟩<;>rw[y]at this<;>cases this
 have nsg:=I1.mod.glob.keeps I1.bk;rcases tb with hT | ⟨c',hT,hco⟩
 ·have gT:s1.heap.get? T=some (NQ #[]):=I1.hok T _ hT
  refine PySem.W.kla_makeFunction (mg:=X.mg) L.cl I1.ok.glob nsg L.code (L.hd.keeps I1.bk) gT trivial rfl neT bat fun c' ctv h' tk hxt hge hlt hrec htb=>kws_nil ?_;have cT:c'≠T:=fun z=>by
   have:=Heap.lt_size gT;rw[← z]at this;exact absurd this (Mf hge)
  have I2:=I1.tab (more:=#[rawInt lp.line,rawInt lp.col,.ref c']) (t':=tk) hT (fun b o n e=>hxt b o n e) (by simpa using htb)
  have e0:(#[]:Array Value)++#[rawInt lp.line,rawInt lp.col,.ref c']=#[rawInt lp.line,rawInt lp.col,.ref c']:=by simp
  rw[e0]at I2;have fr:s1.heap.get? c'=none:=Heap.get?_none_of_le hge;have H1c:H1 c'=none:=I1.hok.none_of fr;obtain⟨c3,oc,vs3,t3,ec,g1,g2,g3⟩:=id hrec
  cases ec
  have I3:=I2.xtrack (a:=c') (o:=codO c' lq) (I1.xok hx fr (by rw[ao cT];exact H1c)) ⟨hrec,⟨oc,g1⟩,fun h1 h2 ⟨c4,o4,v4,t4,z1,z2,z3,z4⟩ kk=>by cases z1;exact⟨_,o4,v4,t4,rfl,kk o4 z2,z3,z4⟩⟩
  have kpsh:Kp h' (h'.push (Na "<lambda>" lq (pf p0) (zN p1 p2 p3) vX [("told",ct)] ((X.mg "__name__").getD .none) c' ctv)):=fun b o e=>Heap.get?_push_of_some _ e;have I4:=I3.kept (t':=tk) kpsh;have dT:d≠T:=fun z=>by rw[z,hT]at hd;cases hd
  have aT:a≠T:=fun z=>by rw[z,hT]at hl;cases hl
  have dc:d≠c':=fun z=>by rw[z,H1c]at hd;cases hd
  have ac:a≠c':=fun z=>by rw[z,H1c]at hl;cases hl
  have sm:TbS T H1 (upd (upd H1 T (.tbl #[rawInt lp.line,rawInt lp.col,.ref c'])) c' (codO c' lq)):=fun b o n e=>by
   rw[ao (fun z=>by rw[z,H1c]at e;cases e),ao n]
   exact e
  refine go _ _ h'.objs.size c' _ _ I4 (Heap.get?_push_size _ rfl) (hrec.keeps kpsh) (sm _ _ dT hd) (sm _ _ aT hl) fun kv m=>q kv m _ sm (.inr ⟨c',by rw[ao (Ne.symm cT)];exact ag,ag⟩)
 ·have gT:s1.heap.get? T=some (NQ #[rawInt lp.line,rawInt lp.col,.ref c']):=I1.hok T _ hT
  obtain⟨hrec,_,_⟩:=(show bf X.prog X.w H1 s1.heap c' (codO c' lq) from I1.hok c' _ hco);refine PySem.W.kla_makeFunctionHit (mg:=X.mg) (cv:=.ref c') L.cl I1.ok.glob nsg L.code (L.hd.keeps I1.bk) gT trivial (by simp[codeAmong,rawInt]) bat fun ctv h' tk kk sz=>kws_nil ?_
  have kpsh:Kp s1.heap (h'.push (Na "<lambda>" lq (pf p0) (zN p1 p2 p3) vX [("told",ct)] ((X.mg "__name__").getD .none) c' ctv)):=fun b o e=>Heap.get?_push_of_some _ (kk b o e);have I4:=I1.kept (t':=tk) kpsh;exact go _ _ h'.objs.size c' _ _ I4 (Heap.get?_push_size _ rfl) (hrec.keeps kpsh) hd hl fun kv m=>q kv m _ (fun b o _ e=>e) (.inr ⟨c',hT,hco⟩)
noncomputable abbrev Bm(mg:Str->Option Value)(h:Heap):Prop:=∃ bm o,mg "__builtins__" = some (.ref bm)/\bm≠builtinsNs/\h.get? bm=some o/\o.cls=.type "module"/\o.dict=some builtinsNs/\o.data=.plain
theorem Cv{P:Program}{w:World}{K:JH}{mg mb:Str->Option Value}{CX:CXT}{k:Nat}{fa a c T:Addr}{fd:FuncData}{x:Str}{sp:Sp}{s:Shared}{vs:List Value}{ns:List Int}
  (KX:K.In s.heap) (hg:s.heap.Ns mainGlobals mg) (hb:s.heap.Ns builtinsNs mb) (hbb:∀ x:Str,x≠"__name__"->mb x=bootBuiltins x) (lim:s.heap.NoLimit) (gens:s.gens=#[])
  (hc:L4 s.heap c T) (hT:s.heap.get? T=some (NQ #[])) (nT:K.lookup T=none) (hbm:Bm mg s.heap)
  (ha:s.heap.get? a=some { cls:=.type "list",data:=.seq vs.toArray }) (hi:IntsAre vs ns) (hl:ns.length<=sizeLine) (hr:Room k callerA)
  (F:∀ base:Heap,K.In base->base.Ns mainGlobals mg->L4 base c T->Bm mg base->FnOk P w K mg base CX k fa fd [x] sp) (bind:∀(s:Shared)(u:Value),BindsTo s fd ⟨[u],[]⟩ [(x,u)])
  (hsp:∀ H:Hp,H T=some (.tbl #[])->SqL K H a (ns.map V.int)->sp [.ref a] H (fun v _=>v=.bl true) fun _ _ _=>False)
  (hCX:∀ H e s',CX [] H s (fun _ _ _=>False) e s'->False) :
  codeAny (model P w) callerA (.call (.ref fa) ⟨[.ref a],[]⟩) (fun r s'=>r=.ok (.ret (.bool true))/\OldK s.heap s'.heap/\s'.os=s.os/\AllBare s'.gens) s:=by
 have rv:=rM hi;have aT:a≠T:=fun z=>by rw[z,hT]at ha;cases ha
 obtain⟨H,eT,eS,hok,only,frz⟩:∃ H:Hp,H T=some (.tbl #[])/\SqL K H a (ns.map V.int)/\HOk P w H s.heap/\(∀ b,H b≠none->(b=T∨b=a)/\K.lookup b=none)/\(∀ b u,H b=some u->b≠T->∃ o ys,u=.frz o (.lst ys)):=by
  cases hk:K.lookup a with
  |some o =>
   have e:=KX a o hk;rw[ha]at e
   cases e
   refine⟨upd (fun _=>none) T (.tbl #[]),ag,.inr ⟨_,vs.toArray,_,hk,rfl,rfl,rfl,by rw[JU,hi.length];exact hl,by simpa using rv⟩,fun b u z=>?_,fun b z=>?_,fun b u z n=>?_⟩
   ·by_cases y:b=T
    ·subst y;rw[ag]at z;cases z;exact hT
    ·rw[ao y]at z;cases z
   ·by_cases y:b=T
    ·exact⟨.inl y,y▸nT⟩
    ·rw[ao y]at z;exact absurd rfl z
   ·rw[ao n]at z;cases z
  |none =>
   refine⟨upd (upd (fun _=>none) a (.frz { cls:=.type "list",data:=.seq vs.toArray } (.lst (ns.map V.int)))) T (.tbl #[]),ag,.inl (.inr ⟨{ cls:=.type "list",data:=.seq vs.toArray },by rw[ao aT];exact ag⟩),fun b u z=>?_,fun b z=>?_,fun b u z n=>?_⟩
   ·by_cases y:b=T
    ·subst y;rw[ag]at z;cases z;exact hT
    ·rw[ao y]at z;by_cases y2:b=a
     ·subst y2;rw[ag]at z;cases z;exact⟨ha,by rw[JC];exact hl,vs,_,rv,ha⟩
     ·rw[ao y2]at z;cases z
   ·by_cases y:b=T
    ·exact⟨.inl y,y▸nT⟩
    ·rw[ao y]at z;by_cases y2:b=a
     ·exact⟨.inr y2,y2▸hk⟩
     ·rw[ao y2]at z;exact absurd rfl z
   ·rw[ao n]at z;by_cases y2:b=a
    ·subst y2;rw[ag]at z;cases z;exact⟨_,_,rfl⟩
    ·rw[ao y2]at z;cases z
 have un0:∀{b:Addr}{o:Obj},s.heap.get? b=some o->o.cls≠.none->o.cls≠.type "list"->H b=none:=fun{b o} e n1 n2=>by
  cases q:H b with
  |none=>rfl
  |some u =>
   rcases(only b (by rw[q];simp)).1 with z | z
   ·rw[z,hT]at e;cases e;exact absurd rfl n1
   ·rw[z,ha]at e;cases e;exact absurd rfl n2
 have unD:∀{b:Addr}{o:Obj}{es:Array DictEntry}{ep:Nat},s.heap.get? b=some o->o.data=.dict es ep->H b=none:=fun{b o es ep} e d=>by
  cases q:H b with
  |none=>rfl
  |some u =>
   rcases(only b (by rw[q];simp)).1 with z | z
   ·rw[z,hT]at e;cases e;cases d
   ·rw[z,ha]at e;cases e;cases d
 have nsB:∀{b:Addr}{m:Str->Option Value},s.heap.Ns b m->(hidT s.heap H).Ns b m:=fun{b m} ⟨o,es,ep,e,d,r⟩=>⟨o,es,ep,lQ e (unD e d),d,r⟩
 have kB:K.In (hidT s.heap H):=fun b o e=>lQ (KX b o e) (by
  cases q:H b with
  |none=>rfl
  |some u=>rw[(only b (by rw[q];simp)).2]at e;cases e)
 have cB:L4 (hidT s.heap H) c T:=by
  obtain⟨o,v2,file,tf,flags,tg,inF,text,tt,e1,e2,r⟩:=hc;exact⟨o,v2,file,tf,flags,tg,inF,text,tt,lQ e1 (un0 e1 (by rw[e2];simp) (by rw[e2];simp)),e2,r⟩
 have bB:Bm mg (hidT s.heap H):=by
  obtain⟨bm,o,b1,b2,b3,b4,r⟩:=hbm;exact⟨bm,o,b1,b2,lQ b3 (un0 b3 (by rw[b4];simp) (by rw[b4];simp)),b4,r⟩
 have md:Mod K mg (hidT s.heap H):=⟨kB,nsB hg,⟨mb,nsB hb,hbb⟩,let ⟨mc,h1,h2⟩:=lim;⟨mc,nsB h1,h2⟩⟩;have e0:Env0 P w K mg (hidT s.heap H) callerA [] s H:=⟨rfl,md,fun b o e=>Iz e,Nat.le_of_eq (CP _ _),trivial,fun b z=>absurd (show b∈([]:List Addr) from z) (by simp),hok,.of_eq gens⟩
 refine codeAny_mono ((F _ kB (nsB hg) cB bB).run callerA [] s H ⟨[.ref a],[]⟩ [.ref a] [.ref a] _ _ hr e0 (bind s (.ref a)) (.cons rfl .nil) (hsp H eT eS)) fun r s' h=>?_
 cases r with
 |error e=>exact(hCX H e s' h).elim
 |ok fl =>
  cases fl with
  |next=>exact False.elim h
  |brk=>exact False.elim h
  |cont=>exact False.elim h
  |ret u =>
   obtain⟨v,H',os,bare,un,hok',r',q⟩:=h;have q':v=.bl true:=q;subst q';obtain rfl:u=Value.bool true:=r';have nil:∀ b:Addr,b∉frs []:=fun b z=>absurd (show b∈([]:List Addr) from z) (by simp)
   have gT:∃ more,s'.heap.get? T=some { cls:=.none,data:=.fields (#[]++more) }:=by
    obtain⟨more,e⟩:=un.tbls T _ eT;exact⟨more,hok' T _ e⟩
   have kp:∀ b o,b≠T->s.heap.get? b=some o->s'.heap.get? b=some o:=fun b o n e=>by
    cases q:H b with
    |none=>exact un.keep b o e q (nil b) (by simp)
    |some u =>
     obtain⟨ob,ys,rfl⟩:=frz b u q n;have z2:=un.frzs b ob _ q;obtain⟨g1,_⟩:=hok b _ q;obtain⟨g2,_⟩:=hok' b _ z2;rw[e]at g1;cases g1;exact g2
   refine⟨rfl,⟨fun b o e=>?_,fun b o e=>?_⟩,os,bare⟩
   ·by_cases z:b=T
    ·subst z;rw[hT]at e
     cases e
     obtain⟨more,g⟩:=gT;exact .inr (.inl ⟨(hc.tab hT).isCodeTable,rfl,#[],more,rfl,g⟩)
    ·exact .inl (kp b o z e)
   ·by_cases z:b=T
    ·subst z;obtain⟨more,g⟩:=gT;exact⟨_,g⟩
    ·exact⟨o,kp b o z e⟩
theorem walk_ofT{l:NJ}{n k:Nat}{q:Program}{loose:List Str}{XP:(Str->Option Value)->Heap->Prop}{YP:World->Heap->Prop}{d df:DefRec}{K:Params->JH}{CX:CXT}{sp:JH->Addr->Sp}{x fn:Str}
  (hn:l.most=some n) (hn2:n<=sizeLine) (hdf:d.params.defaults = []) (hr:Room k callerA) (hY:∀(w:World)(h:Heap),YP w h->(K w.params).In h)
  (hrec:(recsOf q).find? (fun e=>e.name == fn)=some df)
  (F:∀(w:World)(mg:Str->Option Value)(fa:Addr)(h:Heap),(K w.params).In h->h.Ns mainGlobals mg->mg d.name=some (.ref fa)->∃ fd:FuncData,(∀(s:Shared)(u:Value),BindsTo s fd ⟨[u],[]⟩ [(x,u)]) /\
   ∃ c T,L9 (K w.params) fn=some (c,T)/\(K w.params).lookup T=none/\∀ base:Heap,(K w.params).In base->base.Ns mainGlobals mg->L4 base c T->Bm mg base->FnOk l.prog w (K w.params) mg base CX k fa fd [x] (sp (K w.params) T))
  (hsp:∀(K:JH)(T:Addr)(H:Hp)(a:Addr)(ns:List Int),ns.length<=n->H T=some (.tbl #[])->SqL K H a (ns.map V.int)->sp K T [.ref a] H (fun v _=>v=.bl true) fun _ _ _=>False)
  (hCX:∀(H:Hp)(s:Shared)(e:Value)(s':Shared),CX [] H s (fun _ _ _=>False) e s'->False) :
  PySem.W.WalkO q loose XP YP l.row.toRowW d [] (fun f vs=>PySem.call f vs):=by
 refine Att.attach_call hn hdf fun w s₀ s₁ mg mb fa o pm cd doc a vs ns G Y ho hd hcd hmg hobj hints hlen hg=>?_;have KX:=hY w _ Y;obtain⟨fd,hb,c,T,ht,nT,hF⟩:=F w mg fa _ KX G.T.g hmg;obtain⟨t1,t2⟩:=PySem.W.tab_of G.T KX hrec ht;exact Cv KX G.T.g G.T.b G.T.builtins G.T.nolimit hg t1 t2 nT G.T.bmain hobj hints (Lf hlen hn2) hr hF hb (fun H h1 h2=>hsp _ T H a ns hlen h1 h2) fun H e s'=>hCX H s₁ e s'
theorem op_neE{X:Cx}(hu:X.A.units+64<cLine):OpR X (compareOp .NotEq) (fun x y H Q=>∃ a b kvs,x=.ref a/\y=.ref b/\H a=some (.dK kvs)/\H b=some (.dK [])/\Q (.bl (!kvs.isEmpty)) H):=by
 intro pins s σ H x y v u Q I rx ry h;obtain⟨a,b,kvs,rfl,rfl,ha,hb,q⟩:=h
 cases rx
 cases ry
 obtain⟨_,da,vs,kv,dd⟩:=z8 I.hok ha;obtain⟨_,db,vs2,kv2,dd2⟩:=z8 I.hok hb;have l1:=kv.length;have l2:=kv2.length;have e2:vs2 = []:=LF l2.symm;subst e2;refine PySem.W.keq_ne (r:=true) da db dd dd2 (by omega) (fun e=>?_) ⟨.bl (!(vs.length == 0&&true)),H,I,rfl,?_⟩
 ·have e1:vs = []:=LF e
  subst e1;exact .nil
 ·cases kvs with
  |nil =>
   cases vs with
   |nil=>exact q
   |cons p r=>cases l1
  |cons p r =>
   cases vs with
   |nil=>cases l1
   |cons p r=>exact q
noncomputable def lexB:List (Int×Int)->Bool
 |[]=>false
 | (x,y)::r=>if x=y then lexB r else decide (x<y)
section
variable{prog:Program}{w:World}{A:Around}{E:Value->Shared->Prop}{s:Shared}
noncomputable def Ps:List (Value×Value)->List (Int×Int)->Prop
 |[],[]=>True
 | (u,v)::r,(x,y)::q=>(∃ t,u=.int x t)/\(∃ t,v=.int y t)/\Ps r q
 |_,_=>False
theorem HB{a b:Addr}{oa ob:Obj}{us vs:Array Value}{na nb:Nat}{ps:List (Int×Int)}{P:PySem.Fin->Shared->Prop}(ga:s.heap.get? a=some oa)(da:oa.data=.seq us na)(gb:s.heap.get? b=some ob) (cb:ob.cls=.type "tuple") (db:ob.data=.seq vs nb)
  (hp:Ps (us.toList.zip vs.toList) ps) (hl:us.size=vs.size) (h:P (.done (.ret (.bool (lexB ps)))) s):wpAny (model prog w) A (Builtin.«tuple.__lt__» ⟨[.ref a,.ref b],[]⟩) P E s:=by
 show wpAny _ _ (isInstance (.ref b) (.type "tuple") >>= _) _ _ s;refine wpAny_bind (wpAny_isInstance (T:="tuple") ⟨ob,gb,cb⟩ isSubtype_tuple_tuple ?_);simp only[M5,Kv,if_false];refine wpAny_bind (wpAny_tupleItemsOf ga da (wpAny_bind (wpAny_tupleItemsOf gb db (wpAny_bind ?_))));refine wpAny_forIn_list _ (fun rest r s'=>r.1=none/\s'=s/\∃ q,Ps rest q/\lexB q=lexB ps) _ ?_ ?_ _ _ ⟨rfl,rfl,ps,hp,rfl⟩
 ·rintro⟨u,v⟩ rest r s' ⟨hr,rfl,q,hq,e⟩;match q,hq with
  | (x,y)::q,⟨⟨t,h1⟩,⟨t',h2⟩,hq'⟩ =>
   subst h1;subst h2;refine wpAny_bind (wpAny_eqBool_int ?_);by_cases c:x=y
   ·have:(x == y)=true:=by simp[c]
    rw[this];simp only[M5,Kv,if_false];refine wpAny_pure ⟨rfl,rfl,q,hq',?_⟩;rw[← e];show lexB q=if x=y then lexB q else decide (x<y);rw[if_pos c]
   ·have:(x == y)=false:=by simp[c]
    rw[this];simp only[Bool.not_false,if_true];have e2:lexB ps=decide (x<y):=by
     rw[← e];show(if x=y then lexB q else decide (x<y))=_;rw[if_neg c]
    rw[e2]at h;refine wpAny_bind (wpAny_rule (wpAny_bind (CmpOf.ints_lt (prog:=prog) (w:=w) (A:=A) (P:=fun(i:Nat) v=>∃ t,v=.int (if i=0 then x else y) t) (fun i=>if i=0 then x else y) (fun i v h=>h) 0 1 _ _ _ _ _ ⟨t,rfl⟩ ⟨t',rfl⟩ ?_)));exact wpAny_bind (wpAny_pure (wpAny_pure (wpAny_pure h)))
 ·rintro⟨r1,r2⟩ s' ⟨hr,rfl,q,hq,e⟩;simp only at hr;subst hr;have q0:q = []:=by
   cases q with
   |nil=>rfl
   |cons z q=>exact hq.elim
  subst q0;have e3:Builtin.Tuple.tupleCompareSizes CmpOp.Lt us.size vs.size=Value.bool (lexB ps):=by
   rw[← e,hl];show Value.bool (decide (vs.size<vs.size))=Value.bool false;rw[decide_eq_false (KN _)]
  show wpAny _ _ (ret (Builtin.Tuple.tupleCompareSizes CmpOp.Lt us.size vs.size)) _ _ _;rw[e3];exact wpAny_pure h
theorem tup_lt{a b:Addr}{oa ob:Obj}{us vs:Array Value}{na nb:Nat}{ps:List (Int×Int)}{Q:Value->Shared->Prop}(ga:s.heap.get? a=some oa) (ca:oa.cls=.type "tuple") (da:oa.data=.seq us na) (gb:s.heap.get? b=some ob) (cb:ob.cls=.type "tuple") (db:ob.data=.seq vs nb)
  (hp:Ps (us.toList.zip vs.toList) ps) (hl:us.size=vs.size) (hu:A.units<cLine) (h:Q (.bool (lexB ps)) s):wpAny (model prog w) A (richCompare .Lt (.ref a) (.ref b)) Q E s:=by
 refine wpAny_richCompare_same_room (op:=.Lt) (T:="tuple") ⟨oa,ga,ca⟩ ⟨ob,gb,cb⟩ PySem.F.slot_tuple_lt (wpAny_call_entry PySem.F.slot_tuple_lt ⟨oa,ga,ca⟩ PySem.F.entry_tuple_lt ?_ (PySem.F.args_tuple_lt_2 _ _)) hu;exact HB ga da gb cb db hp hl ⟨_,rfl,(fun z=>by cases z),h⟩
theorem Cb{J S:Addr}{fp:List Addr}{n:Nat}{P:Nat->Value->Prop}{St:Nat->Heap->Prop}{g:Heap}{R:Result->Shared->Prop}(W:Walks prog w A.in1 J fp [J] n P St)(bt:Nat->Nat->Bool)(gJ:g.get? J=none)(gS:g.get? S=none)(hSJ:S≠J)(hSf:S∉fp)
  (cmp:∀ i j u v,i<n->j<n->P i u->P j v->∀(h:Heap)(tk:Nat)(Q:Value->Shared->Prop)(E:Value->Shared->Prop),Kp g h->Q (.bool (bt i j)) { s with heap:=h,toks:=tk }->wpAny (model prog w) A.in1 (richCompare .Lt u v) Q E { s with heap:=h,toks:=tk })
  (fin:∀ v h' tk',P (argBest bt (n-1)) v->Kp g h'->R (.ok (.ret v)) { s with heap:=h',toks:=tk' }) :
  ∀(r j:Nat)(h:Heap)(tk:Nat)(vb:Value)(c:Nat),n-(j+1)=r->j+1<=n->Kp g h->h.get? S=some (seqObj "list" #[vb,vb] c)->St (j+1) h->P (argBest bt j) vb->argBest bt j<n ->
   codeAny (model prog w) A (.builtin "min.loop" ⟨[.ref J,.none,.ref S],[]⟩) R { s with heap:=h,toks:=tk }:=by
 intro r;induction r with
 |zero =>
  intro j h tk vb c er hj kg hS st hP hb;have ej:j+1=n:=by omega
  refine codeAny_builtin LP ?_;rw[Around.under_plainId Kz _];refine wpAny_bind (m:=seqItems? (.ref S)) (wpAny_seqItems hS rfl ?_);show wpAny _ A.in1 (tryCatch (pyNext (.ref J)) _ >>= _) _ _ _;refine wpAny_bind (wpAny_tryCatch (W.done _ _ _ (by rw[← ej];exact st) fun h' tk' kk=>?_))
  have kg':=kg.but gJ kk;have hS':=kk S _ (by simpa using hSJ) hS
  have su:=Heap.SameBut.update h' S (Obj.mapSeq fun _=>(#[]:Array Value));refine wpAny_bind (m:=updateSeq S fun _=>#[]) (wpAny_updateSeq hS' rfl (wpAny_bind (wpAny_letGo (wpAny_pure ?_))));exact fin vb _ _ (by rw[← ej];exact hP) (kg'.same gS su)
 |succ r ih =>
  intro j h tk vb c er hj kg hS st hP hb;have lt:j+1<n:=by omega
  refine codeAny_builtin LP ?_;rw[Around.under_plainId Kz _];refine wpAny_bind (m:=seqItems? (.ref S)) (wpAny_seqItems hS rfl ?_);show wpAny _ A.in1 (tryCatch (pyNext (.ref J)) _ >>= _) _ _ _;refine wpAny_bind (wpAny_tryCatch (W.item (j+1) _ _ _ lt st fun v h1 tk1 hv st1 k1=>?_));have kg1:=kg.but gJ k1;have hS1:=k1 S _ (by simpa using hSJ) hS
  show wpAny _ A.in1 (tryCatch (holding [v,v] (richCompare .Lt v vb >>= _)) _ >>= _) _ _ _;refine wpAny_bind (wpAny_tryCatch (wpAny_holding (wpAny_bind (cmp (j+1) (argBest bt j) v vb lt hb hv hP h1 tk1 _ _ kg1 ?_))));refine wpAny_bind (wpAny_holding (wpAny_truthy_bool (wpAny_bind (wpAny_letGo (wpAny_pure ?_)))));have eA:argBest bt (j+1)=if bt (j+1) (argBest bt j)=true then j+1 else argBest bt j:=rfl
  cases cc:bt (j+1) (argBest bt j) with
  |true =>
   have su:=Heap.SameBut.update h1 S (Obj.mapSeq fun _=>#[v,v]);obtain⟨c2,hc2⟩:∃ c2,(h1.update S (Obj.mapSeq fun _=>#[v,v])).get? S=some (seqObj "list" #[v,v] c2):=⟨_,get?_update_seq hS1 fun _=>#[v,v]⟩;simp;refine wpAny_bind (wpAny_updateSeq hS1 rfl (wpAny_bind (wpAny_letGo ?_)));rw[if_pos cc]at eA;refine wpAny_pure ⟨plainId_quiet Kz _,ih (j+1) _ _ v c2 (by omega) lt (kg1.same gS su) hc2 (W.frame _ _ _ st1 fun b hb o e=>(su.2 b (fun z=>hSf (z▸hb))).trans e) (by rw[eA];exact hv) (by rw[eA];exact lt)⟩
  |false =>
   simp;rw[if_neg (by rw[cc];simp)]at eA
   refine wpAny_bind (wpAny_letGo (wpAny_pure ?_));refine⟨plainId_quiet Kz _,ih (j+1) _ _ vb c (by omega) lt kg1 hS1 st1 (by rw[eA];exact hP) (by rw[eA];exact hb)⟩
theorem Fv{l:Addr}{vs:List Value}{Q:Value->Shared->Prop}(bt:Nat->Nat->Bool)(hh:A.handled=none)(hl:s.heap.IsList l vs.toArray)(hne:0<vs.length)
  (cmp:∀(i j:Nat)(u v:Value),vs[i]?=some u->vs[j]?=some v->∀(h:Heap)(tk:Nat)(Q:Value->Shared->Prop)(E:Value->Shared->Prop),Kp s.heap h->Q (.bool (bt i j)) { s with heap:=h,toks:=tk }->wpAny (model prog w) A.in1 (richCompare .Lt u v) Q E { s with heap:=h,toks:=tk })
  (fin:∀ v h' tk',vs[argBest bt (vs.length-1)]?=some v->Kp s.heap h'->Q v { s with heap:=h',toks:=tk' }) :
  wpAny (model prog w) A (call (.builtin "min") [.ref l]) Q E s:=by
 have nm:(toString "min"++toString ".loop" : String) = "min.loop":=by decide
 obtain⟨ol,hol,_⟩:=id hl;have ll:l<s.heap.objs.size:=Heap.lt_size hol;refine kmk_tree PySem.F.kind_min PySem.F.plain_min PySem.F.entry_min (PySem.F.args_min1 _) ?_;show wpAny _ A.in1 (Builtin.Builtins.bindParams "min" ["key","default"] 0 ⟨[],[]⟩ >>= _) _ _ s;refine wpAny_bind (wpAny_of_eq (show Builtin.Builtins.bindParams "min" ["key","default"] 0 ⟨[],[]⟩=pure [none,none] from rfl) (wpAny_bind (wpAny_pure (wpAny_bind (wpAny_pyIter_list hl ?_)))));refine wpAny_bind (wpAny_newList ?_ (Ky _));rw[nm];obtain⟨ob,eob⟩:∃ ob:Obj,ob={ cls:=Value.type "list_iterator",data:=Data.fields #[Value.ref l,Value.int 0 0] }:=⟨_,rfl⟩;rw[← eob];have sz:(s.heap.push ob).objs.size=s.heap.objs.size+1:=by rw[Heap.size_push]
 have neS:(s.heap.push ob).objs.size≠s.heap.objs.size:=by omega
 have neL:l≠s.heap.objs.size:=JV ll;have fr:∀ b,s.heap.objs.size<=b->s.heap.get? b=none:=fun b hb=>Heap.get?_none_of_le hb;have kp:Kp s.heap ((s.heap.push ob).push (seqObj "list" #[] 0)):=fun b o e=>Heap.get?_push_of_some _ (Heap.get?_push_of_some _ e);have hS:((s.heap.push ob).push (seqObj "list" #[] 0)).get? (s.heap.push ob).objs.size=some (seqObj "list" #[] 0):=Heap.get?_push_size _ rfl;have hJ:((s.heap.push ob).push (seqObj "list" #[] 0)).get? s.heap.objs.size=some ob:=Heap.get?_push_of_some _ (Heap.get?_push_size _ (by rw[eob];rfl))
 have W:=Walks.list (prog:=prog) (w:=w) (A:=A.in1) hh s.heap.objs.size l neL vs.toArray;have vsz:vs.toArray.size=vs.length:=JU ..;rw[vsz]at W;have cmp':∀ i j u v,i<vs.length->j<vs.length->vs.toArray[i]?=some u->vs.toArray[j]?=some v->∀(h:Heap)(tk:Nat)(Q:Value->Shared->Prop)(E:Value->Shared->Prop),Kp s.heap h->Q (.bool (bt i j)) { s with heap:=h,toks:=tk }->wpAny (model prog w) A.in1 (richCompare .Lt u v) Q E { s with heap:=h,toks:=tk }:=fun i j u v _ _ h1 h2=>cmp i j u v (by simpa using h1) (by simpa using h2)
 refine wpAny_pure ⟨plainId_quiet Kz _,codeAny_builtin LP ?_⟩;rw[Around.under_plainId Kz _];refine wpAny_bind (m:=seqItems? (.ref (s.heap.push ob).objs.size)) (wpAny_seqItems hS rfl ?_);show wpAny _ A.in1 (tryCatch (pyNext (.ref s.heap.objs.size)) _ >>= _) _ _ _;refine wpAny_bind (wpAny_tryCatch (W.item 0 _ _ _ hne ⟨⟨ob,hJ,by rw[eob],by rw[eob];rfl⟩,hl.at fun o e=>kp _ _ e⟩ fun v h1 tk1 hv st1 k1=>?_))
 have kg1:=kp.but (fr _ (JF _)) k1;have hS1:=k1 _ _ (by simpa using neS) hS
 have su:=Heap.SameBut.update h1 (s.heap.push ob).objs.size (Obj.mapSeq fun _=>#[v,v]);obtain⟨c2,hc2⟩:∃ c2,(h1.update (s.heap.push ob).objs.size (Obj.mapSeq fun _=>#[v,v])).get? (s.heap.push ob).objs.size=some (seqObj "list" #[v,v] c2):=⟨_,get?_update_seq hS1 fun _=>#[v,v]⟩;have nf:(s.heap.push ob).objs.size∉[s.heap.objs.size,l]:=fun z=>by
  rcases JI.mp z with z | z
  ·exact neS z
  ·have z':=JR.mp z
   exact absurd ll (by rw[← z',sz];exact Mf (L1 _))
 refine wpAny_bind (m:=updateSeq _ fun _=>#[v,v]) (wpAny_updateSeq hS1 rfl ?_);rw[nm];refine wpAny_pure ⟨plainId_quiet Kz _,Cb W bt (fr _ (JF _)) (fr _ (by omega)) neS nf cmp' (fun v h' tk' e kk=>fin v h' tk' (by simpa using e) kk) _ 0 _ _ v c2 rfl hne (kg1.same (fr _ (by omega)) su) hc2 (W.frame _ _ _ st1 fun b hb o e=>(su.2 b (fun z=>nf (z▸hb))).trans e) hv hne⟩
end
noncomputable abbrev T3:=Int×Int×Int
noncomputable def TrA(H:Hp)(v:V)(t:T3):Prop:=∃ a,v=.ref a/\H a=some (.tup [.int t.1,.int t.2.1,.int t.2.2])
noncomputable def lt3(a b:T3):Bool:=lexB [(a.1,b.1),(a.2.1,b.2.1),(a.2.2,b.2.2)]
theorem lt3_le{a b:T3}(h:lt3 a b=true):a.1<=b.1:=by
 unfold lt3 lexB at h;by_cases c:a.1=b.1
 ·omega
 ·rw[if_neg c]at h;have:=of_decide_eq_true h;omega
theorem lt3_ge{a b:T3}(h:lt3 a b=false):b.1<=a.1:=by
 unfold lt3 lexB at h;by_cases c:a.1=b.1
 ·omega
 ·rw[if_neg c]at h;have:=of_decide_eq_false h;omega
theorem best3(W:Nat->T3):∀ k,argBest (fun i j=>lt3 (W i) (W j)) k<=k/\∀ j,j<=k->(W (argBest (fun i j=>lt3 (W i) (W j)) k)).1<=(W j).1
 |0=>by
  refine⟨JF _,fun j hj=>?_⟩;have e:j=0:=by omega
  rw[e];exact KR _
 |k+1=>by
  obtain⟨h1,h2⟩:=best3 W k;have e:argBest (fun i j=>lt3 (W i) (W j)) (k+1)=if lt3 (W (k+1)) (W (argBest (fun i j=>lt3 (W i) (W j)) k))=true then k+1 else argBest (fun i j=>lt3 (W i) (W j)) k:=rfl;rw[e]
  cases c:lt3 (W (k+1)) (W (argBest (fun i j=>lt3 (W i) (W j)) k)) with
  |true =>
   rw[if_pos rfl];have h3:=lt3_le c;refine⟨JF _,fun j hj=>?_⟩;by_cases z:j=k+1
   ·subst z;exact KR _
   ·have:=h2 j (by omega);omega
  |false =>
   rw[if_neg Kb];have h3:=lt3_ge c;refine⟨by omega,fun j hj=>?_⟩
   by_cases z:j=k+1
   ·subst z;exact h3
   ·exact h2 j (by omega)
noncomputable def rMin3(K:JH):List V->Hp->VK->Prop:=fun xs H Q=>∃ p ys ws,xs = [.ref p]/\SqL K H p ys/\LsAt TrA H ys ws/\ws≠[]/\∀(i:Nat)(y:V)(t:T3),ys[i]?=some y->ws[i]?=some t->(∀ t'∈ws,t.1<=t'.1)->Q y H
theorem DO{X:Cx}(hc:X.calm=true)(hu:X.A.units+64<cLine):iq X (.builtin "min") (rMin3 X.K):=by
 intro pins s σ H xs us Q I r h;obtain⟨p,ys,ws,rfl,hS,hL,hne,q⟩:=h;obtain⟨u,rfl,rx⟩:=ja r
 cases rx
 obtain⟨its,rv,pl,_⟩:=I.list hS;have yl:=hL.1;have il:=rv.length;have wp:0<ws.length:=List.length_pos_iff.mpr hne;let W:Nat->T3:=fun i=>ws.getD i (0,0,0);have Wi:∀ i t,ws[i]?=some t->W i=t:=fun i t e=>by show ws.getD i (0,0,0)=t;rw[JE,e];rfl
 have look:∀(i:Nat)(v:Value),its[i]?=some v->∃ a o y1 y2 y3 n,v=.ref a/\s.heap.get? a=some o/\o.cls=.type "tuple"/\o.data=.seq #[y1,y2,y3] n/\(∃ t,y1=.int (W i).1 t)/\(∃ t,y2=.int (W i).2.1 t)/\(∃ t,y3=.int (W i).2.2 t):=fun i v e=>by
  have hi:i<ys.length:=by rw[il];exact(JD.mp e).1
  obtain⟨t,ht,a,ea,ha⟩:=hL.get (JB hi);obtain⟨v',ev,rv'⟩:=rv.get (JB hi);rw[e]at ev
  cases ev
  rw[ea]at rv';obtain rfl:v=.ref a:=rv';obtain⟨_,tis,rt,o,ho,hcl,n,hd⟩:=I.hok a _ ha;rw[Wi i t ht];match tis,rt with
  |[y1,y2,y3],.cons r1 (.cons r2 (.cons r3 .nil))=>exact⟨a,o,y1,y2,y3,n,rfl,ho,hcl,hd,r1,r2,r3⟩
 refine Fv (vs:=its) (fun i j=>lt3 (W i) (W j)) (I.ok.hd hc) pl.isList (by omega) ?_ ?_
 ·intro i j u v hu' hv' h tk Q' E' kk hQ;have in1u:X.A.in1.units<cLine:=by
   have e:X.A.in1.units<=X.A.units+64:=by simp[Around.in1]
   omega
  obtain⟨a,oa,y1,y2,y3,n,rfl,ga,ca,da,r1,r2,r3⟩:=look i u hu';obtain⟨b,ob,z1,z2,z3,m,rfl,gb,cb,db,q1,q2,q3⟩:=look j v hv';exact tup_lt (kk _ _ ga) ca da (kk _ _ gb) cb db (ps:=[((W i).1,(W j).1),((W i).2.1,(W j).2.1),((W i).2.2,(W j).2.2)]) ⟨r1,q1,r2,q2,r3,q3,trivial⟩ rfl in1u hQ
 ·intro v h' tk e kk;obtain⟨b1,b2⟩:=best3 W (its.length-1);have hi:argBest (fun i j=>lt3 (W i) (W j)) (its.length-1)<ys.length:=by omega
  obtain⟨t,ht,_⟩:=hL.get (JB hi);obtain⟨v',ev,rv'⟩:=rv.get (JB hi);rw[e]at ev
  cases ev
  refine⟨_,H,I.kept kk,rv',q _ _ t (JB hi) ht fun t' ht'=>?_⟩;obtain⟨j,hj,ej⟩:=KP ht';have:=b2 j (by omega)
  rw[Wi _ t ht,Wi j t' (by rw[JB hj,ej])]at this
  exact this
end L2
namespace PyProof.RowsP
open PySem PyProof.Rows
local macro_rules | `(tactic| walk_at "gallop") => do
 let n:=Lean.mkIdent (Lean.mkPrivateNameCore `PySem.Builtin.List.W1All `PySem.Builtin.gallop)
 `(tactic| delta $n)
local macro_rules | `(tactic| walk_at "st") => `(tactic| try dsimp -zeta -zetaHave only)
local macro_rules | `(tactic| walk_at "l4") => `(tactic| (extract_lets -underBinder +onlyGivenNames a b; subst a b))
noncomputable abbrev CS:Bool->Keyed->Array Keyed->Nat->Nat->Nat->StateT SortSt Sem (Option Nat):=sortPriv% PySem.Builtin.gallop
class KeyFn where
 kf:Value->Int
 ip:Value->Prop
 kd:SortKind
noncomputable def IntP [KF:KeyFn] (p:Keyed):Prop:=KeyFn.ip p.1
noncomputable def ky [KF:KeyFn] (p:Keyed):Int:=KeyFn.kf p.1
noncomputable def K [KF:KeyFn] (xs:Array Keyed) (i:Nat):Int:=match xs[i]? with | some p=>ky p | none=>0
noncomputable def gB [KF:KeyFn] (xs:Array Keyed):Prop:=∀ p,p∈xs.toList->IntP p
theorem oo [KF:KeyFn] {xs ys:Array Keyed} {i j:Nat} (h:xs[i]?=ys[j]?):K xs i=K ys j:=by unfold K;rw[h]
theorem K_eq [KF:KeyFn] {xs:Array Keyed} {i:Nat} (hi:i<xs.size):K xs i=ky xs[i]:=by unfold K;rw[getElem?_pos xs i hi]
theorem Gx [KF:KeyFn] {xs:Array Keyed} {i j:Nat} (hj:j<=xs.size) (k:Nat):K (mirror xs i j ((j-i)/2)) k=if i<=k/\k<j then K xs (i+j-1-k) else K xs k:=by
 have e:=getElem?_mirror_all (i:=i) hj k;by_cases h1:i<=k/\k<j
 ·rw[if_pos h1]at e ⊢;exact oo e
 ·rw[if_neg h1]at e ⊢;exact oo e
theorem yE [KF:KeyFn] {xs:Array Keyed} {src d:Nat} (hs:src<xs.size) (hd:d<=src) (k:Nat):K (bubble xs src d) k=if k=src-d then K xs src else if src-d<k/\k<=src then K xs (k-1) else K xs k:=by
 have e:=getElem?_bubble hs d hd k;by_cases h1:k=src-d
 ·rw[if_pos h1]at e ⊢;exact oo e
 ·rw[if_neg h1]at e ⊢;by_cases h2:src-d<k/\k<=src
  ·rw[if_pos h2]at e ⊢;exact oo e
  ·rw[if_neg h2]at e ⊢;exact oo e
class LtOk (prog:Program) (w:World) (A:Around) (E:Value->Shared->Prop) (s:Shared) [KF:KeyFn]:Prop where
 lt:∀{st:SortSt}{x y:Keyed}{Q:Option Bool->SortSt->Prop},kindOf st=KeyFn.kd->IntP x->IntP y->Q (some (decide (ky x<ky y))) st->wpS (model prog w) A E s ((sortPriv% PySem.Builtin.lt) x y) Q st
theorem aG{σ α:Type}{M:Model}{A:Around}{E:Value->Shared->Prop}{s:Shared}{c:Prop} [Decidable c] {a b:StateT σ Sem α} {Q:α->σ->Prop} {st:σ} (h:c) (q:wpS M A E s a Q st):wpS M A E s (if c then a else b) Q st:=by rw[if_pos h];exact q
theorem aF{σ α:Type}{M:Model}{A:Around}{E:Value->Shared->Prop}{s:Shared}{c:Prop} [Decidable c] {a b:StateT σ Sem α} {Q:α->σ->Prop} {st:σ} (h:¬ c) (q:wpS M A E s b Q st):wpS M A E s (if c then a else b) Q st:=by rw[if_neg h];exact q
variable{prog:Program}{w:World}{A:Around}{E:Value->Shared->Prop}{s:Shared} [KF:KeyFn] [LO:LtOk prog w A E s]
theorem mh{st:SortSt}{x y:Keyed}{Q:Option Bool->SortSt->Prop}(hk:kindOf st=KeyFn.kd)(hx:IntP x)(hy:IntP y)(h:Q (some (decide (ky x<ky y))) st):wpS (model prog w) A E s ((sortPriv% PySem.Builtin.lt) x y) Q st:=LtOk.lt hk hx hy h
theorem aO{st:SortSt}{arr:Array Keyed}{i:Nat}{p:Keyed}{Q:Keyed->SortSt->Prop}(hi:arr[i]?=some p)(h:Q p st):wpS (model prog w) A E s ((sortPriv% PySem.Builtin.elem) arr i) Q st:=by
 show wpS (model prog w) A E s (elem' arr i) Q st;rw[elem'_eq,hi];exact wpS_pure h
theorem gD{st:SortSt}{left:Bool}{key:Keyed}{arr:Array Keyed}{base n hint:Nat}{Q:Option Nat->SortSt->Prop}(f:Nat->Bool)(hk:kindOf st=KeyFn.kd)(hkey:IntP key)(hin:∀ i,i<n->∃ p,arr[base+i]?=some p/\IntP p/\f i=if left then decide (ky p<ky key) else !decide (ky key<ky p))
  (mono:∀ i j,i<=j->j<n->f j=true->f i=true) (hh:hint<n) (h:∀ k,k<=n->(∀ i,i<k->f i=true)->(∀ i,k<=i->i<n->f i=false)->Q (some k) st) :
  wpS (model prog w) A E s (CS left key arr base n hint) Q st:=by
 unfold CS;walk_at "gallop";extract_lets -underBinder +onlyGivenNames beyond;clear_value (eb:beyond=_);have hb:∀(i:Nat)(Q':Option Bool->SortSt->Prop),i<n->Q' (some (f i)) st->wpS (model prog w) A E s (beyond i) Q' st:=by
  intro i Q' hi q;obtain⟨p,hp,ip,ef⟩:=hin i hi;rw[eb];refine wpS_bind (aO hp ?_);rw[ef]at q
  cases left with
  |true=>exact mh hk ip hkey q
  |false=>exact wpS_bind (mh hk hkey ip (wpS_pure q))
 clear eb;walk_at "l4";refine wpS_bind (hb hint _ hh ?_);walk_at "st";have nmono:∀ i j,i<=j->j<n->f i=false->f j=false:=fun i j hij hj e=>by
  cases z:f j with
  |false=>rfl
  |true=>rw[mono i j hij hj z]at e;cases e
 extract_lets -underBinder +onlyGivenNames jp;clear_value (ej:jp=_);have hj:∀(u:Unit)(a0 a1 lo hi:Nat),lo<=hi->hi<=n->(∀ i,i<lo->f i=true)->(∀ i,hi<=i->i<n->f i=false)->wpS (model prog w) A E s (jp u a0 a1 lo hi) Q st:=by
  intro u a0 a1 lo hi h1 h2 h3 h4;rw[ej];dsimp only
  refine wpS_bind (wpS_mono (wpS_forRange (I:=fun x c st'=>st'=st/\∃ l r,c=(none,l,r)/\l<=r/\r<=n/\r-l<=n-x/\(∀ i,i<l->f i=true)/\(∀ i,r<=i->i<n->f i=false))
   (Q:=fun c st'=>st'=st/\∃ l,c=(none,l,l)/\l<=n/\(∀ i,i<l->f i=true)/\(∀ i,l<=i->i<n->f i=false)) ?step ?fin ⟨rfl,lo,hi,rfl,h1,h2,by omega,h3,h4⟩) ?post)
  case post =>
   rintro c st' ⟨rfl,l,rfl,g1,g2,g3⟩;exact wpS_pure (h l g1 g2 g3)
  case fin =>
   rintro c st' ⟨rfl,l,r,rfl,g1,g2,g3,g4,g5⟩;have:l=r:=by omega
   subst this;exact⟨rfl,l,rfl,g2,g4,g5⟩
  case step =>
   rintro x c st' _ hx ⟨rfl,l,r,rfl,g1,g2,g3,g4,g5⟩;dsimp only;by_cases z:l ≥ r
   ·refine aG z ?_;have:l=r:=by omega
    subst this;exact wpS_pure ⟨rfl,l,rfl,g2,g4,g5⟩
   ·refine aF z ?_;refine wpS_bind (hb _ _ (by omega) ?_)
    cases e:f (l+(r-l)/2) with
    |true=>exact wpS_pure ⟨rfl,_,r,rfl,by omega,g2,by omega,fun i hi=>mono i _ (by omega) (by omega) e,g5⟩
    |false=>exact wpS_pure ⟨rfl,l,_,rfl,by omega,by omega,by omega,g4,fun i h1 h2=>nmono _ i h1 h2 e⟩
 clear ej
 cases er:f hint with
 |true =>
  refine aG rfl ?_;dsimp only
  refine wpS_bind (wpS_mono (wpS_forRange (I:=fun x c st'=>st'=st/\∃ l o,c=(none,l,o)/\l<o/\x+1<=o/\hint+l<n/\f (hint+l)=true)
   (Q:=fun c st'=>st'=st/\∃ l o,c=(none,l,o)/\l<o/\hint+l<n/\f (hint+l)=true/\(n-hint<=o∨f (hint+o)=false)) ?step ?fin ⟨rfl,0,1,rfl,by omega,by omega,by omega,er⟩) ?post)
  case post =>
   rintro c st' ⟨rfl,l,o,rfl,g1,g2,g3,g4⟩;dsimp only;refine hj _ _ _ _ _ (by omega) (by omega) (fun i hi=>mono i _ (by omega) g2 g3) fun i h1 h2=>?_
   rcases g4 with g4 | g4
   ·omega
   ·exact nmono (hint+o) i (by omega) h2 g4
  case fin =>
   rintro c st' ⟨rfl,l,o,rfl,g1,g2,g3,g4⟩;exact⟨rfl,l,o,rfl,g1,g3,g4,.inl (by omega)⟩
  case step =>
   rintro x c st' _ hx ⟨rfl,l,o,rfl,g1,g2,g3,g4⟩;dsimp only;by_cases z:o ≥ n-hint
   ·refine aG z ?_;exact wpS_pure ⟨rfl,l,o,rfl,g1,g3,g4,.inl z⟩
   ·refine aF z ?_;refine wpS_bind (hb _ _ (by omega) ?_)
    cases e:f (hint+o) with
    |true=>exact wpS_pure ⟨rfl,_,_,rfl,by omega,by omega,by omega,e⟩
    |false=>exact wpS_pure ⟨rfl,l,o,rfl,g1,g3,g4,.inr e⟩
 |false =>
  refine aF Kb ?_;dsimp only
  refine wpS_bind (wpS_mono (wpS_forRange (I:=fun x c st'=>st'=st/\∃ l o,c=(none,l,o)/\l<o/\x+1<=o/\l<=hint/\f (hint-l)=false)
   (Q:=fun c st'=>st'=st/\∃ l o,c=(none,l,o)/\l<o/\l<=hint/\f (hint-l)=false/\(hint+1<=o∨f (hint-o)=true)) ?step ?fin ⟨rfl,0,1,rfl,by omega,by omega,by omega,er⟩) ?post)
  case post =>
   rintro c st' ⟨rfl,l,o,rfl,g1,g2,g3,g4⟩;dsimp only;refine hj _ _ _ _ _ (by omega) (by omega) (fun i hi=>?_) fun i h1 h2=>nmono _ i h1 h2 g3
   rcases g4 with g4 | g4
   ·omega
   ·exact mono i (hint-o) (by omega) (by omega) g4
  case fin =>
   rintro c st' ⟨rfl,l,o,rfl,g1,g2,g3,g4⟩;exact⟨rfl,l,o,rfl,g1,g3,g4,.inl (by omega)⟩
  case step =>
   rintro x c st' _ hx ⟨rfl,l,o,rfl,g1,g2,g3,g4⟩;dsimp only;by_cases z:o ≥ hint+1
   ·refine aG z ?_;exact wpS_pure ⟨rfl,l,o,rfl,g1,g3,g4,.inl z⟩
   ·refine aF z ?_;refine wpS_bind (hb _ _ (by omega) ?_)
    cases e:f (hint-o) with
    |true=>exact wpS_pure ⟨rfl,l,o,rfl,g1,g3,g4,.inr e⟩
    |false=>exact wpS_pure ⟨rfl,_,_,rfl,by omega,by omega,by omega,e⟩
noncomputable def Upl(l:List Keyed):Prop:=l.Pairwise fun x y=>ky x<=ky y
structure LM(P R o:List Keyed)(i j:Nat):Prop where
 pm:o.Perm (P.take i++R.take j)
 up:Upl o
 la:∀ x∈o,∀ y∈P.drop i,ky x<=ky y
 lb:∀ x∈o,∀ y∈R.drop j,ky x<=ky y
theorem LM.swap{P R o:List Keyed}{i j:Nat}(h:LM P R o i j):LM R P o j i:=⟨h.pm.trans Lo,h.up,h.lb,h.la⟩
theorem LM.a{P R o:List Keyed}{i j:Nat}(h:LM P R o i j)(u:Upl P)(k:Nat)(c:∀ x∈(P.drop i).take k,∀ y∈R.drop j,ky x<=ky y):LM P R (o++(P.drop i).take k) (i+k) j where
 pm:=by
  rw[MI,Ko];refine(h.pm.append_right _).trans ?_;rw[Ko];exact Lp _ Lo
 up:=KQ.mpr ⟨h.up,(u.drop).take,fun x hx y hy=>h.la x hx y (K9 hy)⟩
 la:=fun x hx y hy=>by
  rw[← Me]at hy;rcases JW.mp hx with hx | hx
  ·exact h.la x hx y (La hy)
  ·have z:Upl ((P.drop i).take k++(P.drop i).drop k):=by rw[Kl];exact u.drop
   exact(KQ.mp z).2.2 x hx y hy
 lb:=fun x hx y hy=>by
  rcases JW.mp hx with hx | hx
  ·exact h.lb x hx y hy
  ·exact c x hx y hy
theorem LM.fin{P R o:List Keyed}{i j:Nat}(h:LM P R o i j)(u:Upl P)(v:Upl R)(c:∀ x∈P.drop i,∀ y∈R.drop j,ky x<=ky y):(o++P.drop i++R.drop j).Perm (P++R)/\Upl (o++P.drop i++R.drop j):=by
 constructor
 ·refine((h.pm.append_right _).append_right _).trans ?_;have e:P++R=(P.take i++P.drop i)++(R.take j++R.drop j):=by rw[Kl,Kl]
  rw[e,← Ko];refine List.Perm.append_right _ ?_;rw[Ko,Ko];exact Lp _ Lo
 ·refine KQ.mpr ⟨KQ.mpr ⟨h.up,u.drop,h.la⟩,v.drop,fun x hx y hy=>?_⟩;rcases JW.mp hx with hx | hx
  ·exact h.lb x hx y hy
  ·exact c x hx y hy
end PyProof.RowsP
namespace PyProof.RowsP
open PySem PyProof.Rows
local macro_rules | `(tactic| walk_at "setG") => do
 let n:=Lean.mkIdent (Lean.mkPrivateNameCore `PySem.Builtin.List.W1All `PySem.Builtin.setMinGallop)
 `(tactic| delta $n)
local macro_rules | `(tactic| walk_at "mergeLo") => do
 let n:=Lean.mkIdent (Lean.mkPrivateNameCore `PySem.Builtin.List.W1All `PySem.Builtin.mergeLo)
 `(tactic| delta $n)
local macro_rules | `(tactic| walk_at "st") => `(tactic| try dsimp -zeta -zetaHave only)
local macro_rules | `(tactic| walk_at "l3") => `(tactic| (extract_lets -underBinder +onlyGivenNames a b c; subst a b c))
local macro_rules | `(tactic| walk_at "l11") => `(tactic| (extract_lets -underBinder +onlyGivenNames a b c d e f g h i j k; subst a b c d e f g h i j k; dsimp -zeta -zetaHave only))
variable{prog:Program}{w:World}{A:Around}{E:Value->Shared->Prop}{s:Shared} [KF:KeyFn] [LO:LtOk prog w A E s]
structure SmG(st st':SortSt):Prop where
 k:kindOf st'=kindOf st
 a:arrOf st'=arrOf st
 p:pendingOf st'=pendingOf st
 f:failedOf st'=failedOf st
theorem SmG.rfl'(st:SortSt):SmG st st:=⟨rfl,rfl,rfl,rfl⟩
theorem SmG.trans{a b c:SortSt}(h:SmG a b)(g:SmG b c):SmG a c:=⟨g.k.trans h.k,g.a.trans h.a,g.p.trans h.p,g.f.trans h.f⟩
theorem lD{st:SortSt}{g:Nat}{Q:Unit->SortSt->Prop}(h:∀ st',SmG st st'->Q () st'):wpS (model prog w) A E s ((sortPriv% PySem.Builtin.setMinGallop) g) Q st:=by
 walk_at "setG";exact wpS_modify (h _ ⟨rfl,rfl,rfl,rfl⟩)
theorem gj(a:Array Keyed)(i:Nat):(a.extract i).toList=a.toList.drop i:=by
 rw[MH,Mc];exact KA (by rw[Ku];exact JF _)
theorem lZ(a:Array Keyed)(i k:Nat):(a.extract i (i+k)).toList=(a.toList.drop i).take k:=by
 rw[MH,Mc];congr 1;omega
theorem eh{P:List Keyed}{i:Nat}{x:Keyed}(h:P[i]?=some x):(P.drop i).take 1 = [x]:=by
 have hi:=(JD.mp h).1;rw[LW hi];rw[JB hi]at h
 cases h
 rfl
theorem LM.a1{P R o:List Keyed}{i j:Nat}{x:Keyed}(h:LM P R o i j)(u:Upl P)(hx:P[i]?=some x)(c:∀ y∈R.drop j,ky x<=ky y):LM P R (o++[x]) (i+1) j:=by
 have:=h.a u 1 (by rw[eh hx];intro z hz;rw[JR.mp hz];exact c)
 rwa[eh hx]at this
theorem iE{P:List Keyed}{i:Nat}{x:Keyed}(u:Upl P)(hx:P[i]?=some x):∀ y∈P.drop i,ky x<=ky y:=by
 have hi:=(JD.mp hx).1;have z:Upl (P.drop i):=u.drop;rw[LW hi]at z ⊢;rw[JB hi]at hx
 cases hx
 intro y hy;rcases JI.mp hy with rfl | hy
 ·exact KR _
 ·exact(Mk.mp z).1 y hy
theorem Cc{P:List Keyed}{i k:Nat}{x:Keyed}(h:x∈(P.drop i).take k):∃ m,m<k/\P[i+m]?=some x:=by
 obtain⟨m,hm,e⟩:=KP h;rw[JZ,Ku]at hm;refine⟨m,by omega,?_⟩
 rw[Mx,Nz]at e;rw[JB (by omega),e]
theorem Ew{P:List Keyed}{i j:Nat}{x y:Keyed}(u:Upl P)(hx:P[i]?=some x)(hy:P[j]?=some y)(h:i<=j):ky x<=ky y:=iE u hx y (by
 have hj:=(JD.mp hy).1;refine JG (i:=j-i) ?_
 rw[LD,show i+(j-i)=j by omega,hy])
theorem Ce{P:List Keyed}{i:Nat}{x:Keyed}(h:x∈P.drop i):∃ m,P[i+m]?=some x:=by
 obtain⟨m,hm⟩:=LI h;exact⟨m,by rw[← hm,LD]⟩
noncomputable def fR(P:List Keyed)(i:Nat)(v:Keyed)(m:Nat):Bool:=match P[i+m]? with | some p=>!decide (ky v<ky p) | none=>false
noncomputable def fL(P:List Keyed)(i:Nat)(v:Keyed)(m:Nat):Bool:=match P[i+m]? with | some p=>decide (ky p<ky v) | none=>false
theorem m8{P:List Keyed}{i m:Nat}{v p:Keyed}(h:P[i+m]?=some p):fR P i v m = !decide (ky v<ky p):=by unfold fR;rw[h]
theorem oM{P:List Keyed}{i m:Nat}{v p:Keyed}(h:P[i+m]?=some p):fL P i v m=decide (ky p<ky v):=by unfold fL;rw[h]
theorem I8{P:List Keyed}{i:Nat}{v:Keyed}(u:Upl P){n:Nat}(hn:i+n<=P.length):∀ x y,x<=y->y<n->fR P i v y=true->fR P i v x=true:=fun x y hxy hy e=>by
 have hx:P[i+x]?=some P[i+x]:=JB (by omega)
 have hy':P[i+y]?=some P[i+y]:=JB (by omega)
 rw[m8 hy']at e;rw[m8 hx];have:=Ew u hx hy' (by omega)
 simp only[MX,decide_eq_false_iff_not]at e ⊢;omega
theorem Ja{P:List Keyed}{i:Nat}{v:Keyed}(u:Upl P){n:Nat}(hn:i+n<=P.length):∀ x y,x<=y->y<n->fL P i v y=true->fL P i v x=true:=fun x y hxy hy e=>by
 have hx:P[i+x]?=some P[i+x]:=JB (by omega)
 have hy':P[i+y]?=some P[i+y]:=JB (by omega)
 rw[oM hy']at e;rw[oM hx];have:=Ew u hx hy' (by omega)
 simp only[decide_eq_true_eq]at e ⊢;omega
theorem I9{P:List Keyed}{i k:Nat}{v:Keyed}(h:∀ m,m<k->fR P i v m=true):∀ x∈(P.drop i).take k,ky x<=ky v:=fun x hx=>by
 obtain⟨m,hm,e⟩:=Cc hx;have:=h m hm;rw[m8 e]at this;simp only[MX,decide_eq_false_iff_not]at this;omega
theorem Jb{P:List Keyed}{i k:Nat}{v:Keyed}(h:∀ m,m<k->fL P i v m=true):∀ x∈(P.drop i).take k,ky x<ky v:=fun x hx=>by
 obtain⟨m,hm,e⟩:=Cc hx;have:=h m hm;rw[oM e]at this;simpa using this
theorem fR_hi{P:List Keyed}{i k n:Nat}{v:Keyed}(hn:P.length<=i+n)(h:∀ m,k<=m->m<n->fR P i v m=false):∀ y∈P.drop (i+k),ky v<ky y:=fun y hy=>by
 obtain⟨m,e⟩:=Ce hy;have hl:=(JD.mp e).1;have:=h (k+m) (by omega) (by omega)
 rw[m8 (show P[i+(k+m)]?=some y by rw[← Nat.add_assoc];exact e)]at this
 simpa using this
theorem fL_hi{P:List Keyed}{i k n:Nat}{v:Keyed}(hn:P.length<=i+n)(h:∀ m,k<=m->m<n->fL P i v m=false):∀ y∈P.drop (i+k),ky v<=ky y:=fun y hy=>by
 obtain⟨m,e⟩:=Ce hy;have hl:=(JD.mp e).1;have:=h (k+m) (by omega) (by omega)
 rw[oM (show P[i+(k+m)]?=some y by rw[← Nat.add_assoc];exact e)]at this
 simp only[decide_eq_false_iff_not]at this;omega
theorem xE{st:SortSt}{key:Keyed}{arr:Array Keyed}{base n hint:Nat}{Q:Option Nat->SortSt->Prop}(hk:kindOf st=KeyFn.kd)(hkey:IntP key)(u:Upl arr.toList)(ip:∀ x∈arr.toList,IntP x)(hn:base+n<=arr.size)(hh:hint<n)
  (h:∀ k,k<=n->(∀ i,i<k->fR arr.toList base key i=true)->(∀ i,k<=i->i<n->fR arr.toList base key i=false)->Q (some k) st):wpS (model prog w) A E s ((sortPriv% PySem.Builtin.gallop) false key arr base n hint) Q st :=
 have la:arr.toList.length=arr.size:=by simp
 gD (fR arr.toList base key) hk hkey (fun i hi=>by
  have hx:arr.toList[base+i]?=some arr.toList[base+i]:=JB (by omega)
  exact⟨_,by rw[← hx];simp,ip _ (KC _),by rw[m8 hx];rfl⟩) (I8 u (by omega)) hh h
theorem xF{st:SortSt}{key:Keyed}{arr:Array Keyed}{base n hint:Nat}{Q:Option Nat->SortSt->Prop}(hk:kindOf st=KeyFn.kd)(hkey:IntP key)(u:Upl arr.toList)(ip:∀ x∈arr.toList,IntP x)(hn:base+n<=arr.size)(hh:hint<n)
  (h:∀ k,k<=n->(∀ i,i<k->fL arr.toList base key i=true)->(∀ i,k<=i->i<n->fL arr.toList base key i=false)->Q (some k) st):wpS (model prog w) A E s ((sortPriv% PySem.Builtin.gallop) true key arr base n hint) Q st :=
 have la:arr.toList.length=arr.size:=by simp
 gD (fL arr.toList base key) hk hkey (fun i hi=>by
  have hx:arr.toList[base+i]?=some arr.toList[base+i]:=JB (by omega)
  exact⟨_,by rw[← hx];simp,ip _ (KC _),by rw[oM hx];rfl⟩) (Ja u (by omega)) hh h
theorem GX{σ α β:Type}{M:Model}{c:Prop} [Decidable c] {F:α->StateT σ Sem β} {x y:α} {Q:β->σ->Prop} {st:σ} (h:∀ z,wpS M A E s (F z) Q st):wpS M A E s (if c then F x else F y) Q st:=by
 split<;>exact h _
theorem uP{σ α:Type}{M:Model}{m:StateT σ Sem α}{Q:α->σ->Prop}{st:σ}(h:∀ R:α->σ->Prop,(∀ a st',Q a st'->R a st')->wpS M A E s m R st):wpS M A E s m Q st:=h Q fun _ _ q=>q
noncomputable def yb:Array Keyed->Array Keyed->StateT SortSt Sem (Array Keyed):=sortPriv% PySem.Builtin.mergeLo
theorem at_l{a:Array Keyed}{i:Nat}{x:Keyed}(h:a.toList[i]?=some x):a[i]?=some x:=by rw[← h];simp
theorem uM{st:SortSt}{a b:Array Keyed}{Q:Array Keyed->SortSt->Prop}(hk:kindOf st=KeyFn.kd)(ua:Upl a.toList)(ub:Upl b.toList)(ia:∀ x∈a.toList,IntP x)(ib:∀ x∈b.toList,IntP x)(a1:1<=a.size)(b1:1<=b.size)
  (h0:∀ x y:Keyed,b.toList[0]?=some x->y∈a.toList->ky x<=ky y) (hst:∀ x y:Keyed,x∈b.toList->a.toList[a.size-1]?=some y->ky x<ky y)
  (h:∀ R st',SmG st st'->R.toList.Perm (a.toList++b.toList)->Upl R.toList->Q R st'):wpS (model prog w) A E s (yb a b) Q st:=by
 unfold yb;walk_at "mergeLo";have la:a.toList.length=a.size:=by simp
 have lb:b.toList.length=b.size:=by simp
 have atA:∀ i,i<a.size->∃ x,a.toList[i]?=some x/\IntP x:=fun i hi=>⟨_,JB (by omega),ia _ (KC _)⟩
 have atB:∀ i,i<b.size->∃ x,b.toList[i]?=some x/\IntP x:=fun i hi=>⟨_,JB (by omega),ib _ (KC _)⟩
 have dn:∀(o:Array Keyed)(i j:Nat)(st':SortSt),SmG st st'->LM a.toList b.toList o.toList i j->j=b.size->Q (o++a.extract i++b.extract j) st':=by
  intro o i j st' sg lm e;have nb:b.toList.drop j = []:=M9 (by omega)
  obtain⟨g1,g2⟩:=lm.fin ua ub (by rw[nb];intro x _ y hy;cases hy)
  refine h _ st' sg ?_ ?_
  ·rw[Kt,Kt,gj,gj];exact g1
  ·rw[Kt,Kt,gj,gj];exact g2
 have ls:∀(o:Array Keyed)(i j:Nat)(st':SortSt),SmG st st'->LM a.toList b.toList o.toList i j->i+1=a.size->Q (o++b.extract j++a.extract i) st':=by
  intro o i j st' sg lm e;obtain⟨z,hz,_⟩:=atA i (by omega)
  have na:a.toList.drop i = [z]:=by
   rw[← eh hz];exact(KA (by rw[Ku];omega)).symm
  obtain⟨g1,g2⟩:=lm.swap.fin ub ua (by
   rw[na];intro x hx y hy;rw[JR.mp hy]
   exact LB (hst x z (La hx) (by rw[← e];exact hz)))
  refine h _ st' sg ?_ ?_
  ·rw[Kt,Kt,gj,gj];exact g1.trans Lo
  ·rw[Kt,Kt,gj,gj];exact g2
 refine wpS_bind (wpS_lift (wpAny_rule ⟨rfl,?_⟩));obtain⟨y0,hy0,iy0⟩:=atB 0 (by omega)
 walk_at "l3";refine wpS_bind (aO (at_l hy0) ?_)
 have m0:LM a.toList b.toList [y0] 0 1:=⟨by rw[Nn,List.nil_append,← eh hy0];exact NU _,MZ ..,fun x hx y hy=>by rw[JR.mp hx];exact h0 y0 y hy0 hy,fun x hx y hy=>by
  rw[JR.mp hx]
  exact iE ub hy0 y (La hy)⟩
 by_cases c1:(1 == b.size)=true
 ·refine aG c1 ?_;exact wpS_pure (dn _ _ _ _ (SmG.rfl' _) m0 (by simpa using c1))
 refine aF c1 ?_;have c1':1≠b.size:=by simpa using c1
 by_cases c2:(0+1 == a.size)=true
 ·refine aG c2 ?_;exact wpS_pure (ls _ _ _ _ (SmG.rfl' _) m0 (by simpa using c2))
 refine aF c2 ?_;have c2':0+1≠a.size:=by simpa using c2
 refine wpS_bind (wpS_get ?_)
 refine wpS_bind (wpS_mono (wpS_forRange (I:=fun x c st'=>SmG st st'/\∃(o:Array Keyed)(i j g:Nat),c=(none,o,i,j,g)/\LM a.toList b.toList o.toList i j/\i+1<a.size/\j<b.size/\x+1<=i+j)
  (Q:=fun c st'=>∃(r:Array Keyed)(z:Array Keyed×Nat×Nat×Nat),c=(some r,z)/\Q r st') ?step ?fin ⟨SmG.rfl' _,_,_,_,_,rfl,m0,by omega,by omega,by omega⟩) ?post)
 case post =>
  rintro c st' ⟨r,z,rfl,q⟩;exact wpS_pure q
 case fin =>
  rintro c st' ⟨sg,o,i,j,g,rfl,lm,g1,g2,g3⟩;omega
 case step =>
  rintro x c st1 _ hx ⟨sg1,o,i,j,g,rfl,lm,g1,g2,g3⟩
  refine wpS_bind (wpS_mono (wpS_forRange (I:=fun y c st'=>SmG st st'/\∃(o:Array Keyed)(i j ac bc:Nat),c=(none,o,i,j,ac,bc)/\LM a.toList b.toList o.toList i j/\i+1<a.size/\j<b.size/\x+1+y<=i+j)
   (Q:=fun c st'=>(∃(r:Array Keyed)(z:Array Keyed×Nat×Nat×Nat×Nat),c=(some r,z)/\Q r st')∨SmG st st'/\∃(o:Array Keyed)(i j ac bc:Nat),c=(none,o,i,j,ac,bc)/\LM a.toList b.toList o.toList i j/\i+1<a.size/\j<b.size/\x+2<=i+j) ?istep ?ifin ⟨sg1,o,i,j,0,0,rfl,lm,g1,g2,by omega⟩) ?ipost)
  case ifin =>
   rintro c st' ⟨sg,o,i,j,ac,bc,rfl,lm,g1,g2,g3⟩;exact .inr ⟨sg,o,i,j,ac,bc,rfl,lm,g1,g2,by omega⟩
  case istep =>
   rintro y c st2 _ hy ⟨sg2,o,i,j,ac,bc,rfl,lm,g1,g2,g3⟩;obtain⟨vb,hvb,ivb⟩:=atB j g2;obtain⟨va,hva,iva⟩:=atA i (by omega)
   dsimp only;refine wpS_bind (aO (at_l hvb) (wpS_bind (aO (at_l hva) (wpS_bind (mh (sg2.k.trans hk) ivb iva ?_)))));by_cases c:ky vb<ky va
   ·rw[decide_eq_true c];dsimp only;refine aG rfl ?_;refine wpS_bind (aO (at_l hvb) ?_);have m2:LM a.toList b.toList (o.push vb).toList i (j+1):=by
     rw[Lx];exact(lm.swap.a1 ub hvb fun z hz=>by have:=iE ua hva z hz;omega).swap
    by_cases d1:(j+1 == b.size)=true
    ·refine aG d1 ?_;exact wpS_pure (.inl ⟨_,_,rfl,dn _ _ _ _ sg2 m2 (by simpa using d1)⟩)
    ·refine aF d1 ?_;have d1':j+1≠b.size:=by simpa using d1
     split
     ·exact wpS_pure (.inr ⟨sg2,_,_,_,_,_,rfl,m2,g1,by omega,by omega⟩)
     ·exact wpS_pure ⟨sg2,_,_,_,_,_,rfl,m2,g1,by omega,by omega⟩
   ·rw[decide_eq_false c];dsimp only;refine aF Kb ?_;refine wpS_bind (aO (at_l hva) ?_);have m2:LM a.toList b.toList (o.push va).toList (i+1) j:=by
     rw[Lx];exact lm.a1 ua hva fun z hz=>by have:=iE ub hvb z hz;omega
    by_cases d1:(i+1+1 == a.size)=true
    ·refine aG d1 ?_;exact wpS_pure (.inl ⟨_,_,rfl,ls _ _ _ _ sg2 m2 (by simpa using d1)⟩)
    ·refine aF d1 ?_;have d1':i+1+1≠a.size:=by simpa using d1
     split
     ·exact wpS_pure (.inr ⟨sg2,_,_,_,_,_,rfl,m2,by omega,g2,by omega⟩)
     ·exact wpS_pure ⟨sg2,_,_,_,_,_,rfl,m2,by omega,g2,by omega⟩
  case ipost =>
   rintro c st2 (⟨r,z,rfl,q⟩ | ⟨sg2,o,i,j,ac,bc,rfl,lm,g1,g2,g3⟩)
   ·exact wpS_pure ⟨_,_,rfl,q⟩
   dsimp -zeta -zetaHave only;refine wpS_bind (wpS_lift (wpAny_rule ⟨rfl,?_⟩))
   refine wpS_bind (wpS_mono (wpS_forRange (I:=fun y c st'=>SmG st st'/\∃(o:Array Keyed)(i j g ac bc:Nat),c=(none,o,i,j,g,ac,bc)/\LM a.toList b.toList o.toList i j/\i+1<a.size/\j<b.size/\x+2<=i+j)
    (Q:=fun c st'=>(∃(r:Array Keyed)(z:Array Keyed×Nat×Nat×Nat×Nat×Nat),c=(some r,z)/\Q r st')∨SmG st st'/\∃(o:Array Keyed)(i j g ac bc:Nat),c=(none,o,i,j,g,ac,bc)/\LM a.toList b.toList o.toList i j/\i+1<a.size/\j<b.size/\x+2<=i+j) ?jstep ?jfin ⟨sg2,o,i,j,_,ac,bc,rfl,lm,g1,g2,g3⟩) ?jpost)
   case jfin=>exact fun c st' q=>.inr q
   case jpost =>
    rintro c st3 (⟨r,z,rfl,q⟩ | ⟨sg3,o,i,j,g,ac,bc,rfl,lm,g1,g2,g3⟩)
    ·exact wpS_pure ⟨_,_,rfl,q⟩
    dsimp only;exact wpS_bind (lD fun st4 sg4=>wpS_pure ⟨sg3.trans sg4,_,_,_,_,rfl,lm,g1,g2,by omega⟩)
   case jstep =>
    rintro y c st3 _ hy ⟨sg3,o,i,j,g,ac,bc,rfl,lm,g1,g2,g3⟩;walk_at "st";walk_at "l11";extract_lets -underBinder +onlyGivenNames jp;clear_value (ej:jp=_);refine uP fun R hR=>?_;refine GX (F:=fun z=>jp () z) fun g'=>?_;rw[ej];clear ej jp;walk_at "st";refine wpS_bind (lD fun st4 sg4=>?_);have sg34:=sg3.trans sg4;have k4:=sg34.k.trans hk;obtain⟨vb,hvb,ivb⟩:=atB j g2;refine wpS_bind (aO (at_l hvb) ?_);refine wpS_bind (xE k4 ivb ua ia (by omega) (by omega) fun k kn kt kf=>?_)
    walk_at "st";extract_lets -underBinder +onlyGivenNames ac jp;subst ac;clear_value (ej:jp=_);have vbl:=iE ub hvb;have hlo:=I9 kt;have hhi:=fR_hi (by omega) kf
    have hj:∀(o':Array Keyed)(i':Nat),LM a.toList b.toList o'.toList i' j->i'+1<a.size->(∀ y∈a.toList.drop i',ky vb<=ky y)->x+2<=i'+j->wpS (model prog w) A E s (jp () o' i') R st4:=by
     intro o' i' lm' g1' gv g3';rw[ej];clear ej jp;walk_at "st";refine wpS_bind (aO (at_l hvb) ?_);have m2:LM a.toList b.toList (o'.push vb).toList i' (j+1):=by
      rw[Lx];exact(lm'.swap.a1 ub hvb gv).swap
     by_cases d1:(j+1 == b.size)=true
     ·refine aG d1 ?_;exact wpS_pure (hR _ _ (.inl ⟨_,_,rfl,dn _ _ _ _ sg34 m2 (by simpa using d1)⟩))
     refine aF d1 ?_;have d1':j+1≠b.size:=by simpa using d1
     obtain⟨va,hva,iva⟩:=atA i' (by omega)
     have val:=iE ua hva;refine wpS_bind (aO (at_l hva) ?_);refine wpS_bind (xF k4 iva ub ib (by omega) (by omega) fun k2 kn2 kt2 kf2=>?_)
     walk_at "st";extract_lets -underBinder +onlyGivenNames ac jp;subst ac;clear_value (ej:jp=_);have hlo2:=Jb kt2;have hhi2:=fL_hi (by omega) kf2
     have hj:∀(o':Array Keyed)(j':Nat),LM a.toList b.toList o'.toList i' j'->j'<b.size->(∀ y∈b.toList.drop j',ky va<=ky y)->x+2<=i'+j'->wpS (model prog w) A E s (jp () o' j') R st4:=by
      intro o' j' lm2 g2' gv' g3'';rw[ej];clear ej jp;walk_at "st";refine wpS_bind (aO (at_l hva) ?_);have m3:LM a.toList b.toList (o'.push va).toList (i'+1) j':=by
       rw[Lx];exact lm2.a1 ua hva gv'
      by_cases d2:(i'+1+1 == a.size)=true
      ·refine aG d2 ?_;exact wpS_pure (hR _ _ (.inl ⟨_,_,rfl,ls _ _ _ _ sg34 m3 (by simpa using d2)⟩))
      refine aF d2 ?_;have d2':i'+1+1≠a.size:=by simpa using d2
      split
      ·exact wpS_pure (hR _ _ (.inr ⟨sg34,_,_,_,_,_,_,rfl,m3,by omega,g2',by omega⟩))
      ·exact wpS_pure (hR _ _ ⟨sg34,_,_,_,_,_,_,rfl,m3,by omega,g2',by omega⟩)
     clear ej;by_cases z2:k2 > 0
     ·refine aG z2 ?_;have m3:LM a.toList b.toList (o'.push vb++b.extract (j+1) (j+1+k2)).toList i' (j+1+k2):=by
       rw[Kt,lZ];exact(m2.swap.a ub k2 fun x hx y hy=>by have:=hlo2 x hx;have:=val y hy;omega).swap
      by_cases d2:(j+1+k2 == b.size)=true
      ·refine aG d2 ?_;exact wpS_pure (hR _ _ (.inl ⟨_,_,rfl,dn _ _ _ _ sg34 m3 (by simpa using d2)⟩))
      refine aF d2 ?_;have d2':j+1+k2≠b.size:=by simpa using d2
      exact hj _ _ m3 (by omega) hhi2 (by omega)
     ·refine aF z2 ?_;have:k2=0:=by omega
      subst this;exact hj _ _ m2 (by omega) hhi2 (by omega)
    clear ej;by_cases z:k > 0
    ·refine aG z ?_;have m2:LM a.toList b.toList (o++a.extract i (i+k)).toList (i+k) j:=by
      rw[Kt,lZ];exact lm.a ua k fun x hx y hy=>by have:=hlo x hx;have:=vbl y hy;omega
     by_cases d1:(i+k+1 == a.size)=true
     ·refine aG d1 ?_;exact wpS_pure (hR _ _ (.inl ⟨_,_,rfl,ls _ _ _ _ sg34 m2 (by simpa using d1)⟩))
     refine aF d1 ?_;have d1':i+k+1≠a.size:=by simpa using d1
     by_cases d2:(i+k == a.size)=true
     ·exfalso;have d2':i+k=a.size:=by simpa using d2
      obtain⟨vl,hvl,_⟩:=atA (a.size-1) (by omega)
      have h1:=kt (a.size-1-i) (by omega)
      rw[m8 (show a.toList[i+(a.size-1-i)]?=some vl by rw[show i+(a.size-1-i)=a.size-1 by omega];exact hvl)]at h1
      have h2:=hst vb vl (JG hvb) hvl;simp only[MX,decide_eq_false_iff_not]at h1;omega
     refine aF d2 ?_;have d2':i+k≠a.size:=by simpa using d2
     exact hj _ _ m2 (by omega) (fun y hy=>LB (hhi y hy)) (by omega)
    ·refine aF z ?_;have:k=0:=by omega
     subst this;exact hj _ _ lm g1 (fun y hy=>LB (hhi y hy)) (by omega)
end PyProof.RowsP
namespace PyProof.RowsP
open PySem PyProof.Rows
local macro_rules | `(tactic| walk_at "mergeHi") => do
 let n:=Lean.mkIdent (Lean.mkPrivateNameCore `PySem.Builtin.List.W1All `PySem.Builtin.mergeHi)
 `(tactic| delta $n)
local macro_rules | `(tactic| walk_at "st") => `(tactic| try dsimp -zeta -zetaHave only)
local macro_rules | `(tactic| walk_at "l3") => `(tactic| (extract_lets -underBinder +onlyGivenNames a b c; subst a b c))
local macro_rules | `(tactic| walk_at "l11") => `(tactic| (extract_lets -underBinder +onlyGivenNames a b c d e f g h i j k; subst a b c d e f g h i j k; dsimp -zeta -zetaHave only))
variable{prog:Program}{w:World}{A:Around}{E:Value->Shared->Prop}{s:Shared} [KF:KeyFn] [LO:LtOk prog w A E s]
structure LH(P R o:List Keyed)(i j:Nat):Prop where
 pm:o.Perm (P.drop i++R.drop j)
 up:Upl o
 la:∀ x∈P.take i,∀ y∈o,ky x<=ky y
 lb:∀ x∈R.take j,∀ y∈o,ky x<=ky y
theorem LH.swap{P R o:List Keyed}{i j:Nat}(h:LH P R o i j):LH R P o j i:=⟨h.pm.trans Lo,h.up,h.lb,h.la⟩
theorem F1(P:List Keyed){i i':Nat}(h:i'<=i)(hi:i<=P.length):P.drop i'=(P.take i).drop i'++P.drop i:=by
 have e:=congrArg (List.drop i') (Kl i P);rw[NF,JZ,show i'-min i P.length=0 by omega,Md]at e
 exact e.symm
theorem LH.a{P R o:List Keyed}{i j:Nat}(h:LH P R o i j)(u:Upl P){i':Nat}(hi':i'<=i)(hi:i<=P.length)(c:∀ x∈R.take j,∀ y∈(P.take i).drop i',ky x<=ky y):LH P R ((P.take i).drop i'++o) i' j where
 pm:=by
  rw[F1 P hi' hi,Ko];exact Lp _ h.pm
 up:=KQ.mpr ⟨(u.take).drop,h.up,fun x hx y hy=>h.la x (La hx) y hy⟩
 la:=fun x hx y hy=>by
  have e:P.take i'=(P.take i).take i':=by rw[MR,LX hi']
  rw[e]at hx;rcases JW.mp hy with hy | hy
  ·have z:Upl ((P.take i).take i'++(P.take i).drop i'):=by rw[Kl];exact u.take
   exact(KQ.mp z).2.2 x hx y hy
  ·exact h.la x (K9 hx) y hy
 lb:=fun x hx y hy=>by
  rcases JW.mp hy with hy | hy
  ·exact c x hx y hy
  ·exact h.lb x hx y hy
theorem qy{P:List Keyed}{i:Nat}{x:Keyed}(h:P[i]?=some x):(P.take (i+1)).drop i = [x]:=by
 have hi:=(JD.mp h).1;rw[MA,show i+1-i=1 by omega]
 exact eh h
theorem LH.a1{P R o:List Keyed}{i j:Nat}{x:Keyed}(h:LH P R o (i+1) j)(u:Upl P)(hx:P[i]?=some x)(c:∀ y∈R.take j,ky y<=ky x):LH P R (x::o) i j:=by
 have hi:=(JD.mp hx).1;have:=h.a u (i':=i) (by omega) (by omega) (by rw[qy hx];intro y hy z hz;rw[JR.mp hz];exact c y hy)
 rwa[qy hx]at this
theorem LH.fin{P R o:List Keyed}{i j:Nat}(h:LH P R o i j)(u:Upl P)(v:Upl R)(c:∀ x∈P.take i,∀ y∈R.take j,ky x<=ky y):(P.take i++R.take j++o).Perm (P++R)/\Upl (P.take i++R.take j++o):=by
 constructor
 ·refine(Lp _ h.pm).trans ?_;have e:P++R=(P.take i++P.drop i)++(R.take j++R.drop j):=by rw[Kl,Kl]
  rw[e,← Ko,← Ko];refine List.Perm.append_right _ ?_;rw[Ko,Ko];exact Lp _ Lo
 ·refine KQ.mpr ⟨KQ.mpr ⟨u.take,v.take,c⟩,h.up,fun x hx y hy=>?_⟩;rcases JW.mp hx with hx | hx
  ·exact h.la x hx y hy
  ·exact h.lb x hx y hy
theorem jU{P:List Keyed}{i:Nat}{x:Keyed}(u:Upl P)(hx:P[i]?=some x):∀ y∈P.take (i+1),ky y<=ky x:=fun y hy=>by
 obtain⟨m,hm,e⟩:=KP hy;rw[JZ]at hm;rw[Mx]at e;exact Ew u (i:=m) (by rw[JB (by omega),e]) hx (by omega)
theorem fR_lo'{P:List Keyed}{k:Nat}{v:Keyed}(h:∀ m,m<k->fR P 0 v m=true):∀ x∈P.take k,ky x<=ky v:=I9 (P:=P) (i:=0) h
theorem fL_lo'{P:List Keyed}{k:Nat}{v:Keyed}(h:∀ m,m<k->fL P 0 v m=true):∀ x∈P.take k,ky x<ky v:=Jb (P:=P) (i:=0) h
theorem ye{P:List Keyed}{i k:Nat}{y:Keyed}(h:y∈(P.take i).drop k):∃ m,k<=m/\m<i/\P[m]?=some y:=by
 rw[MA]at h;obtain⟨m,hm,e⟩:=Cc h;exact⟨k+m,by omega,by omega,e⟩
theorem fR_hi'{P:List Keyed}{k n:Nat}{v:Keyed}(h:∀ m,k<=m->m<n->fR P 0 v m=false):∀ y∈(P.take n).drop k,ky v<ky y:=fun y hy=>by
 obtain⟨m,h1,h2,e⟩:=ye hy;have:=h m h1 h2;rw[m8 (show P[0+m]?=some y by rw[Mi];exact e)]at this
 simpa using this
theorem fL_hi'{P:List Keyed}{k n:Nat}{v:Keyed}(h:∀ m,k<=m->m<n->fL P 0 v m=false):∀ y∈(P.take n).drop k,ky v<=ky y:=fun y hy=>by
 obtain⟨m,h1,h2,e⟩:=ye hy;have:=h m h1 h2;rw[oM (show P[0+m]?=some y by rw[Mi];exact e)]at this
 simp only[decide_eq_false_iff_not]at this;omega
theorem kN(a:Array Keyed)(i:Nat):(a.extract 0 i).toList=a.toList.take i:=by
 rw[MH,Mc];rfl
theorem qR(a:Array Keyed)(i k:Nat):(a.extract k i).toList=(a.toList.take i).drop k:=by
 rw[MH,Mc,MA]
noncomputable def rv(o:Array Keyed):List Keyed:=o.toList.reverse
theorem qc(o:Array Keyed)(x:Keyed):rv (o.push x)=x::rv o:=by unfold rv;rw[Lx,List.reverse_append];rfl
theorem GH(o p:Array Keyed):rv (o++p.reverse)=p.toList++rv o:=by unfold rv;rw[Kt,List.reverse_append,Mb,List.reverse_reverse]
noncomputable def yc:Array Keyed->Array Keyed->StateT SortSt Sem (Array Keyed):=sortPriv% PySem.Builtin.mergeHi
theorem uN{st:SortSt}{a b:Array Keyed}{Q:Array Keyed->SortSt->Prop}(hk:kindOf st=KeyFn.kd)(ua:Upl a.toList)(ub:Upl b.toList)(ia:∀ x∈a.toList,IntP x)(ib:∀ x∈b.toList,IntP x)(a1:1<=a.size)(b1:1<=b.size)
  (h0:∀ x y:Keyed,b.toList[0]?=some x->y∈a.toList->ky x<ky y) (hst:∀ x y:Keyed,x∈b.toList->a.toList[a.size-1]?=some y->ky x<ky y)
  (h:∀ R st',SmG st st'->R.toList.Perm (a.toList++b.toList)->Upl R.toList->Q R st'):wpS (model prog w) A E s (yc a b) Q st:=by
 unfold yc;walk_at "mergeHi";have la:a.toList.length=a.size:=by simp
 have lb:b.toList.length=b.size:=by simp
 have atA:∀ i,i<a.size->∃ x,a.toList[i]?=some x/\IntP x:=fun i hi=>⟨_,JB (by omega),ia _ (KC _)⟩
 have atB:∀ i,i<b.size->∃ x,b.toList[i]?=some x/\IntP x:=fun i hi=>⟨_,JB (by omega),ib _ (KC _)⟩
 have dn:∀(o:Array Keyed)(i j:Nat)(st':SortSt),SmG st st'->LH a.toList b.toList (rv o) i j->i=0∨j=0->Q (a.extract 0 i++b.extract 0 j++o.reverse) st':=by
  intro o i j st' sg lm e
  obtain⟨g1,g2⟩:=lm.fin ua ub (by
   rcases e with e | e
   ·subst e;intro x hx;cases hx
   ·subst e;intro x _ y hy;cases hy)
  refine h _ st' sg ?_ ?_
  ·rw[Kt,Kt,kN,kN,Mb];exact g1
  ·rw[Kt,Kt,kN,kN,Mb];exact g2
 have ls:∀(o:Array Keyed)(i j:Nat)(st':SortSt),SmG st st'->LH a.toList b.toList (rv o) i j->j=1->Q (b.extract 0 j++a.extract 0 i++o.reverse) st':=by
  intro o i j st' sg lm e;subst e;obtain⟨z,hz,_⟩:=atB 0 (by omega)
  have nb:b.toList.take 1 = [z]:=eh (P:=b.toList) (i:=0) hz
  obtain⟨g1,g2⟩:=lm.swap.fin ub ua (by
   rw[nb];intro x hx y hy;rw[JR.mp hx]
   exact LB (h0 z y hz (K9 hy)))
  refine h _ st' sg ?_ ?_
  ·rw[Kt,Kt,kN,kN,Mb];exact g1.trans Lo
  ·rw[Kt,Kt,kN,kN,Mb];exact g2
 refine wpS_bind (wpS_lift (wpAny_rule ⟨rfl,?_⟩));obtain⟨y0,hy0,iy0⟩:=atA (a.size-1) (by omega)
 walk_at "l3";refine wpS_bind (aO (at_l hy0) ?_)
 have m0:LH a.toList b.toList (rv #[y0]) (a.size-1) b.size:=⟨by
   show[y0].Perm _;rw[M9 (show b.toList.length<=b.size by omega),LZ]
   have e:=qy hy0;rw[show a.size-1+1=a.size by omega,KA (by omega)]at e
   rw[e],MZ ..,fun x hx y hy=>by
   have:y=y0:=JR.mp hy;rw[this];refine jU ua hy0 x ?_;rw[show a.size-1+1=a.size by omega,KA (by omega)]
   exact K9 hx,fun x hx y hy=>by
   have:y=y0:=JR.mp hy;rw[this]
   exact LB (hst x y0 (K9 hx) hy0)⟩
 by_cases c1:(a.size-1 == 0)=true
 ·refine aG c1 ?_;exact wpS_pure (dn _ _ _ _ (SmG.rfl' _) m0 (.inl (by simpa using c1)))
 refine aF c1 ?_;have c1':a.size-1≠0:=by simpa using c1
 by_cases c2:(b.size == 1)=true
 ·refine aG c2 ?_;exact wpS_pure (ls _ _ _ _ (SmG.rfl' _) m0 (by simpa using c2))
 refine aF c2 ?_;have c2':b.size≠1:=by simpa using c2
 refine wpS_bind (wpS_get ?_)
 refine wpS_bind (wpS_mono (wpS_forRange (I:=fun x c st'=>SmG st st'/\∃(o:Array Keyed)(i j g:Nat),c=(none,i,j,o,g)/\LH a.toList b.toList (rv o) i j/\1<=i/\i<=a.size/\2<=j/\j<=b.size/\x+1+(i+j)<=a.size+b.size)
  (Q:=fun c st'=>∃(r:Array Keyed)(z:Nat×Nat×Array Keyed×Nat),c=(some r,z)/\Q r st') ?step ?fin ⟨SmG.rfl' _,_,_,_,_,rfl,m0,by omega,by omega,by omega,by omega,by omega⟩) ?post)
 case post =>
  rintro c st' ⟨r,z,rfl,q⟩;exact wpS_pure q
 case fin =>
  rintro c st' ⟨sg,o,i,j,g,rfl,lm,g1,g1',g2,g2',g3⟩;omega
 case step =>
  rintro x c st1 _ hx ⟨sg1,o,i,j,g,rfl,lm,g1,g1',g2,g2',g3⟩
  refine wpS_bind (wpS_mono (wpS_forRange (I:=fun y c st'=>SmG st st'/\∃(o:Array Keyed)(i j ac bc:Nat),c=(none,i,j,o,ac,bc)/\LH a.toList b.toList (rv o) i j/\1<=i/\i<=a.size/\2<=j/\j<=b.size/\x+1+y+(i+j)<=a.size+b.size)
   (Q:=fun c st'=>(∃(r:Array Keyed)(z:Nat×Nat×Array Keyed×Nat×Nat),c=(some r,z)/\Q r st')∨SmG st st'/\∃(o:Array Keyed)(i j ac bc:Nat),c=(none,i,j,o,ac,bc)/\LH a.toList b.toList (rv o) i j/\1<=i/\i<=a.size/\2<=j/\j<=b.size/\x+2+(i+j)<=a.size+b.size) ?istep ?ifin ⟨sg1,o,i,j,0,0,rfl,lm,g1,g1',g2,g2',by omega⟩) ?ipost)
  case ifin =>
   rintro c st' ⟨sg,o,i,j,ac,bc,rfl,lm,g1,g1',g2,g2',g3⟩;exact .inr ⟨sg,o,i,j,ac,bc,rfl,lm,g1,g1',g2,g2',by omega⟩
  case istep =>
   rintro y c st2 _ hy ⟨sg2,o,i,j,ac,bc,rfl,lm,g1,g1',g2,g2',g3⟩;obtain⟨vb,hvb,ivb⟩:=atB (j-1) (by omega)
   obtain⟨va,hva,iva⟩:=atA (i-1) (by omega)
   have ei:i-1+1=i:=by omega
   have ej:j-1+1=j:=by omega
   dsimp only;refine wpS_bind (aO (at_l hvb) (wpS_bind (aO (at_l hva) (wpS_bind (mh (sg2.k.trans hk) ivb iva ?_)))));by_cases c:ky vb<ky va
   ·rw[decide_eq_true c];dsimp only;refine aG rfl ?_;refine wpS_bind (aO (at_l hva) ?_);have m2:LH a.toList b.toList (rv (o.push va)) (i-1) j:=by
     rw[qc];exact LH.a1 (by rw[ei];exact lm) ua hva fun z hz=>by
      have:=jU ub hvb z (by rw[ej];exact hz)
      omega
    by_cases d1:(i-1 == 0)=true
    ·refine aG d1 ?_;exact wpS_pure (.inl ⟨_,_,rfl,dn _ _ _ _ sg2 m2 (.inl (by simpa using d1))⟩)
    ·refine aF d1 ?_;have d1':i-1≠0:=by simpa using d1
     split
     ·exact wpS_pure (.inr ⟨sg2,_,_,_,_,_,rfl,m2,by omega,by omega,g2,g2',by omega⟩)
     ·exact wpS_pure ⟨sg2,_,_,_,_,_,rfl,m2,by omega,by omega,g2,g2',by omega⟩
   ·rw[decide_eq_false c];dsimp only;refine aF Kb ?_;refine wpS_bind (aO (at_l hvb) ?_);have m2:LH a.toList b.toList (rv (o.push vb)) i (j-1):=by
     rw[qc]
     exact(LH.a1 (by rw[ej];exact lm.swap) ub hvb fun z hz=>by
      have:=jU ua hva z (by rw[ei];exact hz)
      omega).swap
    by_cases d1:(j-1 == 1)=true
    ·refine aG d1 ?_;exact wpS_pure (.inl ⟨_,_,rfl,ls _ _ _ _ sg2 m2 (by simpa using d1)⟩)
    ·refine aF d1 ?_;have d1':j-1≠1:=by simpa using d1
     split
     ·exact wpS_pure (.inr ⟨sg2,_,_,_,_,_,rfl,m2,g1,g1',by omega,by omega,by omega⟩)
     ·exact wpS_pure ⟨sg2,_,_,_,_,_,rfl,m2,g1,g1',by omega,by omega,by omega⟩
  case ipost =>
   rintro c st2 (⟨r,z,rfl,q⟩ | ⟨sg2,o,i,j,ac,bc,rfl,lm,g1,g1',g2,g2',g3⟩)
   ·exact wpS_pure ⟨_,_,rfl,q⟩
   dsimp -zeta -zetaHave only;refine wpS_bind (wpS_lift (wpAny_rule ⟨rfl,?_⟩))
   refine wpS_bind (wpS_mono (wpS_forRange (I:=fun y c st'=>SmG st st'/\∃(o:Array Keyed)(i j g ac bc:Nat),c=(none,i,j,o,g,ac,bc)/\LH a.toList b.toList (rv o) i j/\1<=i/\i<=a.size/\2<=j/\j<=b.size/\x+2+(i+j)<=a.size+b.size)
    (Q:=fun c st'=>(∃(r:Array Keyed)(z:Nat×Nat×Array Keyed×Nat×Nat×Nat),c=(some r,z)/\Q r st')∨SmG st st'/\∃(o:Array Keyed)(i j g ac bc:Nat),c=(none,i,j,o,g,ac,bc)/\LH a.toList b.toList (rv o) i j/\1<=i/\i<=a.size/\2<=j/\j<=b.size/\x+2+(i+j)<=a.size+b.size) ?jstep ?jfin ⟨sg2,o,i,j,_,ac,bc,rfl,lm,g1,g1',g2,g2',g3⟩) ?jpost)
   case jfin=>exact fun c st' q=>.inr q
   case jpost =>
    rintro c st3 (⟨r,z,rfl,q⟩ | ⟨sg3,o,i,j,g,ac,bc,rfl,lm,g1,g1',g2,g2',g3⟩)
    ·exact wpS_pure ⟨_,_,rfl,q⟩
    dsimp only;exact wpS_bind (lD fun st4 sg4=>wpS_pure ⟨sg3.trans sg4,_,_,_,_,rfl,lm,g1,g1',g2,g2',by omega⟩)
   case jstep =>
    rintro y c st3 _ hy ⟨sg3,o,i,j,g,ac,bc,rfl,lm,g1,g1',g2,g2',g3⟩;walk_at "st";walk_at "l11";extract_lets -underBinder +onlyGivenNames jp;clear_value (ej:jp=_);refine uP fun R hR=>?_;refine GX (F:=fun z=>jp () z) fun g'=>?_;rw[ej];clear ej jp;walk_at "st";refine wpS_bind (lD fun st4 sg4=>?_);have sg34:=sg3.trans sg4;have k4:=sg34.k.trans hk;have ej1:j-1+1=j:=by omega
    obtain⟨vb,hvb,ivb⟩:=atB (j-1) (by omega)
    refine wpS_bind (aO (at_l hvb) ?_);refine wpS_bind (xE k4 ivb ua ia (by omega) (by omega) fun k kn kt kf=>?_)
    walk_at "st";extract_lets -underBinder +onlyGivenNames kk ac jp;subst kk ac;clear_value (ej:jp=_);have vbl:=jU ub hvb;rw[ej1]at vbl;have hlo:=fR_lo' kt;have hhi:=fR_hi' kf;have hj:∀(i':Nat)(o':Array Keyed),LH a.toList b.toList (rv o') i' j->1<=i'->i'<=a.size->(∀ y∈a.toList.take i',ky y<=ky vb)->x+2+(i'+j)<=a.size+b.size->wpS (model prog w) A E s (jp () i' o') R st4:=by
     intro i' o' lm' q1 q1' gv g3';rw[ej];clear ej jp;walk_at "st";refine wpS_bind (aO (at_l hvb) ?_);have m2:LH a.toList b.toList (rv (o'.push vb)) i' (j-1):=by
      rw[qc];exact(LH.a1 (by rw[ej1];exact lm'.swap) ub hvb gv).swap
     by_cases d1:(j-1 == 1)=true
     ·refine aG d1 ?_;exact wpS_pure (hR _ _ (.inl ⟨_,_,rfl,ls _ _ _ _ sg34 m2 (by simpa using d1)⟩))
     refine aF d1 ?_;have d1':j-1≠1:=by simpa using d1
     have ei1:i'-1+1=i':=by omega
     obtain⟨va,hva,iva⟩:=atA (i'-1) (by omega)
     have val:=jU ua hva;rw[ei1]at val;refine wpS_bind (aO (at_l hva) ?_);refine wpS_bind (xF k4 iva ub ib (by omega) (by omega) fun k2 kn2 kt2 kf2=>?_)
     walk_at "st";extract_lets -underBinder +onlyGivenNames kk ac jp;subst kk ac;clear_value (ej:jp=_);have hlo2:=fL_lo' kt2;have hhi2:=fL_hi' kf2;have hj:∀(j':Nat)(o':Array Keyed),LH a.toList b.toList (rv o') i' j'->2<=j'->j'<=b.size->(∀ y∈b.toList.take j',ky y<=ky va)->x+2+(i'+j')<=a.size+b.size->wpS (model prog w) A E s (jp () j' o') R st4:=by
      intro j' o' lm2 q2 q2' gv' g3'';rw[ej];clear ej jp;walk_at "st";refine wpS_bind (aO (at_l hva) ?_);have m3:LH a.toList b.toList (rv (o'.push va)) (i'-1) j':=by
       rw[qc];exact LH.a1 (by rw[ei1];exact lm2) ua hva gv'
      by_cases d2:(i'-1 == 0)=true
      ·refine aG d2 ?_;exact wpS_pure (hR _ _ (.inl ⟨_,_,rfl,dn _ _ _ _ sg34 m3 (.inl (by simpa using d2))⟩))
      refine aF d2 ?_;have d2':i'-1≠0:=by simpa using d2
      split
      ·exact wpS_pure (hR _ _ (.inr ⟨sg34,_,_,_,_,_,_,rfl,m3,by omega,by omega,q2,q2',by omega⟩))
      ·exact wpS_pure (hR _ _ ⟨sg34,_,_,_,_,_,_,rfl,m3,by omega,by omega,q2,q2',by omega⟩)
     clear ej;by_cases z2:j-1-k2 > 0
     ·refine aG z2 ?_;have m3:LH a.toList b.toList (rv (o'.push vb++(b.extract k2 (j-1)).reverse)) i' k2:=by
       rw[GH,qR];exact(m2.swap.a ub (by omega) (by omega) fun x hx y hy=>by have:=hhi2 y hy;have:=val x hx;omega).swap
      by_cases d2:(k2 == 1)=true
      ·refine aG d2 ?_;exact wpS_pure (hR _ _ (.inl ⟨_,_,rfl,ls _ _ _ _ sg34 m3 (by simpa using d2)⟩))
      refine aF d2 ?_;have d2':k2≠1:=by simpa using d2
      by_cases d3:(k2 == 0)=true
      ·refine aG d3 ?_;exact wpS_pure (hR _ _ (.inl ⟨_,_,rfl,dn _ _ _ _ sg34 m3 (.inr (by simpa using d3))⟩))
      refine aF d3 ?_;have d3':k2≠0:=by simpa using d3
      exact hj _ _ m3 (by omega) (by omega) (fun y hy=>LB (hlo2 y hy)) (by omega)
     ·refine aF z2 ?_;have:k2=j-1:=by omega
      subst this;exact hj _ _ m2 (by omega) (by omega) (fun y hy=>LB (hlo2 y hy)) (by omega)
    clear ej;by_cases z:i-k > 0
    ·refine aG z ?_;have m2:LH a.toList b.toList (rv (o++(a.extract k i).reverse)) k j:=by
      rw[GH,qR];exact lm.a ua (by omega) (by omega) fun x hx y hy=>by have:=hhi y hy;have:=vbl x hx;omega
     by_cases d1:(k == 0)=true
     ·refine aG d1 ?_;exact wpS_pure (hR _ _ (.inl ⟨_,_,rfl,dn _ _ _ _ sg34 m2 (.inl (by simpa using d1))⟩))
     refine aF d1 ?_;have d1':k≠0:=by simpa using d1
     exact hj _ _ m2 (by omega) (by omega) hlo (by omega)
    ·refine aF z ?_;have:k=i:=by omega
     subst this;exact hj _ _ lm g1 g1' hlo (by omega)
end PyProof.RowsP
namespace PyProof.RowsP
open PySem PyProof.Rows
local macro_rules | `(tactic| walk_at "countRun") => do
 let n:=Lean.mkIdent (Lean.mkPrivateNameCore `PySem.Builtin.List.W1All `PySem.Builtin.countRun)
 `(tactic| delta $n)
local macro_rules | `(tactic| walk_at "binarySort") => do
 let n:=Lean.mkIdent (Lean.mkPrivateNameCore `PySem.Builtin.List.W1All `PySem.Builtin.binarySort)
 `(tactic| delta $n)
local macro_rules | `(tactic| walk_at "st") => `(tactic| try dsimp -zeta -zetaHave only)
local macro_rules | `(tactic| walk_at "l3") => `(tactic| (extract_lets -underBinder +onlyGivenNames a b c; subst a b c))
local macro_rules | `(tactic| walk_at "l11") => `(tactic| (extract_lets -underBinder +onlyGivenNames a b c d e f g h i j k; subst a b c d e f g h i j k; dsimp -zeta -zetaHave only))
local macro_rules | `(tactic| walk_at "l1") => `(tactic| (extract_lets -underBinder +onlyGivenNames a; subst a; try dsimp -zeta -zetaHave only))
local macro_rules | `(tactic| walk_at "l2") => `(tactic| (extract_lets -underBinder +onlyGivenNames a b; subst a b; try dsimp -zeta -zetaHave only))
local macro_rules | `(tactic| walk_at "l4") => `(tactic| (extract_lets -underBinder +onlyGivenNames a b c d; subst a b c d; try dsimp -zeta -zetaHave only))
variable{prog:Program}{w:World}{A:Around}{E:Value->Shared->Prop}{s:Shared} [KF:KeyFn] [LO:LtOk prog w A E s]
structure SB(lo:Nat)(st0 st:SortSt):Prop where
 perm:(arrOf st).Perm (arrOf st0)
 kind:kindOf st=KeyFn.kd
 failed:failedOf st=failedOf st0
 pend:pendingOf st=pendingOf st0
 low:∀ i,i<lo->(arrOf st)[i]?=(arrOf st0)[i]?
theorem SB.set{lo:Nat}{st0 st:SortSt}(h:SB lo st0 st){xs:Array Keyed}(hp:xs.Perm (arrOf st))(hl:∀ i,i<lo->xs[i]?=(arrOf st)[i]?):SB lo st0 (setArr st xs) :=
 ⟨hp.trans h.perm,h.kind,h.failed,h.pend,fun i hi=>(hl i hi).trans (h.low i hi)⟩
theorem SB.size{lo:Nat}{st0 st:SortSt}(h:SB lo st0 st):(arrOf st).size=(arrOf st0).size:=h.perm.size_eq
noncomputable def Sin(xs:Array Keyed)(lo n:Nat):Prop:=∀ i j,lo<=i->i<=j->j<lo+n->K xs i<=K xs j
noncomputable def Nin(xs:Array Keyed)(lo n:Nat):Prop:=∀ i j,lo<=i->i<=j->j<lo+n->K xs j<=K xs i
theorem jT{lo:Nat}{st0 st:SortSt}{i j:Nat}{Q:Option Bool->SortSt->Prop}(hB:SB lo st0 st)(h0:gB (arrOf st0))(hi:i<(arrOf st0).size)(hj:j<(arrOf st0).size)
  (h:Q (some (decide (K (arrOf st) i<K (arrOf st) j))) st):wpS (model prog w) A E s ((sortPriv% PySem.Builtin.ltAt) i j) Q st:=by
 have at':∀ i,i<(arrOf st0).size->∃ p,(arrOf st)[i]?=some p/\IntP p/\K (arrOf st) i=ky p:=fun i hi=>by
  have hi':i<(arrOf st).size:=by rw[hB.size];exact hi
  have e:(arrOf st)[i]?=some (arrOf st)[i]:=getElem?_pos _ i hi';exact⟨(arrOf st)[i],e,h0 (arrOf st)[i] ((Ma.mp hB.perm).mem_iff.mp (by simp)),K_eq hi'⟩
 obtain⟨p,e1,i1,k1⟩:=at' i hi;obtain⟨q,e2,i2,k2⟩:=at' j hj;rw[k1,k2]at h;show wpS _ _ _ _ (ltAt' i j) Q st;rw[ltAt'_eq];refine wpS_bind (wpS_get ?_);show wpS _ _ _ _ (do let x ← elem' (arrOf st) i;let y ← elem' (arrOf st) j;lt' x y) Q st
 rw[elem'_eq,elem'_eq,e1,e2];refine wpS_bind (wpS_pure (wpS_bind (wpS_pure ?_)));exact mh hB.kind i1 i2 h
theorem lE{lo:Nat}{st0 st:SortSt}{i j:Nat}{Q:Unit->SortSt->Prop}(hB:SB lo st0 st)(hl:lo<=i)(hj:j<=(arrOf st0).size)(h:∀ st',SB lo st0 st'->(∀ k,K (arrOf st') k=if i<=k/\k<j then K (arrOf st) (i+j-1-k) else K (arrOf st) k)->Q () st') :
  wpS (model prog w) A E s ((sortPriv% PySem.Builtin.reverseSlice) i j) Q st:=by
 have hj':j<=(arrOf st).size:=by rw[hB.size];exact hj
 refine wpS_reverse (h _ (hB.set (mirror_perm _ _ _ _) fun k hk=>?_) fun k=>Gx hj' k);rw[getElem?_mirror_all hj',if_neg (by omega)]
theorem HZ(xs:Array Keyed)(lo:Nat):Sin xs lo 1:=fun i j h1 h2 h3=>by
 have:i=j:=by omega
 rw[this];exact KR _
theorem GF{xs:Array Keyed}{lo n:Nat}(h:Sin xs lo n)(n1:1<=n)(c:¬ K xs (lo+n)<K xs (lo+n-1)):Sin xs lo (n+1):=fun i j h1 h2 h3=>by
 by_cases z:j<lo+n
 ·exact h i j h1 h2 z
 ·have ej:j=lo+n:=by omega
  by_cases zi:i=j
  ·rw[zi];exact KR _
  ·have:=h i (lo+n-1) h1 (by omega) (by omega)
   rw[ej];omega
theorem x9{xs:Array Keyed}{lo n:Nat}(h:Nin xs lo n)(n1:1<=n)(c:K xs (lo+n)<=K xs (lo+n-1)):Nin xs lo (n+1):=fun i j h1 h2 h3=>by
 by_cases z:j<lo+n
 ·exact h i j h1 h2 z
 ·have ej:j=lo+n:=by omega
  by_cases zi:i=j
  ·rw[zi];exact KR _
  ·have:=h i (lo+n-1) h1 (by omega) (by omega)
   rw[ej];omega
noncomputable def tY:Nat->Nat->StateT SortSt Sem (Option Nat):=sortPriv% PySem.Builtin.countRun
theorem yK{st0:SortSt}{lo nrem:Nat}{Q:Option Nat->SortSt->Prop}(hk:kindOf st0=KeyFn.kd)(h0:gB (arrOf st0))(hn:lo+nrem<=(arrOf st0).size)(n1:1<=nrem)
  (h:∀ m st',SB lo st0 st'->1<=m->m<=nrem->Sin (arrOf st') lo m->Q (some m) st'):wpS (model prog w) A E s (tY lo nrem) Q st0:=by
 have hB:SB lo st0 st0:=⟨Array.Perm.refl _,hk,rfl,rfl,fun _ _=>rfl⟩;unfold tY;walk_at "countRun"
 refine wpS_bind (wpS_mono (wpS_forRange (I:=fun x c st'=>st'=st0/\c=(none,x)/\Sin (arrOf st0) lo x)
  (Q:=fun c st'=>st'=st0/\∃ n,c=(none,n)/\1<=n/\n<=nrem/\Sin (arrOf st0) lo n/\(n=nrem∨K (arrOf st0) (lo+n)<K (arrOf st0) (lo+n-1))) ?step ?fin ⟨rfl,rfl,HZ _ _⟩) ?post)
 case fin =>
  rintro c st' ⟨rfl,rfl,hs⟩;rw[show max 1 nrem=nrem by omega]at hs ⊢
  exact⟨rfl,nrem,rfl,n1,JF _,hs,.inl rfl⟩
 case step =>
  rintro x c st' h1 h2 ⟨rfl,rfl,hs⟩;dsimp only;refine wpS_bind (jT hB h0 (by omega) (by omega) ?_)
  by_cases z:K (arrOf st') (lo+x)<K (arrOf st') (lo+x-1)
  ·simp only[z,decide_true,if_true];exact wpS_pure ⟨rfl,x,rfl,h1,by omega,hs,.inr z⟩
  ·simp only[z,decide_false,Kv,if_false];exact wpS_pure ⟨rfl,rfl,GF hs h1 z⟩
 case post =>
  rintro c st' ⟨rfl,n,rfl,g1,g2,hs,hor⟩;walk_at "st";walk_at "l2";by_cases z:(n == nrem)=true
  ·refine aG z ?_;exact wpS_pure (h n st' hB g1 g2 hs)
  refine aF z ?_;have z':n≠nrem:=by simpa using z
  have hlt:=hor.resolve_left z';extract_lets -underBinder +onlyGivenNames jp;clear_value (ej:jp=_);have hj:∀ st1,SB lo st' st1->Nin (arrOf st1) lo (n+1)->wpS (model prog w) A E s (jp ()) Q st1:=by
   intro st1 hB1 hs1;rw[ej];clear ej jp;walk_at "st";refine wpS_bind (wpS_lift (wpAny_rule ⟨rfl,?_⟩))
   refine wpS_bind (wpS_mono (wpS_forRange (I:=fun x c st2=>SB lo st' st2/\∃ neq,c=(none,x,neq)/\Nin (arrOf st2) lo x/\neq+1<=x/\(∀ i,lo+x-(neq+1)<=i->i<lo+x->K (arrOf st2) i=K (arrOf st2) (lo+x-1)))
    (Q:=fun c st2=>SB lo st' st2/\∃ m neq,c=(none,m,neq)/\1<=m/\m<=nrem/\Nin (arrOf st2) lo m/\neq+1<=m/\(∀ i,lo+m-(neq+1)<=i->i<lo+m->K (arrOf st2) i=K (arrOf st2) (lo+m-1))) ?dstep ?dfin ⟨hB1,0,rfl,hs1,by omega,fun i h1 h2=>by congr 1;omega⟩) ?dpost)
   case dfin =>
    rintro c st2 ⟨hB2,neq,rfl,hs2,q1,q2⟩;rw[show max (n+1) nrem=nrem by omega]at hs2 q1 q2 ⊢
    exact⟨hB2,nrem,neq,rfl,by omega,JF _,hs2,q1,q2⟩
   case dstep =>
    rintro x c st2 h1 h2 ⟨hB2,neq,rfl,hs2,q1,q2⟩;dsimp only;refine wpS_bind (jT hB2 h0 (by omega) (by omega) ?_)
    by_cases z:K (arrOf st2) (lo+x)<K (arrOf st2) (lo+x-1)
    ·simp only[z,decide_true,if_true];have nx:=x9 hs2 (by omega) (LB z)
     by_cases y:neq > 0
     ·refine aG y ?_;refine wpS_bind (lE hB2 (by omega) (by omega) fun st3 hB3 e3=>?_)
      have e3':∀ k,K (arrOf st3) k=K (arrOf st2) k:=fun k=>by
       rw[e3];split
       ·rename_i hk;rw[q2 _ (by omega) (by omega),q2 k (by omega) (by omega)]
       ·rfl
      refine wpS_pure ⟨hB3,0,rfl,fun i j a1 a2 a3=>?_,by omega,fun i h1 h2=>by congr 1;omega⟩
      rw[e3',e3'];exact nx i j a1 a2 a3
     ·refine aF y ?_;exact wpS_pure ⟨hB2,0,rfl,nx,by omega,fun i h1 h2=>by congr 1;omega⟩
    ·simp only[z,decide_false,Kv,if_false];refine wpS_bind (jT hB2 h0 (by omega) (by omega) ?_)
     by_cases y:K (arrOf st2) (lo+x-1)<K (arrOf st2) (lo+x)
     ·simp only[y,decide_true,if_true];exact wpS_pure ⟨hB2,x,neq,rfl,by omega,by omega,hs2,q1,q2⟩
     ·simp only[y,decide_false,Kv,if_false];have eq:K (arrOf st2) (lo+x)=K (arrOf st2) (lo+x-1):=by omega
      refine wpS_pure ⟨hB2,neq+1,rfl,x9 hs2 (by omega) (by omega),by omega,fun i a1 a2=>?_⟩
      rw[show lo+(x+1)-1=lo+x by omega]
      by_cases ix:i=lo+x
      ·rw[ix]
      ·rw[eq];exact q2 i (by omega) (by omega)
   case dpost =>
    rintro c st2 ⟨hB2,m,neq,rfl,m1,m2,hs2,q1,q2⟩;walk_at "st";walk_at "l4";extract_lets -underBinder +onlyGivenNames jp;clear_value (ej:jp=_);have hj:∀ st3,SB lo st' st3->Nin (arrOf st3) lo m->wpS (model prog w) A E s (jp ()) Q st3:=by
     intro st3 hB3 hs3;rw[ej];clear ej jp;walk_at "st";refine wpS_bind (lE hB3 (JF _) (by omega) fun st4 hB4 e4=>?_)
     have hs4:Sin (arrOf st4) lo m:=fun i j a1 a2 a3=>by
      rw[e4,e4,if_pos (by omega),if_pos (by omega)]
      exact hs3 _ _ (by omega) (by omega) (by omega)
     refine wpS_bind (wpS_mono (wpS_forRange (I:=fun x c st'=>st'=st4/\c=(none,x)/\Sin (arrOf st4) lo x) (Q:=fun c st'=>st'=st4/\∃ n,c=(none,n)/\1<=n/\n<=nrem/\Sin (arrOf st4) lo n) ?ustep ?ufin ⟨rfl,rfl,hs4⟩) ?upost)
     case ufin =>
      rintro c st5 ⟨rfl,rfl,hs5⟩;rw[show max m nrem=nrem by omega]at hs5 ⊢
      exact⟨rfl,nrem,rfl,n1,JF _,hs5⟩
     case ustep =>
      rintro x c st5 h1 h2 ⟨rfl,rfl,hs5⟩;dsimp only;refine wpS_bind (jT hB4 h0 (by omega) (by omega) ?_)
      by_cases z:K (arrOf st5) (lo+x)<K (arrOf st5) (lo+x-1)
      ·simp only[z,decide_true,if_true];exact wpS_pure ⟨rfl,x,rfl,by omega,by omega,hs5⟩
      ·simp only[z,decide_false,Kv,if_false];exact wpS_pure ⟨rfl,rfl,GF hs5 (by omega) z⟩
     case upost =>
      rintro c st5 ⟨rfl,k,rfl,k1,k2,hs5⟩;exact wpS_pure (h k st5 hB4 k1 k2 hs5)
    by_cases y:neq > 0
    ·refine aG y ?_;refine wpS_bind (lE hB2 (by omega) (by omega) fun st3 hB3 e3=>hj st3 hB3 fun i j a1 a2 a3=>?_)
     have e3':∀ k,K (arrOf st3) k=K (arrOf st2) k:=fun k=>by
      rw[e3];split
      ·rename_i hk;rw[q2 _ (by omega) (by omega),q2 k (by omega) (by omega)]
      ·rfl
     rw[e3',e3'];exact hs2 i j a1 a2 a3
    ·refine aF y ?_;exact hj st2 hB2 hs2
  by_cases y:n > 1
  ·refine aG y ?_;refine wpS_bind (jT hB h0 (by omega) (by omega) ?_)
   by_cases r:K (arrOf st') lo<K (arrOf st') (lo+n-1)
   ·simp only[r,decide_true,if_true];exact wpS_pure (h n st' hB g1 g2 hs)
   ·simp only[r,decide_false,Kv,if_false];have all:∀ k,lo<=k->k<lo+n->K (arrOf st') k=K (arrOf st') (lo+n-1):=fun k a1 a2=>by
     have b1:=hs lo k (JF _) a1 a2;have b2:=hs k (lo+n-1) a1 (by omega) (by omega)
     omega
    refine wpS_bind (lE hB (JF _) (by omega) fun st1 hB1 e1=>hj st1 hB1 ?_)
    have e1':∀ k,K (arrOf st1) k=K (arrOf st') k:=fun k=>by
     rw[e1];split
     ·rename_i hk;rw[all _ (by omega) (by omega),all k (by omega) (by omega)]
     ·rfl
    refine x9 (fun i j a1 a2 a3=>?_) (by omega) ?_
    ·rw[e1',e1',all i a1 (by omega),all j (by omega) a3]
     exact KR _
    ·rw[e1',e1'];exact LB hlt
  ·refine aF y ?_;have:n=1:=by omega
   subst this;refine hj st' hB (x9 (fun i j a1 a2 a3=>?_) (by omega) (LB hlt))
   have:i=j:=by omega
   rw[this];exact KR _
noncomputable def nV:Nat->Nat->Nat->StateT SortSt Sem Bool:=sortPriv% PySem.Builtin.binarySort
theorem Er{st0 st:SortSt}{lo n m:Nat}{Q:Bool->SortSt->Prop}(h0:gB (arrOf st0))(hn:lo+n<=(arrOf st0).size)(hm:m<=n)(hB:SB lo st0 st)(hs:Sin (arrOf st) lo m)
  (h:∀ st',SB lo st0 st'->Sin (arrOf st') lo n->Q true st'):wpS (model prog w) A E s (nV lo n m) Q st:=by
 unfold nV;walk_at "binarySort"
 refine wpS_bind (wpS_mono (wpS_forRange (I:=fun k c st'=>c=(none,())/\SB lo st0 st'/\Sin (arrOf st') lo (min k n))
  (Q:=fun c st'=>c=(none,())/\SB lo st0 st'/\Sin (arrOf st') lo n) ?step ?fin ?init) ?post)
 case post =>
  rintro c st' ⟨rfl,hB',hs'⟩;exact wpS_pure (h st' hB' hs')
 case init =>
  refine⟨rfl,hB,fun i j h1 h2 h3=>?_⟩;by_cases z:m=0
  ·have:i=j:=by omega
   rw[this];exact KR _
  ·exact hs i j h1 h2 (by omega)
 case fin =>
  rintro c st' ⟨hc,hB',hs'⟩;refine⟨hc,hB',?_⟩;rwa[show min (max (max m 1) n) n=n by omega]at hs'
 case step =>
  rintro k c st' hak hkn ⟨rfl,hB',hs'⟩;rw[show min k n=k by omega]at hs'
  dsimp only
  refine wpS_bind (wpS_mono (wpS_forRange (I:=fun x c st''=>st''=st'/\∃ l r,c=(none,l,r)/\l<=r/\r<=k/\r-l<=k-x /\
    (∀ i,lo<=i->i<lo+l->K (arrOf st') i<=K (arrOf st') (lo+k))/\(∀ i,lo+r<=i->i<lo+k->K (arrOf st') (lo+k)<K (arrOf st') i))
   (Q:=fun c st''=>st''=st'/\∃ l,c=(none,l,l)/\l<=k /\
    (∀ i,lo<=i->i<lo+l->K (arrOf st') i<=K (arrOf st') (lo+k))/\(∀ i,lo+l<=i->i<lo+k->K (arrOf st') (lo+k)<K (arrOf st') i)) ?istep ?ifin ⟨rfl,0,k,rfl,by omega,by omega,by omega,fun i h1 h2=>by omega,fun i h1 h2=>by omega⟩) ?ipost)
  case ifin =>
   rintro c st'' ⟨rfl,l,r,rfl,q1,q2,q3,q4,q5⟩;have:l=r:=by omega
   subst this;exact⟨rfl,l,rfl,q2,q4,q5⟩
  case istep =>
   rintro x c st'' _ hxk ⟨rfl,l,r,rfl,q1,q2,q3,q4,q5⟩;dsimp only;by_cases z:l ≥ r
   ·refine aG z ?_;have:l=r:=by omega
    subst this;exact wpS_pure ⟨rfl,l,rfl,q2,q4,q5⟩
   ·refine aF z ?_;refine wpS_bind (jT hB' h0 (by omega) (by omega) ?_)
    by_cases y:K (arrOf st'') (lo+k)<K (arrOf st'') (lo+(l+r)/2)
    ·simp only[y,decide_true,if_true];refine wpS_pure ⟨rfl,l,(l+r)/2,rfl,by omega,by omega,by omega,q4,fun i h1 h2=>?_⟩
     have:=hs' (lo+(l+r)/2) i (by omega) h1 h2
     omega
    ·simp only[y,decide_false,Kv,if_false];refine wpS_pure ⟨rfl,(l+r)/2+1,r,rfl,by omega,by omega,by omega,fun i h1 h2=>?_,q5⟩
     have:=hs' i (lo+(l+r)/2) h1 (by omega) (by omega)
     omega
  case ipost =>
   rintro c st'' ⟨rfl,l,rfl,q1,q2,q3⟩;dsimp only;have hks:lo+k<(arrOf st'').size:=by rw[hB'.size];omega
   have el:lo+k-(lo+k-(lo+l))=lo+l:=by omega
   refine wpS_bind ?_;show wpS _ _ _ _ (moveDown' (lo+k) (lo+l)) _ _;rw[moveDown'_eq];refine wpS_modify (wpS_pure ⟨rfl,hB'.set (bubble_perm _ _ _) fun i hi=>?_,?_⟩)
   ·rw[getElem?_bubble hks _ (by omega),el,if_neg (by omega),if_neg (by omega)]
   ·rw[show min (k+1) n=k+1 by omega]
    intro i j h1 h2 h3;show K (bubble (arrOf st'') (lo+k) (lo+k-(lo+l))) i<=K (bubble (arrOf st'') (lo+k) (lo+k-(lo+l))) j;rw[yE hks (by omega),yE hks (by omega),el]
    repeat' split
    all_goals first
     | (exfalso;omega)
     |exact KR _
     |exact q2 _ (by omega) (by omega)
     |exact LB (q3 _ (by omega) (by omega))
     |exact hs' _ _ (by omega) (by omega) (by omega)
end PyProof.RowsP
namespace PyProof.RowsP
open PySem PyProof.Rows
local macro_rules | `(tactic| walk_at "mergeAt") => do
 let n:=Lean.mkIdent (Lean.mkPrivateNameCore `PySem.Builtin.List.W1All `PySem.Builtin.mergeAt)
 `(tactic| delta $n)
local macro_rules | `(tactic| walk_at "st") => `(tactic| try dsimp -zeta -zetaHave only)
local macro_rules | `(tactic| walk_at "l3") => `(tactic| (extract_lets -underBinder +onlyGivenNames a b c; subst a b c))
local macro_rules | `(tactic| walk_at "l11") => `(tactic| (extract_lets -underBinder +onlyGivenNames a b c d e f g h i j k; subst a b c d e f g h i j k; dsimp -zeta -zetaHave only))
local macro_rules | `(tactic| walk_at "l1") => `(tactic| (extract_lets -underBinder +onlyGivenNames a; subst a; try dsimp -zeta -zetaHave only))
local macro_rules | `(tactic| walk_at "l2") => `(tactic| (extract_lets -underBinder +onlyGivenNames a b; subst a b; try dsimp -zeta -zetaHave only))
local macro_rules | `(tactic| walk_at "l4") => `(tactic| (extract_lets -underBinder +onlyGivenNames a b c d; subst a b c d; try dsimp -zeta -zetaHave only))
variable{prog:Program}{w:World}{A:Around}{E:Value->Shared->Prop}{s:Shared} [KF:KeyFn] [LO:LtOk prog w A E s]
theorem rY{P:List Keyed}{i n m:Nat}(hm:m<n):((P.drop i).take n)[m]?=P[i+m]?:=by
 rw[LR,if_pos hm,LD]
theorem GG{P:List Keyed}{i n x y:Nat}{p q:Keyed}(u:Upl ((P.drop i).take n))(hp:P[i+x]?=some p)(hq:P[i+y]?=some q)(h:x<=y)(hy:y<n):ky p<=ky q :=
 Ew u (i:=x) (j:=y) (by rw[rY (by omega)];exact hp) (by rw[rY hy];exact hq) h
theorem AM{st:SortSt}{key:Keyed}{arr:Array Keyed}{base n hint:Nat}{Q:Option Nat->SortSt->Prop}(hk:kindOf st=KeyFn.kd)(hkey:IntP key)(u:Upl ((arr.toList.drop base).take n))(ip:∀ x∈arr.toList,IntP x)(hn:base+n<=arr.size)(hh:hint<n)
  (h:∀ k,k<=n->(∀ i,i<k->fR arr.toList base key i=true)->(∀ i,k<=i->i<n->fR arr.toList base key i=false)->Q (some k) st):wpS (model prog w) A E s ((sortPriv% PySem.Builtin.gallop) false key arr base n hint) Q st:=by
 have la:arr.toList.length=arr.size:=by simp
 refine gD (fR arr.toList base key) hk hkey (fun i hi=>?_) (fun x y hxy hy e=>?_) hh h
 ·have hx:arr.toList[base+i]?=some arr.toList[base+i]:=JB (by omega)
  exact⟨_,by rw[← hx];simp,ip _ (KC _),by rw[m8 hx];rfl⟩
 ·have hx:arr.toList[base+x]?=some arr.toList[base+x]:=JB (by omega)
  have hy':arr.toList[base+y]?=some arr.toList[base+y]:=JB (by omega)
  rw[m8 hy']at e;rw[m8 hx];have:=GG u hx hy' hxy hy;simp only[MX,decide_eq_false_iff_not]at e ⊢;omega
theorem AN{st:SortSt}{key:Keyed}{arr:Array Keyed}{base n hint:Nat}{Q:Option Nat->SortSt->Prop}(hk:kindOf st=KeyFn.kd)(hkey:IntP key)(u:Upl ((arr.toList.drop base).take n))(ip:∀ x∈arr.toList,IntP x)(hn:base+n<=arr.size)(hh:hint<n)
  (h:∀ k,k<=n->(∀ i,i<k->fL arr.toList base key i=true)->(∀ i,k<=i->i<n->fL arr.toList base key i=false)->Q (some k) st):wpS (model prog w) A E s ((sortPriv% PySem.Builtin.gallop) true key arr base n hint) Q st:=by
 have la:arr.toList.length=arr.size:=by simp
 refine gD (fL arr.toList base key) hk hkey (fun i hi=>?_) (fun x y hxy hy e=>?_) hh h
 ·have hx:arr.toList[base+i]?=some arr.toList[base+i]:=JB (by omega)
  exact⟨_,by rw[← hx];simp,ip _ (KC _),by rw[oM hx];rfl⟩
 ·have hx:arr.toList[base+x]?=some arr.toList[base+x]:=JB (by omega)
  have hy':arr.toList[base+y]?=some arr.toList[base+y]:=JB (by omega)
  rw[oM hy']at e;rw[oM hx];have:=GG u hx hy' hxy hy;simp only[decide_eq_true_eq]at e ⊢;omega
theorem Cd{P:List Keyed}{i n k:Nat}{y:Keyed}(h:y∈((P.drop i).take n).drop k):∃ m,k<=m/\m<n/\P[i+m]?=some y:=by
 obtain⟨m,e⟩:=Ce h;have hl:=(JD.mp e).1;rw[JZ]at hl;rw[rY (by omega)]at e
 exact⟨k+m,by omega,by omega,e⟩
theorem fR_sh{P:List Keyed}{i n k:Nat}{v:Keyed}(h:∀ m,k<=m->m<n->fR P i v m=false):∀ y∈((P.drop i).take n).drop k,ky v<ky y:=fun y hy=>by
 obtain⟨m,h1,h2,e⟩:=Cd hy;have:=h m h1 h2;rw[m8 e]at this;simpa using this
theorem fL_sh{P:List Keyed}{i n k:Nat}{v:Keyed}(h:∀ m,k<=m->m<n->fL P i v m=false):∀ y∈((P.drop i).take n).drop k,ky v<=ky y:=fun y hy=>by
 obtain⟨m,h1,h2,e⟩:=Cd hy;have:=h m h1 h2;rw[oM e]at this;simp only[decide_eq_false_iff_not]at this;omega
theorem yo(c:Nat):∀(l:List Keyed)(n:Nat)(xs:Array Keyed),c+n+l.length<=xs.size->((l.zipIdx n).foldl (fun a x=>match x with | (p,j)=>a.setIfInBounds (c+j) p) xs).toList=xs.toList.take (c+n)++l++xs.toList.drop (c+n+l.length)
 |[],n,xs,_=>by
  show xs.toList=_;rw[LZ,LY,Nat.add_zero,Kl]
 |p::l,n,xs,h=>by
  have ll:xs.toList.length=xs.size:=by simp
  rw[Ke]at h ⊢;rw[List.zipIdx_cons,ML];show((l.zipIdx (n+1)).foldl _ (xs.setIfInBounds (c+n) p)).toList=_;rw[yo c l (n+1) _ (by rw[N0];omega),NP,List.drop_set_of_lt (by omega),show c+(n+1)=c+n+1 by omega,show c+n+1+l.length=c+n+(l.length+1) by omega]
  have e:(xs.toList.set (c+n) p).take (c+n+1)=xs.toList.take (c+n)++[p]:=by
   rw[Kn,List.take_set_of_le (JF _),M8 (by omega)]
   rfl
  rw[e,Ko (xs.toList.take (c+n)) [p] l];rfl
theorem xJ{P R:List Keyed}(u:Upl P)(v:Upl R)(c:∀ x∈P,∀ y∈R,ky x<=ky y):Upl (P++R):=KQ.mpr ⟨u,v,c⟩
theorem Hw{σ:Type}{M:Model}{x st:σ}{Q:PUnit->σ->Prop}(h:Q ⟨⟩ x):wpS M A E s (set x:StateT σ Sem PUnit) Q st:=by
 unfold wpS;rw[StateT.run_set];exact wpAny_pure ⟨rfl,h⟩
noncomputable def yd:Nat->StateT SortSt Sem Bool:=sortPriv% PySem.Builtin.mergeAt
theorem uO{st:SortSt}{i sa na pa sb nb pb:Nat}{Q:Bool->SortSt->Prop}(hk:kindOf st=KeyFn.kd)(hf:failedOf st=none)(h0:gB (arrOf st))(p1:(pendingOf st)[i]?=some (sa,na,pa))(p2:(pendingOf st)[i+1]?=some (sb,nb,pb))(es:sb=sa+na)(a1:1<=na)(b1:1<=nb)(le:sb+nb<=(arrOf st).size)
  (s1:Upl (((arrOf st).toList.drop sa).take na)) (s2:Upl (((arrOf st).toList.drop sb).take nb))
  (h:∀(st':SortSt)(M:List Keyed),kindOf st'=KeyFn.kd->failedOf st'=none->pendingOf st'=((pendingOf st).setIfInBounds i (sa,na+nb,pa)).eraseIdxIfInBounds (i+1)->(arrOf st').toList=(arrOf st).toList.take sa++M++(arrOf st).toList.drop (sb+nb)->M.Perm (((arrOf st).toList.drop sa).take na++((arrOf st).toList.drop sb).take nb)->Upl M->Q true st') :
  wpS (model prog w) A E s (yd i) Q st:=by
 unfold yd;walk_at "mergeAt";refine wpS_bind (wpS_get ?_);rw[show((sortPriv% PySem.Builtin.SortState.pending) st)[i]?=some (sa,na,pa) from p1,show((sortPriv% PySem.Builtin.SortState.pending) st)[i+1]?=some (sb,nb,pb) from p2];dsimp -zeta -zetaHave only;refine wpS_bind (Hw ?_);obtain⟨xs,exs⟩:∃ xs,arrOf st=xs:=⟨_,rfl⟩;obtain⟨st1,est1⟩:∃ st1:SortSt,SortSt.mk' (kindOf st) (arrOf st) (((pendingOf st).setIfInBounds i (sa,na+nb,pa)).eraseIdxIfInBounds (i+1)) (gallopOf st) (failedOf st)=st1:=⟨_,rfl⟩;have k1:kindOf st1=KeyFn.kd:=by rw[← est1];exact hk
 have f1:failedOf st1=none:=by rw[← est1];exact hf
 have e1:arrOf st1=xs:=by rw[← est1,← exs]
 have q1:pendingOf st1=((pendingOf st).setIfInBounds i (sa,na+nb,pa)).eraseIdxIfInBounds (i+1):=by rw[← est1]
 show wpS (model prog w) A E s _ Q (SortSt.mk' (kindOf st) (arrOf st) (((pendingOf st).setIfInBounds i (sa,na+nb,pa)).eraseIdxIfInBounds (i+1)) (gallopOf st) (failedOf st));rw[est1];clear est1;rw[show(sortPriv% PySem.Builtin.SortState.a) st=xs from exs];rw[exs]at h0 le s1 s2 h;clear exs p1 p2 hf hk;have ll:xs.toList.length=xs.size:=by simp
 have ip:∀ x∈xs.toList,IntP x:=fun x hx=>h0 x hx;have at':∀ i,i<xs.size->∃ x,xs.toList[i]?=some x/\IntP x:=fun i hi=>⟨_,JB (by omega),ip _ (KC _)⟩
 obtain⟨b0,hb0,ib0⟩:=at' sb (by omega)
 refine wpS_bind (aO (at_l hb0) ?_);refine wpS_bind (AM k1 ib0 s1 ip (by omega) (by omega) fun k kn kt kf=>?_)
 dsimp -zeta -zetaHave only;obtain⟨S1,eS1⟩:∃ S1,(xs.toList.drop sa).take na=S1:=⟨_,rfl⟩;obtain⟨S2,eS2⟩:∃ S2,(xs.toList.drop sb).take nb=S2:=⟨_,rfl⟩;have l1:S1.length=na:=by rw[← eS1,JZ,Ku];omega
 have l2:S2.length=nb:=by rw[← eS2,JZ,Ku];omega
 have tk1:S1.take k=(xs.toList.drop sa).take k:=by rw[← eS1,MR,LX kn]
 have lo1:∀ x∈S1.take k,ky x<=ky b0:=by rw[tk1];exact I9 kt
 have hi1:∀ y∈S1.drop k,ky b0<ky y:=by rw[← eS1];exact fR_sh kf
 have bS:S2[0]?=some b0:=by rw[← eS2,rY (by omega)];exact hb0
 rw[eS1]at s1;rw[eS2]at s2;have b0l:∀ y∈S2,ky b0<=ky y:=iE (i:=0) s2 bS
 have whole:Upl (S1++S2)->Q true st1:=fun u=>h st1 (S1++S2) k1 f1 q1 (by
  rw[e1,← eS1,← eS2,← Ko,es,← MI,← MI,← es,Kl]) (by rw[eS1,eS2]) u
 by_cases z:(na-k == 0)=true
 ·refine aG z ?_;have z':na-k=0:=by simpa using z
  refine wpS_pure (whole (xJ s1 s2 fun x hx y hy=>?_));have:=lo1 x (by rw[KA (by omega)];exact hx)
  have:=b0l y hy;omega
 refine aF z ?_;have z':na-k≠0:=by simpa using z
 obtain⟨al,hal,ial⟩:=at' (sa+k+(na-k)-1) (by omega)
 have aS:S1[na-1]?=some al:=by rw[← eS1,rY (by omega),← hal];congr 1;omega
 refine wpS_bind (aO (at_l hal) ?_);refine wpS_bind (AN k1 ial (by rw[eS2];exact s2) ip (by omega) (by omega) fun m mn mt mf=>?_)
 dsimp -zeta -zetaHave only;have tk2:S2.take m=(xs.toList.drop sb).take m:=by rw[← eS2,MR,LX mn]
 have lo2:∀ x∈S2.take m,ky x<ky al:=by rw[tk2];exact Jb mt
 have hi2:∀ y∈S2.drop m,ky al<=ky y:=by rw[← eS2];exact fL_sh mf
 have all:∀ x∈S1,ky x<=ky al:=fun x hx=>jU s1 aS x (by rw[KA (by omega)];exact hx)
 by_cases y:(m == 0)=true
 ·refine aG y ?_;have y':m=0:=by simpa using y
  subst y';exact wpS_pure (whole (xJ s1 s2 fun x hx y hy=>Int.le_trans (all x hx) (hi2 y hy)))
 refine aF y ?_;have y':m≠0:=by simpa using y
 walk_at "st";extract_lets -underBinder +onlyGivenNames xx yy jp;subst xx yy;clear_value (ej:jp=_);have ea:(xs.extract (sa+k) sb).toList=S1.drop k:=by
  rw[qR,← eS1,MA,MA,Me];congr 1;omega
 have eb:(xs.extract sb (sb+m)).toList=S2.take m:=by rw[lZ,tk2]
 have za:(xs.extract (sa+k) sb).size=na-k:=by rw[← Kg,ea,Ku,l1]
 have zb:(xs.extract sb (sb+m)).size=m:=by rw[← Kg,eb,JZ];omega
 have ipa:∀ x∈(xs.extract (sa+k) sb).toList,IntP x:=fun x hx=>by
  rw[qR]at hx;exact ip x (K9 (La hx))
 have ipb:∀ x∈(xs.extract sb (sb+m)).toList,IntP x:=fun x hx=>by
  rw[lZ]at hx;exact ip x (La (K9 hx))
 have ua:Upl (xs.extract (sa+k) sb).toList:=by rw[ea];exact s1.drop
 have ub:Upl (xs.extract sb (sb+m)).toList:=by rw[eb];exact s2.take
 have c0:∀ x y:Keyed,(xs.extract sb (sb+m)).toList[0]?=some x->y∈(xs.extract (sa+k) sb).toList->ky x<ky y:=fun x y hx hy=>by
  rw[eb,LR,if_pos (by omega),bS]at hx
  cases hx
  rw[ea]at hy;exact hi1 y hy
 have cl:∀ x y:Keyed,x∈(xs.extract sb (sb+m)).toList->(xs.extract (sa+k) sb).toList[(xs.extract (sa+k) sb).size-1]?=some y->ky x<ky y:=fun x y hx hy=>by
  rw[za,ea,LD,show k+(na-k-1)=na-1 by omega,aS]at hy
  cases hy
  rw[eb]at hx;exact lo2 x hx
 have hj:∀(R:Array Keyed)(st2:SortSt),SmG st1 st2->R.toList.Perm ((xs.extract (sa+k) sb).toList++(xs.extract sb (sb+m)).toList)->Upl R.toList->wpS (model prog w) A E s (jp R) Q st2:=by
  intro R st2 sg pm up;rw[ej];clear ej jp;walk_at "st";rw[ea,eb]at pm;have rl:R.toList.length=na-k+m:=by rw[pm.length_eq,JN,Ku,JZ,l1,l2];omega
  refine wpS_bind (wpS_modify ?_);refine wpS_bind (wpS_get ?_);have ff:(sortPriv% PySem.Builtin.SortState.failed) st2=none:=sg.f.trans f1;show wpS (model prog w) A E s (pure ((sortPriv% PySem.Builtin.SortState.failed) st2).isNone) Q _;rw[ff];have tk:∀ x∈S1.take k,∀ y∈S1.drop k,ky x<=ky y:=by
   have:Upl (S1.take k++S1.drop k):=by rw[Kl];exact s1
   exact(KQ.mp this).2.2
  have tk':∀ x∈S2.take m,∀ y∈S2.drop m,ky x<=ky y:=by
   have:Upl (S2.take m++S2.drop m):=by rw[Kl];exact s2
   exact(KQ.mp this).2.2
  refine wpS_pure (h _ (S1.take k++R.toList++S2.drop m) (sg.k.trans k1) rfl (sg.p.trans q1) ?_ ?_ ?_)
  ·show(R.toList.zipIdx.foldl (fun a x=>match x with | (p,j)=>a.setIfInBounds (sa+k+j) p) (arrOf st2)).toList=_
   rw[sg.a,e1,yo (sa+k) R.toList 0 xs (by omega),Nat.add_zero,rl,show sa+k+(na-k+m)=sb+m by omega,MI,← tk1]
   have ed:xs.toList.drop (sb+m)=S2.drop m++xs.toList.drop (sb+nb):=by
    rw[← Me,← eS2];have e:=congrArg (List.drop m) (Kl nb (xs.toList.drop sb));rw[NF,JZ,Ku,show m-min nb (xs.toList.length-sb)=0 by omega,Md,Me]at e
    exact e.symm
   rw[ed];simp only[Ko]
  ·rw[eS1,eS2];have e:S1++S2=S1.take k++(S1.drop k++S2.take m)++S2.drop m:=by
    rw[Ko,Ko,Kl,← Ko,Kl]
   rw[e];exact(Lp _ pm).append_right _
  ·refine xJ (xJ s1.take up fun x hx y hy=>?_) s2.drop fun x hx y hy=>?_
   ·rcases JW.mp (pm.mem_iff.mp hy)with hy | hy
    ·exact tk x hx y hy
    ·have:=lo1 x hx
     have:=b0l y (K9 hy);omega
   ·rcases JW.mp hx with hx | hx
    ·have:=lo1 x hx
     have:=b0l y (La hy);omega
    ·rcases JW.mp (pm.mem_iff.mp hx)with hx | hx
     ·exact Int.le_trans (all x (La hx)) (hi2 y hy)
     ·exact tk' x hx y hy
 clear ej;by_cases c:na-k<=m
 ·refine aG c ?_;exact wpS_bind (uM k1 ua ub ipa ipb (by omega) (by omega) (fun x y a b=>LB (c0 x y a b)) cl fun R st2 sg pm up=>hj R st2 sg pm up)
 ·refine aF c ?_;exact wpS_bind (uN k1 ua ub ipa ipb (by omega) (by omega) c0 cl fun R st2 sg pm up=>hj R st2 sg pm up)
end PyProof.RowsP
namespace PyProof.RowsP
open PySem PyProof.Rows
local macro_rules | `(tactic| walk_at "sortRuns") => do
 let n:=Lean.mkIdent (Lean.mkPrivateNameCore `PySem.Builtin.List.W1All `PySem.Builtin.sortRuns)
 `(tactic| delta $n)
local macro_rules | `(tactic| walk_at "st") => `(tactic| try dsimp -zeta -zetaHave only)
local macro_rules | `(tactic| walk_at "l3") => `(tactic| (extract_lets -underBinder +onlyGivenNames a b c; subst a b c))
local macro_rules | `(tactic| walk_at "l11") => `(tactic| (extract_lets -underBinder +onlyGivenNames a b c d e f g h i j k; subst a b c d e f g h i j k; dsimp -zeta -zetaHave only))
local macro_rules | `(tactic| walk_at "l1") => `(tactic| (extract_lets -underBinder +onlyGivenNames a; subst a; try dsimp -zeta -zetaHave only))
local macro_rules | `(tactic| walk_at "l2") => `(tactic| (extract_lets -underBinder +onlyGivenNames a b; subst a b; try dsimp -zeta -zetaHave only))
local macro_rules | `(tactic| walk_at "l4") => `(tactic| (extract_lets -underBinder +onlyGivenNames a b c d; subst a b c d; try dsimp -zeta -zetaHave only))
variable{prog:Program}{w:World}{A:Around}{E:Value->Shared->Prop}{s:Shared} [KF:KeyFn] [LO:LtOk prog w A E s]
noncomputable def Rn(L:List Keyed):List (Nat×Nat×Nat)->Nat->Nat->Prop
 |[],c,e=>c=e
 |p::t,c,e=>p.1=c/\1<=p.2.1/\Upl ((L.drop p.1).take p.2.1)/\Rn L t (c+p.2.1) e
theorem Rn.le{L:List Keyed}:∀{T:List (Nat×Nat×Nat)}{c e:Nat},Rn L T c e->c+T.length<=e
 |[],c,e,h=>by cases h;exact JF _
 |p::t,c,e,⟨_,h1,_,h⟩=>by
  have:=Rn.le h;rw[Ke];omega
theorem Rn.app{L:List Keyed}:∀{T1 T2:List (Nat×Nat×Nat)}{c e:Nat},Rn L (T1++T2) c e↔∃ m,Rn L T1 c m/\Rn L T2 m e
 |[],T2,c,e=>⟨fun h=>⟨c,rfl,h⟩,fun⟨m,h1,h2⟩=>by cases h1;exact h2⟩
 |p::t,T2,c,e=>by
  constructor
  ·rintro⟨h1,h2,h3,h4⟩;obtain⟨m,g1,g2⟩:=Rn.app.mp h4;exact⟨m,⟨h1,h2,h3,g1⟩,g2⟩
  ·rintro⟨m,⟨h1,h2,h3,g1⟩,g2⟩;exact⟨h1,h2,h3,Rn.app.mpr ⟨m,g1,g2⟩⟩
theorem Rn.lo{L L':List Keyed}{m:Nat}(hm:L.take m=L'.take m):∀{T:List (Nat×Nat×Nat)}{c e:Nat},Rn L T c e->e<=m->Rn L' T c e
 |[],c,e,h,_=>h
 |p::t,c,e,⟨h1,h2,h3,h4⟩,he=>by
  have hl:=h4.le;refine⟨h1,h2,?_,Rn.lo hm h4 he⟩;have cut:∀ Z:List Keyed,(Z.drop p.1).take p.2.1=((Z.take m).drop p.1).take p.2.1:=fun Z=>by
   rw[MA,MR,LX (by omega)]
  rw[cut L',← hm,← cut L];exact h3
theorem Rn.hi{L L':List Keyed}{m:Nat}(hm:L.drop m=L'.drop m):∀{T:List (Nat×Nat×Nat)}{c e:Nat},Rn L T c e->m<=c->Rn L' T c e
 |[],c,e,h,_=>h
 |p::t,c,e,⟨h1,h2,h3,h4⟩,he=>by
  refine⟨h1,h2,?_,Rn.hi hm h4 (by omega)⟩
  have cut:∀ Z:List Keyed,Z.drop p.1=(Z.drop m).drop (p.1-m):=fun Z=>by rw[Me];congr 1;omega
  rw[cut L',← hm,← cut L];exact h3
theorem Rn.like{L:List Keyed}:∀{T T':List (Nat×Nat×Nat)}{c e:Nat},T.map (fun p=>(p.1,p.2.1))=T'.map (fun p=>(p.1,p.2.1))->Rn L T c e->Rn L T' c e
 |[],[],c,e,_,h=>h
 |p::t,q::t',c,e,hm,⟨h1,h2,h3,h4⟩=>by
  rw[JQ,JQ]at hm;injection hm with a b;injection a with a1 a2;refine⟨by rw[← a1];exact h1,by rw[← a2];exact h2,by rw[← a1,← a2];exact h3,?_⟩
  rw[← a2];exact Rn.like b h4
 |[],q::t',c,e,hm,h=>by cases hm
 |p::t,[],c,e,hm,h=>by cases hm
structure SI(a₀:Array Keyed)(lo:Nat)(st:SortSt):Prop where
 perm:(arrOf st).Perm a₀
 kind:kindOf st=KeyFn.kd
 failed:failedOf st=none
 rn:Rn (arrOf st).toList (pendingOf st).toList 0 lo
 le:lo<=a₀.size
theorem SI.size{a₀:Array Keyed}{lo:Nat}{st:SortSt}(h:SI a₀ lo st):(arrOf st).size=a₀.size:=h.perm.size_eq
theorem SI.keys{a₀:Array Keyed}{lo:Nat}{st:SortSt}(h:SI a₀ lo st)(h0:gB a₀):gB (arrOf st):=fun p hp=>h0 p ((Ma.mp h.perm).mem_iff.mp hp)
theorem ma{a₀:Array Keyed}{lo i:Nat}{st:SortSt}{Q:Bool->SortSt->Prop}(h0:gB a₀)(hS:SI a₀ lo st)(hi:i+1<(pendingOf st).size)(h:∀ st',SI a₀ lo st'->(pendingOf st').size+1=(pendingOf st).size->(arrOf st').toList.drop lo=(arrOf st).toList.drop lo->Q true st') :
  wpS (model prog w) A E s ((sortPriv% PySem.Builtin.mergeAt) i) Q st:=by
 have tl:(pendingOf st).toList.length=(pendingOf st).size:=by simp
 obtain⟨T,eT⟩:∃ T,(pendingOf st).toList=T:=⟨_,rfl⟩;rw[eT]at tl;have g1:(pendingOf st)[i]?=some T[i]:=by rw[← JB,← eT];simp
 have g2:(pendingOf st)[i+1]?=some T[i+1]:=by rw[← JB,← eT];simp
 have sp:T=T.take i++T[i]::T[i+1]::T.drop (i+2):=by
  rw[← LW,← LW,Kl]
 obtain⟨T1,eT1⟩:∃ T1,T.take i=T1:=⟨_,rfl⟩;obtain⟨T2,eT2⟩:∃ T2,T.drop (i+2)=T2:=⟨_,rfl⟩;obtain⟨⟨sa,na,pa⟩,ep⟩:∃ p,T[i]=p:=⟨_,rfl⟩;obtain⟨⟨sb,nb,pb⟩,eq⟩:∃ p,T[i+1]=p:=⟨_,rfl⟩;have t1l:T1.length=i:=by rw[← eT1,JZ];omega
 rw[ep]at g1;rw[eq]at g2;rw[eT1,eT2,ep,eq]at sp;have rn:=hS.rn;rw[eT,sp]at rn;obtain⟨m,r1,⟨x1,x2,x3,⟨y1,y2,y3,r2⟩⟩⟩:=Rn.app.mp rn;dsimp only at x1 x2 x3 y1 y2 y3 r2;have le2:=r2.le;have le:=hS.le;have sz:=hS.size;have ll:(arrOf st).toList.length=(arrOf st).size:=by simp
 refine uO hS.kind hS.failed (hS.keys h0) g1 g2 (by omega) x2 y2 (by omega) x3 y3 fun st' M k' f' p' e' pm up=>?_
 have Ml:M.length=na+nb:=by
  rw[pm.length_eq,JN,JZ,JZ,Ku,Ku];omega
 have hpp:(pendingOf st').toList=T1++(sa,na+nb,pa)::T2:=by
  rw[p'];have:(((pendingOf st).setIfInBounds i (sa,na+nb,pa)).eraseIdxIfInBounds (i+1)).toList=(T.set i (sa,na+nb,pa)).eraseIdx (i+1):=by
   unfold Array.eraseIdxIfInBounds;rw[dif_pos (by rw[N0];exact hi),Array.toList_eraseIdx,NP,eT]
  rw[this,sp,← t1l,List.set_append_right _ _ (JF _),Ln,List.set_cons_zero,List.eraseIdx_append_of_length_le (by omega),show T1.length+1-T1.length=1 by omega]
  rfl
 have ptl:(pendingOf st').size+1=(pendingOf st).size:=by
  have a:=congrArg Nr hpp;have b:=congrArg Nr sp;simp only[JN,Ke,Kg]at a b;omega
 have es:sb=sa+na:=by omega
 have lt:((arrOf st).toList.take sa).length=sa:=by rw[JZ];omega
 have tke:(arrOf st).toList.take m=(arrOf st').toList.take m:=by
  rw[e',Ko,NB (by omega),MR,x1,Nat.min_self]
 have dre:(arrOf st).toList.drop (sb+nb)=(arrOf st').toList.drop (sb+nb):=by
  rw[e',List.drop_left' (by rw[JN,lt,Ml];omega)]
 refine h st' ⟨?_,k',f',?_,le⟩ ptl (by
  have e:=congrArg (List.drop (lo-(sb+nb))) dre;rw[Me,Me,show sb+nb+(lo-(sb+nb))=lo by omega]at e
  exact e.symm)
 ·refine Array.Perm.trans (Ma.mpr ?_) hS.perm;rw[e'];have e2:(arrOf st).toList=(arrOf st).toList.take sa++(((arrOf st).toList.drop sa).take na++((arrOf st).toList.drop sb).take nb)++(arrOf st).toList.drop (sb+nb):=by
   have es:sb=sa+na:=by omega
   rw[← Ko,es,← MI,← MI,Kl]
  exact((Lp _ pm).append_right _).trans (List.Perm.of_eq e2.symm)
 ·rw[hpp];refine Rn.app.mpr ⟨m,r1.lo tke (JF _),x1,by show 1<=na+nb;omega,?_,?_⟩
  ·show Upl (((arrOf st').toList.drop sa).take (na+nb));have:((arrOf st').toList.drop sa).take (na+nb)=M:=by
    rw[e',Ko,NF,lt,Ln,Md,M9 (by omega),List.nil_append,NB (by omega),KA (by omega)]
   rw[this];exact up
  ·show Rn _ T2 (m+(na+nb)) lo;have:=r2.hi dre (by omega)
   rw[show m+(na+nb)=m+na+nb by omega]
   exact this
theorem HY{xs:Array Keyed}{lo n:Nat}(h:Sin xs lo n)(hn:lo+n<=xs.size):Upl ((xs.toList.drop lo).take n):=by
 have ll:xs.toList.length=xs.size:=by simp
 refine Lz.mpr fun i j hi hj hij=>?_;rw[JZ,Ku]at hj;rw[Mx,Nz,Mx,Nz];have z:=h (lo+i) (lo+j) (by omega) (by omega) (by omega)
 rw[K_eq (by omega),K_eq (by omega)]at z
 simpa[ky] using z
theorem SB.si{a₀:Array Keyed}{lo:Nat}{st0 st:SortSt}(h:SB lo st0 st)(hS:SI a₀ lo st0):SI a₀ lo st:=by
 refine⟨h.perm.trans hS.perm,h.kind,h.failed.trans hS.failed,?_,hS.le⟩;rw[h.pend];refine hS.rn.lo (MV fun i=>?_) (JF _);rw[LR,LR];split
 ·rename_i hi;have:=h.low i hi;rw[← KL,← KL]at this;exact this.symm
 ·rfl
theorem ite_lt(c:Bool){n:Nat}(h:¬ n<=1):(if c=true then n-2-1 else n-2)+1<n:=by split<;>omega
noncomputable def rP:StateT SortSt Sem Unit:=sortPriv% PySem.Builtin.sortRuns
theorem wpS_sortAll{a₀:Array Keyed}{st:SortSt}{Q:Unit->SortSt->Prop}(h0:gB a₀)(hS:SI a₀ 0 st)(h:∀ st',(arrOf st').Perm a₀->failedOf st'=none->Upl (arrOf st').toList->Q () st'):wpS (model prog w) A E s rP Q st:=by
 unfold rP;walk_at "sortRuns";refine wpS_bind (wpS_get ?_);rw[show((sortPriv% PySem.Builtin.SortState.a) st).size=a₀.size from hS.size];walk_at "st";walk_at "l3";generalize (sortPriv% PySem.Builtin.minRun) a₀.size a₀.size 0=mr;refine wpS_bind (wpS_mono (wpS_forRange (I:=fun x c st'=>∃ lo,c=(none,lo)/\SI a₀ lo st'/\(lo=a₀.size∨x<=lo)) (Q:=fun c st'=>c=(none,a₀.size)/\SI a₀ a₀.size st') ?step ?fin ⟨0,rfl,hS,.inr (JF _)⟩) ?post)
 case fin =>
  rintro c st' ⟨lo,rfl,hS',g⟩;have:=hS'.le;have:lo=a₀.size:=by omega
  subst this;exact⟨rfl,hS'⟩
 case step =>
  rintro x c st' _ hx ⟨lo,rfl,hS',g⟩;have le:=hS'.le;have sz:=hS'.size;by_cases z:lo ≥ a₀.size
  ·refine aG z ?_;have:lo=a₀.size:=by omega
   subst this;exact wpS_pure ⟨rfl,hS'⟩
  refine aF z ?_;refine uP fun R hR=>?_;refine wpS_bind (yK hS'.kind (hS'.keys h0) (by omega) (by omega) fun m st1 hB1 m1 m2 hs1=>?_)
  walk_at "st";extract_lets -underBinder +onlyGivenNames nn jp;subst nn;clear_value (ej:jp=_);have hj:∀(n:Nat)(st2:SortSt),SB lo st' st2->1<=n->lo+n<=a₀.size->Sin (arrOf st2) lo n->wpS (model prog w) A E s (jp () n) R st2:=by
   intro n st2 hB2 n1 n2 hs2;rw[ej];clear ej jp;walk_at "st";have S2:=hB2.si hS';have u2:=HY hs2 (by rw[S2.size];exact n2)
   refine wpS_bind (wpS_get ?_);walk_at "st";extract_lets -underBinder +onlyGivenNames jp;clear_value (ej:jp=_);have hj:∀ st3:SortSt,SI a₀ lo st3->(arrOf st3).toList.drop lo=(arrOf st2).toList.drop lo->wpS (model prog w) A E s (jp ()) R st3:=by
    intro st3 S3 e3;rw[ej];clear ej jp;walk_at "st";refine wpS_bind (wpS_modify (wpS_pure (hR _ _ ⟨lo+n,rfl,⟨S3.perm,S3.kind,S3.failed,?_,n2⟩,?_⟩)))
    ·show Rn (arrOf st3).toList ((pendingOf st3).push (lo,n,0)).toList 0 (lo+n);rw[Lx];refine Rn.app.mpr ⟨lo,S3.rn,rfl,n1,?_,rfl⟩;show Upl (((arrOf st3).toList.drop lo).take n);rw[e3];exact u2
    ·rcases g with g | g
     ·exact absurd g (by omega)
     ·exact .inr (by omega)
   clear ej
   cases eb:((sortPriv% PySem.Builtin.SortState.pending) st2).back? with
   |none=>exact hj st2 S2 rfl
   |some p =>
    obtain⟨s1,n1',p1⟩:=p;walk_at "st";extract_lets -underBinder +onlyGivenNames pw;clear_value pw;refine wpS_bind (wpS_mono (wpS_forRange (I:=fun _ c st3=>c=(none,())/\SI a₀ lo st3/\(arrOf st3).toList.drop lo=(arrOf st2).toList.drop lo) (Q:=fun c st3=>c=(none,())/\SI a₀ lo st3/\(arrOf st3).toList.drop lo=(arrOf st2).toList.drop lo) ?pstep (fun c st3 q=>q) ⟨rfl,S2,rfl⟩) ?ppost)
    case pstep =>
     rintro y c st3 _ hy ⟨rfl,S3,e3⟩;refine wpS_bind (wpS_get ?_);walk_at "st";walk_at "l1";by_cases big:((sortPriv% PySem.Builtin.SortState.pending) st3).size > 1
     ·rw[if_pos big];obtain⟨⟨q1,q2,q3⟩,eq⟩:∃ p,((sortPriv% PySem.Builtin.SortState.pending) st3)[((sortPriv% PySem.Builtin.SortState.pending) st3).size-2]?=some p:=⟨_,getElem?_pos _ _ (by omega)⟩
      rw[eq];dsimp -zeta -zetaHave only;split
      ·exact wpS_pure ⟨rfl,S3,e3⟩
      ·exact wpS_bind (ma h0 S3 (show(pendingOf st3).size-2+1<(pendingOf st3).size from by have:(pendingOf st3).size > 1:=big;omega) fun st4 S4 _ e4=>wpS_pure ⟨rfl,S4,e4.trans e3⟩)
     ·rw[if_neg big];exact wpS_pure ⟨rfl,S3,e3⟩
    case ppost =>
     rintro c st3 ⟨rfl,S3,e3⟩;walk_at "st";walk_at "l1";refine wpS_bind (wpS_modify (hj _ ⟨S3.perm,S3.kind,S3.failed,?_,S3.le⟩ e3));refine Rn.like ?_ S3.rn;show _=List.map _ ((pendingOf st3).modify _ _).toList;rw[Array.toList_modify];refine MV fun i=>?_;rw[JJ,JJ,List.getElem?_modify]
     cases (pendingOf st3).toList[i]? with
     |none=>rfl
     |some p =>
      show some (p.1,p.2.1)=some ((if _=i then _ else p).1,(if _=i then _ else p).2.1);split<;>rfl
  clear ej;by_cases c:m<mr
  ·refine aG c ?_;refine wpS_bind (wpS_lift (wpAny_rule ⟨rfl,?_⟩));refine wpS_bind (Er (hS'.keys h0) (by rw[sz];omega) (by omega) hB1 hs1 fun st2 hB2 hs2=>?_)
   exact hj _ st2 hB2 (by omega) (by omega) hs2
  ·refine aF c ?_;exact hj m st1 hB1 m1 (by omega) hs1
 case post =>
  rintro c st' ⟨rfl,hS'⟩;walk_at "st";walk_at "l1";have pl:(pendingOf st').size<=a₀.size:=by
   have:=hS'.rn.le;rw[Kg]at this;omega
  refine wpS_bind (wpS_mono (wpS_forRange (I:=fun x c st3=>c=(none,())/\SI a₀ a₀.size st3/\((pendingOf st3).size<=1∨(pendingOf st3).size+x<=a₀.size)) (Q:=fun c st3=>c=(none,())/\SI a₀ a₀.size st3/\(pendingOf st3).size<=1) ?fstep ?ffin ⟨rfl,hS',.inr pl⟩) ?fpost)
  case ffin =>
   rintro c st3 ⟨rfl,S3,g⟩;exact⟨rfl,S3,by omega⟩
  case fpost =>
   rintro c st3 ⟨rfl,S3,g⟩;refine wpS_pure (h st3 S3.perm S3.failed ?_);have rn:=S3.rn;have sz:=S3.size;have ll:(arrOf st3).toList.length=(arrOf st3).size:=by simp
   have tl:(pendingOf st3).toList.length=(pendingOf st3).size:=by simp
   match e:(pendingOf st3).toList with
   |[] =>
    rw[e]at rn;have rn':0=a₀.size:=rn;rw[LF (show(arrOf st3).toList.length=0 by omega)]
    exact My
   |[p] =>
    rw[e]at rn;obtain⟨r1,_,r3,r4⟩:=rn;have r4':0+p.2.1=a₀.size:=r4;rw[r1,Md,KA (by omega)]at r3
    exact r3
   |p::q::t =>
    rw[e]at tl;simp only[Ke]at tl;omega
  case fstep =>
   rintro x c st3 _ hx ⟨rfl,S3,g⟩;refine wpS_bind (wpS_get ?_);by_cases z:((sortPriv% PySem.Builtin.SortState.pending) st3).size<=1
   ·refine aG z ?_;exact wpS_pure ⟨rfl,S3,z⟩
   refine aF z ?_;refine wpS_bind (ma h0 S3 (ite_lt _ z) fun st4 S4 p4 _=>wpS_pure ⟨rfl,S4,?_⟩);have z':¬ (pendingOf st3).size<=1:=z;omega
end PyProof.RowsP
namespace L2
open PySem PySem.Spec PyProof.Rows
theorem Gh{xs:Array Nat}{j:Nat}(hs:xs.toList.Pairwise (· < ·)):∀(fuel lo hi:Nat),hi-lo<=fuel->lo<=hi->hi<=xs.size->(∀ i,i<lo->xs.getD i j<j)->(∀ i,hi<=i->i<xs.size->j<=xs.getD i j) ->
  (∀ i,i<SetTable.below.go xs j fuel lo hi->xs.getD i j<j)/\(∀ i,SetTable.below.go xs j fuel lo hi<=i->i<xs.size->j<=xs.getD i j)/\SetTable.below.go xs j fuel lo hi<=xs.size:=by
 have up:∀ a b,a<b->b<xs.size->xs.getD a j<xs.getD b j:=fun a b hab hb=>by
  have ha:a<xs.size:=LL hab hb;have:=Lz.mp hs a b (by simpa using ha) (by simpa using hb) hab
  simpa[Nk,ha,hb] using this
 intro fuel;induction fuel with
 |zero =>
  intro lo hi h1 h2 h3 h4 h5;have:lo=hi:=by omega
  subst this;exact⟨h4,h5,h3⟩
 |succ fuel ih =>
  intro lo hi h1 h2 h3 h4 h5;unfold SetTable.below.go;by_cases c:lo<hi
  ·rw[if_pos c];have m1:lo<=(lo+hi)/2:=by omega
   have m2:(lo+hi)/2<hi:=by omega
   dsimp only;by_cases d:xs.getD ((lo+hi)/2) j<j
   ·rw[if_pos d];refine ih _ _ (by omega) (by omega) h3 (fun i hi'=>?_) h5
    by_cases e:i=(lo+hi)/2
    ·rw[e];exact d
    ·exact LL (up i _ (by omega) (by omega)) d
   ·rw[if_neg d];refine ih _ _ (by omega) (by omega) (by omega) h4 fun i hi' hl=>?_
    by_cases e:i=(lo+hi)/2
    ·rw[e];omega
    ·have:=up _ i (show(lo+hi)/2<i by omega) hl
     omega
  ·rw[if_neg c];have:lo=hi:=by omega
   subst this;exact⟨h4,h5,h3⟩
theorem yB{xs:Array Nat}(hs:xs.toList.Pairwise (· < ·))(j:Nat):(∀ i,i<SetTable.below xs j->xs.getD i j<j)/\(∀ i,SetTable.below xs j<=i->i<xs.size->j<=xs.getD i j)/\SetTable.below xs j<=xs.size :=
 Gh hs xs.size 0 xs.size (by omega) (Ky _) (JF _) (fun i h=>absurd h (LN _)) fun i h1 h2=>absurd h2 (by omega)
noncomputable def SetT(t:SetTable):Prop:=t.place.toList.Pairwise (· < ·)/\t.dummies=#[]
theorem SetT.fresh(a b:Nat)(led:Bool):SetT (.fresh a b led):=⟨My,rfl⟩
theorem SetT.standIn(t:SetTable)(n:Nat):SetT (t.standIn n):=⟨by
 show(Array.range n).toList.Pairwise (· < ·);rw[Array.toList_range]
 exact List.pairwise_lt_range,rfl⟩
theorem CQ(j:Nat):SetTable.has #[] j=false:=by
 unfold SetTable.has;simp
theorem SetT.put{t:SetTable}(h:SetT t){j:Nat}(hj:t.slot j=.empty):SetT (t.put j).1:=by
 obtain⟨hs,hd⟩:=h;obtain⟨b1,b2,b3⟩:=yB hs j;have ne:t.place[SetTable.below t.place j]?≠some j:=fun z=>by
  unfold SetTable.slot at hj;dsimp only at hj;rw[z]at hj;simp at hj
 refine⟨?_,?_⟩
 ·show(SetTable.insertAt t.place (SetTable.below t.place j) j).toList.Pairwise (· < ·);rw[SetTable.toList_insertAt];have lt1:∀ a∈t.place.toList.take (SetTable.below t.place j),a<j:=fun a ha=>by
   obtain⟨i,hi⟩:=List.mem_iff_getElem?.mp ha;have il:i<SetTable.below t.place j:=by
    have:=(JD.mp hi).1;rw[JZ]at this;omega
   rw[LR,if_pos il]at hi;have:=b1 i il;rw[KL]at hi;rw[MN,hi]at this;exact this
  have lt2:∀ b∈t.place.toList.drop (SetTable.below t.place j),j<b:=fun b hb=>by
   obtain⟨i,hi⟩:=List.mem_iff_getElem?.mp hb;rw[LD,KL]at hi;have il:SetTable.below t.place j+i<t.place.size:=by
    obtain⟨z,_⟩:=MO.mp hi;exact z
   have h1:=b2 _ (ME _ i) il;rw[MN,hi]at h1;have h1':j<=b:=h1;rcases Nat.lt_or_ge j b with z | z
   ·exact z
   ·have e:b=j:=by omega
    subst e;by_cases i0:i=0
    ·subst i0;exact absurd hi ne
    ·have h0:=b2 (SetTable.below t.place b) (JF _) (by omega)
     have:=Lz.mp hs (SetTable.below t.place b) (SetTable.below t.place b+i) (by simp;omega) (by simpa using il) (by omega)
     obtain⟨z1,z2⟩:=MO.mp hi;have q1:t.place.getD (SetTable.below t.place b) b=t.place[SetTable.below t.place b]'(by omega):=by rw[MN,K8];rfl
     rw[q1]at h0;simp only[Array.getElem_toList]at this;rw[z2]at this;omega
  refine KQ.mpr ⟨hs.sublist (Nx _ _),Mk.mpr ⟨lt2,hs.sublist (List.drop_sublist _ _)⟩,fun a ha b hb=>?_⟩;rcases JI.mp hb with z | z
  ·rw[z];exact lt1 a ha
  ·exact LL (lt1 a ha) (lt2 b z)
 ·show(if SetTable.has t.dummies j=true then SetTable.eraseAt t.dummies (SetTable.below t.dummies j) else t.dummies)=#[];rw[hd,CQ,if_neg Kb]
theorem ES{t:SetTable}{f:Nat->Int}{h:Int}(hd:t.dummies=#[]):∀(fuel:Nat)(p:SetTable.Probe),p.dummy=none->∀ j d,SetTable.probe.go t f h fuel p=some (.empty j d)->t.slot j=.empty/\d=none:=by
 intro fuel;have nd:∀ j,t.slot j≠.dummy:=fun j z=>by
  unfold SetTable.slot at z;rw[hd,CQ]at z;simp only[Kv,if_false]at z;split at z<;>cases z
 induction fuel with
 |zero=>intro p _ j d e;cases e
 |succ fuel ih =>
  intro p hp j d e;have adv:(t.advance p).dummy=none:=by
   unfold SetTable.advance;split<;>exact hp
  unfold SetTable.probe.go at e;split at e
  ·rename_i hs
   cases e
   exact⟨hs,hp⟩
  ·rename_i hs;exact absurd hs (nd _)
  ·split at e
   ·cases e
   ·exact ih _ adv j d e
theorem SetT.layNew{t:SetTable}(h:SetT t)(es:Array (Int×Value))(hh:Int)(x:Value):SetT (layNew t es hh x).2.1/\(layNew t es hh x).2.1.led=t.led:=by
 unfold PySem.layNew;split
 ·rename_i slot wd e;unfold SetTable.freeSlot at e;split at e
  ·rename_i j dm e2;obtain⟨z1,z2⟩:=ES h.2 _ _ rfl j dm e2;subst z2;have e3:(j,false)=(slot,wd):=KH e
   cases e3
   dsimp only;unfold SetTable.orStandIn;split
   ·exact⟨h.put z1,rfl⟩
   ·exact⟨SetT.standIn _ _,rfl⟩
  ·cases e
 ·exact⟨SetT.standIn _ _,rfl⟩
theorem wy(n:Nat)(g:Nat->Option Nat):(((KO n).filterMap fun j=>(g j).map (j,·)).map (·.1)).Pairwise (· < ·):=by
 have:((KO n).filterMap fun j=>(g j).map (j,·)).map (·.1)=(KO n).filter fun j=>(g j).isSome:=by
  induction (KO n) with
  |nil=>rfl
  |cons a l ih =>
   cases e:g a with
   |none=>simp[e,ih]
   |some b=>simp[e,ih]
 rw[this];exact List.pairwise_lt_range.filter _
theorem SetT.relayAll(t:SetTable)(es:Array (Int×Value))(wanted:Nat):SetT (relayAll t es wanted).2.1/\(relayAll t es wanted).2.1.led=t.led:=by
 unfold PySem.relayAll;split
 ·rename_i t' order e;dsimp only;split
  ·unfold SetTable.relaid SetTable.laid at e
   cases ho:SetTable.layClean (SetTable.sizeAbove wanted-1) (es.map (·.1)) with
   |none=>rw[ho]at e;cases e
   |some owner =>
    rw[ho]at e
    cases e
    refine⟨⟨?_,rfl⟩,rfl⟩;show(List.toArray _).toList.Pairwise (· < ·);rw[List.toList_toArray];exact wy _ _
  ·exact⟨SetT.standIn _ _,rfl⟩
 ·exact⟨SetT.standIn _ _,rfl⟩
theorem m6{us vs:List Value}(p:us.Perm vs):∀{ns:List Int},IntsAre vs ns->∃ ms,IntsAre us ms/\ms.Perm ns:=by
 have go:∀{us vs:List Value},us.Perm vs->∀{ns:List Int},IntsAre us ns->∃ ms,IntsAre vs ms/\ms.Perm ns:=by
  intro us vs p;induction p with
  |nil=>exact fun h=>⟨_,h,.rfl⟩
  |cons x _ ih =>
   intro ns h
   cases h with
   |cons n t h =>
    obtain⟨ms,h1,h2⟩:=ih h;exact⟨n::ms,.cons n t h1,h2.cons n⟩
  |swap x y l =>
   intro ns h
   cases h with
   |cons n t h =>
    cases h with
    |cons n' t' h=>exact⟨n'::n::_,.cons n' t' (.cons n t h),List.Perm.swap _ _ _⟩
  |trans _ _ ih1 ih2 =>
   intro ns h;obtain⟨ms,h1,h2⟩:=ih1 h;obtain⟨ks,h3,h4⟩:=ih2 h1;exact⟨ks,h3,h4.trans h2⟩
 exact fun{ns} h=>go p.symm h
theorem CN{vs:List Value}{ns:List Int}(h:IntsAre vs ns)(k:Int)(t:Tok):IntsAre (vs++[.int k t]) (ns++[k]):=by
 induction h with
 |nil=>exact .cons k t .nil
 |cons n t' _ ih=>exact .cons n t' ih
theorem yk{vs:List Value}{ns:List Int}(h:IntsAre vs ns):(∀ v∈vs,∃ n t,v=.int n t/\n∈ns)/\∀ n∈ns,∃ t,Value.int n t∈vs:=by
 induction h with
 |nil=>exact⟨fun v hv=>(nomatch hv),fun n hn=>(nomatch hn)⟩
 |cons n t _ ih =>
  refine⟨fun v hv=>?_,fun m hm=>?_⟩
  ·rcases JI.mp hv with z | z
   ·exact⟨n,t,z,JO ..⟩
   ·obtain⟨a,b,c,d⟩:=ih.1 v z;exact⟨a,b,c,JK _ d⟩
  ·rcases JI.mp hm with z | z
   ·subst z;exact⟨t,JO ..⟩
   ·obtain⟨b,c⟩:=ih.2 m z;exact⟨b,JK _ c⟩
noncomputable def byT(w:World):Bool:=w.params.followText "set-order"
noncomputable def SetG(P:Program)(w:World)(h:Heap)(a:Addr)(l:List Int):Prop:=∃ o es ep t,h.get? a=some o/\o.ExactSet/\o.data=.set es ep t/\ElemsOf (intKind P w) es.toList/\(∃ ns,IntsAre (es.toList.map (·.2)) ns/\ns.Perm l)/\l.Nodup/\es.size<scanBound/\t.fits es.size=true/\SetT t/\t.led = !byT w
theorem SetG.keeps{P:Program}{w:World}{h h':Heap}{a:Addr}{l:List Int}(g:SetG P w h a l)(k:∀ o,h.get? a=some o->h'.get? a=some o):SetG P w h' a l:=by
 obtain⟨o,es,ep,t,g1,r⟩:=g;exact⟨o,es,ep,t,k o g1,r⟩
noncomputable def addN(l:List Int)(k:Int):List Int:=if k∈l then l else l++[k]
theorem xP{P:Program}{w:World}{h:Heap}{a:Addr}{o:Obj}{es es':Array (Int×Value)}{ep:Nat}{t t':SetTable}{l:List Int}(go:h.get? a=some o)(gx:o.ExactSet)(gd:o.data=.set es ep t)(el:ElemsOf (intKind P w) es'.toList)(ia:∃ ns,IntsAre (es'.toList.map (·.2)) ns/\ns.Perm l)(nd:l.Nodup)(sz:es'.size<scanBound)(ft:t'.fits es'.size=true)(tg:SetT t')(ld:t'.led = !byT w) :
  SetG P w (h.update a (Obj.putSet es' t')) a l/\∃ o2,(h.update a (Obj.putSet es' t')).get? a=some o2/\o2.ExactSet/\o2.data=.set es' (ep+1) t':=by
 have hg:=Heap.get?_update_self (Obj.putSet es' t') go (by rw[putSet_of es' t' gd];rfl)
 rw[putSet_of es' t' gd]at hg;exact⟨⟨_,es',ep+1,t',hg,gx,rfl,el,ia,nd,sz,ft,tg,ld⟩,_,hg,gx,rfl⟩
section
variable{prog:Program}{w:World}{A:Around}{E:Value->Shared->Prop}{s:Shared}
theorem putInS{a:Addr}{l:List Int}{k:Int}{tk:Tok}{Q:Bool->Shared->Prop}(g:SetG prog w s.heap a l)(room:l.length+1<scanBound)
  (q:∀(b:Bool)(h':Heap),Heap.SameBut a s.heap h'->SetG prog w h' a (addN l k)->Q b { s with heap:=h' }):wpAny (model prog w) A (setAddHashed a (.int k tk) ((intKind prog w).hash k)) Q E s:=by
 obtain⟨o,es,ep,t,go,gx,gd,el,⟨ns,ia,pm⟩,nd,sz,ft,tg,ld⟩:=id g;have kis:(intKind prog w).is k (.int k tk)=true:=intKind_is _ _ _ _;have len:es.size=l.length:=by
  have h1:∀{vs:List Value}{ns:List Int},IntsAre vs ns->vs.length=ns.length:=fun h=>by
   induction h with
   |nil=>rfl
   |cons _ _ _ ih=>rw[Ke,Ke,ih]
  have:=h1 ia;rw[JC,Kg,pm.length_eq]at this;exact this
 have gw:∀(b:Bool){s₁:Shared}{Q':Unit->Shared->Prop},Q' () s₁->wpAny (model prog w) A (match b with | true=>rule "set.scan.the-table-gave-way" | false=>pure ()) Q' E s₁:=fun b=>by
  intro s1 Q' hq
  cases b
  ·exact wpAny_pure hq
  ·exact wpAny_rule hq
 unfold setAddHashed setAddHashedIn;refine wpAny_holding (wpAny_bind (wpAny_setState_of go gd ft ?_));dsimp only;rw[byScan_of (knd:=intKind prog w) rfl sz el];simp only[↓reduceIte];unfold setAddByScan;refine wpAny_bind (wpAny_bind (wpAny_rule (wpAny_bind (wpAny_setScan_of (knd:=intKind prog w) kis go gd ft el ?_))))
 cases fr:List.findIdx? (fun e=>(intKind prog w).is k e.2) es.toList with
 |some j =>
  obtain⟨jl,jp,_⟩:=List.findIdx?_eq_some_iff_getElem.mp fr;have kin:k∈l:=by
   obtain⟨n,t',e1,e2⟩:=(yk ia).1 _ (List.mem_map_of_mem (f:=(·.2)) (KC jl));have e3:(es.toList[j]).2=.int n t':=e1;rw[e3]at jp;have:k=n:=(intKind prog w).inj _ k n jp (intKind_is _ _ _ _);rw[this];exact pm.mem_iff.mp e2
  refine wpAny_pure (wpAny_pure ?_);have e:addN l k=l:=if_pos kin;have:=q false s.heap (Heap.SameBut.refl a s.heap) (by rw[e];exact g)
  exact this
 |none =>
  have kout:k∉l:=fun z=>by
   obtain⟨t',m⟩:=(yk ia).2 k (pm.mem_iff.mpr z);obtain⟨e,he,e2⟩:=Kk.mp m;have:=List.findIdx?_eq_none_iff.mp fr e he;rw[e2,intKind_is]at this
   cases this
  have ea:addN l k=l++[k]:=if_neg kout;have nd1:(l++[k]).Nodup:=Ny.mpr ⟨nd,Kq.mpr ⟨Kf,LV⟩,fun a ha b hb e=>kout (by rw[JR.mp hb]at e;exact e▸ha)⟩
  have hp:=layNew_perm t es ((intKind prog w).hash k) (.int k tk);have hf:=layNew_fits t es ((intKind prog w).hash k) (.int k tk);obtain⟨ht,hl⟩:=tg.layNew es ((intKind prog w).hash k) (.int k tk);dsimp only;generalize layNew t es ((intKind prog w).hash k) (.int k tk)=N at hp hf ht hl ⊢;obtain⟨es1,t1,wd,gv⟩:=N;dsimp only at hp hf ht hl ⊢;rw[Lx]at hp;have el1:ElemsOf (intKind prog w) es1.toList:=(el.push kis rfl).perm hp;have ia1:∃ ms,IntsAre (es1.toList.map (·.2)) ms/\ms.Perm (l++[k]):=by
   have p2:=hp.map (·.2);rw[Kc]at p2;obtain⟨ms,h1,h2⟩:=m6 p2 (CN ia k tk);exact⟨ms,h1,h2.trans (pm.append_right _)⟩
  have sz1:es1.size<scanBound:=by rw[← Kg,hp.length_eq,JN,Kg,len];exact room
  have ld1:t1.led = !byT w:=hl.trans ld;refine wpAny_bind (gw _ ?_)
  have tail:∀ t2:SetTable,t2.fits es1.size=true->SetT t2->t2.led = !byT w->wpAny (model prog w) A (do
    storeSet a es1 t2
    if(!wd&&t2.tooFull)=true then do
      (match(relayAll t2 es1 (SetTable.grown es1.size)).2.2 with | true=>rule "set.scan.the-table-gave-way" | false=>pure ())
      storeSet a (relayAll t2 es1 (SetTable.grown es1.size)).1 (relayAll t2 es1 (SetTable.grown es1.size)).2.1
      pure (some true)
     else pure (some true)) (fun r s'=>∃ b:Bool,r=some b/\Q b s') E s:=by
   intro t2 f2 g2 l2;obtain⟨G1,o2,go2,gx2,gd2⟩:=xP (P:=prog) (w:=w) go gx gd el1 ia1 nd1 sz1 f2 g2 l2;have sb1:=Heap.SameBut.update s.heap a (Obj.putSet es1 t2);refine wpAny_bind (wpAny_storeSet_of go gd ?_ (fits_of_scanBound sz1));split
   ·have hp2:=relayAll_perm t2 es1 (SetTable.grown es1.size)
    have hf2:=relayAll_fits t2 es1 (SetTable.grown es1.size);obtain⟨ht2,hl2⟩:=SetT.relayAll t2 es1 (SetTable.grown es1.size);generalize relayAll t2 es1 (SetTable.grown es1.size)=N2 at hp2 hf2 ht2 hl2 ⊢;obtain⟨es2,t3,gv2⟩:=N2;dsimp only at hp2 hf2 ht2 hl2 ⊢;have ia2:∃ ms,IntsAre (es2.toList.map (·.2)) ms/\ms.Perm (l++[k]):=by
     obtain⟨m1,h1,h2⟩:=ia1;obtain⟨ms,h3,h4⟩:=m6 (hp2.map (·.2)) h1;exact⟨ms,h3,h4.trans h2⟩
    have sz2:es2.size<scanBound:=by rw[← Kg,hp2.length_eq,Kg];exact sz1
    refine wpAny_bind (gw _ (wpAny_bind (wpAny_storeSet_of go2 gd2 ?_ (fits_of_scanBound sz2))));obtain⟨G2,_⟩:=xP (P:=prog) (w:=w) go2 gx2 gd2 (el1.perm hp2) ia2 nd1 sz2 hf2 ht2 (hl2.trans l2);refine wpAny_pure ⟨true,rfl,?_⟩;exact q true _ (sb1.trans (Heap.SameBut.update _ a _)) (by rw[ea];exact G2)
   ·refine wpAny_pure ⟨true,rfl,?_⟩;exact q true _ sb1 (by rw[ea];exact G1)
  have all:=tail t1 hf ht ld1
  have step:∀(r:Option Bool)(s':Shared),(∃ b:Bool,r=some b/\Q b s')->wpAny (model prog w) A (match r with
    |some added=>pure added
    |none=>setAddHashedIn a (Value.int k tk) ((intKind prog w).hash k) 99999) Q E s':=fun r s' ⟨b,e,z⟩=>by
   subst e;exact wpAny_pure z
  split
  ·refine wpAny_bind ?_;rw[hashByValue_scannable 8 (x:=Value.int k tk) rfl];refine wpAny_pure ?_;exact wpAny_mono all step fun _ _ z=>z
  ·refine wpAny_bind (wpAny_pure ?_);exact wpAny_mono all step fun _ _ z=>z
theorem yC(l:List Int)(k:Int):(addN l k).length<=l.length+1:=by
 unfold addN;split
 ·omega
 ·rw[JN];exact JF _
theorem Eu{I S:Addr}{fp wr:List Addr}{n:Nat}{P:Nat->Value->Prop}{St:Nat->Heap->Prop}{R:Result->Shared->Prop}(W:Walks prog w A.in1 I fp wr n P St)(hS:S∉fp)(ns:List Int)(nl:ns.length=n)(hv:∀ i v,P i v->∃ t,v=.int (ns.getD i 0) t)(hb:n+1<scanBound) :
  ∀(r i:Nat)(h:Heap)(tk:Nat)(l:List Int),n-i=r->i<=n->St i h->SetG prog w h S l->l.length<=i ->
   (∀ h' tk',(∀ b o,b≠S->b∉wr->h.get? b=some o->h'.get? b=some o)->SetG prog w h' S ((ns.drop i).foldl addN l)->R (.ok (.ret .none)) { s with heap:=h',toks:=tk' }) ->
   codeAny (model prog w) A (.builtin "set.update.loop" ⟨[.ref S,.ref I],[]⟩) R { s with heap:=h,toks:=tk }:=by
 have hSw:S∉wr:=fun z=>hS (W.sub _ z);intro r;induction r with
 |zero =>
  intro i h tk l er hi st g ll fin;have ei:i=n:=by omega
  subst ei;refine codeAny_builtin PyProof.Rows.F.entry_set_update_loop ?_;rw[Around.under_plainId PyProof.Rows.F.plain_set_update_loop _];show wpAny _ A.in1 (pyNext (.ref I) >>= _) _ _ _;refine wpAny_bind (W.done _ _ _ st fun h' tk' kk=>?_);show wpAny _ A.in1 (ret Value.none) _ _ _;refine wpAny_pure (fin h' tk' (fun b o _ hw e=>kk b o hw e) ?_);rw[List.drop_of_length_le (by omega)]
  exact g.keeps fun o e=>kk _ _ hSw e
 |succ r ih =>
  intro i h tk l er hi st g ll fin;have il:i<n:=by omega
  refine codeAny_builtin PyProof.Rows.F.entry_set_update_loop ?_;rw[Around.under_plainId PyProof.Rows.F.plain_set_update_loop _];show wpAny _ A.in1 (pyNext (.ref I) >>= _) _ _ _;refine wpAny_bind (W.item i _ _ _ il st fun v h1 tk1 pv st1 k1=>?_);obtain⟨t,rfl⟩:=hv i v pv;have g1:=g.keeps fun o e=>k1 _ _ hSw e;show wpAny _ A.in1 (holding [Value.int (ns.getD i 0) t] (setAdd S (.int (ns.getD i 0) t)) >>= _) _ _ _;refine wpAny_bind (wpAny_holding ?_);unfold setAdd;refine wpAny_holding (wpAny_bind ((intKind prog w).pyHash (k:=ns.getD i 0) (intKind_is _ _ _ _) ?_));refine putInS (l:=l) g1 (by omega) fun b h2 sb g2=>?_
  have k2:∀ b o,b≠S->h1.get? b=some o->h2.get? b=some o:=fun b o n e=>(sb.2 b n).trans e;have dr:ns.drop i=ns.getD i 0::ns.drop (i+1):=by
   rw[LW (by omega),JE,JB (by omega)]
   rfl
  refine wpAny_pure ⟨plainId_quiet PyProof.Rows.F.plain_set_update_loop _,ih (i+1) _ _ (addN l (ns.getD i 0)) (by omega) il (W.frame _ _ _ st1 fun b hb o e=>k2 b o (fun z=>hS (z▸hb)) e) g2 (by have:=yC l (ns.getD i 0);omega) fun h' tk' kk gg=>?_⟩
  refine fin h' tk' (fun b o n hw e=>kk b o n hw (k2 b o n (k1 b o hw e))) ?_;rw[dr,ML];exact gg
theorem vI(a:Value){Q₁:Value->Shared->Prop}
  (h:Q₁ (.ref s.heap.objs.size) { s with heap:=s.heap.push { cls:=.type "set",dict:=none,data:=.set #[] 0 (.fresh 0 0 (!byT w)) } }) :
  codeAny (model prog w) A (.call (.builtin "set.__new__") ⟨[.type "set",a],[]⟩) (wants Q₁ E) s:=by
 refine codeAny_of_tree ?_;show wpAny _ A.in1 (do checkBuiltinCall "set.__new__" ⟨[.type "set",a],[]⟩;again (.builtin "set.__new__" ⟨[.type "set",a],[]⟩)) _ _ s
 refine wpAny_bind (wpAny_of_eq (PySem.F.newCall_set_1 a) (wpAny_pure ⟨plainId_quiet PySem.F.plain_set_new _,codeAny_builtin PySem.F.entry_set_new ?_⟩));rw[Around.under_plainId PySem.F.plain_set_new _];unfold Builtin.«set.__new__» Builtin.Frozenset.newClass;have hsub:=PySem.sub_set_self;obtain⟨hp,gg,dd,tk,os⟩:=s;dsimp only;wp_walk;refine wpAny_askSetting (wpAny_pure ?_);dsimp only;simp only[newObj];exact wpAny_bind (wpAny_alloc (wpAny_pure (wpAny_pure h)))
theorem dE:∀{vs:List Value}{ns:List Int},IntsAre vs ns->vs.length=ns.length/\∀(i:Nat)(v:Value),vs[i]?=some v->∃ t,v=.int (ns.getD i 0) t
 |_,_,.nil=>⟨rfl,fun i v e=>by simp at e⟩
 |_,_,.cons n t r=>by
  obtain⟨h1,h2⟩:=dE r;refine⟨by rw[Ke,Ke,h1],fun i v e=>?_⟩
  match i,e with
  |0,e=>cases e;exact⟨t,rfl⟩
  |i+1,e=>exact h2 i v e
noncomputable abbrev newO(w:World):Obj:={ cls:=.type "set",dict:=none,data:=.set #[] 0 (.fresh 0 0 (!byT w)) }
theorem newG{P:Program}{h:Heap}{a:Addr}(e:h.get? a=some (newO w)):SetG P w h a [] :=
 ⟨_,#[],0,_,e,⟨rfl,rfl,rfl⟩,rfl,fun x hx=>by simp at hx,⟨[],.nil,.rfl⟩,LV,by decide,rfl,SetT.fresh _ _ _,rfl⟩
theorem vd{lst:Addr}{its:Array Value}{ns:List Int}{Q:Value->Shared->Prop}(hh:A.handled=none)(hl:s.heap.IsList lst its)(ia:IntsAre its.toList ns)(hb:its.size+1<scanBound)
  (q:∀(h':Heap)(tk:Nat),SetG prog w h' s.heap.objs.size (ns.foldl addN [])->(∀ b o,s.heap.get? b=some o->h'.get? b=some o)->Q (.ref s.heap.objs.size) { s with heap:=h',toks:=tk }) :
  wpAny (model prog w) A (call (.type "set") [.ref lst]) Q E s:=by
 obtain⟨cc,tl,hmro⟩:=PySem.F.called_set.mro;have hmade:=PySem.F.called_set.made;have hsub:=PySem.F.called_set.sub;obtain⟨il,iv⟩:=dE ia;have nlen:ns.length=its.size:=by rw[← il,Kg]
 refine wpAny_call (codeAny_of_tree ?_);show wpAny _ _ (callAny (.type "set") _) _ _ _;refine wpAny_pure ⟨Code.quiet_builtin _ (by decide),codeAny_builtin PySem.F.entry_type_call ?_⟩
 rw[Around.under_plain (weight_type_call_type "set" [.ref lst] []) rfl];have f1:=PySem.F.called_set.notType;have f2:=PySem.F.called_set.canCreate;have f3:=PySem.F.typeCall_set_1 (.ref lst);repeat (any_goals (first | assumption | wp_step))
 refine codeAny_mono (vI (.ref lst) (E:=E) (Q₁:=fun obj s₁=>obj=.ref s.heap.objs.size/\s₁={ s with heap:=s.heap.push (newO w) }) ⟨rfl,rfl⟩) fun r s₁ hr=>?_
 cases r with
 |error e=>exact hr
 |ok fl =>
  cases fl with
  |next=>exact hr.elim
  |brk=>exact hr.elim
  |cont=>exact hr.elim
  |ret obj =>
   obtain⟨rfl,rfl⟩:=hr;have gS:(s.heap.push (newO w)).get? s.heap.objs.size=some (newO w):=Heap.get?_push_size _ rfl;have gT:Shared.TypeIs { s with heap:=s.heap.push (newO w) } (.ref s.heap.objs.size) "set":=⟨_,gS,rfl⟩;have f4:=PySem.F.called_set.init.lookup;have f5:=PySem.F.called_set.init.bind (.ref s.heap.objs.size);repeat (any_goals (first | assumption | wp_step))
   refine codeAny_mono (codeAny_call_builtin (R:=wants (fun r s₂=>r=.none/\∃ h' tk,s₂={ s with heap:=h',toks:=tk }/\SetG prog w h' s.heap.objs.size (ns.foldl addN [])/\∀ b o,s.heap.get? b=some o->h'.get? b=some o) E) PySem.F.called_set.init.plain PySem.F.entry_set_init (check_set_init_1 gT ?_)) fun r₂ s₂ hr₂=>?_
   ·obtain⟨ol,go,gc,nl,gd⟩:=hl;obtain⟨c0,d0,dat,sl⟩:=ol;simp only at gc gd;subst gc;subst gd;have go1:(s.heap.push (newO w)).get? lst=some { cls:=.type "list",dict:=d0,data:=.seq its nl,slots:=sl }:=Heap.get?_push_of_some _ go;have f6:=PySem.F.sub_list_set;have f7:=PySem.F.sub_list_frozenset;have f8:(Value.type "list" == Value.type "dict")=false:=by decide
    have hl1:(s.heap.push (newO w)).IsList lst its:=⟨_,go1,rfl,nl,rfl⟩;unfold Builtin.«set.__init__» noKeywords Builtin.Frozenset.updateFrom;generalize eP:pyIter=PI;wp_walk;subst eP;refine wpAny_pyIter_list hl1 (wpAny_bind (wpAny_runValue ?_));have lS:lst<s.heap.objs.size:=Heap.lt_size go;have nI:lst≠(s.heap.push (newO w)).objs.size:=by rw[Heap.size_push];exact JV (Lw lS)
    have nS:s.heap.objs.size∉[(s.heap.push (newO w)).objs.size,lst]:=by
     rw[Heap.size_push];intro z;rcases JI.mp z with z | z
     ·exact absurd z (JV (K4 _))
     ·rw[JR]at z;exact absurd z.symm (JV lS)
    have hh3:A.in1.in1.in1.handled=none:=by simp[hh]
    refine Eu (s:=s) (Walks.list hh3 _ lst nI its) nS ns nlen (fun i v pv=>iv i v (by rw[KL];exact pv)) hb its.size 0 _ s.toks [] (by omega) (Ky _) ⟨⟨_,Heap.get?_push_size _ rfl,rfl,rfl⟩,hl1.push _⟩ (newG (Heap.get?_push_of_some _ gS)) (JF _) fun h' tk' kk gg=>?_
    refine wpAny_pure ?_;show wpAny _ _ (ret Value.none) _ _ _;refine wpAny_pure ⟨rfl,h',tk',rfl,gg,fun b o e=>?_⟩;have bl:=Heap.lt_size e;refine kk b o (JV bl) (fun z=>?_) (Heap.get?_push_of_some _ (Heap.get?_push_of_some _ e));rw[JR,Heap.size_push]at z;exact absurd z (JV (Lw bl))
   ·cases r₂ with
    |error e=>exact hr₂
    |ok fl₂ =>
     cases fl₂ with
     |next=>exact hr₂.elim
     |brk=>exact hr₂.elim
     |cont=>exact hr₂.elim
     |ret r =>
      obtain⟨rfl,h',tk,rfl,g',k'⟩:=hr₂;repeat (any_goals (first | assumption | wp_step))
      exact q _ _ g' k'
end
theorem bt_set:bootBuiltins "set" = some (.type "set"):=by decide
theorem wD:entryFor table "set.__iter__" = some Builtin.«frozenset.__iter__»:=entryFor_alias (id':="frozenset.__iter__") (by kernel_rfl) rfl (by decide) (by kernel_rfl)
theorem cg:Slot "set_iterator" "__next__" "set_iterator.__next__" :=
 Slot.of (owner:="set_iterator") (n:="__next__") (by rw[typeLookup_type,builtinLookup_eq_fast];kernel_rfl) (by decide) (by decide) (by decide) (by first | exact .inl (by decide) | exact .inr (by decide)) (by rw[isSubtype_type];kernel_rfl)
theorem ph:entryFor table "set_iterator.__next__" = some Builtin.«set_iterator.__next__»:=entryFor_of_tree (by kernel_rfl)
theorem ow_si:Manifest.owners.lookup (String.ofList ['r','o','t','a','r','e','t','i','_','t','e','s'].reverse)=some Manifest.sig_set_iterator:=by kernel_rfl
theorem pK(a:Value):argsOk "set_iterator.__next__" ⟨[a],[]⟩:=by
 unfold argsOk;rw[signature?_of (id:="set_iterator.__next__") (n:=['_','_','t','x','e','n','_','_']) (o:=['r','o','t','a','r','e','t','i','_','t','e','s']) (by kernel_rfl) ow_si]
 kernel_rfl
theorem oX:Slot "set_iterator" "__iter__" "set_iterator.__iter__" :=
 Slot.of (owner:="set_iterator") (n:="__iter__") (by rw[typeLookup_type,builtinLookup_eq_fast];kernel_rfl) (by decide) (by decide) (by decide) (by first | exact .inl (by decide) | exact .inr (by decide)) (by rw[isSubtype_type];kernel_rfl)
theorem zZ:entryFor table "set_iterator.__iter__" = some Builtin.«dict_keyiterator.__iter__»:=entryFor_alias (id':="dict_keyiterator.__iter__") (by kernel_rfl) rfl (by decide) (by kernel_rfl)
theorem Az(a:Value):argsOk "set_iterator.__iter__" ⟨[a],[]⟩:=by
 unfold argsOk;rw[signature?_of (id:="set_iterator.__iter__") (n:=['_','_','r','e','t','i','_','_']) (o:=['r','o','t','a','r','e','t','i','_','t','e','s']) (by kernel_rfl) ow_si]
 kernel_rfl
theorem wB{α:Type}:∀{l:List α}{i:Nat}(h:i<l.length),(l[i]::l.eraseIdx i).Perm l
 |x::l,0,_=>NU _
 |x::l,i+1,h=>by
  have ih:=wB (l:=l) (i:=i) (by simpa using h)
  show(l[i]'(by simpa using h)::x::l.eraseIdx i).Perm (x::l)
  exact(List.Perm.swap x _ _).trans (ih.cons x)
theorem Bw{α:Type}(next:Nat->Nat):∀(fuel k:Nat)(left:List α)(out:Array α),left.length=fuel->(pickOrder.go next fuel k left out).toList.Perm (out.toList++left)
 |0,k,left,out,h=>by
  have:left = []:=L3.mp h;subst this;unfold pickOrder.go;rw[LZ]
 |fuel+1,k,left,out,h=>by
  have hl:next k%left.length<left.length:=Nat.mod_lt _ (by omega)
  unfold pickOrder.go;rw[JB hl];dsimp only;refine(Bw next fuel (k+1) _ _ (by rw[NN hl];omega)).trans ?_
  rw[Lx,Ko];refine Lp _ ?_;exact wB hl
theorem sx{α:Type}(next:Nat->Nat)(xs:Array α):(pickOrder next xs).toList.Perm xs.toList:=by
 have:=Bw next xs.size 0 xs.toList #[] (by simp)
 simpa[pickOrder] using this
section
variable{prog:Program}{w:World}{A:Around}{E:Value->Shared->Prop}{s:Shared}
theorem Ap{src:Source}{n:Nat}{Q:Nat->Shared->Prop}(hn:n≠0)(h:∀ i d,i<n->Q i { s with drawn:=d }):wpAny (model prog w) A (choose src n) Q E s:=fun _ _ _=>⟨hn,h _ _ (Nat.mod_lt _ (Nat.pos_of_ne_zero hn))⟩
theorem yr{α:Type}:∀(n:Nat)(xs:List α)(s:Shared)(Q:List α->Shared->Prop),xs.length=n->(∀ ys d,ys.Perm xs->Q ys { s with drawn:=d })->wpAny (model prog w) A (drawOrder n xs) Q E s
 |0,xs,s,Q,h,q=>by
  have:xs = []:=L3.mp h;subst this;unfold drawOrder;exact wpAny_pure (q [] s.drawn .rfl)
 |n+1,[],s,Q,h,q=>by cases h
 |n+1,x::xs,s,Q,h,q=>by
  unfold drawOrder;refine wpAny_bind (Ap (by simp) fun i d hi=>?_)
  rw[JB hi];dsimp only;refine wpAny_bind (yr n _ _ _ (by rw[NN hi];simp at h ⊢;omega) fun ys d2 p=>wpAny_pure ?_)
  exact q _ d2 ((p.cons _).trans (wB hi))
end
noncomputable def slA(t:SetTable)(i:Nat):Nat:=if i=0 then 0 else t.place.getD (i-1) 0+1
noncomputable def ItAt(P:Program)(w:World)(h:Heap)(I a tp:Addr)(ord:List Int)(i:Nat):Prop:=∃ o es ep t first vs,h.get? a=some o/\o.ExactSet/\o.data=.set es ep t/\t.fits es.size=true/\SetT t/\t.led = !byT w /\
 h.get? I=some { cls:=.type "set_iterator",data:=.fields #[first,rawInt (i:Int),.ref a,rawInt (es.size:Int),rawInt (ep:Int)] }/\IntsAre vs ord/\vs.length=es.size /\
 ((byT w=true/\(∃ z:Nat,first=rawInt (z:Int))/\vs=(pickOrder (w.params.setOrder a ep) es).toList.map (·.2)) ∨
  (byT w=false/\(!t.plain&&decide (es.size > 1))=false/\first=rawInt (slA t i:Int)/\vs=es.toList.map (·.2)) ∨
  (byT w=false/\∃(pl:List Nat)(ot:Obj)(c:Nat),first=.ref tp/\tp≠I/\tp≠a/\h.get? tp=some ot/\ot.data=.seq (pl.map fun p:Nat=>rawInt (p:Int)).toArray c/\pl.length=es.size/\∀(j p:Nat),pl[j]?=some p->∃ x,es[p]?=some x/\vs[j]?=some x.2))
section
variable{prog:Program}{w:World}{A:Around}{E:Value->Shared->Prop}{s:Shared}
theorem tJ{es:Array (Int×Value)}{ns l:List Int}(ia:IntsAre (es.toList.map (·.2)) ns)(pm:ns.Perm l){ys:List (Int×Value)}(p:ys.Perm es.toList):∃ ms,IntsAre (ys.map (·.2)) ms/\ms.Perm l:=by
 obtain⟨ms,h1,h2⟩:=m6 (p.map (·.2)) ia;exact⟨ms,h1,h2.trans pm⟩
theorem EK{a:Addr}{l:List Int}{Q:Value->Shared->Prop}(g:SetG prog w s.heap a l)
  (q:∀(I tp:Addr)(h':Heap)(d:_)(ord:List Int),(∀ b o,s.heap.get? b=some o->h'.get? b=some o)->s.heap.objs.size<=I->I<h'.objs.size->s.heap.objs.size<=tp->tp<h'.objs.size->ord.Perm l->ItAt prog w h' I a tp ord 0->Q (.ref I) { s with heap:=h',drawn:=d }) :
  wpAny (model prog w) A (pyIter (.ref a)) Q E s:=by
 obtain⟨o,es,ep,t,go,gx,gd,el,⟨ns,ia,pm⟩,nd,sz,ft,tg,ld⟩:=id g;have gT:s.TypeIs (.ref a) "set":=⟨o,go,gx.1⟩;have al:a<s.heap.objs.size:=Heap.lt_size go;have nlen:=(dE ia).1;have zl:es.size<=sizeLine:=Kw (LL sz (by decide))
 refine wpAny_pyIter_slot gT PySem.F.slot_set_iter (wpAny_call_entry PySem.F.slot_set_iter gT wD ?_ (PySem.F.args_set_iter_1 _));unfold Builtin.«frozenset.__iter__» Builtin.Frozenset.slot0 slotArgs;simp only[NC,M5,Kv,↓reduceIte,bind_assoc,LY,bne_self_eq_false];unfold Builtin.Frozenset.addrOf Builtin.Frozenset.sizeOf;refine wpAny_bind (wpAny_pure ?_);try dsimp only
 refine wpAny_bind (wpAny_pure (wpAny_bind (wpAny_bind (wpAny_setEntries_of go gd ft (wpAny_pure ?_)))));unfold setDrawn setsByText;refine wpAny_bind (wpAny_bind (wpAny_setState_of go gd ft ?_));dsimp only;refine wpAny_bind (wpAny_bind (wpAny_askSetting (wpAny_pure (wpAny_pure ?_))));have n0:∀ I:Addr,s.heap.objs.size<=I->a≠I:=fun I hI z=>absurd al (by rw[z];exact Mf hI)
 split
 ·rename_i cnd;have c':(!byT w&&(!t.plain&&decide (es.size > 1)))=true:=cnd;have bt:byT w=false:=by
   cases y:byT w with
   |false=>rfl
   |true=>rw[y]at c';cases c'
  refine wpAny_bind (yr es.size (KO es.size) _ _ KY fun ys d p=>?_);have yl:ys.length=es.size:=by rw[p.length_eq,KY]
  refine wpAny_bind (wpAny_newTuple ?_ (by rw[JC,yl];exact zl))
  unfold setEpoch;have g1:(s.heap.push { cls:=.type "tuple",data:=.seq (ys.map fun i:Nat=>rawInt (i:Int)).toArray }).get? a=some o:=Heap.get?_push_of_some _ go;refine wpAny_bind (wpAny_bind (wpAny_setState_of g1 gd ft (wpAny_pure ?_)));unfold newFields;refine wpAny_bind (wpAny_newObj_type ?_ (by size_fits))
  have em:(KO es.size).map (fun j=>es.getD j (0,Value.none))=es.toList:=by
   refine ND (by simp) fun j h1 h2=>?_
   have hj:j<es.size:=by simpa using h2
   simp[Nk,hj]
  have pv:(ys.map fun j=>es.getD j (0,Value.none)).Perm es.toList:=by
   rw[← em];exact p.map _
  obtain⟨ms,i1,i2⟩:=tJ ia pm pv;refine wpAny_pure ⟨_,rfl,"set_iterator",_,⟨_,Heap.get?_push_size _ rfl,rfl⟩,cg.lookup,?_⟩;refine q _ s.heap.objs.size _ d ms (fun b o e=>Heap.get?_push_of_some _ (Heap.get?_push_of_some _ e)) (by rw[Heap.size_push];exact L1 _) (Heap.lt_size (Heap.get?_push_size _ rfl)) (JF _) (by rw[Heap.size_push,Heap.size_push];exact Lw (K4 _)) i2 ?_
  refine⟨o,es,ep,t,_,(ys.map fun j=>es.getD j (0,Value.none)).map (·.2),Heap.get?_push_of_some _ g1,gx,gd,ft,tg,ld,Heap.get?_push_size _ rfl,i1,by rw[JC,JC,yl],.inr (.inr ⟨bt,ys,_,_,rfl,?_,K5 al,Heap.get?_push_of_some _ (Heap.get?_push_size _ rfl),rfl,yl,fun j pp hj=>?_⟩)⟩
  ·rw[Heap.size_push];exact JV (K4 _)
  ·have pl:pp<es.size:=KS.mp (p.mem_iff.mp (JG hj))
   refine⟨es[pp],K8 pl,?_⟩;rw[JJ,JJ,hj];show some (es.getD pp (0,Value.none)).2=_;simp[Nk,pl]
 ·rename_i cnd;have c':¬ (!byT w&&(!t.plain&&decide (es.size > 1)))=true:=cnd;refine wpAny_bind (wpAny_pure ?_);unfold setEpoch;refine wpAny_bind (wpAny_bind (wpAny_setState_of go gd ft (wpAny_pure ?_)));unfold newFields;refine wpAny_bind (wpAny_newObj_type ?_ (by size_fits))
  refine wpAny_pure ⟨_,rfl,"set_iterator",_,⟨_,Heap.get?_push_size _ rfl,rfl⟩,cg.lookup,?_⟩
  cases bt:byT w with
  |true =>
   obtain⟨ms,i1,i2⟩:=tJ ia pm (sx (w.params.setOrder a ep) es);refine q _ s.heap.objs.size _ s.drawn ms (fun b o e=>Heap.get?_push_of_some _ e) (JF _) (by rw[Heap.size_push];exact K4 _) (JF _) (by rw[Heap.size_push];exact K4 _) i2 ?_
   exact⟨o,es,ep,t,_,_,Heap.get?_push_of_some _ go,gx,gd,ft,tg,ld,Heap.get?_push_size _ rfl,i1,by rw[JC,(sx _ _).length_eq,Kg],.inl ⟨bt,⟨0,rfl⟩,rfl⟩⟩
  |false =>
   rw[bt]at c';have c2:(!t.plain&&decide (es.size > 1))=false:=by
    cases y:(!t.plain&&decide (es.size > 1)) with
    |false=>rfl
    |true=>exact absurd (by rw[y];rfl) c'
   refine q _ s.heap.objs.size _ s.drawn ns (fun b o e=>Heap.get?_push_of_some _ e) (JF _) (by rw[Heap.size_push];exact K4 _) (JF _) (by rw[Heap.size_push];exact K4 _) pm ?_
   exact⟨o,es,ep,t,_,_,Heap.get?_push_of_some _ go,gx,gd,ft,tg,ld,Heap.get?_push_size _ rfl,ia,by rw[JC,Kg],.inr (.inl ⟨bt,c2,rfl,rfl⟩)⟩
theorem tK{t:SetTable}{n:Nat}(h:t.fits n=true):t.place.size=n:=by
 unfold SetTable.fits at h;rw[LG]at h;exact eq_of_beq h.1
theorem ur{t:SetTable}(tg:SetT t){i:Nat}(hi:i<=t.place.size):SetTable.below t.place (slA t i)=i:=by
 obtain⟨b1,b2,b3⟩:=yB tg.1 (slA t i);have up:∀ a b,a<b->b<t.place.size->t.place.getD a (slA t i)<t.place.getD b (slA t i):=fun a b hab hb=>by
  have ha:a<t.place.size:=LL hab hb;have:=Lz.mp tg.1 a b (by simpa using ha) (by simpa using hb) hab
  simpa[Nk,ha,hb] using this
 have sl:∀ k,i=k+1->slA t i=t.place.getD k (slA t i)+1:=fun k e=>by
  have hk:k<t.place.size:=by omega
  have e1:slA t i=t.place.getD k 0+1:=by
   unfold slA;rw[if_neg (by omega),e,Nat.add_sub_cancel]
  have e2:t.place.getD k 0=t.place.getD k (slA t i):=by simp[Nk,hk]
  rw[← e2];exact e1
 generalize hb:SetTable.below t.place (slA t i)=b at b1 b2 b3;rcases Nat.lt_trichotomy b i with z | z | z
 ·obtain⟨k,rfl⟩:∃ k,i=k+1:=⟨i-1,by omega⟩
  have h1:=b2 b (JF _) (by omega)
  have h2:=sl k rfl;by_cases e:b=k
  ·subst e;omega
  ·have:=up b k (by omega) (by omega)
   omega
 ·exact z
 ·have h1:=b1 i z
  cases i with
  |zero=>have e:slA t 0=0:=rfl;rw[e]at h1;omega
  |succ k =>
   have h2:=sl k rfl;have:=up k (k+1) (by omega) (by omega)
   omega
theorem xQ{I:Addr}{h h1 h2:Heap}(x:Heap.SameBut I h h1)(y:Heap.SameBut I h1 h2):Heap.SameBut I h h2:=⟨y.1.trans x.1,fun b hb=>(y.2 b hb).trans (x.2 b hb)⟩
theorem IW{I a tp:Addr}{ord:List Int}{i:Nat}{n:Int}{Q:Option Value->Shared->Prop}(h:ItAt prog w s.heap I a tp ord i)(hn:ord[i]?=some n)(aI:a≠I)
  (q:∀(t:Tok)(h':Heap),ItAt prog w h' I a tp ord (i+1)->Heap.SameBut I s.heap h'->Q (some (.int n t)) { s with heap:=h' }):wpAny (model prog w) A (pyNext (.ref I)) Q E s:=by
 obtain⟨o,es,ep,t,first,vs,go,gx,gd,ft,tg,ld,gI,ia,vl,md⟩:=h;have gT:s.TypeIs (.ref I) "set_iterator":=⟨_,gI,rfl⟩;unfold pyNext;refine wpAny_bind (wpAny_attempt (wpAny_callSpecial?_slot (name:=Str.ofString "__next__") gT cg (wpAny_call_entry cg gT ph ?_ (pK _))));unfold Builtin.«set_iterator.__next__» slotArgs;simp only[NC,M5,Kv,↓reduceIte,bind_assoc,LY,bne_self_eq_false];refine wpAny_bind (wpAny_pure ?_);try dsimp only
 refine wpAny_bind (wpAny_fieldsOf gI rfl ?_);dsimp only[rawInt];refine wpAny_bind (wpAny_setEntries_of go gd ft ?_);rw[if_neg (by simp)]
 have il:i<ord.length:=(JD.mp hn).1;have ol:=(dE ia).1;have ilv:i<vs.length:=by omega
 obtain⟨tk,hv⟩:∃ tk,vs[i]?=some (.int n tk):=by
  obtain⟨tk,e⟩:=(dE ia).2 i _ (JB ilv);refine⟨tk,?_⟩;rw[JB ilv,e,JE,hn];rfl
 have psz:=tK ft;have ci:((i:Int)+1)=((i+1:Nat):Int):=by omega
 rcases md with⟨bt,⟨z,rfl⟩,rfl⟩ | ⟨bt,dr,rfl,rfl⟩ | ⟨bt,pl,ot,c,rfl,tI,ta,gt,gtd,pll,pat⟩
 ·dsimp only[rawInt];unfold setNext setsByText setWalk setsByText;refine wpAny_bind (wpAny_bind (wpAny_setState_of go gd ft ?_));dsimp only;refine wpAny_bind (wpAny_bind (wpAny_askSetting (wpAny_pure ?_)));have bt':w.params.followText "set-order" = true:=bt;rw[show(Setting.params ⟨(model prog w).prog,(model prog w).w.params⟩).followText "set-order" = true from bt',if_pos rfl,if_neg (by simp)]
  refine wpAny_bind (wpAny_bind (wpAny_setState_of go gd ft ?_));dsimp only;refine wpAny_bind (wpAny_bind (wpAny_askSetting (wpAny_pure ?_)));rw[show(Setting.params ⟨(model prog w).prog,(model prog w).w.params⟩).followText "set-order" = true from bt',if_pos rfl];refine wpAny_bind (wpAny_askSetting (wpAny_pure (wpAny_pure ?_)));have hp:(pickOrder (w.params.setOrder a ep) es)[i]?.map (·.2)=some (.int n tk):=by rw[← KL,← JJ];exact hv
  obtain⟨x,hx,ex⟩:=Km.mp hp;rw[JL,JL,show(pickOrder ((Setting.params ⟨(model prog w).prog,(model prog w).w.params⟩).setOrder a ep) es)[i]?=some x from hx];dsimp only[Option.map];refine wpAny_bind (wpAny_setField_rec gI (by simp) fun h1 g1 s1=>?_)
  refine wpAny_bind (wpAny_setField_rec (s:={ s with heap:=h1 }) g1 (by simp) fun h2 g2 s2=>?_)
  have sb:=xQ s1 s2;rw[ex];refine wpAny_pure ⟨_,rfl,wpAny_pure (q tk h2 ?_ sb)⟩;refine⟨o,es,ep,t,_,_,(sb.2 a aI).trans go,gx,gd,ft,tg,ld,g2.trans ?_,ia,vl,.inl ⟨bt,⟨z,rfl⟩,rfl⟩⟩;rw[ci];rfl
 ·dsimp only[rawInt];unfold setNext setsByText;refine wpAny_bind (wpAny_bind (wpAny_setState_of go gd ft ?_));dsimp only;refine wpAny_bind (wpAny_bind (wpAny_askSetting (wpAny_pure ?_)));have bt':w.params.followText "set-order" = false:=bt;rw[show(Setting.params ⟨(model prog w).prog,(model prog w).w.params⟩).followText "set-order" = false from bt',if_neg (by simp)]
  refine wpAny_ite_split (fun c=>absurd (show(!t.plain&&decide (es.size > 1))=true from c) (by rw[dr];simp)) fun _=>?_
  have led:t.led=true:=by rw[ld,bt];rfl
  refine wpAny_bind ?_;show wpAny _ _ (if(!t.led&&!es.isEmpty)=true then _ else _) _ _ _;rw[led];refine wpAny_pure (wpAny_pure ?_);rw[JL,ur tg (by omega)]
  have ie:i<es.size:=by omega
  have ip:i<t.place.size:=by omega
  have ex:es[i].2=.int n tk:=by
   rw[JJ,KL,K8 ie]at hv;exact KH hv
  rw[K8 ie,K8 ip];dsimp only;refine wpAny_bind (wpAny_setField_rec gI (by simp) fun h1 g1 s1=>?_)
  refine wpAny_bind (wpAny_setField_rec (s:={ s with heap:=h1 }) g1 (by simp) fun h2 g2 s2=>?_)
  have sb:=xQ s1 s2;rw[ex];refine wpAny_pure ⟨_,rfl,wpAny_pure (q tk h2 ?_ sb)⟩;refine⟨o,es,ep,t,_,_,(sb.2 a aI).trans go,gx,gd,ft,tg,ld,g2.trans ?_,ia,vl,.inr (.inl ⟨bt,dr,rfl,rfl⟩)⟩;have es:slA t (i+1)=t.place[i]+1:=by
   unfold slA;rw[if_neg (by omega),Nat.add_sub_cancel]
   simp[Nk,ip]
  rw[ci,es];rfl
 ·dsimp only[rawInt];refine wpAny_bind (wpAny_seqItems gt gtd ?_);dsimp only;have ip:i<pl.length:=by omega
  obtain⟨x,hx,hxv⟩:=pat i _ (JB ip);have ex:x.2=.int n tk:=KH (hxv.symm.trans hv);rw[JL,List.getElem?_toArray,JJ,JB ip];dsimp only[Option.map,rawInt];unfold setNextDrawn;refine wpAny_bind (wpAny_bind (wpAny_setState_of go gd ft ?_));dsimp only;rw[JL,JL,if_neg (by simp),hx]
  refine wpAny_pure ?_;refine wpAny_bind (wpAny_setField_rec gI (by simp) fun h1 g1 s1=>?_)
  rw[ex];refine wpAny_pure ⟨_,rfl,wpAny_pure (q tk h1 ?_ s1)⟩;refine⟨o,es,ep,t,_,vs,(s1.2 a aI).trans go,gx,gd,ft,tg,ld,g1.trans ?_,ia,vl,.inr (.inr ⟨bt,pl,ot,c,rfl,tI,ta,(s1.2 tp tI).trans gt,gtd,pll,pat⟩)⟩;rw[ci];rfl
theorem uR{I:Addr}{k:Nat}{Q:Option Value->Shared->Prop}{vs:Array Value}(hh:A.handled=none) (gI:s.heap.get? I=some { cls:=.type "set_iterator",data:=.fields vs }) (hk:k<vs.size)
  (q:∀(h':Heap),Heap.ExtBut I s.heap h'->Q none { s with heap:=h' }) :
  wpAny (model prog w) A.in1 (setField (.ref I) k .none >>= fun _=>newExc (.type "StopIteration") [] >>= fun e=>raiseNew e) (fun(fin:Fin) s'=>∃ v,fin=Fin.done (Flow.ret v)/\wpAny (model prog w) A (pure (some v)) Q E s')
  (fun e s'=>wpAny (model prog w) A (do if ← isInstance e (.type "StopIteration") then pure none else throw e) Q E s') s:=by
 refine wpAny_bind (wpAny_setField gI rfl hk ?_);refine wpAny_bind ?_;simp only[newExc,newTuple];refine wpAny_bind (wpAny_newObj_type ?_ (by size_fits))
 refine wpAny_bind (m:=firstArgMember _ _) (wpAny_of_eq (a:=Value.none) (by first | rfl | (simp only[firstArgMember];rfl)) ?_)
 refine wpAny_newObj_type ?_ (by size_fits)
 simp only[raiseNew];refine wpAny_bind (wpAny_handled ?_);rw[show A.in1.handled=none from hh];refine wpAny_bind (wpAny_pure (wpAny_throw ?_));refine wpAny_bind (wpAny_isInstance (T:="StopIteration") (b:=true) ⟨_,Heap.get?_push_size _ rfl,rfl⟩ isSubtype_stop ?_);exact wpAny_pure (q _ (((Heap.SameBut.update ..).extBut.push _).push _))
theorem IX{I a tp:Addr}{ord:List Int}{i:Nat}{Q:Option Value->Shared->Prop}(hh:A.handled=none)(h:ItAt prog w s.heap I a tp ord i)(hn:i=ord.length)(aI:a≠I)
  (q:∀(h':Heap),Heap.ExtBut I s.heap h'->Q none { s with heap:=h' }):wpAny (model prog w) A (pyNext (.ref I)) Q E s:=by
 obtain⟨o,es,ep,t,first,vs,go,gx,gd,ft,tg,ld,gI,ia,vl,md⟩:=h;have gT:s.TypeIs (.ref I) "set_iterator":=⟨_,gI,rfl⟩;unfold pyNext;refine wpAny_bind (wpAny_attempt (wpAny_callSpecial?_slot (name:=Str.ofString "__next__") gT cg (wpAny_call_entry cg gT ph ?_ (pK _))));unfold Builtin.«set_iterator.__next__» slotArgs;simp only[NC,M5,Kv,↓reduceIte,bind_assoc,LY,bne_self_eq_false];refine wpAny_bind (wpAny_pure ?_);try dsimp only
 refine wpAny_bind (wpAny_fieldsOf gI rfl ?_);dsimp only[rawInt];refine wpAny_bind (wpAny_setEntries_of go gd ft ?_);rw[if_neg (by simp)]
 have ol:=(dE ia).1;have ilv:i=vs.length:=by omega
 have psz:=tK ft;rcases md with⟨bt,⟨z,rfl⟩,rfl⟩ | ⟨bt,dr,rfl,rfl⟩ | ⟨bt,pl,ot,c,rfl,tI,ta,gt,gtd,pll,pat⟩
 ·dsimp only[rawInt];unfold setNext setsByText setWalk setsByText;refine wpAny_bind (wpAny_bind (wpAny_setState_of go gd ft ?_));dsimp only;refine wpAny_bind (wpAny_bind (wpAny_askSetting (wpAny_pure ?_)));have bt':w.params.followText "set-order" = true:=bt;rw[show(Setting.params ⟨(model prog w).prog,(model prog w).w.params⟩).followText "set-order" = true from bt',if_pos rfl,if_neg (by simp)]
  refine wpAny_bind (wpAny_bind (wpAny_setState_of go gd ft ?_));dsimp only;refine wpAny_bind (wpAny_bind (wpAny_askSetting (wpAny_pure ?_)));rw[show(Setting.params ⟨(model prog w).prog,(model prog w).w.params⟩).followText "set-order" = true from bt',if_pos rfl];refine wpAny_bind (wpAny_askSetting (wpAny_pure (wpAny_pure ?_)));have hx:(pickOrder (w.params.setOrder a ep) es)[i]?=none:=by
   rw[Mu];rw[ilv,JC,Kg];exact JF _
  rw[JL,JL,show(pickOrder ((Setting.params ⟨(model prog w).prog,(model prog w).w.params⟩).setOrder a ep) es)[i]?=none from hx];exact uR hh gI (by simp) q
 ·dsimp only[rawInt];unfold setNext setsByText;refine wpAny_bind (wpAny_bind (wpAny_setState_of go gd ft ?_));dsimp only;refine wpAny_bind (wpAny_bind (wpAny_askSetting (wpAny_pure ?_)));have bt':w.params.followText "set-order" = false:=bt;rw[show(Setting.params ⟨(model prog w).prog,(model prog w).w.params⟩).followText "set-order" = false from bt',if_neg (by simp)]
  refine wpAny_ite_split (fun c=>absurd (show(!t.plain&&decide (es.size > 1))=true from c) (by rw[dr];simp)) fun _=>?_
  have led:t.led=true:=by rw[ld,bt];rfl
  refine wpAny_bind ?_;show wpAny _ _ (if(!t.led&&!es.isEmpty)=true then _ else _) _ _ _;rw[led];refine wpAny_pure (wpAny_pure ?_);have ie:i=es.size:=by omega
  rw[JL,ur tg (by omega)]
  rw[Mu (by omega:es.size<=i),Mu (by omega:t.place.size<=i)]
  exact uR hh gI (by simp) q
 ·dsimp only[rawInt];refine wpAny_bind (wpAny_seqItems gt gtd ?_);dsimp only;have ip:pl.length<=i:=by omega
  rw[JL,List.getElem?_toArray,JJ,Ld ip];dsimp only[Option.map];refine wpAny_bind (wpAny_setField_rec gI (by simp) fun h1 g1 s1=>?_)
  exact uR (s:={ s with heap:=h1 }) hh g1 (by simp) fun h' x=>q h' fun b o hb e=>x b o hb ((s1.2 b hb).trans e)
theorem CJ{h h':Heap}{I a tp:Addr}{ord:List Int}{i:Nat}(x:ItAt prog w h I a tp ord i)(k:∀ b∈[I,a,tp],∀ o,h.get? b=some o->h'.get? b=some o):ItAt prog w h' I a tp ord i:=by
 obtain⟨o,es,ep,t,first,vs,go,gx,gd,ft,tg,ld,gI,ia,vl,md⟩:=x;refine⟨o,es,ep,t,first,vs,k a (by simp) _ go,gx,gd,ft,tg,ld,k I (by simp) _ gI,ia,vl,?_⟩
 rcases md with z | z | ⟨bt,pl,ot,c,e,tI,ta,gt,r⟩
 ·exact .inl z
 ·exact .inr (.inl z)
 ·exact .inr (.inr ⟨bt,pl,ot,c,e,tI,ta,k tp (by simp) _ gt,r⟩)
theorem FP(hh:A.handled=none)(I a tp:Addr)(aI:a≠I)(ord:List Int):Walks prog w A I [I,a,tp] [I] ord.length (fun i v=>∃ t n,ord[i]?=some n/\v=.int n t) (fun i h=>ItAt prog w h I a tp ord i) where
 sub:=fun b hb=>by simp at hb;simp[hb]
 frame:=fun _ _ _ st hk=>CJ st hk
 item:=fun i s Q E hi st hQ=>by
  refine IW st (JB hi) aI fun t h' it' sb=>?_;exact hQ _ h' s.toks ⟨t,_,JB hi,rfl⟩ it' fun b o hb e=>sb.extBut b o (fun h=>hb (by simp[h])) e
 done:=fun s Q E st hQ=>IX hh st rfl aI fun h' eb=>hQ h' s.toks fun b o hb e=>eb b o (fun h=>hb (by simp[h])) e
 self:=fun _ s Q _ st h=>by
  obtain⟨o,es,ep,t,first,vs,go,gx,gd,ft,tg,ld,gI,ia,vl,md⟩:=st;have hT:s.TypeIs (.ref I) "set_iterator":=⟨_,gI,rfl⟩;refine wpAny_pyIter_slot hT oX (wpAny_call_entry oX hT zZ ?_ (Az _));show wpAny _ _ (ret (.ref I)) _ _ s;exact wpAny_pure ⟨_,rfl,"set_iterator",_,hT,cg.lookup,h⟩
theorem FT{r:Addr}{Q:Bool->Shared->Prop} (hT:s.TypeIs (.ref r) "set") (h:Q false s):wpAny (model prog w) A (Builtin.List.listLengthHint (.ref r)) Q E s:=by
 unfold Builtin.List.listLengthHint;refine wpAny_bind (wpAny_specialOf hT PySem.F.slot_set_len.lookup ?_);generalize hid:("set.__len__" : String)=id0;wp_delta;rw[show splitId id0=some ("set","__len__") from by subst hid;decide]
 subst hid;refine wpAny_bind (wpAny_isInstance (T:="set") (b:=true) hT (by rw[isSubtype_type];kernel_rfl) ?_)
 refine wpAny_ite_split (fun hab=>absurd hab (by decide)) (fun _=>?_)
 refine wpAny_ite_split (fun _=>?_) (fun hab=>absurd (by decide) hab)
 refine wpAny_bind (wpAny_typeOf hT ?_);exact wpAny_pure h
theorem SetG.len{h:Heap}{a:Addr}{l:List Int}(g:SetG prog w h a l):l.length<scanBound:=by
 obtain⟨o,es,ep,t,go,gx,gd,el,⟨ns,ia,pm⟩,nd,sz,ft,tg,ld⟩:=g;have:=(dE ia).1;rw[JC,Kg,pm.length_eq]at this;omega
theorem SetG.typ{a:Addr}{l:List Int}(g:SetG prog w s.heap a l):s.TypeIs (.ref a) "set":=by
 obtain⟨o,es,ep,t,go,gx,r⟩:=g;exact⟨o,go,gx.1⟩
theorem SetG.lt{h:Heap}{a:Addr}{l:List Int}(g:SetG prog w h a l):a<h.objs.size:=by
 obtain⟨o,es,ep,t,go,gx,r⟩:=g;exact Heap.lt_size go
theorem wX{a:Addr}{l:List Int}{Q:List Value->Shared->Prop}(hh:A.handled=none)(g:SetG prog w s.heap a l)
  (h:∀(h':Heap)(tk:Nat)(d:Drawn)(acc:Array Value)(ord:List Int),(∀ b o,s.heap.get? b=some o->h'.get? b=some o)->s.heap.objs.size<h'.objs.size->ord.Perm l->ItemsOf (fun i v=>∃ t n,ord[i]?=some n/\v=.int n t) acc ord.length->Q acc.toList { s with heap:=h',toks:=tk,drawn:=d }):wpAny (model prog w) A (collect (.ref a)) Q E s:=by
 unfold collect;refine wpAny_bind (wpAny_runValue (codeAny_builtin entry_proto_collect' ?_));show wpAny _ _ (do again (.builtin "list.__iadd__" ⟨[← newList [],.ref a],[]⟩)) _ _ s
 refine wpAny_bind (wpAny_newList (wpAny_pure ⟨Code.quiet_builtin _ (by decide),codeAny_builtin entry_list_iadd' ?_⟩))
 rw[Around.under_plainId PySem.F.plain_list_iadd _];show wpAny _ A.in1 (Builtin.List.listExtendWith (.ref s.heap.objs.size) (.ref a) (.ref s.heap.objs.size)) _ _ { s with heap:=s.heap.push (seqObj "list" #[] 0) };have g1:SetG prog w (s.heap.push (seqObj "list" #[] 0)) a l:=g.keeps fun o e=>Heap.get?_push_of_some _ e;have aS:s.heap.objs.size≠a:=K5 g.lt;have hS:(s.heap.push (seqObj "list" #[] 0)).get? s.heap.objs.size=some { cls:=.type "list",data:=.seq #[] 0 }:=Heap.get?_push_size _ rfl;unfold Builtin.List.listExtendWith;refine wpAny_bind (wpAny_typeOf (T:="set") g1.typ ?_);have h1:Builtin.List.listSameRef (.ref s.heap.objs.size) (.ref a)=false:=by simp[Builtin.List.listSameRef,aS]
 simp only[h1,show(Value.type "set" == Value.type "list")=false by decide,show(Value.type "set" == Value.type "tuple")=false by decide,N8,Kv,if_false]
 refine wpAny_bind (EK g1 fun I tp h2 d ord k2 lI sI lt st pm it=>?_);have z1:(s.heap.push (seqObj "list" #[] 0)).objs.size=s.heap.objs.size+1:=Heap.size_push ..;rw[z1]at lI lt;have SI:s.heap.objs.size≠I:=JV lI;have ST:s.heap.objs.size≠tp:=JV lt;have aI:a≠I:=JV (LL g.lt lI);have hSf:s.heap.objs.size∉[I,a,tp]:=by simp only[JI,Kf,or_false,not_or];exact⟨SI,aS,ST⟩
 have hn:ord.length<=sizeLine:=by
  rw[pm.length_eq];exact Kw (LL g.len (by decide))
 have key:∀(h3:Heap)(c₁ tk:Nat),ItAt prog w h3 I a tp ord 0->(∀ b o,b≠s.heap.objs.size->h2.get? b=some o->h3.get? b=some o) ->
   h3.get? s.heap.objs.size=some { cls:=.type "list",data:=.seq #[] c₁ }->codeAny (model prog w) A (.builtin "list.extend.loop" ⟨[.ref s.heap.objs.size,.ref I,.ref s.heap.objs.size],[]⟩) (fun r s'=>∃ h' tk d acc' c',r=.ok (.ret (.ref s.heap.objs.size))/\s'={ s with heap:=h',toks:=tk,drawn:=d }/\(∀ b o,s.heap.get? b=some o->h'.get? b=some o)/\h'.get? s.heap.objs.size=some { cls:=.type "list",dict:=none,data:=.seq acc' c',slots:=#[] }/\ItemsOf (fun i v=>∃ t n,ord[i]?=some n/\v=.int n t) acc' ord.length) { s with heap:=h3,toks:=tk,drawn:=d }:=by
  intro h3 c₁ tk hst hk hS₁;refine codeAny_extend_loopS (FP (A:=A.in1) hh I a tp aI ord).toS hn _ hSf _ ord.length 0 _ #[] c₁ rfl (Ky _) hst hS₁ (ItemsOf.nil _) fun s' acc' c' hm hS' hacc=>?_;rw[Moved.eq_with hm];refine⟨s'.heap,s'.toks,d,acc',c',rfl,rfl,fun b o e=>hm.heap b o (fun hmem=>?_) (hk b o (JV (Heap.lt_size e)) (k2 b o (Heap.get?_push_of_some _ e))),hS',hacc⟩;rcases JI.mp hmem with e' | hmem
  ·exact absurd (Heap.lt_size e) (by rw[e'];exact KN _)
  ·exact absurd (Heap.lt_size e) (by rw[JR.mp hmem];exact Mf (Kw lI))
 have fin:∀(r:Result)(s':Shared),(∃ h' tk d acc' c',r=.ok (.ret (.ref s.heap.objs.size))/\s'={ s with heap:=h',toks:=tk,drawn:=d }/\(∀ b o,s.heap.get? b=some o->h'.get? b=some o)/\h'.get? s.heap.objs.size=some { cls:=.type "list",dict:=none,data:=.seq acc' c',slots:=#[] }/\ItemsOf (fun i v=>∃ t n,ord[i]?=some n/\v=.int n t) acc' ord.length)->∃ v,r=.ok (.ret v)/\v=.ref s.heap.objs.size/\wpAny (model prog w) A (do
   let o ← load s.heap.objs.size
   match o.data with
   |.seq xs _=>pure xs.toList
   |_=>unsupported "internal:collect") Q E s':=fun r s' ⟨h',tk,d,acc',c',e1,e2,hk,hS,hacc⟩=>⟨_,e1,rfl,by
  subst e2;refine wpAny_bind (wpAny_load hS ?_)
  exact wpAny_pure (h h' tk d acc' ord hk (Heap.lt_size hS) pm hacc)⟩
 have hS₁:=k2 _ _ hS;have g2:SetG prog w h2 a l:=g1.keeps fun o e=>k2 _ _ e;refine wpAny_bind (wpAny_holding (FT (s:={ s with heap:=h2,drawn:=d }) g2.typ ?_));refine wpAny_ite_split (fun _=>?_) (fun _=>wpAny_pure ⟨plainId_quiet Ly _,codeAny_mono (key _ 0 _ it (fun b o _ e=>e) hS₁) fun r s'' q'=>?_⟩);rotate_left
 ·obtain⟨v,e1,e2,z⟩:=fin _ _ q'
  cases e1
  cases e2
  exact z
 refine wpAny_bind (wpAny_rule ?_);refine wpAny_bind ?_;show wpAny _ _ (updateSeq s.heap.objs.size (·.push .none) >>= fun _=>updateSeq s.heap.objs.size (·.pop)) _ _ _;refine wpAny_bind (wpAny_updateSeq hS₁ rfl ?_);have hS₂:=Heap.get?_update_self (Obj.mapSeq (·.push Value.none)) hS₁ rfl;refine wpAny_updateSeq (hz:=by seq_fits) hS₂ rfl ?_
 have hS₃:=Heap.get?_update_self (Obj.mapSeq (·.pop)) hS₂ rfl;have oth:∀ b o,b≠s.heap.objs.size->h2.get? b=some o->((h2.update s.heap.objs.size (Obj.mapSeq (·.push Value.none))).update s.heap.objs.size (Obj.mapSeq (·.pop))).get? b=some o:=fun b o hb e=>(Heap.get?_update_other _ _ (Ne.symm hb)).trans ((Heap.get?_update_other _ _ (Ne.symm hb)).trans e);refine wpAny_pure ⟨plainId_quiet Ly _,codeAny_mono (key _ _ _ (CJ it fun b hb o e=>oth b o (fun z=>hSf (z▸hb)) e) oth hS₃) fun r s'' q'=>?_⟩;obtain⟨v,e1,e2,z⟩:=fin _ _ q'
 cases e1
 cases e2
 exact z
end
section
variable{X:Cx}{pins:List (Addr×Obj)}{σ:List (Option V)}{H:Hp}{s:Shared}
theorem Inv.drew{d:Drawn}(I:Inv X pins σ H s):Inv X pins σ H { s with drawn:=d }:=⟨I.ok,I.os,I.bare,I.base,I.loc,I.cell,I.free,I.freeC,I.pin,I.hok,I.len⟩
noncomputable def setO(P:Program)(w:World)(a:Addr)(l:List Int):HO:=.ext fun h=>SetG P w h a l
noncomputable def rSetI(P:Program)(w:World)(K:JH):List V->Hp->VK->Prop:=fun xs H Q=>∃(p:Addr)(ns:List Int),xs = [.ref p]/\SqL K H p (ns.map V.int)/\ns.length+1<4096/\∀ a:Addr,H a=none->Q (.ref a) (upd H a (setO P w a (ns.foldl addN [])))
theorem DM(hc:X.calm=true){P:Program}{w:World}{K:JH}(eP:X.prog=P)(eW:X.w=w)(eK:X.K=K):iq X (.type "set") (rSetI P w K):=by
 subst eP eW eK;intro pins s σ H xs us Q I r h;obtain⟨p,ns,rfl,hq,few,q⟩:=h;obtain⟨u,rfl,ru⟩:=ja r
 cases ru
 obtain⟨its,rv,pl,hz⟩:=I.list hq;have hi:=qM rv;have hl:=rv.length;rw[JC]at hl;refine vd (I.ok.hd hc) pl.isList hi (by rw[JU,← hl];exact few) fun h' tk g k=>?_
 refine⟨.ref s.heap.objs.size,_,I.laid (t':=tk) k (JF _) (show bf X.prog X.w _ _ _ (setO X.prog X.w s.heap.objs.size (ns.foldl addN [])) from⟨g,?_,fun h1 h2 g1 k1=>g1.keeps k1⟩),rfl,q _ (I.hok.fresh (JF _))⟩;obtain⟨o,es,ep,t,g1,r⟩:=g;exact⟨o,g1⟩
theorem Gu(ns:List Int):∀(l:List Int)(x:Int),x∈ns.foldl addN l↔x∈l∨x∈ns:=by
 induction ns with
 |nil=>intro l x;simp
 |cons n ns ih =>
  intro l x;rw[ML,ih,JI];unfold addN;split
  ·rename_i c;exact⟨fun z=>z.elim .inl fun y=>.inr (.inr y),fun z=>z.elim .inl fun y=>y.elim (fun e=>.inl (e▸c)) .inr⟩
  ·rw[JW,JR];exact⟨fun z=>z.elim (fun y=>y.elim .inl fun e=>.inr (.inl e)) fun y=>.inr (.inr y),fun z=>z.elim (fun y=>.inl (.inl y)) fun y=>y.elim (fun e=>.inl (.inr e)) .inr⟩
end
end L2
namespace L2.C2
open PySem PySem.Spec PyProof.Rows
section
variable{prog:Program}{w:World}{A:Around}{E:Value->Shared->Prop}{s:Shared}{d:Addr}
theorem uQ{a:Addr}{Q:Option Obj->Shared->Prop}(h:Q (s.heap.get? a) s):wpAny (model prog w) A (loadIfAlive a) Q E s:=fun Γ p hΓ=>by
 show Sem.wp _ _ (.loadIfAlive a _) _ _ _ _;rw[Sem.wp_loadIfAlive];exact(wpAny_pure (M:=model prog w) (A:=A) (E:=E) h) Γ p hΓ
noncomputable def ItAt(h:Heap)(it d:Addr)(i n ep:Nat):Prop:=∃ f0 f1 x6 x7,h.get? it=some { cls:=.type "dict_itemiterator",dict:=none,data:=.fields #[f0,f1,.ref d,.int i 0,.int n 0,.int ep 0,x6,x7],slots:=#[] }/\((f0=.none/\f1=.bool false)∨∃(a:Addr)(o:Obj),f0=rawInt a/\h.get? a=some o/\a≠it)
theorem ItAt.keep{h h':Heap}{it:Addr}{i n ep:Nat}(x:ItAt h it d i n ep)(hit:∀ o,h.get? it=some o->h'.get? it=some o)(k:∀ b o,b≠it->h.get? b=some o->∃ o',h'.get? b=some o'):ItAt h' it d i n ep:=by
 obtain⟨f0,f1,x6,x7,e,c⟩:=x;refine⟨f0,f1,x6,x7,hit _ e,?_⟩;rcases c with c | ⟨a,o,c1,c2,c3⟩
 ·exact .inl c
 ·obtain⟨o',q⟩:=k a o c3 c2;exact .inr ⟨a,o',c1,q,c3⟩
theorem CI{it:Addr}{i ep:Nat}{es:Array DictEntry}{Q:Option Value->Shared->Prop}(hit:ItAt s.heap it d i es.size ep)(hm:Ent s.heap d es ep)(hh:A.handled=none)
  (hI:∀ e,es[i]?=some e->∀ h',ItAt h' it d (i+1) es.size ep->h'.get? s.heap.objs.size=some { cls:=.type "tuple",data:=.seq #[e.key,e.val] }->(∀ b o,b≠it->s.heap.get? b=some o->h'.get? b=some o)->Q (some (.ref s.heap.objs.size)) { s with heap:=h' })
  (hE:es[i]?=none->∀ h',Heap.ExtBut it s.heap h'->Q none { s with heap:=h' }):wpAny (model prog w) A (pyNext (.ref it)) Q E s:=by
 obtain⟨f0,f1,ok,ov,hit,c⟩:=hit;rcases c with⟨rfl,rfl⟩ | ⟨a,oa,rfl,hoa,hai⟩
 ·refine Dc (ok:=ok) (ov:=ov) hit hm hh (fun e he h' q1 q2 q3=>hI e he h' ⟨_,_,_,_,q1,.inr ⟨s.heap.objs.size,_,rfl,q2,?_⟩⟩ q2 q3) hE;exact K5 (Heap.lt_size hit)
 obtain⟨o,e1,e2,e3⟩:=hm;have hT:s.TypeIs (.ref it) "dict_itemiterator":=⟨_,hit,rfl⟩;have own:Builtin.Dict_items.ownsTuple "dict_itemiterator" = true:=by decide
 unfold pyNext;refine wpAny_bind (wpAny_attempt (wpAny_callSpecial?_slot (name:=Str.ofString "__next__") hT F.slot_dict_itemiterator_next (wpAny_call_entry F.slot_dict_itemiterator_next hT F.entry_dict_itemiterator_next ?_ (F.args_dict_itemiterator_next_1 _))));refine wpAny_bind (wpAny_pure (wpAny_bind (wpAny_bind (wpAny_bind (wpAny_typeNameOfWhole_itemiter hT (wpAny_pure ?_))))));refine wpAny_bind (wpAny_fieldsOf hit rfl ?_);simp only[own,if_true];show wpAny _ _ (if(Value.ref d == Value.none)=true then _ else _) _ _ _;rw[if_neg (show ¬ ((Value.ref d == Value.none)=true) from Kb)];refine wpAny_bind (wpAny_pure (wpAny_bind (wpAny_dictEntries e1 e3 ?_)));rw[if_neg (by simp)]
 refine wpAny_bind (wpAny_pure (wpAny_bind (wpAny_dictEpoch e1 e3 ?_)));rw[if_neg (by simp)]
 refine wpAny_pure ?_;have n0:¬ ((i:Int)<0):=by omega
 simp only[n0,if_false,JL]
 cases he:es[i]? with
 |none =>
  refine wpAny_bind (wpAny_bind (wpAny_typeNameOfWhole_itemiter hT (wpAny_pure ?_)));show wpAny _ _ (setField (.ref it) 2 .none >>= _) _ _ s;refine wpAny_bind (wpAny_setField hit rfl (by simp) ?_)
  show wpAny _ _ (newExc (.type "StopIteration") [] >>= _) _ _ _;refine wpAny_bind ?_;simp only[newExc,newTuple];refine wpAny_bind (wpAny_newObj_type (wpAny_bind (m:=firstArgMember _ _) (wpAny_of_eq (a:=Value.none) (by first | rfl | (simp only[firstArgMember];rfl)) (wpAny_newObj_type ?_ (by size_fits)))) (by size_fits))
  simp only[raiseNew];refine wpAny_bind (wpAny_handled ?_);rw[show A.in1.handled=none from hh];refine wpAny_bind (wpAny_pure (wpAny_throw ?_));refine wpAny_bind (wpAny_isInstance (T:="StopIteration") (b:=true) ⟨_,Heap.get?_push_size _ rfl,rfl⟩ isSubtype_stop (wpAny_pure ?_));exact hE he _ (((Heap.SameBut.update ..).extBut.push _).push _)
 |some e =>
  refine wpAny_bind (wpAny_bind (wpAny_typeNameOfWhole_itemiter hT (wpAny_pure ?_)));refine wpAny_bind (wpAny_isOneOf_itemiter hT ?_);show wpAny _ _ (setField (.ref it) 3 (rawInt ((i:Int)+1)) >>= _) _ _ s;refine wpAny_bind (wpAny_setField_rec hit (by simp) fun g1 q1 k1=>?_)
  have c1:((i+1:Nat):Int)=(i:Int)+1:=by omega
  have q1':g1.get? it=some { cls:=.type "dict_itemiterator",dict:=none,data:=.fields #[rawInt a,f1,.ref d,.int ((i+1:Nat):Int) 0,.int es.size 0,.int ep 0,ok,ov],slots:=#[] }:=by
   rw[c1];simpa[rawInt] using q1
  have lt:it<s.heap.objs.size:=Heap.lt_size hit;have z1:g1.objs.size=s.heap.objs.size:=k1.1;have hT1:Shared.TypeIs { s with heap:=g1 } (.ref it) "dict_itemiterator":=⟨_,q1',rfl⟩;refine wpAny_bind (wpAny_holding (wpAny_bind (wpAny_isOneOf_itemiter hT1 (wpAny_bind (wpAny_isOneOf_itemiter hT1 ?_)))));show wpAny _ _ (Builtin.Dict_items.pairFromOwner (.ref it) 6 e.key e.val) _ _ { s with heap:=g1 };unfold Builtin.Dict_items.pairFromOwner Builtin.Dict_items.ownedTupleIsFree;refine wpAny_bind (wpAny_newTuple ?_);have q2:(g1.push { cls:=.type "tuple",data:=.seq #[e.key,e.val] }).get? it=some { cls:=.type "dict_itemiterator",dict:=none,data:=.fields #[rawInt a,f1,.ref d,.int ((i+1:Nat):Int) 0,.int es.size 0,.int ep 0,ok,ov],slots:=#[] }:=Heap.get?_push_of_some _ q1';have t2:(g1.push { cls:=.type "tuple",data:=.seq #[e.key,e.val] }).get? s.heap.objs.size=some { cls:=.type "tuple",data:=.seq #[e.key,e.val] }:=by rw[← z1];exact Heap.get?_push_size _ rfl
  have k2:∀ b o,b≠it->s.heap.get? b=some o->(g1.push { cls:=.type "tuple",data:=.seq #[e.key,e.val] }).get? b=some o:=fun b o hb q=>Heap.get?_push_of_some _ (k1.extBut b o hb q);rw[z1];generalize g1.push { cls:=.type "tuple",data:=.seq #[e.key,e.val] }=g2 at q2 t2 k2;show wpAny _ _ (_ >>= _) _ _ { s with heap:=g2 };have al:g2.get? ((a:Int).toNat)=some oa:=by rw[JL];exact k2 a oa hai hoa
  refine wpAny_bind (wpAny_bind (wpAny_field q2 rfl (x:=rawInt a) rfl ?_));show wpAny _ _ (loadIfAlive ((a:Int).toNat) >>= _) _ _ { s with heap:=g2 };refine wpAny_bind (uQ ?_);show wpAny _ _ (if((g2.get? ((a:Int).toNat)).isNone)=true then _ else _) _ _ _;rw[al,if_neg (show ¬ (some oa).isNone=true from Kb)];have last:∀ g3,g3.get? it=some { cls:=.type "dict_itemiterator",dict:=none,data:=.fields #[rawInt a,.bool true,.ref d,.int ((i+1:Nat):Int) 0,.int es.size 0,.int ep 0,ok,ov],slots:=#[] }->(∀ b o,b≠it->g2.get? b=some o->g3.get? b=some o)->Q (some (.ref s.heap.objs.size)) { s with heap:=g3 }:=fun g3 q3 k3 =>
   hI e he g3 ⟨_,_,_,_,q3,.inr ⟨a,oa,rfl,k3 a oa hai (k2 a oa hai hoa),hai⟩⟩ (k3 _ _ (K5 lt) t2) fun b o hb q=>k3 b o hb (k2 b o hb q)
  refine wpAny_bind (wpAny_field q2 rfl (x:=f1) rfl ?_);by_cases hf:f1=.bool true
  ·rw[if_neg (by rw[hf];decide)]
   refine wpAny_pure ?_;subst hf;exact wpAny_pure (wpAny_pure ⟨_,rfl,wpAny_pure (last g2 q2 fun b o _ q=>q)⟩)
  ·rw[if_pos (by simpa using hf)]
   refine wpAny_bind (wpAny_setField_rec q2 (by simp) fun g3 q3 k3=>?_)
   exact wpAny_pure (wpAny_pure (wpAny_pure ⟨_,rfl,wpAny_pure (last g3 q3 fun b o hb q=>k3.extBut b o hb q)⟩))
noncomputable def Gw(h₀ h:Heap)(es:Array DictEntry)(acc:Array Value)(i:Nat):Prop:=acc.size=i/\∀(j:Nat)(v:Value),acc[j]?=some v->∃(t:Addr)(e:DictEntry),v=.ref t/\es[j]?=some e/\h₀.objs.size<=t/\h.get? t=some { cls:=.type "tuple",data:=.seq #[e.key,e.val] }
noncomputable def jQ(acc:Array Value):Prop:=acc.toList.Nodup
theorem CW{S it:Addr}{es:Array DictEntry}{ep:Nat}{res:Value}{R:Result->Shared->Prop}{h₀:Heap}(hh:A.handled=none)(hn:es.size<=sizeLine)(hSi:S≠it)(hSd:S≠d)(hdi:d≠it) :
  ∀(k i:Nat)(s:Shared)(acc:Array Value)(c:Nat),es.size-i=k->i<=es.size->ItAt s.heap it d i es.size ep->Ent s.heap d es ep->s.heap.get? S=some { cls:=.type "list",dict:=none,data:=.seq acc c,slots:=#[] }->Gw h₀ s.heap es acc i->jQ acc->h₀.objs.size<=s.heap.objs.size ->
  (∀ h' acc' c',(∀ b o,b≠S->b≠it->s.heap.get? b=some o->h'.get? b=some o)->h'.get? S=some { cls:=.type "list",dict:=none,data:=.seq acc' c',slots:=#[] }->Gw h₀ h' es acc' es.size->jQ acc'->R (.ok (.ret res)) { s with heap:=h' }) ->
  codeAny (model prog w) A (.builtin "list.extend.loop" ⟨[.ref S,.ref it,res],[]⟩) R s:=by
 intro k;induction k with
 |zero =>
  intro i s acc c hk hi hst hm hS hacc hap hsz hR;have hin:i=es.size:=by omega
  subst hin;refine codeAny_builtin F.entry_extend_loop ?_;rw[Around.under_plainId F.plain_extend_loop _];show wpAny _ A.in1 (pyNext (.ref it) >>= _) _ _ s;refine wpAny_bind (CI hst hm hh (fun e he=>?_) fun _ h' q=>?_)
  ·rw[Mu (JF _)]at he
   cases he
  ·refine wpAny_pure (hR h' acc c (fun b o _ hb e=>q b o hb e) (q S _ hSi hS) ⟨hacc.1,fun j v hj=>?_⟩ hap);obtain⟨t,e,a1,a2,a3,a4⟩:=hacc.2 j v hj;refine⟨t,e,a1,a2,a3,q t _ (fun z=>?_) a4⟩;obtain⟨_,_,_,_,z2,_⟩:=hst;rw[z,z2]at a4;exact absurd (congrArg Obj.cls (KH a4)) (by intro z;exact absurd (Value.type.inj z) (by decide))
 |succ k ih =>
  intro i s acc c hk hi hst hm hS hacc hap hsz hR;refine codeAny_builtin F.entry_extend_loop ?_;rw[Around.under_plainId F.plain_extend_loop _];show wpAny _ A.in1 (pyNext (.ref it) >>= _) _ _ s;refine wpAny_bind (CI hst hm hh (fun e he h' q1 q2 q3=>?_) fun he=>absurd he (by rw[K8 (show i<es.size by omega)];intro z;cases z))
  have hS':=q3 S _ hSi hS;have lt:it<s.heap.objs.size:=by obtain⟨_,_,_,_,z,_⟩:=hst;exact Heap.lt_size z
  have hSlt:=Heap.lt_size hS;show wpAny _ A.in1 (updateSeq S (·.push (.ref s.heap.objs.size)) >>= _) _ _ _;refine wpAny_bind ?_;have noS:∀ b,b≠S->∀ o,h'.get? b=some o->(h'.update S (Obj.mapSeq (·.push (.ref s.heap.objs.size)))).get? b=some o:=fun b hb o e=>(Heap.get?_update_other _ _ (Ne.symm hb)).trans e;have tk:∀(h2:Heap),(∀ b o,b≠S->h'.get? b=some o->h2.get? b=some o)->Gw h₀ h2 es (acc.push (.ref s.heap.objs.size)) (i+1):=fun h2 k2=>by
   refine⟨by rw[Array.size_push,hacc.1],fun j v hj=>?_⟩
   rw[Array.getElem?_push]at hj;split at hj
   ·rename_i ej
    cases hj
    rw[hacc.1]at ej;subst ej;refine⟨s.heap.objs.size,e,rfl,he,hsz,k2 _ _ (K5 hSlt) q2⟩
   ·obtain⟨t,e',a1,a2,a3,a4⟩:=hacc.2 j v hj;have ti:t≠it:=fun z=>by
     obtain⟨_,_,_,_,z2,_⟩:=hst;rw[z,z2]at a4;exact absurd (congrArg Obj.cls (KH a4)) (by intro z;exact absurd (Value.type.inj z) (by decide))
    refine⟨t,e',a1,a2,a3,k2 t _ (fun z=>?_) (q3 t _ ti a4)⟩;rw[z,hS]at a4;exact absurd (congrArg Obj.cls (KH a4)) (by intro z;exact absurd (Value.type.inj z) (by decide))
  have ap:jQ (acc.push (.ref s.heap.objs.size)):=by
   unfold jQ;rw[Lx];refine Ny.mpr ⟨hap,by simp,fun a ha b hb e=>?_⟩
   rw[JR.mp hb]at e;subst e;obtain⟨j,hj⟩:=LI ha;obtain⟨t,e',a1,_,_,a4⟩:=hacc.2 j _ (by rw[← KL];exact hj)
   cases a1
   exact KN _ (Heap.lt_size a4)
  refine wpAny_updateSeq hS' rfl (wpAny_pure ⟨plainId_quiet F.plain_extend_loop _,ih (i+1) _ (acc.push (.ref s.heap.objs.size)) _ (by omega) (by omega) ?_ ?_ (Heap.get?_update_self _ hS' rfl) (tk _ fun b o hb e=>noS b hb o e) ap ?_ fun h'' acc' c' m1 m2 m3 m4=>?_⟩)
   (by rw[hacc.1];omega) (by show(acc.push _).size<=sizeLine+1;rw[Array.size_push,hacc.1];omega)
  ·exact q1.keep (fun o e=>noS it (Ne.symm hSi) o e) fun b o _ e=>by
    by_cases z:b=S
    ·rw[z];exact⟨_,Heap.get?_update_self _ hS' rfl⟩
    ·exact⟨o,noS b z o e⟩
  ·obtain⟨o,a1,a2,a3⟩:=hm;exact⟨o,noS d (Ne.symm hSd) o (q3 d o hdi a1),a2,a3⟩
  ·show h₀.objs.size<=(h'.update _ _).objs.size;rw[Heap.size_update];exact Lf hsz (Kw (Heap.lt_size q2))
  ·exact hR h'' acc' c' (fun b o hb hi' e=>m1 b o hb hi' (noS b hb o (q3 b o hi' e))) m2 m3 m4
theorem zV{r:Addr}{Q:Bool->Shared->Prop} (hT:s.TypeIs (.ref r) "dict_items") (h:Q false s):wpAny (model prog w) A (Builtin.List.listLengthHint (.ref r)) Q E s:=by
 unfold Builtin.List.listLengthHint;refine wpAny_bind (wpAny_specialOf hT PySem.F.slot_dict_items_len.lookup ?_);generalize hid:("dict_items.__len__" : String)=id0;wp_delta;rw[show splitId id0=some ("dict_items","__len__") from by subst hid;decide]
 subst hid;refine wpAny_bind (wpAny_isInstance (T:="dict_items") (b:=true) hT (by rw[isSubtype_type];kernel_rfl) ?_)
 refine wpAny_ite_split (fun hab=>absurd hab (by decide)) (fun _=>?_)
 refine wpAny_ite_split (fun _=>?_) (fun hab=>absurd (by decide) hab)
 refine wpAny_bind (wpAny_typeOf hT ?_);exact wpAny_pure h
theorem zX{S r:Addr}{es:Array DictEntry}{ep c₀:Nat}{res:Value}{R:Result->Shared->Prop}(hh:A.handled=none)(hv:s.heap.IsItemsView r d)(hm:Ent s.heap d es ep)(hn:es.size<=sizeLine)(hSr:S≠r)(hSd:S≠d)
  (hS:s.heap.get? S=some { cls:=.type "list",dict:=none,data:=.seq #[] c₀,slots:=#[] })
  (hR:∀ h' acc' c',(∀ b o,b≠S->s.heap.get? b=some o->h'.get? b=some o)->h'.get? S=some { cls:=.type "list",dict:=none,data:=.seq acc' c',slots:=#[] }->Gw s.heap h' es acc' es.size->jQ acc'->R (.ok (.ret res)) { s with heap:=h' }) :
  wpAny (model prog w) A.in1 (Builtin.List.listExtendWith (.ref S) (.ref r) res)
   (fun fin s'=>match fin with | .done f=>R (.ok f) s' | .again c'=>c'.quiet=true/\codeAny (model prog w) A c' R s') (fun e s'=>R (.error e) s') s:=by
 obtain⟨ov,hv1,hv2,hv3⟩:=id hv;obtain⟨od,hd1,hd2,hd3⟩:=id hm;have dl:d<s.heap.objs.size:=Heap.lt_size hd1;have hSI:S≠s.heap.objs.size:=JV (Heap.lt_size hS);have key:∀(g:Heap)(c₁ tk:Nat),ItAt g s.heap.objs.size d 0 es.size ep->(∀ b o,b≠S->s.heap.get? b=some o->g.get? b=some o)->s.heap.objs.size<=g.objs.size ->
   g.get? S=some { cls:=.type "list",dict:=none,data:=.seq #[] c₁,slots:=#[] }->tk=s.toks->codeAny (model prog w) A (.builtin "list.extend.loop" ⟨[.ref S,.ref s.heap.objs.size,res],[]⟩) R { s with heap:=g,toks:=tk }:=fun g c₁ tk q1 q2 q3 q4 q5=>by
  subst q5;refine CW (h₀:=s.heap) hh hn hSI hSd (JV dl) es.size 0 _ #[] c₁ (Nd _) (Ky _) q1 ⟨od,q2 d od (Ne.symm hSd) hd1,hd2,hd3⟩ q4 ⟨rfl,fun j v e=>by simp at e⟩ (by unfold jQ;simp) q3 fun h' acc' c' m1 m2 m3 m4=>?_
  exact hR h' acc' c' (fun b o hb e=>m1 b o hb (JV (Heap.lt_size e)) (q2 b o hb e)) m2 m3 m4
 unfold Builtin.List.listExtendWith;refine wpAny_bind (wpAny_typeOf (T:="dict_items") hv.typeIs ?_);have h1:Builtin.List.listSameRef (.ref S) (.ref r)=false:=by simp[Builtin.List.listSameRef,hSr]
 have nl:(Value.type "dict_items" == Value.type "list")=false:=by decide
 have nt:(Value.type "dict_items" == Value.type "tuple")=false:=by decide
 simp only[h1,nl,nt,N8,Kv,if_false];refine wpAny_bind (F0 hv hm ?_);have hS₁:=Heap.get?_push_of_some { cls:=.type "dict_itemiterator",data:=.fields #[.none,.bool false,.ref d,.int 0 0,.int es.size 0,.int ep 0,.none,.none] } hS;have it0:ItAt (s.heap.push { cls:=.type "dict_itemiterator",data:=.fields #[.none,.bool false,.ref d,.int 0 0,.int es.size 0,.int ep 0,.none,.none] }) s.heap.objs.size d 0 es.size ep :=
  ⟨_,_,_,_,Heap.get?_push_size _ rfl,.inl ⟨rfl,rfl⟩⟩
 have old:∀ b o,s.heap.get? b=some o->(s.heap.push { cls:=.type "dict_itemiterator",data:=.fields #[.none,.bool false,.ref d,.int 0 0,.int es.size 0,.int ep 0,.none,.none] }).get? b=some o:=fun b o e=>Heap.get?_push_of_some _ e;have big:s.heap.objs.size<=(s.heap.push { cls:=.type "dict_itemiterator",data:=.fields #[.none,.bool false,.ref d,.int 0 0,.int es.size 0,.int ep 0,.none,.none] }).objs.size:=by rw[Heap.size_push];exact L1 _
 have hvq:(⟨s.heap.push { cls:=.type "dict_itemiterator",data:=.fields #[.none,.bool false,.ref d,.int 0 0,.int es.size 0,.int ep 0,.none,.none] },s.gens,s.drawn,s.toks,s.os⟩:Shared).TypeIs (.ref r) "dict_items":=⟨ov,old _ _ hv1,hv2⟩;generalize s.heap.push { cls:=.type "dict_itemiterator",data:=.fields #[.none,.bool false,.ref d,.int 0 0,.int es.size 0,.int ep 0,.none,.none] }=g0 at hS₁ it0 old big hvq;refine wpAny_bind (wpAny_holding (zV hvq ?_));refine wpAny_ite_split (fun _=>?_) (fun _=>wpAny_pure ⟨plainId_quiet Ly _,key g0 _ s.toks it0 (fun b o _ e=>old b o e) big hS₁ rfl⟩);refine wpAny_bind (wpAny_rule ?_);refine wpAny_bind ?_;show wpAny _ _ (updateSeq S (·.push .none) >>= fun _=>updateSeq S (·.pop)) _ _ _;refine wpAny_bind (wpAny_updateSeq hS₁ rfl ?_);have hS₂:=Heap.get?_update_self (Obj.mapSeq (·.push Value.none)) hS₁ rfl;refine wpAny_updateSeq (hz:=by seq_fits) hS₂ rfl ?_
 have hS₃:=Heap.get?_update_self (Obj.mapSeq (·.pop)) hS₂ rfl;have ne:∀ b,b≠S->∀ o,g0.get? b=some o->((g0.update S (Obj.mapSeq (·.push Value.none))).update S (Obj.mapSeq (·.pop))).get? b=some o:=fun b hb o e=>(Heap.get?_update_other _ _ (Ne.symm hb)).trans ((Heap.get?_update_other _ _ (Ne.symm hb)).trans e);refine wpAny_pure ⟨plainId_quiet Ly _,key _ _ s.toks (it0.keep (fun o e=>ne _ (Ne.symm hSI) o e) fun b o _ e=>?_) (fun b o hb e=>ne b hb o (old b o e)) (by rw[Heap.size_update,Heap.size_update];exact big) hS₃ rfl⟩
 by_cases z:b=S
 ·rw[z];exact⟨_,hS₃⟩
 ·exact⟨o,ne b z o e⟩
end
end L2.C2
namespace L2
open PySem PySem.Spec PyProof.Rows
section
variable{X:Cx}
noncomputable def rSortT(P:Program)(w:World):List V->Hp->VK->Prop:=fun xs H Q=>∃(a:Addr)(ms:List Int),xs = [.ref a]/\H a=some (setO P w a ms)/\ms.length<64/\∀(l:Addr)(out:List Int),H l=none->(∀ x,x∈out↔x∈ms)->out.Pairwise (· < ·)->Q (.ref l) (upd H l (.lst (out.map V.int)))
theorem Aq(hc:X.calm=true){P:Program}{w:World}(eP:X.prog=P)(eW:X.w=w):iq X (.builtin "sorted") (rSortT P w):=by
 subst eP eW;intro pins s σ H xs us Q I r h;obtain⟨a,ms,rfl,ha,h64,q⟩:=h;obtain⟨u,rfl,ru⟩:=ja r
 cases ru
 obtain⟨g,_,_⟩:=(show bf X.prog X.w H s.heap a (setO X.prog X.w a ms) from I.hok a _ ha);have g:SetG X.prog X.w s.heap a ms:=g;have nd:ms.Nodup:=let ⟨_,_,_,_,_,_,_,_,_,nd,_⟩:=g;nd;refine Calls.call_function_entry kind_sorted plain_sorted entry_sorted (args_sorted1 _) ?_;unfold Builtin.«sorted»;refine wpAny_bind (m:=checkCount "sorted" 1 1 _) (wpAny_pure ?_);refine wpAny_bind (wX (I.ok.hd hc) g fun h' tk d acc' ord hk hlt pm hacc=>?_);have hi:IntsAre acc'.toList ord:=by
  have all:∀(vs:List Value)(ns:List Int),vs.length=ns.length->(∀(j:Nat) v,vs[j]?=some v->∃ t n,ns[j]?=some n/\v=.int n t)->IntsAre vs ns:=fun vs=>by
   induction vs with
   |nil=>intro ns e _;rw[LF e.symm];exact .nil
   |cons v vs ih =>
    intro ns e k
    cases ns with
    |nil=>cases e
    |cons n ns =>
     obtain⟨t,m,e1,e2⟩:=k 0 v rfl
     cases e1
     rw[e2];exact .cons _ _ (ih ns (Nat.succ.inj e) fun j v e=>k (j+1) v e)
  exact all _ _ (by rw[Kg];exact hacc.1) fun j v e=>hacc.2 j v (by rw[← KL];exact e)
 have hlen:acc'.toList.length<=sizeLine:=by
  rw[Kg,hacc.1,pm.length_eq];exact Kw (LL g.len (by decide))
 refine wpAny_bind (wpAny_newList ?_ hlen);have hoL:(h'.push (seqObj "list" acc'.toList.toArray 0)).get? h'.objs.size=some (seqObj "list" acc'.toList.toArray 0):=Heap.get?_push_size _ rfl;show wpAny _ _ _ _ _ { s with heap:=h'.push (seqObj "list" acc'.toList.toArray 0),toks:=tk,drawn:=d };have keepH:∀(out:Array Value)(b:Addr)(o:Obj),s.heap.get? b=some o->(sortedHeap (h'.push (seqObj "list" acc'.toList.toArray 0)) h'.objs.size acc'.toList out).get? b=some o:=fun out b o e=>by
  have e2:=hk b o e;rw[sortedHeap_old (JV (Heap.lt_size e2)) (by rw[Heap.size_push];exact Lw (Heap.lt_size e2))]
  exact Heap.get?_push_of_some _ e2
 have hsz:s.heap.objs.size<=h'.objs.size:=Kw hlt;refine wpAny_bind (wpAny_holding (wpAny_call_entry slot_list_sort ⟨_,hoL,rfl⟩ entry_list_sort (list_sort_tree hoL hi (by rw[Kg,hacc.1,pm.length_eq];exact h64) fun out ns' a1 a2 a3=>⟨_,rfl,?_⟩) (args_list_sort _)))
 obtain⟨e,he⟩:=sortedHeap_at (out:=out) hoL;have pm2:=a2.trans pm;refine wpAny_pure ⟨_,rfl,?_⟩;refine⟨.ref h'.objs.size,_,(I.laid (t':=tk) (keepH out) hsz (show bf X.prog X.w _ _ _ (.lst (ns'.map V.int)) from⟨?_,out.toList,e,AO a1,?_⟩)).drew,rfl,q _ ns' (I.hok.fresh hsz) (fun x=>pm2.mem_iff) ?_⟩
 ·rw[JC,pm2.length_eq];exact Kw (LL g.len (by decide))
 ·exact he
 ·exact(List.Pairwise.and a3 (pm2.nodup_iff.mpr nd)).imp fun{x y} ⟨h1,h2⟩=>by
   have h1':x<=y:=h1;omega
end
section
open PySem.W
variable{prog:Program}{w:World}{A:Around}{E:Value->Shared->Prop}{s:Shared}
noncomputable def PrQ(h:Heap)(v:Value):Prop:=∃ a o n x y tx ty,v=.ref a/\h.get? a=some o/\o.cls=.type "tuple"/\o.data=.seq #[.int x tx,.int y ty] n/\0<=y/\y<2199023255552
theorem PrQ.keep{h h':Heap}{v:Value}(p:PrQ h v)(k:∀ b o,v=.ref b->h.get? b=some o->h'.get? b=some o):PrQ h' v:=by
 obtain⟨a,o,n,x,y,tx,ty,rfl,h1,r⟩:=p;exact⟨a,o,n,x,y,tx,ty,rfl,k _ _ rfl h1,r⟩
theorem PrQ.prv{h:Heap}{v:Value}(p:PrQ h v):PrV h v:=by
 obtain⟨a,o,n,x,y,tx,ty,h0,h1,h2,h3,_⟩:=p;exact⟨a,o,n,x,y,tx,ty,h0,h1,h2,h3⟩
noncomputable def prOf(h:Heap):Value->Int×Int
 |.ref a=>match h.get? a with
  |some o=>match o.data with
   |.seq xs _=>match(xs[0]? : Option Value),(xs[1]? : Option Value) with
    |some (.int x _),some (.int y _)=>(x,y)
    |_,_=>(0,0)
   |_=>(0,0)
  |none=>(0,0)
 |_=>(0,0)
noncomputable def dY(h:Heap)(v:Value):Int:=(prOf h v).1*2199023255552+(prOf h v).2
theorem vh{h:Heap}{a:Addr}{o:Obj}{n:Nat}{x y:Int}{tx ty:Tok}(h1:h.get? a=some o)(h3:o.data=.seq #[.int x tx,.int y ty] n):prOf h (.ref a)=(x,y):=by
 unfold prOf;simp only[h1,h3];rfl
theorem gQ{h:Heap}{a:Addr}{o:Obj}{n:Nat}{x y:Int}{tx ty:Tok}(h1:h.get? a=some o)(h3:o.data=.seq #[.int x tx,.int y ty] n):dY h (.ref a)=x*2199023255552+y:=by
 unfold dY;rw[vh h1 h3]
theorem prq_lt{u v:Value}{Q:Bool->Shared->Prop}(hu:PrQ s.heap u)(hv:PrQ s.heap v)(h:Q (decide (dY s.heap u<dY s.heap v)) s):wpAny (model prog w) A (keyLt' (tuples' true) u v) Q E s:=by
 obtain⟨a,o,n,x,y,tx,ty,rfl,h1,h2,h3,y0,y1⟩:=hu;obtain⟨a',o',n',x',y',tx',ty',rfl,k1,k2,k3,z0,z1⟩:=hv;rw[gQ h1 h3,gQ k1 k3]at h;refine kat_lt h1 h3 k1 k3 ?_;refine kat_cons (wpAny_eqBool_int ?_);refine kat_go (fun e=>?_) fun e=>kat_no (oneLt_int ?_)
 ·have e':x=x':=by simpa using e
  refine kat_yes (kat_cons (wpAny_eqBool_int (kat_go (fun f=>kat_yes (kat_nil ?_)) fun f=>kat_no (kat_one _ _ (PyProof.Rows.lt_int (show PySem.W.BoolBack Q (.bool _) s from ?_))))))
  ·have f':y=y':=by simpa using f
   rw[e',f',decide_eq_false (Int.lt_irrefl _)]at h;exact h
  ·rw[show decide (x*2199023255552+y<x'*2199023255552+y')=decide (y<y') from decide_eq_decide.mpr (by omega)]at h
   exact h
 ·have e':¬ x=x':=by simpa using e
  rw[show decide (x*2199023255552+y<x'*2199023255552+y')=decide (x<x') from decide_eq_decide.mpr (by omega)]at h
  exact h
theorem vS{vs:List Value}{h6:Heap}(hs:s.heap=h6)(hp:∀ v∈vs,PrQ h6 v):@PyProof.RowsP.LtOk prog w A E s ⟨dY h6,fun v=>v∈vs,tuples' true⟩:=by
 subst hs;refine @PyProof.RowsP.LtOk.mk prog w A E s ⟨dY s.heap,fun v=>v∈vs,tuples' true⟩ ?_;intro st x y Q hk hx hy h;have hx':x.1∈vs:=hx;have hy':y.1∈vs:=hy;show wpS (model prog w) A E s (lt' x y) Q st;rw[lt'_eq];refine wpS_bind (wpS_get ?_);have hk':kindOf st=tuples' true:=hk;rw[hk'];refine wpS_bind (wpS_lift (wpAny_attempt (prq_lt (hp _ hx') (hp _ hy') ⟨rfl,?_⟩)));exact wpS_pure h
theorem u3{a:Addr}{vs:List Value}{n:Nat}{P:PySem.Fin->Shared->Prop} (ho:s.heap.get? a=some (seqObj "list" vs.toArray n)) (hp:∀ v∈vs,PrQ s.heap v) (line:vs.length<=sizeLine)
  (h:∀ out:List Value,out.Perm vs->out.Pairwise (fun u v=>dY s.heap u<=dY s.heap v)->P (.done (.ret .none)) { s with heap:=sortedHeap s.heap a vs out.toArray }):wpAny (model prog w) A (Builtin.«list.sort» ⟨[.ref a],[]⟩) P E s:=by
 have ha:a<s.heap.objs.size:=Heap.lt_size ho;obtain⟨e1,ho1⟩:∃ e1,(s.heap.update a (Obj.mapSeq fun _=>(#[]:Array Value))).get? a=some (seqObj "list" #[] e1):=⟨_,get?_update_seq ho fun _=>#[]⟩;have ho6:(((s.heap.update a (Obj.mapSeq fun _=>(#[]:Array Value))).push (seqObj "tuple" vs.toArray 0)).push (seqObj "list" #[] 0)).get? a=some (seqObj "list" #[] e1):=Heap.get?_push_of_some _ (Heap.get?_push_of_some _ ho1);have keep6:∀ v∈vs,∀ b o,v=.ref b->s.heap.get? b=some o->(((s.heap.update a (Obj.mapSeq fun _=>(#[]:Array Value))).push (seqObj "tuple" vs.toArray 0)).push (seqObj "list" #[] 0)).get? b=some o:=fun v hv b o eb e=>by
  have pv:=hp v hv;refine Heap.get?_push_of_some _ (Heap.get?_push_of_some _ ?_);have nb:b≠a:=fun z=>by
   obtain⟨a',o',n',x,y,tx,ty,rfl,k1,k2,_⟩:=pv
   cases eb
   rw[z,ho]at k1
   cases k1
   exact absurd k2 (by intro z2;have:=Value.type.inj z2;exact absurd this (by decide))
  rw[Heap.get?_update_ne _ _ _ _ nb];exact e
 have hp6:∀ v∈vs,PrQ (((s.heap.update a (Obj.mapSeq fun _=>(#[]:Array Value))).push (seqObj "tuple" vs.toArray 0)).push (seqObj "list" #[] 0)) v:=fun v hv=>(hp v hv).keep fun b o eb e=>keep6 v hv b o eb e;have hf6:∀ v∈vs,dY (((s.heap.update a (Obj.mapSeq fun _=>(#[]:Array Value))).push (seqObj "tuple" vs.toArray 0)).push (seqObj "list" #[] 0)) v=dY s.heap v:=fun v hv=>by
  obtain⟨b,o,m,x,y,tx,ty,rfl,k1,k2,k3,_⟩:=hp v hv;rw[gQ k1 k3,gQ (keep6 _ hv b o rfl k1) k3]
 rw[list_sort_plain];refine wpAny_bind (listItems_at ho rfl (wpAny_bind (listUpdate_at ho rfl (wpAny_bind (seqEpoch_at ho1 rfl (wpAny_bind (wpAny_newTuple (wpAny_bind (wpAny_newList (wpAny_holding ?_) (Ky _))) line)))) (by rw[JU];exact line) (Ky _))))
 show wpAny (model prog w) A _ P E { s with heap:=((s.heap.update a (Obj.mapSeq fun _=>(#[]:Array Value))).push (seqObj "tuple" vs.toArray 0)).push (seqObj "list" #[] 0) };have fin:∀ out:List Value,sortedHeap s.heap a vs out.toArray=(((s.heap.update a (Obj.mapSeq fun _=>(#[]:Array Value))).push (seqObj "tuple" vs.toArray 0)).push (seqObj "list" #[] 0)).update a (Obj.mapSeq fun _=>out.toArray):=fun _=>rfl;generalize ((s.heap.update a (Obj.mapSeq fun _=>(#[]:Array Value))).push (seqObj "tuple" vs.toArray 0)).push (seqObj "list" #[] 0)=h6 at ho6 hp6 fin hf6;dsimp only;by_cases h2:vs.toArray.size<2
 ·rw[if_pos h2,if_pos h2];refine wpAny_bind (wpAny_pure ?_);rw[StateT.run_pure];refine wpAny_bind (wpAny_pure (wpAny_bind (seqEpoch_at ho6 rfl ?_)));dsimp only;have eo:(arrOf (SortSt.mk' general' (vs.toArray.zip vs.toArray) #[] 7 none)).map (·.2)=vs.toArray:=by
   show(vs.toArray.zip vs.toArray).map (·.2)=vs.toArray;apply Array.ext
   ·simp
   ·intro i h1 h2;simp
  rw[eo];refine wpAny_bind (listUpdate_at ho6 rfl ?_ (Ky _) (by rw[JU];exact MS line))
  simp only[bne_self_eq_false,Kv,if_false];refine wpAny_pure ?_;have one:vs.Pairwise (fun u v=>dY s.heap u<=dY s.heap v):=by
   rw[JU]at h2;match vs,h2 with
   |[],_=>exact .nil
   |[_],_=>exact MZ _ _
  have:=h vs (NU _) one;rw[fin]at this;exact this
 ·rw[if_neg h2,if_neg h2];rw[JU]at h2;obtain⟨fs,f1,f2,f3⟩:=xU (s:={ s with heap:=h6 }) (M:=model prog w) fun v hv=>(hp6 v hv).prv;refine wpAny_bind (kat_kind f1 (by omega) f3 (by decide) ?_)
  have flag:(Value.type "int" != Value.type "tuple")=true:=by decide
  rw[flag];letI KF:PyProof.RowsP.KeyFn:=⟨dY h6,fun v=>v∈vs,tuples' true⟩;haveI LO:PyProof.RowsP.LtOk prog w A E { s with heap:=h6 }:=vS rfl hp6;have run:=PyProof.RowsP.wpS_sortAll (prog:=prog) (w:=w) (A:=A) (E:=E) (s:={ s with heap:=h6 }) (a₀:=pairsOf vs) (st:=SortSt.mk' (tuples' true) (vs.toArray.zip vs.toArray) #[] 7 none)
   (Q:=fun _ st'=>(arrOf st').Perm (pairsOf vs)/\failedOf st'=none/\PyProof.RowsP.Upl (arrOf st').toList) (fun p hp'=>?_) ⟨Array.Perm.refl _,rfl,rfl,rfl,Ky _⟩ fun st' q1 q2 q3=>⟨q1,q2,q3⟩
  ·refine wpAny_bind (wpAny_mono run ?_ fun _ _ e=>e);rintro⟨⟨⟩,st'⟩ s' ⟨rfl,hpm,hf,hu⟩;dsimp only;have hl:(arrOf st').toList.Perm (vs.zip vs):=by rw[← pairsOf_toList];exact Ma.mp hpm
   have hmem:∀ p,p∈(arrOf st').toList->p.1=p.2/\p.1∈vs:=fun p hp'=>mem_zip_self (hl.mem_iff.mp hp');have eo:((arrOf st').map (·.2)).toList=(arrOf st').toList.map (·.2):=Array.toList_map ..;have eo2:(arrOf st').map (·.2)=((arrOf st').toList.map (·.2)).toArray:=by rw[← eo]
   have pm:((arrOf st').toList.map (·.2)).Perm vs:=by
    have z:=hl.map (·.2);rw[show(vs.zip vs).map (·.2)=vs from List.map_snd_zip (JF _)]at z;exact z
   rw[eo2];refine wpAny_bind (seqEpoch_at ho6 rfl (wpAny_bind (listUpdate_at ho6 rfl ?_ (Ky _) (by rw[JU,pm.length_eq];exact MS line))))
   rw[hf];simp only[bne_self_eq_false,Kv,if_false];refine wpAny_pure ?_;have up:((arrOf st').toList.map (·.2)).Pairwise (fun u v=>dY s.heap u<=dY s.heap v):=by
    refine Mw.mpr (MW (fun{x y} hx hy hxy=>?_) hu);have hxy':dY h6 x.1<=dY h6 y.1:=hxy;obtain⟨ex,mx⟩:=hmem x hx;obtain⟨ey,my⟩:=hmem y hy;rw[← ex,← ey,← hf6 _ mx,← hf6 _ my];exact hxy'
   have:=h _ pm up;rw[fin]at this;exact this
  ·show p.1∈vs;have hp2:p∈vs.zip vs:=by rw[← pairsOf_toList];exact hp'
   exact(mem_zip_self hp2).2
theorem p5{l:Addr}{vs:List Value}{Q:Value->Shared->Prop}(hl:s.heap.IsList l vs.toArray)(hp:∀ v∈vs,PrQ s.heap v)(h64:vs.length<64)
  (h:∀ out:List Value,out.Perm vs->out.Pairwise (fun u v=>dY s.heap u<=dY s.heap v)->Q (.ref (s.heap.objs.size+1)) { s with heap:=sortedAll s.heap vs out.toArray }):wpAny (model prog w) A (call (.builtin "sorted") [.ref l]) Q E s:=by
 refine Calls.call_function_entry kind_sorted plain_sorted entry_sorted (args_sorted1 _) ?_;unfold Builtin.«sorted»;refine wpAny_bind (m:=checkCount "sorted" 1 1 _) (wpAny_pure ?_);refine wpAny_bind (collect_list hl ?_ (by rw[sizeLine_eq];omega))
 refine wpAny_bind (wpAny_newList ?_ (by rw[sizeLine_eq];omega))
 have hsz:((s.heap.push (seqObj "list" #[] 0)).update s.heap.objs.size (Obj.mapSeq (·++vs.toArray))).objs.size=s.heap.objs.size+1:=by rw[Heap.size_update,size_push']
 have hoL:(((s.heap.push (seqObj "list" #[] 0)).update s.heap.objs.size (Obj.mapSeq (·++vs.toArray))).push (seqObj "list" vs.toArray 0)).get? (s.heap.objs.size+1)=some (seqObj "list" vs.toArray 0):=by rw[← hsz];exact Heap.get?_push_size _ rfl
 show wpAny _ _ _ _ _ { s with heap:=((s.heap.push (seqObj "list" #[] 0)).update s.heap.objs.size (Obj.mapSeq (·++vs.toArray))).push (seqObj "list" vs.toArray 0) };rw[hsz];have kp:∀(b:Addr)(o:Obj),s.heap.get? b=some o->(((s.heap.push (seqObj "list" #[] 0)).update s.heap.objs.size (Obj.mapSeq (·++vs.toArray))).push (seqObj "list" vs.toArray 0)).get? b=some o:=fun b o q=>by
  have hlt:b<s.heap.objs.size:=Heap.lt_size q;rw[Heap.get?_push_ne _ _ _ (by rw[hsz];exact JV (Lw hlt)),Heap.get?_update_ne _ _ _ _ (JV hlt),Heap.get?_push_ne _ _ _ (JV hlt)]
  exact q
 have kf:∀ v∈vs,dY (((s.heap.push (seqObj "list" #[] 0)).update s.heap.objs.size (Obj.mapSeq (·++vs.toArray))).push (seqObj "list" vs.toArray 0)) v=dY s.heap v:=fun v hv=>by
  obtain⟨b,o,m,x,y,tx,ty,rfl,k1,k2,k3,_⟩:=hp v hv;rw[gQ k1 k3,gQ (kp b o k1) k3]
 refine wpAny_bind (wpAny_holding (wpAny_call_entry slot_list_sort ⟨_,hoL,rfl⟩ entry_list_sort (u3 hoL (fun v hv=>(hp v hv).keep fun b o _ q=>kp b o q) (by rw[sizeLine_eq];omega) fun out a1 a2=>⟨_,rfl,?_⟩) (args_list_sort _)))
 exact wpAny_pure ⟨_,rfl,h out a1 (MW (fun{u v} hu hv q=>by rw[← kf u (a1.mem_iff.mp hu),← kf v (a1.mem_iff.mp hv)];exact q) a2)⟩
end
section
variable{X:Cx}
noncomputable def PAt(H:Hp)(ys:List V)(ps:List (Int×Int)):Prop:=ys.length=ps.length/\∀(i:Nat)(p:Int×Int),ps[i]?=some p->∃ t,ys[i]?=some (.ref t)/\H t=some (.tup [.int p.1,.int p.2])
theorem PAt.mono{H H':Hp}{ys:List V}{ps:List (Int×Int)}(h:PAt H ys ps)(s:∀ b o,H b=some o->H' b=some o):PAt H' ys ps:=⟨h.1,fun i p e=>by
 obtain⟨t,a,b⟩:=h.2 i p e
 exact⟨t,a,s _ _ b⟩⟩
theorem PAt.nil(H:Hp):PAt H [] []:=⟨rfl,fun i p e=>by simp at e⟩
theorem PAt.app{H:Hp}{ys zs:List V}{ps qs:List (Int×Int)}(h:PAt H ys ps)(g:PAt H zs qs):PAt H (ys++zs) (ps++qs):=⟨by rw[JN,JN,h.1,g.1],fun i p e=>by
 by_cases c:i<ps.length
 ·rw[Kj c]at e;obtain⟨t,a,b⟩:=h.2 i p e;exact⟨t,by rw[Kj (by have:=h.1;omega)];exact a,b⟩
 ·rw[Ka (by omega)]at e
  obtain⟨t,a,b⟩:=g.2 _ p e
  exact⟨t,by rw[Ka (by have:=h.1;omega),h.1];exact a,b⟩⟩
theorem PAt.one{H:Hp}{t:Addr}{p:Int×Int}(h:H t=some (.tup [.int p.1,.int p.2])):PAt H [.ref t] [p]:=⟨rfl,fun i q e=>by
 match i,e with
 |0,e=>cases e;exact⟨t,rfl,h⟩⟩
theorem PAt.rev{H:Hp}{ys:List V}{ps:List (Int×Int)}(h:PAt H ys ps):PAt H ys.reverse ps.reverse:=⟨by rw[Mh,Mh,h.1],fun i p e=>by
 have hi:=(JD.mp e).1;rw[Mh]at hi;rw[Ni hi]at e;obtain⟨t,a,b⟩:=h.2 _ p e
 exact⟨t,by rw[Ni (by rw[h.1];exact hi),h.1];exact a,b⟩⟩
noncomputable def rSortK(K:JH):List V->Hp->VK->Prop:=fun xs H Q=>∃(p:Addr)(ys:List V)(ps:List (Int×Int)),xs = [.ref p]/\SqL K H p ys/\PAt H ys ps/\(∀ q∈ps,0<=q.2/\q.2<2199023255552)/\ys.length<64 /\
 ∀(l:Addr)(out:List V)(ps':List (Int×Int)),H l=none->ps'.Perm ps->ps'.Pairwise (fun a b=>a.1*2199023255552+a.2<=b.1*2199023255552+b.2)->PAt H out ps'->Q (.ref l) (upd H l (.lst out))
theorem Ar:iq X (.builtin "sorted") (rSortK X.K):=by
 intro pins s σ H xs us Q I r h;obtain⟨p,ys,ps,rfl,hq,hL,bd,h64,q⟩:=h;obtain⟨u,rfl,ru⟩:=ja r
 cases ru
 obtain⟨its,rv,pl,hz⟩:=I.list hq;have hl:=rv.length;have at':∀(i:Nat)(v:Value),its[i]?=some v->∃(a:Addr)(o:Obj)(n:Nat)(tx ty:Tok)(r:Int×Int),v=.ref a/\ps[i]?=some r/\ys[i]?=some (.ref a)/\H a=some (.tup [.int r.1,.int r.2])/\s.heap.get? a=some o/\o.cls=.type "tuple"/\o.data=.seq #[.int r.1 tx,.int r.2 ty] n:=fun i v hv=>by
  have hi:i<its.length:=(JD.mp hv).1;obtain⟨rw0,hr⟩:∃ r,ps[i]?=some r:=⟨_,JB (by have:=hL.1;omega)⟩
  obtain⟨a,ya,ha⟩:=hL.2 i rw0 hr;obtain⟨v',hv',rel⟩:=rv.get ya;rw[hv]at hv'
  cases hv'
  cases (show v=Value.ref a from rel)
  obtain⟨_,its2,r2,ob,b1,b2,nb,b3⟩:=(show bf X.prog X.w H s.heap a (.tup [.int rw0.1,.int rw0.2]) from I.hok a _ ha);obtain⟨u1,u2,rfl,⟨t1,rfl⟩,⟨t2,rfl⟩⟩:=AQ r2;exact⟨a,ob,nb,t1,t2,rw0,rfl,hr,ya,ha,b1,b2,b3⟩
 have mem':∀ v∈its,∃ i,its[i]?=some v:=fun v hv=>LI hv;have hdv:∀ v∈its,PrQ s.heap v:=fun v hv=>by
  obtain⟨i,hi⟩:=mem' v hv;obtain⟨a,o,n,tx,ty,r,rfl,hr,_,_,h1,h2,h3⟩:=at' i v hi;have:=bd r (JG hr);exact⟨a,o,n,r.1,r.2,tx,ty,rfl,h1,h2,h3,this⟩
 have hdr:∀(i:Nat)(v:Value)(r:Int×Int),its[i]?=some v->ps[i]?=some r->prOf s.heap v=r:=fun i v r hv hr=>by
  obtain⟨a,o,n,tx,ty,r',rfl,hr',_,_,h1,h2,h3⟩:=at' i v hv;rw[hr]at hr'
  cases hr'
  exact vh h1 h3
 refine p5 pl.isList hdv (by omega) fun out pm up=>?_
 have erows:its.map (prOf s.heap)=ps:=by
  refine MV fun i=>?_;rw[JJ];by_cases hi:i<its.length
  ·obtain⟨r,hr⟩:∃ r,ps[i]?=some r:=⟨_,JB (by have:=hL.1;omega)⟩
   rw[hr,JB hi];show some _=_;rw[hdr i _ r (JB hi) hr]
  ·rw[Ld (by omega),Ld (by have:=hL.1;omega)]
   rfl
 obtain⟨zs,r3,l3,m3⟩:=rL rv (out:=out) fun v hv=>pm.mem_iff.mp hv;obtain⟨e,he⟩:=sortedAll_at s.heap its out.toArray
 have LO:PAt H zs (out.map (prOf s.heap)):=⟨by rw[l3,JC],fun i r hr=>by
  rw[JJ]at hr;obtain⟨v,hv,rfl⟩:=Km.mp hr;obtain⟨j,hj⟩:=mem' v (pm.mem_iff.mp (JG hv));obtain⟨a,o,n,tx,ty,r',rfl,hr',_,ha,h1,h2,h3⟩:=at' j v hj;obtain⟨y,hy⟩:∃ y,zs[i]?=some y:=⟨_,JB (by rw[l3];exact(JD.mp hv).1)⟩
  obtain⟨v',hv',rel⟩:=r3.get hy;rw[hv]at hv'
  cases hv'
  refine⟨a,?_,by rw[vh h1 h3];exact ha⟩
  rw[hy]
  cases y with
  |ref b=>cases (show Value.ref a=Value.ref b from rel);rfl
  |int _=>obtain⟨_,z⟩:=rel;cases z
  |str _=>obtain⟨_,z⟩:=rel;cases z
  |byt _=>obtain⟨_,z⟩:=rel;cases z
  |flt _=>obtain⟨_,z⟩:=rel;cases z
  |non=>cases rel
  |bl _=>cases rel
  |ty _=>cases rel⟩
 have pr:(out.map (prOf s.heap)).Perm ps:=by
  have:=pm.map (prOf s.heap);rwa[erows]at this
 have pw:(out.map (prOf s.heap)).Pairwise (fun a b=>a.1*2199023255552+a.2<=b.1*2199023255552+b.2):=Mw.mpr up;refine⟨.ref (s.heap.objs.size+1),_,I.laid (t':=s.toks) (fun _ _=>sortedAll_old) (L1 _) (show bf X.prog X.w _ _ _ (.lst zs) from⟨?_,out,e,r3,he⟩),rfl,q _ zs _ (I.hok.fresh (L1 _)) pr pw LO⟩;have:=pm.length_eq;exact Kw (ax (by omega))
end
end L2
namespace L2.C2
open PySem PySem.Spec PyProof.Rows
section
variable{prog:Program}{w:World}{A:Around}{E:Value->Shared->Prop}{s:Shared}{d:Addr}
theorem list_itemsT{r:Addr}{es:Array DictEntry}{ep:Nat}{Q:Value->Shared->Prop}(hh:A.handled=none)(hv:s.heap.IsItemsView r d)(hm:Ent s.heap d es ep)(hn:es.size<=sizeLine)
  (hQ:∀ h' acc' c',(∀ b o,s.heap.get? b=some o->h'.get? b=some o)->h'.get? s.heap.objs.size=some { cls:=.type "list",dict:=none,data:=.seq acc' c',slots:=#[] }->(acc'.size=es.size/\∀(j:Nat)(v:Value),acc'[j]?=some v->∃(t:Addr)(e:DictEntry),v=.ref t/\es[j]?=some e/\s.heap.objs.size<t/\h'.get? t=some { cls:=.type "tuple",data:=.seq #[e.key,e.val] })->acc'.toList.Nodup->Q (.ref s.heap.objs.size) { s with heap:=h' }) :
  wpAny (model prog w) A (call (.type "list") [.ref r]) Q E s:=by
 obtain⟨ov,hv1,hv2,hv3⟩:=id hv;obtain⟨od,hd1,hd2,hd3⟩:=id hm;refine callType_codes (Q₁:=fun obj s₁=>obj=.ref s.heap.objs.size/\s₁={ s with heap:=s.heap.push { cls:=.type "list",data:=.seq #[] } }) PySem.F.called_list (N1 _) N4
  (code_list_new _ ⟨rfl,rfl⟩) fun obj s₁ h₁=>?_
 obtain⟨rfl,rfl⟩:=h₁;have hS:(s.heap.push { cls:=.type "list",data:=.seq #[] }).get? s.heap.objs.size=some { cls:=.type "list",data:=.seq #[] }:=Heap.get?_push_size _ rfl;have hSr:s.heap.objs.size≠r:=K5 (Heap.lt_size hv1);have hSd:s.heap.objs.size≠d:=K5 (Heap.lt_size hd1);refine⟨⟨_,hS,rfl⟩,NW _ _,?_⟩;show wpAny _ _ (do let old ← Builtin.List.listItems (.ref s.heap.objs.size);Builtin.List.listUpdate (.ref s.heap.objs.size) (fun _=>#[]);letGo old.toList.reverse;Builtin.List.listExtendWith (.ref s.heap.objs.size) (.ref r) .none) _ _ _
 refine wpAny_bind ?_;unfold Builtin.List.listItems;refine wpAny_bind (wpAny_seqItems hS rfl (wpAny_pure ?_));show wpAny _ _ (updateSeq s.heap.objs.size (fun _=>#[]) >>= fun _=>letGo (#[]:Array Value).toList.reverse >>= fun _=>Builtin.List.listExtendWith (.ref s.heap.objs.size) (.ref r) .none) _ _ _;refine wpAny_bind (wpAny_updateSeq hS rfl ?_);have hS₂:=Heap.get?_update_self (Obj.mapSeq (fun _=>(#[]:Array Value))) hS rfl;have oth:∀ b o,s.heap.get? b=some o->((s.heap.push { cls:=.type "list",data:=.seq #[] }).update s.heap.objs.size (Obj.mapSeq (fun _=>(#[]:Array Value)))).get? b=some o :=
  fun b o e=>(Heap.get?_update_other _ _ (K5 (Heap.lt_size e))).trans (Heap.get?_push_of_some _ e)
 refine wpAny_bind (wpAny_letGo ?_);refine zX (A:=A.in1) hh ⟨ov,oth _ _ hv1,hv2,hv3⟩ ⟨od,oth _ _ hd1,hd2,hd3⟩ hn hSr hSd hS₂ fun h' acc' c' hk hS' ht ha=>?_
 exact⟨rfl,hQ h' acc' c' (fun b o e=>hk b o (JV (Heap.lt_size e)) (oth b o e)) hS' ⟨ht.1,fun j v hv=>by
  obtain⟨t,e,x1,x2,x3,x4⟩:=ht.2 j v hv;refine⟨t,e,x1,x2,?_,x4⟩;rw[Heap.size_update,size_push']at x3
  exact x3⟩ ha⟩
end
end L2.C2
namespace L2.AT
open PySem PySem.Spec PyProof.Rows
section
variable{X:Cx}{pins:List (Addr×Obj)}{σ:St}{H H':Hp}{s:Shared}{h':Heap}
theorem Inv.many{t':Nat}(I:Inv X pins σ H s)(k:∀ b o,s.heap.get? b=some o->h'.get? b=some o)(hn:∀ b,b<s.heap.objs.size->H' b=H b)(new:∀ b u,s.heap.objs.size<=b->H' b=some u->bf X.prog X.w H' h' b u):Inv X pins σ H' { s with heap:=h',toks:=t' }:=by
 have up:∀ b u,H b=some u->H' b=some u:=fun b u e=>by rw[hn b (I.hok.lt e)];exact e
 refine I.un ⟨fun b o e n _ _=>k b o e,fun b o e n _ _=>⟨o.slots,k b o e⟩,fun b o e n _=>by rw[hn b (Heap.lt_size e)];exact n,fun b o e _=>⟨o,k b o e⟩,fun b xs e=>up b _ e,fun b o u e=>up b _ e,fun b ps e=>⟨#[],by rw[up b _ e];simp⟩⟩ fun b u e=>?_
 by_cases z:b<s.heap.objs.size
 ·rw[hn b z]at e;exact(I.hok b u e).stay (fun c v _ q=>k c v q) (fun c q=>up c _ q) fun c xs q=>up c _ q
 ·exact new b u (MD z) e
theorem FE{α:Type}{l:List (Addr×α)}{a:Addr}{x:α}(nd:(l.map (·.1)).Nodup)(h:(a,x)∈l):l.lookup a=some x:=by
 induction l with
 |nil=>cases h
 |cons p r ih =>
  rw[JQ,Kq]at nd;rcases JI.mp h with e | h
  ·subst e;simp[List.lookup]
  ·have ne:(a == p.1)=false:=beq_eq_false_iff_ne.mpr fun z=>nd.1 (z▸Kk.mpr ⟨_,h,rfl⟩)
   simp only[List.lookup,ne];exact ih nd.2 h
theorem Cr{α:Type}{l:List (Addr×α)}{a:Addr}{x:α}(h:l.lookup a=some x):(a,x)∈l:=by
 induction l with
 |nil=>cases h
 |cons p r ih =>
  simp only[List.lookup]at h;split at h
  ·rename_i e
   cases h
   have:=beq_iff_eq.mp e;rw[this];exact JO
  ·exact JK _ (ih h)
noncomputable def adr:Value->Addr
 |.ref a=>a
 |_=>0
end
end L2.AT
namespace L2
open PySem PySem.Spec PyProof.Rows AT
section
variable{X:Cx}
noncomputable def rListT:List V->Hp->VK->Prop:=fun xs H Q=>∃(v d:Addr)(kvs:List (Key×V))(ps:List (Int×Int)),xs = [.ref v]/\H v=some (yj v d)/\H d=some (.dK kvs)/\kvs=ps.map (fun e=>(Sum.inl e.1,V.int e.2)) /\
 ∀(l:Addr)(out:List V)(H':Hp),(∀ b u,H b=some u->H' b=some u)->H l=none->H' l=some (.lst out)->out.length=ps.length->(∀(i:Nat)(e:Int×Int),ps[i]?=some e->∃ t,out[i]?=some (.ref t)/\H' t=some (.tup [.int e.1,.int e.2]))->Q (.ref l) H'
theorem As(hc:X.calm=true):iq X (.type "list") rListT:=by
 intro pins s σ H xs us Q I r h;obtain⟨v,d,kvs,ps,rfl,hv,hd,ek,q⟩:=h;obtain⟨u,rfl,ru⟩:=ja r
 cases ru
 obtain⟨vw,_,_⟩:=(show bf X.prog X.w H s.heap v (yj v d) from I.hok v _ hv);obtain⟨_,es,ep,hent,esz,hes⟩:=GZ (P:=X.prog) (w:=X.w) (H:=H) (h:=s.heap) (d:=d) (u:=.dK kvs) True.intro (I.hok d _ hd);obtain⟨hz,_⟩:=(show bf X.prog X.w H s.heap d (.dK kvs) from I.hok d _ hd);have esz':es.size=ps.length:=by
  rw[esz];show kvs.length=_;rw[ek,JC]
 have kl:kvs.length=ps.length:=by rw[ek,JC]
 have ent:∀(j:Nat)(e:DictEntry),es[j]?=some e->∃ x tx ty,ps[j]?=some x/\e.key=.int x.1 tx/\e.val=.int x.2 ty:=fun j e he=>by
  obtain⟨a,b,c1,c2,c3⟩:=hes j e he;rcases c1 with⟨kvs',k,e1,e2,e3⟩ | ⟨_,_,_,e1,_⟩
  ·cases e1;rw[ek,JJ]at e2;obtain⟨x,hx,e4⟩:=Km.mp e2
   cases e4
   subst e3;obtain⟨tx,e5⟩:=(show ∃ t,e.key=Value.int x.1 t from c2);obtain⟨ty,e6⟩:=(show ∃ t,e.val=Value.int x.2 t from c3);exact⟨x,tx,ty,hx,e5,e6⟩
  ·cases e1
 refine C2.list_itemsT (I.ok.hd hc) vw hent (by rw[esz];exact hz) fun g acc c hk hS htk hap=>?_
 have tk:∀ w∈acc.toList,∃(j:Nat)(t:Addr)(x:Int×Int)(tx ty:Tok),acc.toList[j]?=some w/\w=.ref t/\ps[j]?=some x/\s.heap.objs.size<t/\g.get? t=some { cls:=.type "tuple",data:=.seq #[.int x.1 tx,.int x.2 ty] }:=fun w hw=>by
  obtain⟨j,hj⟩:=LI hw;obtain⟨t,e,a1,a2,a3,a4⟩:=htk.2 j w (by rw[← KL];exact hj)
  obtain⟨x,tx,ty,b1,b2,b3⟩:=ent j e a2;rw[b2,b3]at a4;exact⟨j,t,x,tx,ty,hj,a1,b1,a3,a4⟩
 have al:acc.toList.length=ps.length:=by rw[Kg,htk.1,esz']
 have eout:(acc.toList.map adr).map Value.ref=acc.toList:=by
  rw[Lu];refine(Lb (g:=id) fun w hw=>?_).trans (List.map_id _);obtain⟨_,t,_,_,_,_,a2,_⟩:=tk w hw;rw[a2];rfl
 have ndt:(acc.toList.map adr).Nodup:=by
  rw[← eout]at hap;exact(Mw.mp hap).imp fun h e=>h (by rw[e])
 have zk:((acc.toList.map adr).zip ps).map (·.1)=acc.toList.map adr:=List.map_fst_zip (by rw[JC,al];exact JF _)
 obtain⟨H',hH'⟩:∃ H':Hp,H'=fun b=>if b=s.heap.objs.size then some (.lst ((acc.toList.map adr).map V.ref)) else match((acc.toList.map adr).zip ps).lookup b with | some e=>some (.tup [.int e.1,.int e.2]) | none=>H b:=⟨_,rfl⟩
 have low:∀ b,b<s.heap.objs.size->H' b=H b:=fun b hb=>by
  rw[hH'];show(if b=s.heap.objs.size then _ else _)=_;rw[if_neg (JV hb)]
  cases z:((acc.toList.map adr).zip ps).lookup b with
  |none=>rfl
  |some e =>
   have m:=Cr z;obtain⟨w,hw,ew⟩:=Kk.mp (Ng m).1;obtain⟨_,t,_,_,_,_,a2,_,a4,_⟩:=tk w hw;subst a2;have:t=b:=ew;subst this;exact absurd hb (Mf (Kw a4))
 have atp:∀(i:Nat)(e:Int×Int),ps[i]?=some e->∃ t tx ty,acc.toList[i]?=some (.ref t)/\s.heap.objs.size<t/\H' t=some (.tup [.int e.1,.int e.2])/\g.get? t=some { cls:=.type "tuple",data:=.seq #[.int e.1 tx,.int e.2 ty] }:=fun i e he=>by
  have hi:i<acc.toList.length:=by rw[al];exact(JD.mp he).1
  obtain⟨j,t,x,tx,ty,a1,a2,a3,a4,a5⟩:=tk _ (KC hi);have ej:i=j:=(List.getElem?_inj hi hap).mp ((JB hi).trans a1.symm);subst ej;rw[he]at a3
  cases a3
  rw[a2]at a1;refine⟨t,tx,ty,a1,a4,?_,a5⟩;rw[hH'];show(if t=s.heap.objs.size then _ else _)=_;rw[if_neg (K5 a4),FE (by rw[zk];exact ndt) (x:=e) (JG (i:=i) (by rw[NT];exact⟨by rw[JJ,a1];rfl,he⟩))]
 have I2:Inv X pins σ H' { s with heap:=g }:=by
  refine Inv.many (t':=s.toks) I hk low fun b u hb hu=>?_;by_cases zb:b=s.heap.objs.size
  ·subst zb;have e2:H' s.heap.objs.size=some (.lst ((acc.toList.map adr).map V.ref)):=by rw[hH'];exact if_pos rfl
   rw[e2]at hu
   cases hu
   refine⟨by rw[JC,JC,al,← kl];exact hz,acc.toList,c,?_,?_⟩
   ·have:∀ l:List Addr,Vals (l.map V.ref) (l.map Value.ref):=fun l=>by
     induction l with
     |nil=>exact .nil
     |cons a l ih=>exact .cons rfl ih
    have z:=this (acc.toList.map adr);rw[eout]at z;exact z
   ·exact hS
  ·have e2:H' b=(match((acc.toList.map adr).zip ps).lookup b with | some e=>some (.tup [.int e.1,.int e.2]) | none=>H b):=by rw[hH'];exact if_neg zb
   rw[e2]at hu
   cases z:((acc.toList.map adr).zip ps).lookup b with
   |none =>
    rw[z]at hu;have:=I.hok.lt (show H b=some u from hu);exact absurd hb (Nat.not_le_of_lt this)
   |some e =>
    rw[z]at hu
    cases hu
    have m:=Cr z;obtain⟨i,hi⟩:=LI m;obtain⟨h1,h2⟩:=NT.mp hi;rw[JJ]at h1;obtain⟨t,tx,ty,b1,b2,b3,b4⟩:=atp i e h2;rw[b1]at h1
    cases h1
    exact⟨(by decide:(2:Nat)<=sizeLine),[.int e.1 tx,.int e.2 ty],.cons ⟨tx,rfl⟩ (.cons ⟨ty,rfl⟩ .nil),_,b4,rfl,_,rfl⟩
 refine⟨.ref s.heap.objs.size,H',I2,rfl,q s.heap.objs.size _ H' (fun b u e=>by rw[low b (I.hok.lt e)];exact e) (I.hok.fresh (JF _)) (by rw[hH'];exact if_pos rfl) (by rw[JC,JC,al]) fun i e he=>?_⟩
 obtain⟨t,_,_,b1,_,b2,_⟩:=atp i e he;exact⟨t,by rw[JJ,JJ,b1];rfl,b2⟩
end
end L2
namespace K2
noncomputable def S:List Nat->Nat
 |[]=>0
 |p::r=>2^p+S r
theorem Jy{n p:Nat}(h:n.testBit p=false)(i:Nat):(n+2^p).testBit i=(n.testBit i||decide (i=p)):=by
 have e:n+2^p=n|||2^p:=by
  have hz:n&&&2^p=0:=by
   apply Ks;intro j;rw[Lh,JY,KW];by_cases hj:p=j
   ·subst hj;simp[h]
   ·simp[hj]
  have q:∀ m k:Nat,(m|||k)+(m&&&k)=m+k:=by
   intro m;induction m using Nf with
   |ind m ih =>
    intro n;by_cases h0:m=0
    ·subst h0;simp
    ·have ih':=ih (m/2) (by omega) (n/2)
     rw[← Nat.or_div_two,← Nat.and_div_two]at ih';have o1:=@Nat.or_mod_two_eq_one m n;have a1:=@Nat.and_mod_two_eq_one m n;omega
  have:=q n (2^p);rw[hz]at this;omega
 rw[e,KZ,JY];congr 1;exact decide_eq_decide.mpr ⟨fun h=>h.symm,fun h=>h.symm⟩
theorem S_bit:∀{D:List Nat},D.Nodup->∀ i,(S D).testBit i=decide (i∈D)
 |[],_,i=>by simp[S]
 |p::r,nd,i=>by
  have ⟨h1,h2⟩:=Kq.mp nd;have hp:(S r).testBit p=false:=by rw[S_bit h2];exact decide_eq_false h1
  have e:S (p::r)=S r+2^p:=NA _ _;rw[e,Jy hp,S_bit h2];by_cases a:i=p<;>by_cases b:i∈r<;>simp[a,b]
noncomputable def bitsF(k n:Nat):List Nat:=if h:n=0 then[] else(if n%2=1 then[k] else[])++bitsF (k+1) (n/2)
termination_by n
decreasing_by omega
theorem bitsF_zero(k:Nat):bitsF k 0 = []:=by rw[bitsF];simp
theorem bitsF_odd{k n:Nat}(h:n%2=1):bitsF k n=k::bitsF (k+1) (n/2):=by
 rw[bitsF,dif_neg (by omega),if_pos h];rfl
theorem bitsF_even{k n:Nat}(h0:n≠0)(h:¬ n%2=1):bitsF k n=bitsF (k+1) (n/2):=by
 rw[bitsF,dif_neg h0,if_neg h];rfl
theorem rA:∀(f n k:Nat),n<=f->∀ p∈bitsF k n,k<=p
 |0,n,k,h=>by
  have z:n=0:=by omega
  subst z;rw[bitsF_zero];intro p hp;cases hp
 |f+1,n,k,h=>by
  intro p hp;by_cases z:n=0
  ·subst z;rw[bitsF_zero]at hp;cases hp
  ·by_cases o:n%2=1
   ·rw[bitsF_odd o]at hp;rcases JI.mp hp with e | hp
    ·omega
    ·have:=rA f (n/2) (k+1) (by omega) p hp;omega
   ·rw[bitsF_even z o]at hp;have:=rA f (n/2) (k+1) (by omega) p hp;omega
theorem bitsF_sorted:∀(f n k:Nat),n<=f->(bitsF k n).Pairwise (· < ·)
 |0,n,k,h=>by
  have z:n=0:=by omega
  subst z;rw[bitsF_zero];exact My
 |f+1,n,k,h=>by
  by_cases z:n=0
  ·subst z;rw[bitsF_zero];exact My
  ·by_cases o:n%2=1
   ·rw[bitsF_odd o];exact List.Pairwise.cons (fun p hp=>rA f (n/2) (k+1) (by omega) p hp) (bitsF_sorted f (n/2) (k+1) (by omega))
   ·rw[bitsF_even z o];exact bitsF_sorted f (n/2) (k+1) (by omega)
theorem bitsF_sum:∀(f n k:Nat),n<=f->S (bitsF k n)=n*2^k
 |0,n,k,h=>by
  have z:n=0:=by omega
  subst z;rw[bitsF_zero];simp[S]
 |f+1,n,k,h=>by
  by_cases z:n=0
  ·subst z;rw[bitsF_zero];simp[S]
  ·have ih:=bitsF_sum f (n/2) (k+1) (by omega)
   have e:n/2*2^(k+1)=(2*(n/2))*2^k:=by rw[Nat.pow_succ,Nat.mul_comm (2^k) 2,← Nat.mul_assoc,Nat.mul_comm (n/2) 2]
   by_cases o:n%2=1
   ·rw[bitsF_odd o];show 2^k+S (bitsF (k+1) (n/2))=_;rw[ih,e];have:n=2*(n/2)+1:=by omega
    have e2:n*2^k=(2*(n/2)+1)*2^k:=by rw[← this]
    rw[e2,Nat.add_mul,Nat.one_mul];omega
   ·rw[bitsF_even z o,ih,e];have:n=2*(n/2):=by omega
    have e2:n*2^k=(2*(n/2))*2^k:=by rw[← this]
    rw[e2]
theorem bitsF_lt:∀(m n k:Nat),n<2^m->∀ p∈bitsF k n,p<k+m
 |0,n,k,h=>by
  have z:n=0:=by omega
  subst z;rw[bitsF_zero];intro p hp;cases hp
 |m+1,n,k,h=>by
  intro p hp;have h2:n/2<2^m:=by rw[Nat.pow_succ]at h;omega
  by_cases z:n=0
  ·subst z;rw[bitsF_zero]at hp;cases hp
  ·by_cases o:n%2=1
   ·rw[bitsF_odd o]at hp;rcases JI.mp hp with e | hp
    ·omega
    ·have:=bitsF_lt m (n/2) (k+1) h2 p hp;omega
   ·rw[bitsF_even z o]at hp;have:=bitsF_lt m (n/2) (k+1) h2 p hp;omega
theorem bitsF_len:∀(m n k:Nat),n<2^m->(bitsF k n).length<=m
 |0,n,k,h=>by
  have z:n=0:=by omega
  subst z;rw[bitsF_zero];exact JF _
 |m+1,n,k,h=>by
  have h2:n/2<2^m:=by rw[Nat.pow_succ]at h;omega
  by_cases z:n=0
  ·subst z;rw[bitsF_zero];exact Ky _
  ·by_cases o:n%2=1
   ·rw[bitsF_odd o];have:=bitsF_len m (n/2) (k+1) h2;show _+1<=_;omega
   ·rw[bitsF_even z o];have:=bitsF_len m (n/2) (k+1) h2;omega
theorem nodup_of_lt{l:List Nat}(h:l.Pairwise (· < ·)):l.Nodup:=h.imp fun h=>JV h
end K2
namespace L2
theorem len_0{α:Type}{l:List α}(h:l.length=0):l = []:=L3.mp h
theorem zM{α:Type}{l:List α}{n:Nat}(h:l.length=n+1):∃ x r,l=x::r/\r.length=n:=by
 cases l with
 |nil=>cases h
 |cons x r=>exact⟨x,r,rfl,Nat.succ.inj h⟩
theorem qx{α:Type}{l:List α}(h:l.length=1):∃ a,l = [a]:=by
 obtain⟨a,r,rfl,e⟩:=zM h;exact⟨a,by rw[len_0 e]⟩
theorem jn{α:Type}{l:List α}(h:l.length=2):∃ a b,l = [a,b]:=by
 obtain⟨a,r,rfl,e⟩:=zM h;obtain⟨b,rfl⟩:=qx e;exact⟨a,b,rfl⟩
theorem lh{α:Type}{l:List α}(h:l.length=3):∃ a b c,l = [a,b,c]:=by
 obtain⟨a,r,rfl,e⟩:=zM h;obtain⟨b,c,rfl⟩:=jn e;exact⟨a,b,c,rfl⟩
theorem IL{α:Type}{l:List α}(h:l.length=4):∃ a b c d,l = [a,b,c,d]:=by
 obtain⟨a,r,rfl,e⟩:=zM h;obtain⟨b,c,d,rfl⟩:=lh e;exact⟨a,b,c,d,rfl⟩
theorem len_5{α:Type}{l:List α}(h:l.length=5):∃ a b c d e,l = [a,b,c,d,e]:=by
 obtain⟨a,r,rfl,z⟩:=zM h;obtain⟨b,c,d,e,rfl⟩:=IL z;exact⟨a,b,c,d,e,rfl⟩
theorem len_6{α:Type}{l:List α}(h:l.length=6):∃ a b c d e f,l = [a,b,c,d,e,f]:=by
 obtain⟨a,r,rfl,z⟩:=zM h;obtain⟨b,c,d,e,f,rfl⟩:=len_5 z;exact⟨a,b,c,d,e,f,rfl⟩
end L2
namespace KF
open PySem L2
local macro_rules | `(tactic| walk_at "cc") => `(tactic| first | exact ⟨by decide, by decide⟩ | (show (0 : Int) < _; decide) | (show (0 : Int) < _; omega) | (show (0 : Int) ≤ _; omega) | exact ⟨by decide, by decide, by decide⟩ | exact ⟨by omega, by omega, by decide⟩ | exact Or.inl ⟨by decide, by decide⟩ | exact Or.inl ⟨by omega, by omega⟩)
local macro_rules | `(tactic| walk_at "rd") => `(tactic| repeat (first | refine ⟨_, rfl, ?_⟩ | refine ⟨_, _, rfl, rfl, ?_⟩ | refine ⟨rfl, ?_⟩ | (refine ⟨?cc, ?_⟩; (case cc => walk_at "cc"))))
noncomputable def top(i:Nat):Stmt:=PySem.Challenge.pw_spinfloor_k28_whole_hills.main.body.getD i (.Pass ⟨0,0,0,0⟩)
noncomputable abbrev eB:Stmt:=top 11
noncomputable abbrev gN:Stmt:=top 13
noncomputable abbrev dj:Stmt:=top 14
noncomputable abbrev iG:Stmt:=top 15
noncomputable abbrev gH:Stmt:=top 16
noncomputable abbrev jW:Stmt:=top 17
noncomputable abbrev o7:Stmt:=top 1
noncomputable abbrev oZ:Stmt:=top 2
noncomputable abbrev yW:Stmt:=top 3
noncomputable abbrev eE:Stmt:=top 4
noncomputable abbrev bp:Stmt:=top 21
noncomputable abbrev cE:Stmt:=top 22
noncomputable abbrev a7:Stmt:=top 23
noncomputable abbrev cq:Stmt:=top 24
noncomputable abbrev gK:Stmt:=top 25
noncomputable abbrev bD:Stmt:=top 39
noncomputable abbrev cA:Stmt:=top 40
noncomputable abbrev bu:Stmt:=top 41
noncomputable abbrev cz:Stmt:=top 44
noncomputable abbrev eu:Stmt:=top 26
noncomputable abbrev eG:Stmt:=top 27
noncomputable abbrev eI:Stmt:=top 29
noncomputable abbrev gL:Stmt:=top 30
noncomputable abbrev jY:Stmt:=top 31
noncomputable abbrev di:Stmt:=top 20
noncomputable abbrev jX:Stmt:=top 33
noncomputable abbrev gM:Stmt:=top 34
noncomputable abbrev cm:Stmt:=top 35
noncomputable abbrev eJ:Stmt:=top 36
noncomputable abbrev du:Stmt:=top 37
noncomputable abbrev br:Stmt:=top 42
noncomputable abbrev eF:Stmt:=top 43
noncomputable abbrev cC:Stmt:=top 45
noncomputable abbrev bN:Stmt:=top 46
noncomputable abbrev dk:Stmt:=top 47
noncomputable abbrev dq:Stmt:=top 48
noncomputable abbrev p9:Stmt:=top 49
noncomputable abbrev Lk:=Nat×Nat×Int
noncomputable def bey(l:Lk)(r:Nat):Nat:=if r=l.1 then l.2.1 else l.1
noncomputable def jC(l:Lk)(r:Nat):Prop:=r=l.1∨r=l.2.1
theorem rB{l:Lk}{r:Nat}(h:jC l r):jC l (bey l r):=by
 unfold bey;split
 ·exact .inr rfl
 ·exact .inl rfl
theorem nW{l:Lk}{r:Nat}(h:jC l r):bey l (bey l r)=r:=by
 unfold bey;by_cases c:r=l.1
 ·rw[if_pos c];by_cases d:l.2.1=l.1
  ·rw[if_pos d];omega
  ·rw[if_neg d];exact c.symm
 ·rw[if_neg c,if_pos rfl];rcases h with h | h
  ·exact absurd h c
  ·exact h.symm
theorem bey_lt{l:Lk}{r n:Nat}(h1:l.1<n)(h2:l.2.1<n):bey l r<n:=by
 unfold bey;split<;>assumption
inductive Up(ls:List Lk)(vv:List (Option Nat))(s:Nat):Nat->Nat->Prop where
 |root:Up ls vv s 0 s
 |step {j r k:Nat} {l:Lk} (hv:vv[r]?=some (some k)) (hl:ls[k]?=some l) (h:Up ls vv s j (bey l r)):Up ls vv s (j+1) r
theorem Up.uniq{ls:List Lk}{vv:List (Option Nat)}{s:Nat}(h0:vv[s]?=some none):∀{j i r:Nat},Up ls vv s j r->Up ls vv s i r->j=i
 |_,_,_,.root,.root=>rfl
 |_,_,_,.root,.step hv _ _=>by rw[h0]at hv;cases hv
 |_,_,_,.step hv _ _,.root=>by rw[h0]at hv;cases hv
 |_,_,_,.step hv hl h,.step hv' hl' h'=>by
  rw[hv]at hv';cases hv';rw[hl]at hl';cases hl';rw[Up.uniq h0 h h']
theorem Up.lt{ls:List Lk}{vv:List (Option Nat)}{s j r:Nat}(h0:vv[s]?=some none)(h:Up ls vv s j r):r<vv.length:=by
 cases h with
 |root=>exact(JD.mp h0).1
 |step hv _ _=>exact(JD.mp hv).1
theorem Up.chain{ls:List Lk}{vv:List (Option Nat)}{s:Nat}(h0:vv[s]?=some none):∀{j r:Nat},Up ls vv s j r->∃ c:List Nat,c.length=j+1/\c.Nodup/\∀ x∈c,x<vv.length/\∃ i,i<=j/\Up ls vv s i x
 |_,_,.root=>⟨[s],rfl,Kq.mpr ⟨(by simp),LV⟩,fun x hx=>by rw[JR.mp hx];exact⟨Up.lt (ls:=ls) h0 .root,0,JF _,.root⟩⟩
 |j+1,r,.step hv hl h=>by
  obtain⟨c,cl,nd,hc⟩:=Up.chain h0 h;have me:Up ls vv s (j+1) r:=.step hv hl h;refine⟨r::c,by rw[Ke,cl],Kq.mpr ⟨fun hr=>?_,nd⟩,fun x hx=>?_⟩
  ·obtain⟨_,i,hi,hu⟩:=hc r hr;have:=Up.uniq h0 me hu;omega
  ·rcases JI.mp hx with rfl | hx
   ·exact⟨Up.lt h0 me,j+1,JF _,me⟩
   ·obtain⟨a,i,hi,hu⟩:=hc x hx;exact⟨a,i,by omega,hu⟩
theorem gP:∀(n:Nat)(c:List Nat),c.Nodup->(∀ x∈c,x<n)->c.length<=n
 |0,c,_,h=>by
  cases c with
  |nil=>exact JF _
  |cons x r=>exact absurd (h x (JO ..)) (LN _)
 |n+1,c,nd,h=>by
  have h1:=gP n (c.erase n) (nd.erase _) fun x hx=>by
   have hm:=Nh hx;have:=h x hm;have:x≠n:=fun e=>by rw[e]at hx;exact absurd hx (NZ nd)
   omega
  have h2:c.length<=(c.erase n).length+1:=by rw[MT];split<;>omega
  omega
theorem Up.short{ls:List Lk}{vv:List (Option Nat)}{s j r:Nat}(h0:vv[s]?=some none)(h:Up ls vv s j r):j+1<=vv.length:=by
 obtain⟨c,cl,nd,hc⟩:=Up.chain h0 h;rw[← cl];exact gP _ c nd fun x hx=>(hc x hx).1
noncomputable def cOf(o:Option Int):Nat:=if o.isSome then 1 else 0
noncomputable def cnt(T:List (Option Int)):Nat:=(T.map cOf).sum
noncomputable def vOf(B:Nat)(o:Option Int):Nat:=match o with | none=>B | some x=>x.toNat
noncomputable def wgt(B:Nat)(T:List (Option Int)):Nat:=(T.map (vOf B)).sum
theorem pS{α:Type}(f:α->Nat):∀(l:List α)(i:Nat)(x y:α),l[i]?=some x->((l.set i y).map f).sum+f x=(l.map f).sum+f y
 |a::l,0,x,y,e=>by
  cases e
  rw[List.set_cons_zero,JQ,JQ,K7,K7];omega
 |a::l,i+1,x,y,e=>by
  have:=pS f l i x y e;rw[List.set_cons_succ,JQ,JQ,K7,K7];omega
 |[],i,x,y,e=>by cases i<;>cases e
theorem G8:∀(T:List (Option Int)){i:Nat},T[i]?=some none->cnt T+1<=T.length
 |[],i,e=>by cases i<;>cases e
 |a::T,0,e=>by
  cases e
  have:∀ T:List (Option Int),cnt T<=T.length:=fun T=>by
   induction T with
   |nil=>exact JF _
   |cons b T ih =>
    have e1:cnt (b::T)=cOf b+cnt T:=by unfold cnt;rw[JQ,K7]
    have e2:cOf b<=1:=by unfold cOf;split<;>omega
    rw[e1,Ke];omega
  have e1:cnt (none::T)=cOf none+cnt T:=by unfold cnt;rw[JQ,K7]
  have e2:cOf none=0:=rfl;have:=this T;rw[e1,Ke];omega
 |a::T,i+1,e=>by
  have ih:=G8 T (i:=i) e;have e1:cnt (a::T)=cOf a+cnt T:=by unfold cnt;rw[JQ,K7]
  have e2:cOf a<=1:=by unfold cOf;split<;>omega
  rw[e1,Ke];omega
structure FI(n:Nat)(ls:List Lk)(s:Nat)(M:Nat)(T:List (Option Int))(vv:List (Option Nat))(W:List Nat)(ex:Nat->Nat->Prop):Prop where
 w0:∀ l∈ls,0<=l.2.2/\l.2.2<=(M:Int)
 tl:T.length=n
 vl:vv.length=n
 st:T[s]?=some (some 0)
 vs:vv[s]?=some none
 nn:∀(r:Nat)(x:Int),T[r]?=some (some x)->0<=x
 bd:∀(r:Nat)(x:Int),T[r]?=some (some x)->x+(M:Int)<=(cnt T:Int)*(M:Int)
 pr:∀(r k:Nat),vv[r]?=some (some k)->∃(l:Lk)(x y:Int),ls[k]?=some l/\jC l r/\T[r]?=some (some x)/\T[bey l r]?=some (some y)/\y+l.2.2<=x
 up:∀(r:Nat)(x:Int),T[r]?=some (some x)->∃ j,Up ls vv s j r
 rl:∀(r:Nat)(x:Int)(i:Nat)(l:Lk),T[r]?=some (some x)->r∉W->ls[i]?=some l->jC l r->ex r i∨∃ y:Int,T[bey l r]?=some (some y)/\y<=x+l.2.2
 wk:∀ r∈W,∃ x:Int,T[r]?=some (some x)
theorem rX{α:Type}{l:List α}{i j:Nat}{x:α}(hi:i<l.length):(l.set i x)[j]?=if i=j then some x else l[j]?:=by
 rw[List.getElem?_set];by_cases c:i=j
 ·rw[if_pos c,if_pos c,if_pos hi]
 ·rw[if_neg c,if_neg c]
theorem FI.mend{n:Nat}{ls:List Lk}{s M:Nat}{T:List (Option Int)}{vv:List (Option Nat)}{W W':List Nat}{ex ex':Nat->Nat->Prop}(I:FI n ls s M T vv W ex){m k:Nat}{l:Lk}{x:Int}{o:Option Int}
  (hl:ls[k]?=some l) (hm:jC l m) (hx:T[m]?=some (some x)) (ho:T[bey l m]?=some o) (hlt:∀ y,o=some y->x+l.2.2<y)
  (hW:∀ r,r∈W'↔r∈W∨r=bey l m) (hex:∀ r i,ex r i->ex' r i∨(r=m/\i=k)) :
  FI n ls s M (T.set (bey l m) (some (x+l.2.2))) (vv.set (bey l m) (some k)) W' ex':=by
 obtain⟨h0,hM⟩:=I.w0 l (JG hl);have tt:bey l m<T.length:=(JD.mp ho).1;have tl:=I.tl;have vl:=I.vl;have x0:=I.nn m x hx;have ns:bey l m≠s:=fun e=>by
  rw[e,I.st]at ho
  cases ho
  have:=hlt 0 rfl;omega
 have nm:bey l m≠m:=fun e=>by
  rw[e,hx]at ho
  cases ho
  have:=hlt x rfl;omega
 have gT:∀ r:Nat,(T.set (bey l m) (some (x+l.2.2)))[r]?=if bey l m=r then some (some (x+l.2.2)) else T[r]?:=fun r=>rX tt;have gV:∀ r:Nat,(vv.set (bey l m) (some k))[r]?=if bey l m=r then some (some k) else vv[r]?:=fun r=>rX (by omega)
 have low:∀(r:Nat)(y:Int),T[r]?=some (some y)->∃ z:Int,(T.set (bey l m) (some (x+l.2.2)))[r]?=some (some z)/\z<=y:=fun r y e=>by
  rw[gT];by_cases c:bey l m=r
  ·rw[if_pos c];rw[← c,ho]at e
   cases e
   exact⟨_,rfl,LB (hlt y rfl)⟩
  ·rw[if_neg c];exact⟨y,e,KR _⟩
 have keep:∀{j r:Nat},Up ls vv s j r->∀ y,T[r]?=some (some y)->(∀ z,o=some z->y<z)->Up ls (vv.set (bey l m) (some k)) s j r:=by
  intro j r h;induction h with
  |root=>intro _ _ _;exact .root
  | @step j r k' l' hv hl' h ih =>
   intro y hy hz;have ne:bey l m≠r:=fun e=>by
    rw[e,hy]at ho
    cases ho
    exact absurd (hz y rfl) (Int.lt_irrefl _)
   obtain⟨l2,x2,y2,e1,e2,e3,e4,e5⟩:=I.pr r k' hv;rw[hl']at e1;cases e1;rw[hy]at e3;cases e3;have w0:=(I.w0 l' (JG hl')).1;refine .step (by rw[gV,if_neg ne];exact hv) hl' (ih y2 e4 fun z hz'=>?_)
   have:=hz z hz';omega
 obtain⟨jm,um⟩:=I.up m x hx;have um':=keep um x hx fun z hz=>by have:=hlt z hz;omega
 have ut:Up ls (vv.set (bey l m) (some k)) s (jm+1) (bey l m):=.step (by rw[gV,if_pos rfl]) hl (by rw[nW hm];exact um')
 have all:∀{j r:Nat},Up ls vv s j r->∃ i,Up ls (vv.set (bey l m) (some k)) s i r:=by
  intro j r h;induction h with
  |root=>exact⟨0,.root⟩
  | @step j r k' l' hv hl' h ih =>
   by_cases c:bey l m=r
   ·rw[← c];exact⟨_,ut⟩
   ·obtain⟨i,hi⟩:=ih;exact⟨i+1,.step (by rw[gV,if_neg c];exact hv) hl' hi⟩
 have cs:=pS cOf T (bey l m) o (some (x+l.2.2)) ho;have c1:cOf (some (x+l.2.2))=1:=rfl;have cc:cnt (T.set (bey l m) (some (x+l.2.2)))+cOf o=cnt T+1:=by unfold cnt;rw[c1]at cs;exact cs
 have cle:cnt T<=cnt (T.set (bey l m) (some (x+l.2.2))):=by
  have:cOf o<=1:=by unfold cOf;split<;>omega
  omega
 have mul_le:(cnt T:Int)*(M:Int)<=(cnt (T.set (bey l m) (some (x+l.2.2))):Int)*(M:Int):=Int.mul_le_mul_of_nonneg_right (by omega) (by omega)
 have bm:=I.bd m x hx;refine⟨I.w0,by rw[L5];exact tl,by rw[L5];exact vl,by rw[gT,if_neg ns];exact I.st,by rw[gV,if_neg ns];exact I.vs,fun r y e=>?_,fun r y e=>?_,fun r k' e=>?_,fun r y e=>?_,fun r y i l' e hr hl' hend=>?_,fun r hr=>?_⟩
 ·rw[gT]at e;by_cases c:bey l m=r
  ·rw[if_pos c]at e;cases e;omega
  ·rw[if_neg c]at e;exact I.nn r y e
 ·rw[gT]at e;by_cases c:bey l m=r
  ·rw[if_pos c]at e;cases e
   cases o with
   |none =>
    have e1:cnt (T.set (bey l m) (some (x+l.2.2)))=cnt T+1:=by have:cOf none=0:=rfl;omega
    rw[e1];have:((cnt T+1:Nat):Int)*(M:Int)=(cnt T:Int)*(M:Int)+(M:Int):=by push_cast;rw[Int.add_mul,Int.one_mul]
    omega
   |some z =>
    have:=hlt z rfl;have:=I.bd (bey l m) z ho;omega
  ·rw[if_neg c]at e;have:=I.bd r y e;omega
 ·rw[gV]at e;by_cases c:bey l m=r
  ·rw[if_pos c]at e;cases e;refine⟨l,x+l.2.2,x,hl,c▸rB hm,by rw[gT,if_pos c],?_,KR _⟩
   rw[← c,nW hm,gT,if_neg nm];exact hx
  ·rw[if_neg c]at e;obtain⟨l2,x2,y2,e1,e2,e3,e4,e5⟩:=I.pr r k' e;obtain⟨z,e6,e7⟩:=low _ _ e4;exact⟨l2,x2,z,e1,e2,by rw[gT,if_neg c];exact e3,e6,by omega⟩
 ·rw[gT]at e;by_cases c:bey l m=r
  ·rw[← c];exact⟨_,ut⟩
  ·rw[if_neg c]at e;obtain⟨j,u⟩:=I.up r y e;exact all u
 ·have nr:r∉W/\r≠bey l m:=⟨fun z=>hr ((hW r).mpr (.inl z)),fun z=>hr ((hW r).mpr (.inr z))⟩
  rw[gT,if_neg (Ne.symm nr.2)]at e;rcases I.rl r y i l' e nr.1 hl' hend with h | ⟨z,h1,h2⟩
  ·rcases hex r i h with h | ⟨h1,h2⟩
   ·exact .inl h
   ·subst h1;subst h2;rw[hl]at hl';cases hl';rw[hx]at e;cases e;exact .inr ⟨x+l.2.2,by rw[gT,if_pos rfl],KR _⟩
  ·obtain⟨z',h3,h4⟩:=low _ _ h1;exact .inr ⟨z',h3,by omega⟩
 ·rcases(hW r).mp hr with h | h
  ·obtain⟨y,e⟩:=I.wk r h;obtain⟨z,h3,_⟩:=low _ _ e;exact⟨z,h3⟩
  ·rw[h];exact⟨_,by rw[gT,if_pos rfl]⟩
theorem FI.leave{n:Nat}{ls:List Lk}{s M:Nat}{T:List (Option Int)}{vv:List (Option Nat)}{W:List Nat}{ex ex':Nat->Nat->Prop}(I:FI n ls s M T vv W ex){m k:Nat}{l:Lk}{x y:Int}
  (hl:ls[k]?=some l) (hx:T[m]?=some (some x)) (hy:T[bey l m]?=some (some y)) (hge:y<=x+l.2.2) (hex:∀ r i,ex r i->ex' r i∨(r=m/\i=k)):FI n ls s M T vv W ex' :=
 ⟨I.w0,I.tl,I.vl,I.st,I.vs,I.nn,I.bd,I.pr,I.up,fun r z i l' e hr hl' hend=>by
  rcases I.rl r z i l' e hr hl' hend with h | h
  ·rcases hex r i h with h | ⟨h1,h2⟩
   ·exact .inl h
   ·subst h1;subst h2;rw[hl]at hl';cases hl';rw[hx]at e;cases e;exact .inr ⟨y,hy,hge⟩
  ·exact .inr h,I.wk⟩
theorem Es{n M:Nat}{ls:List Lk}{s:Nat}{T:List (Option Int)}{vv:List (Option Nat)}{W:List Nat}{ex:Nat->Nat->Prop}(I:FI n ls s M T vv W ex){m t:Nat}{x w:Int}{o:Option Int}(w0:0<=w)(wM:w<=(M:Int))(hx:T[m]?=some (some x))(ho:T[t]?=some o)(hlt:∀ y,o=some y->x+w<y) :
  wgt (n*M+1) (T.set t (some (x+w)))+1<=wgt (n*M+1) T:=by
 have e:=pS (vOf (n*M+1)) T t o (some (x+w)) ho;have x0:=I.nn m x hx;have b:=I.bd m x hx;have e1:vOf (n*M+1) (some (x+w))=(x+w).toNat:=rfl;unfold wgt;rw[e1]at e
 cases o with
 |none =>
  have cl:=G8 T ho;have e2:vOf (n*M+1) none=n*M+1:=rfl;rw[e2]at e;have h1:cnt T*M<=n*M:=Nl M (by rw[I.tl]at cl;omega)
  have h2:x+(M:Int)<=((n*M:Nat):Int):=by
   have:((cnt T*M:Nat):Int)<=((n*M:Nat):Int):=by exact_mod_cast h1
   have h3:((cnt T*M:Nat):Int)=(cnt T:Int)*(M:Int):=by push_cast;rfl
   omega
  omega
 |some z =>
  have:=hlt z rfl;have e2:vOf (n*M+1) (some z)=z.toNat:=rfl;rw[e2]at e;omega
theorem FI.first{n:Nat}{ls:List Lk}{s M:Nat}(w0:∀ l∈ls,0<=l.2.2/\l.2.2<=(M:Int))(hs:s<n):FI n ls s M ((JM n none).set s (some 0)) (JM n none) [s] (fun _ _=>False):=by
 have gT:∀ r:Nat,((JM n (none:Option Int)).set s (some 0))[r]?=if s=r then some (some 0) else(JM n none)[r]?:=fun r=>rX (by rw[LA];exact hs)
 have rep:∀{α:Type}(r:Nat)(x:α),(JM n (none:Option α))[r]?≠some (some x):=fun r x e=>by
  have:=JG e;have:=(Nv.mp this).2
  cases this
 have one:∀(r:Nat)(x:Int),((JM n (none:Option Int)).set s (some 0))[r]?=some (some x)->r=s/\x=0:=fun r x e=>by
  rw[gT]at e;by_cases c:s=r
  ·rw[if_pos c]at e;cases e;exact⟨c.symm,rfl⟩
  ·rw[if_neg c]at e;exact absurd e (rep r x)
 refine⟨w0,by rw[L5,LA],LA,by rw[gT,if_pos rfl],by rw[LK,if_pos hs],fun r x e=>?_,fun r x e=>?_,fun r k e=>absurd e (rep r k),fun r x e=>?_,fun r x i l e hr=>?_,fun r hr=>?_⟩
 ·rw[(one r x e).2];exact KR _
 ·rw[(one r x e).2];have cs:=pS cOf (JM n (none:Option Int)) s none (some 0) (by rw[LK,if_pos hs])
  have c1:cOf (some 0)=1:=rfl;have c0:cOf none=0:=rfl;have:1<=cnt ((JM n (none:Option Int)).set s (some 0)):=by unfold cnt;omega
  have h2:1*M<=cnt ((JM n (none:Option Int)).set s (some 0))*M:=Nl M this;have h3:((1*M:Nat):Int)<=((cnt ((JM n (none:Option Int)).set s (some 0))*M:Nat):Int):=by exact_mod_cast h2
  push_cast at h3;omega
 ·rw[(one r x e).1];exact⟨0,.root⟩
 ·rw[(one r x e).1]at hr;exact absurd (JR.mpr rfl) hr
 ·rw[JR.mp hr];exact⟨0,by rw[gT,if_pos rfl]⟩
theorem FI.take{n:Nat}{ls:List Lk}{s M:Nat}{T:List (Option Int)}{vv:List (Option Nat)}{W W':List Nat}(I:FI n ls s M T vv W (fun _ _=>False)){m:Nat}(hW:∀ r,r∈W'↔r∈W/\r≠m):FI n ls s M T vv W' (fun r _=>r=m) :=
 ⟨I.w0,I.tl,I.vl,I.st,I.vs,I.nn,I.bd,I.pr,I.up,fun r x i l e hr hl hend=>by
  by_cases c:r=m
  ·exact .inl c
  ·rcases I.rl r x i l e (fun z=>hr ((hW r).mpr ⟨z,c⟩)) hl hend with h | h
   ·exact h.elim
   ·exact .inr h,fun r hr=>I.wk r ((hW r).mp hr).1⟩
theorem FI.exw{n:Nat}{ls:List Lk}{s M:Nat}{T:List (Option Int)}{vv:List (Option Nat)}{W:List Nat}{ex ex':Nat->Nat->Prop}(I:FI n ls s M T vv W ex)(h:∀ r i l,ls[i]?=some l->jC l r->ex r i->ex' r i):FI n ls s M T vv W ex' :=
 ⟨I.w0,I.tl,I.vl,I.st,I.vs,I.nn,I.bd,I.pr,I.up,fun r x i l e hr hl hend=>by
  rcases I.rl r x i l e hr hl hend with z | z
  ·exact .inl (h r i l hl hend z)
  ·exact .inr z,I.wk⟩
theorem ak{H:Hp}{p:Addr}(h:H p=none)(o:HO):Same H (upd H p o):=fun b u q=>by rw[ao (bw q h)];exact q
theorem bW{H H2:Hp}{l:Addr}(h:Same H H2)(hl:H l=none)(o:HO):Same H (upd H2 l o):=fun b u q=>by rw[ao (bw q hl)];exact h b u q
theorem cV{H H':Hp}(s:Same H H'){p:Addr}(h:H' p=none):H p=none:=by
 cases y:H p with
 |none=>rfl
 |some o=>rw[s _ _ y]at h;cases h
noncomputable def iV(p:Nat):V:=.int (p:Int)
theorem at0{x y:V}:atI [x,y] 0=some x:=rfl
theorem at1{x y:V}:atI [x,y] 1=some y:=rfl
theorem a30{x y z:V}:atI [x,y,z] 0=some x:=rfl
theorem a31{x y z:V}:atI [x,y,z] 1=some y:=rfl
theorem a32{x y z:V}:atI [x,y,z] 2=some z:=rfl
noncomputable def LkAt(H:Hp)(v:V)(l:Lk):Prop:=∃ t,v=.ref t/\H t=some (.tup [.int (l.1:Int),.int (l.2.1:Int),.int l.2.2])
noncomputable def LnAt(H:Hp)(v:V)(ls:List Lk):Prop:=∃ a ys,v=.ref a/\H a=some (.lst ys)/\LsAt LkAt H ys ls
theorem LkAt.mono{H H':Hp}{v:V}{p:Lk}(h:LkAt H v p)(s:Same H H'):LkAt H' v p:=by
 obtain⟨t,e,z⟩:=h;exact⟨t,e,s _ _ z⟩
theorem LnAt.mono{H H':Hp}{v:V}{r:List Lk}(h:LnAt H v r)(s:Same H H'):LnAt H' v r:=by
 obtain⟨a,ys,e,z,l⟩:=h;exact⟨a,ys,e,s _ _ z,l.imp fun _ _ q=>q.mono s⟩
noncomputable def MM:Nat:=10^31
structure Lok(n:Nat)(ls:List Lk):Prop where
 n1:n<=40
 l9:ls.length<=60
 sm:∀ l∈ls,l.1<n/\l.2.1<n
 w0:∀ l∈ls,0<=l.2.2/\l.2.2<=(MM:Int)
noncomputable def ik(S:Addr->Prop)(H:Hp)(xs:List V)(ts:List (List Nat)):Prop:=xs.length=ts.length/\∀(i:Nat)(l:List Nat),ts[i]?=some l->∃ p,xs[i]?=some (.ref p)/\¬ S p/\H p=some (.lst (l.map iV))
theorem ik.mono{S:Addr->Prop}{H H':Hp}{xs:List V}{ts:List (List Nat)}(h:ik S H xs ts)(s:∀ b u,¬ S b->H b=some u->H' b=some u):ik S H' xs ts:=⟨h.1,fun i e q=>by
 obtain⟨p,a,n,b⟩:=h.2 i e q
 exact⟨p,a,n,s _ _ n b⟩⟩
theorem ik.snoc{S:Addr->Prop}{H:Hp}{xs:List V}{ts:List (List Nat)}{q:Addr}{l:List Nat}(h:ik S H xs ts)(n:¬ S q)(e:H q=some (.lst (l.map iV))):ik S H (xs++[.ref q]) (ts++[l]):=by
 refine⟨by rw[JN,JN,h.1];rfl,fun j k ej=>?_⟩
 by_cases hj:j<ts.length
 ·rw[Kj hj]at ej;obtain⟨p,a1,a2⟩:=h.2 j k ej;exact⟨p,by rw[Kj (by rw[h.1];exact hj)];exact a1,a2⟩
 ·rw[Ka (MD hj)]at ej;have hj2:j=ts.length:=by
   have:=(JD.mp ej).1;rw[Lc]at this;omega
  subst hj2;rw[Ln]at ej
  cases ej
  exact⟨q,by rw[← h.1,Ka (JF _),Ln];rfl,n,e⟩
noncomputable def Dist(xs:List V):Prop:=∀(i j:Nat)(p:Addr),xs[i]?=some (.ref p)->xs[j]?=some (.ref p)->i=j
theorem ik.set{S:Addr->Prop}{H:Hp}{xs:List V}{ts:List (List Nat)}{i:Nat}{p:Addr}{l':List Nat}(h:ik S H xs ts)(D:Dist xs)(e:xs[i]?=some (.ref p)):ik S (upd H p (.lst (l'.map iV))) xs (ts.set i l'):=by
 refine⟨by rw[L5];exact h.1,fun j l z=>?_⟩
 have hi:i<ts.length:=by rw[← h.1];exact(JD.mp e).1
 rw[List.getElem?_set]at z;by_cases hj:i=j
 ·subst hj;rw[if_pos rfl,if_pos hi]at z
  cases z
  obtain⟨p',a1,a2,a3⟩:=h.2 i _ (JB hi);rw[e]at a1
  cases a1
  exact⟨p,e,a2,ag⟩
 ·rw[if_neg hj]at z;obtain⟨p',a1,a2,a3⟩:=h.2 j l z;exact⟨p',a1,a2,by rw[ao (fun y=>by rw[y]at a1;exact hj (D i j p e a1))];exact a3⟩
theorem Dh{S:Addr->Prop}{H:Hp}{xs:List V}{ts:List (List Nat)}{q:Addr}(h:ik S H xs ts)(D:Dist xs)(hq:H q=none):Dist (xs++[.ref q]):=by
 have old:∀ i p,xs[i]?=some (V.ref p)->p≠q:=fun i p e z=>by
  have hi:i<ts.length:=by rw[← h.1];exact(JD.mp e).1
  obtain⟨p',a1,_,a3⟩:=h.2 i _ (JB hi);rw[e]at a1;cases a1;rw[z,hq]at a3;cases a3
 have cas:∀ i p,(xs++[V.ref q])[i]?=some (V.ref p)->(xs[i]?=some (V.ref p))∨(i=xs.length/\p=q):=fun i p e=>by
  by_cases c:i<xs.length
  ·rw[Kj c]at e;exact .inl e
  ·rw[Ka (MD c)]at e;have h2:=(JD.mp e).1;rw[Lc]at h2;have h3:i-xs.length=0:=by omega
   rw[h3]at e
   cases e
   exact .inr ⟨by omega,rfl⟩
 intro i j p e1 e2;rcases cas i p e1 with h1 | ⟨h1,h1'⟩
 ·rcases cas j p e2 with h2 | ⟨h2,h2'⟩
  ·exact D i j p h1 h2
  ·exact absurd h2' (old i p h1)
 ·rcases cas j p e2 with h2 | ⟨h2,h2'⟩
  ·exact absurd h1' (old j p h2)
  ·omega
structure AtM(n c:Nat)(rows:List (List Nat))(mem:Nat->Nat->Prop):Prop where
 len:rows.length=n
 mm:∀(r:Nat)(row:List Nat),rows[r]?=some row->∀ j,j∈row↔mem r j
 few:∀ row∈rows,row.length<=c
theorem AtM.put{n c:Nat}{rows:List (List Nat)}{mem:Nat->Nat->Prop}(h:AtM n c rows mem){a i:Nat}{l:List Nat}(hl:rows[a]?=some l):AtM n (c+1) (rows.set a (l++[i])) (fun r j=>mem r j∨(r=a/\j=i)):=by
 have ha:=(JD.mp hl).1;refine⟨by rw[L5];exact h.len,fun r row e j=>?_,fun row hr=>?_⟩
 ·rw[rX ha]at e;by_cases z:a=r
  ·rw[if_pos z]at e
   cases e
   subst z;rw[JW,JR,h.mm a l hl j];exact⟨fun y=>y.imp id fun y=>⟨rfl,y⟩,fun y=>y.imp id fun y=>y.2⟩
  ·rw[if_neg z]at e;rw[h.mm r row e j];exact⟨.inl,fun y=>y.elim id fun y=>absurd y.1.symm z⟩
 ·rcases List.mem_or_eq_of_mem_set hr with y | y
  ·have:=h.few row y;omega
  ·have:=h.few l (JG hl)
   rw[y,JN,Lc];omega
noncomputable def memL(ls:List Lk)(r j:Nat):Prop:=∃ l,ls[j]?=some l/\jC l r
structure Txt(mg:Str->Option Value):Prop where
 n_len:mg "len" = none
 n_int:mg "int" = none
 n_bool:mg "bool" = none
 n_list:mg "list" = none
 n_tuple:mg "tuple" = none
 n_range:mg "range" = none
 n_min:mg "min" = none
 n_abs:mg "abs" = none
 n_enumerate:mg "enumerate" = none
 n_isinstance:mg "isinstance" = none
noncomputable def EF:Sp:=fun vs H Q _=>∃(v:V)(l:Lk)(r:Nat),vs = [v,.int (r:Int)]/\LkAt H v l/\Q (.int ((bey l r:Nat):Int)) H
noncomputable def spAt:Sp:=fun vs H Q _=>∃(v:V)(n:Nat)(ls:List Lk),vs = [.int (n:Int),v]/\LnAt H v ls/\Lok n ls/\∀(p:Addr)(ys:List V)(rows:List (List Nat)) H',Same H H'->H p=none->H' p=some (.lst ys)->ik (fun q=>q=p∨H q≠none) H' ys rows->AtM n 120 rows (memL ls)->Q (.ref p) H'
section
variable{P:Program}{w:World}{K:JH}{mg:Str->Option Value}{base:Heap}
theorem Bk:aD ["link","room"] ["link","room"] (ai gN):=by ac_nf
theorem ok_bey{f:Addr}{fd:FuncData} (F:Fun K "beyond" "beyond" gN f fd):FnOk P w K mg base CX0 1 f fd ["link","room"] EF:=by
 refine F.ok Bk (fun vs H Q E h=>?_) (fun cdv A outer s H vs Q E hr h=>?_)
 ·obtain⟨v,l,r,rfl,_⟩:=h;rfl
 obtain⟨v,l,r,rfl,⟨t,rfl,ht⟩,q⟩:=h;refine⟨_,(aq (aJ (qi (az dQ (pv 1) (aC aV (pv 0) ah (fun _ _=>rfl)) (aB _)) (aC aV (pv 0) ah (fun _ _=>rfl)) (aC aV (pv 0) ah (fun _ _=>rfl))))),?_⟩;refine⟨_,rfl,_,rfl,t,_,0,_,rfl,rfl,SqT.of ht,a30,rfl,_,rfl,?_⟩;refine ite2 (fun c=>?_) (fun c=>?_)
 ·have c':r=l.1:=by have:=V.int.inj (of_decide_eq_true c);omega
  have e:bey l r=l.2.1:=by unfold bey;rw[if_pos c']
  rw[e]at q;exact⟨_,rfl,t,_,1,_,rfl,rfl,SqT.of ht,a31,q⟩
 ·have c':¬ r=l.1:=fun z=>c (decide_eq_true (congrArg V.int (by omega)))
  have e:bey l r=l.1:=by unfold bey;rw[if_neg c']
  rw[e]at q;exact⟨_,rfl,t,_,0,_,rfl,rfl,SqT.of ht,a30,q⟩
theorem fe:aD ["many","links","at","number","link"] ["many","links"] (ai dj):=by ac_nf
theorem ok_at{f:Addr}{fd:FuncData} (F:Fun K "links_at" "links_at" dj f fd) (T:Txt mg):FnOk P w K mg base CX0 1 f fd ["many","links"] spAt:=by
 refine F.ok fe (fun vs H Q E h=>?_) (fun cdv A outer s H vs Q E hr h=>?_)
 ·obtain⟨v,n,ls,rfl,_⟩:=h;rfl
 obtain⟨v,n,ls,rfl,⟨a,xs,rfl,hA,hL⟩,ok,kk⟩:=h;have n1:=ok.n1;have l9:=ok.l9;have xl:=hL.1
 refine⟨_,(af (j0 (i:=2) rfl fe.nd rfl rfl (fr:=[]) (by exact bQ.plain (by rfl) (by decide) (by rfl) (by decide) (by rfl) (by decide)) (bz rfl T.n_range (ae (pv 0) aj)) (fun C ex s H=>(jh aj)))
   (af (cR PassesOwn.never rfl (mH rfl T.n_enumerate (ae (pv 1) aj)) (sC rfl (aM (aw (i:=3) fe.nd rfl (Or.inl rfl)) (aM (aw (i:=4) fe.nd rfl (Or.inl rfl)) cH))) (af (cX (qj K6 Lm Ll dB (aC aP (pv 2) (aC aV (pv 4) ah (fun _ _=>rfl)) (fun _ _=>rfl)) (ae (pv 3) aj)))
   (aq (cX (qj K6 Lm Ll dB (aC aP (pv 2) (aC aV (pv 4) ah (fun _ _=>rfl)) (fun _ _=>rfl)) (ae (pv 3) aj))))))
   (aq (aJ (pv 2))))),?_⟩
 refine⟨_,rfl,_,rfl,by omega,by omega,ig (n:=(n:Int).toNat) (fun i ys H2=>Same H H2/\ik (fun p=>H p≠none) H2 ys (JM i [])/\Dist ys) (by rw[JL];exact Kw (ax (by omega))) ⟨fun _ _ e=>e,⟨rfl,fun i l e=>by simp at e⟩,fun i j p e=>by simp at e⟩ ?_ ?_⟩
 ·rintro i ys H2 hi ⟨s2,rx,D⟩;refine⟨(by show 0<=sizeLine;decide),fun l hl=>?_⟩
  have s3:=ak hl (.lst []);refine⟨s2.trans s3,?_,Dh rx D hl⟩;rw[MF];exact(rx.mono fun b u _ z=>s3 _ _ z).snoc (fun z=>z (cV s2 hl)) ag
 rintro ys H2 hyl ⟨s2,rx,D⟩ pn hpn;rw[JL]at rx;have s3:=ak hpn (.lst ys);have hpn0:H pn=none:=cV s2 hpn
 have rx3:ik (fun p=>p=pn∨H p≠none) (upd H2 pn (.lst ys)) ys (JM n []):=⟨rx.1,fun i l z=>by
  obtain⟨p,a1,a2,a3⟩:=rx.2 i l z;have n2:p≠pn:=bw a3 hpn
  exact⟨p,a1,by rintro(y | y);exact n2 y;exact a2 y,s3 _ _ a3⟩⟩
 have m0:AtM n 0 (JM n []) (memL (ls.take 0)):=⟨LA,fun r row e j=>by
  have:=(Nv.mp (JG e)).2;subst this
  exact⟨(fun z=>nomatch z),fun⟨l,z,_⟩=>by rw[Nn]at z;cases z⟩,fun row hr=>by rw[(Nv.mp hr).2];exact JF _⟩
 refine⟨_,rfl,a,rfl,⟨_,SqL.of ((s2.trans s3) _ _ hA)⟩,ym (K:=K) (xs:=xs) (fun i σ H5=>∃ v4 v5 rows,σ = [some (.int (n:Int)),some (.ref a),some (.ref pn),v4,v5]/\Same H H5/\H5 pn=some (.lst ys)/\ik (fun p=>p=pn∨H p≠none) H5 ys rows/\AtM n (2*i) rows (memL (ls.take i)))
  ⟨_,_,_,rfl,s2.trans s3,ag,rx3,m0⟩ (fun i σ H5 _ ⟨_,_,_,_,z,_⟩=>SqL.of (z _ _ hA)) ?_ ?_⟩
 ·rintro i x σ H5 T2 hx ⟨v4,v5,rows,rfl,s5,hpn5,rx5,am⟩ hT2;obtain⟨l,hl,p,rfl,hp⟩:=hL.get hx;obtain⟨b1,b2⟩:=ok.sm l (JG hl);have sT:=ak hT2 (.tup [.int (i:Int),.ref p]);have s6:=s5.trans sT;have hp6:=s6 _ _ hp;have rlen:=am.len;have ilt:i<ls.length:=(JD.mp hl).1;obtain⟨r1,hr1⟩:∃ r,rows[l.1]?=some r:=⟨_,JB (by omega)⟩
  have rx6:ik (fun p=>p=pn∨H p≠none) (upd H5 T2 (.tup [.int (i:Int),.ref p])) ys rows:=rx5.mono fun b u _ z=>sT _ _ z;obtain⟨p1,y1,y2,y3⟩:=rx6.2 _ _ hr1;have no_S:∀{p:Addr},¬ (p=pn∨H p≠none)->H p=none/\p≠pn:=fun{p} n=>by
   refine⟨?_,fun z=>n (.inl z)⟩
   cases y:H p with
   |none=>rfl
   |some o=>exact absurd (.inr (by rw[y];exact fun z=>nomatch z)) n
  obtain⟨hp1,np1⟩:=no_S y2;have f1:=am.few r1 (JG hr1);have hpn6:=sT _ _ hpn5;refine⟨T2,_,rfl,SqT.of ag,rfl,_,_,rfl,_,_,rfl,rfl,?_⟩;refine⟨_,rfl,_,rfl,p,_,0,_,rfl,rfl,SqT.of hp6,a30,pn,ys,_,_,rfl,rfl,SqL.of hpn6,aN y1,.inl ⟨rfl,_,SqL.of y3⟩,_,rfl,p1,_,_,rfl,rfl,y3,ax (by rw[JC];omega),?_⟩
  have e1':(r1.map iV)++[V.int (i:Int)]=(r1++[i]).map iV:=by rw[Kc];rfl
  rw[e1'];have rx7:=rx6.set D y1 (l':=r1++[i]);have am1:=am.put (i:=i) hr1;have s7:Same H (upd (upd H5 T2 (.tup [.int (i:Int),.ref p])) p1 (.lst ((r1++[i]).map iV))):=bW s6 hp1 _;have hp7:=s7 _ _ hp;have hpn7:(upd (upd H5 T2 (.tup [.int (i:Int),.ref p])) p1 (.lst ((r1++[i]).map iV))) pn=some (.lst ys):=by rw[ao np1.symm];exact hpn6
  obtain⟨r2,hr2⟩:∃ r,(rows.set l.1 (r1++[i]))[l.2.1]?=some r:=⟨_,JB (by rw[L5];omega)⟩
  obtain⟨p2,z1,z2,z3⟩:=rx7.2 _ _ hr2;obtain⟨hp2,np2⟩:=no_S z2;have f2:=am1.few r2 (JG hr2);refine⟨_,rfl,_,rfl,p,_,1,_,rfl,rfl,SqT.of hp7,a31,pn,ys,_,_,rfl,rfl,SqL.of hpn7,aN z1,.inl ⟨rfl,_,SqL.of z3⟩,_,rfl,p2,_,_,rfl,rfl,z3,ax (by rw[JC];omega),?_⟩
  have e2':(r2.map iV)++[V.int (i:Int)]=(r2++[i]).map iV:=by rw[Kc];rfl
  rw[e2'];have am2:=am1.put (i:=i) hr2;refine⟨_,_,(rows.set l.1 (r1++[i])).set l.2.1 (r2++[i]),rfl,bW s7 hp2 _,by rw[ao np2.symm];exact hpn7,rx7.set D z1,am2.len,fun r row e j=>?_,fun row hr=>?_⟩
  ·rw[am2.mm r row e j];unfold memL;rw[Kn,hl];have til:(ls.take i).length=i:=by rw[JZ];omega
   constructor
   ·rintro((⟨l',h1,h2⟩ | ⟨h1,h2⟩) | ⟨h1,h2⟩)
    ·exact⟨l',by rw[Kj (JD.mp h1).1];exact h1,h2⟩
    ·subst h2;exact⟨l,by rw[Ka (by omega),til,Ln];rfl,.inl h1⟩
    ·subst h2;exact⟨l,by rw[Ka (by omega),til,Ln];rfl,.inr h1⟩
   ·rintro⟨l',h1,h2⟩;by_cases c:j<i
    ·rw[Kj (by omega)]at h1
     exact .inl (.inl ⟨l',h1,h2⟩)
    ·rw[Ka (by omega)]at h1
     have h3:=(JD.mp h1).1;have h4:j=i:=by
      have:(Option.toList (some l)).length=1:=rfl;omega
     subst h4;rw[til,Ln]at h1
     cases h1
     rcases h2 with h2 | h2
     ·exact .inl (.inr ⟨h2,rfl⟩)
     ·exact .inr ⟨h2,rfl⟩
  ·have:=am2.few row hr;omega
 ·rintro σ H5 ⟨v4,v5,rows,rfl,s5,hpn5,rx5,am⟩;rw[xl,Kr]at am;exact⟨_,rfl,kk pn ys rows H5 s5 hpn0 hpn5 rx5 ⟨am.len,am.mm,fun row hr=>by have:=am.few row hr;omega⟩⟩
end
noncomputable def jb:Sp:=fun vs H Q _=>∃ n:Int,vs = [.int n]/\0<=n/\n<1208925819614629174706176/\∀ r H',Same H H'->H r=none->H' r=some (.lst ((K2.bitsF 0 n.toNat).map iV))->Q (.ref r) H'
section
variable{P:Program}{w:World}{K:JH}{mg:Str->Option Value}{base:Heap}
theorem jV:aD ["mask","numbers","number","rest"] ["mask"] (ai o7):=by ac_nf
theorem Iy{f:Addr}{fd:FuncData} (F:Fun K "bits" "bits" o7 f fd):FnOk P w K mg base CX0 1 f fd ["mask"] jb:=by
 refine F.ok jV (fun vs H Q E h=>?_) (fun cdv A outer s H vs Q E hr h=>?_)
 ·obtain⟨n,rfl,_⟩:=h;rfl
 obtain⟨n,rfl,h0,h1,k⟩:=h
 refine⟨_,(af (au (i:=1) jV.nd rfl (Or.inl rfl) (jh aj))
   (af (au (i:=2) jV.nd rfl (Or.inl rfl) ah)
   (af (au (i:=3) jV.nd rfl (Or.inl rfl) (pv 0))
   (af (gO PassesOwn.never (az BE (pv 3) ah (aB _)) (af (c6 (az dQ (ar bO (pv 3) ah) ah (aB _)) (aq (cX (qj K6 Lm Ll dB (pv 1) (ae (pv 2) aj)))) aY)
   (af (au (i:=3) jV.nd rfl (Or.inl rfl) (ar j5 (pv 3) ah))
   (aq (au (i:=2) jV.nd rfl (Or.inl rfl) (ar b8 (pv 2) ah))))))
   (aq (aJ (pv 1))))))),?_⟩
 refine⟨(by show 0<=sizeLine;decide),fun l hl=>?_⟩
 have z80:(2:Nat)^80=1208925819614629174706176:=by decide
 have hlen:(K2.bitsF 0 n.toNat).length<=80:=K2.bitsF_len 80 n.toNat 0 (by omega)
 refine⟨_,rfl,gE (fun σ H2=>∃(kn rn:Nat)(pre:List Nat),σ = [some (.int n),some (.ref l),some (.int (kn:Int)),some (.int (rn:Int))]/\H2 l=some (.lst (pre.map iV))/\pre++K2.bitsF kn rn=K2.bitsF 0 n.toNat/\Same H H2)
  (fun σ _=>match σ with | [_,_,_,some (.int r)]=>r.toNat | _=>0) ⟨0,n.toNat,[],?_,ag,rfl,ak hl _⟩ ?_ ?_⟩
 ·have e:((n.toNat:Nat):Int)=n:=by omega
  rw[e];rfl
 ·rintro σ H2 ⟨kn,rn,pre,rfl,hp,hb,hs⟩;refine⟨_,rfl,_,_,rfl,rfl,_,rfl,?_⟩;refine ite2 (fun c=>?_) (fun c=>?_)
  ·have c':(0:Int)<(rn:Int):=of_decide_eq_true c
   have d2:((rn:Int)/2)=((rn/2:Nat):Int):=by omega
   have hlp:pre.length<=80:=by
    have:=congrArg Nr hb;rw[JN]at this;omega
   walk_at "rd";refine ite2 (fun o=>?_) (fun o=>?_)
   ·have o':(rn:Int)%2=1:=V.int.inj (of_decide_eq_true o)
    refine⟨_,rfl,.inl ⟨rfl,_,SqL.of hp⟩,_,rfl,l,_,_,rfl,rfl,hp,ax (by rw[JC];omega),?_⟩
    walk_at "rd";refine⟨⟨kn+1,rn/2,pre++[kn],?_,?_,?_,?_⟩,?_⟩
    ·show[some (V.int n),some (V.ref l),some (V.int ((kn:Int)+1)),some (V.int ((rn:Int)/2))]=_;rw[d2];rfl
    ·rw[ag,Kc];rfl
    ·rw[Ko,← hb];have z:=K2.bitsF_odd (k:=kn) (n:=rn) (by omega)
     rw[z];rfl
    ·exact bW hs hl _
    ·show((rn:Int)/2).toNat<((rn:Nat):Int).toNat;omega
   ·have o':¬ (rn:Int)%2=1:=fun z=>o (decide_eq_true (congrArg V.int z))
    walk_at "rd";refine⟨⟨kn+1,rn/2,pre,?_,hp,?_,hs⟩,?_⟩
    ·show[some (V.int n),some (V.ref l),some (V.int ((kn:Int)+1)),some (V.int ((rn:Int)/2))]=_;rw[d2];rfl
    ·rw[← hb,K2.bitsF_even (k:=kn) (n:=rn) (by omega) (by omega)]
    ·show((rn:Int)/2).toNat<((rn:Nat):Int).toNat;omega
  ·have c':¬ (0:Int)<(rn:Int):=fun z=>c (decide_eq_true z)
   have z:rn=0:=by omega
   subst z;rw[K2.bitsF_zero,LZ]at hb;refine⟨_,rfl,?_⟩;exact k l H2 hs hl (by rw[hp,hb])
 ·rintro σ H2 Q1 Q2 hi ⟨v,e,i,j,a,b,kk,e2,q⟩;exact⟨v,e,i,j,a,b,kk,e2,hi _ _ q⟩
end
noncomputable def flat(PL:List (Nat×Nat)):List Nat:=PL.flatMap fun p=>[p.1,p.2]
noncomputable def cst(d:Nat->Nat->Int)(PL:List (Nat×Nat)):Int:=(PL.map fun p=>d p.1 p.2).sum
noncomputable def Cs(d:Nat->Nat->Int)(S:List Nat)(c:Int):Prop:=∃ PL,(flat PL).Perm S/\cst d PL=c
structure Met(n:Nat)(d:Nat->Nat->Int):Prop where
 sy:∀ a b,d a b=d b a
 nn:∀ a b,0<=d a b
 tr:∀ a b c,a<n->b<n->c<n->d a c<=d a b+d b c
theorem bI(p:Nat×Nat)(PL:List (Nat×Nat)):flat (p::PL)=p.1::p.2::flat PL:=rfl
theorem ic(d:Nat->Nat->Int)(p:Nat×Nat)(PL:List (Nat×Nat)):cst d (p::PL)=d p.1 p.2+cst d PL:=by unfold cst;rw[JQ,K7]
theorem Cs.perm{d:Nat->Nat->Int}{S S':List Nat}{c:Int}(h:Cs d S c)(p:S.Perm S'):Cs d S' c:=by
 obtain⟨PL,h1,h2⟩:=h;exact⟨PL,h1.trans p,h2⟩
theorem part0{d:Nat->Nat->Int}(sy:∀ a b,d a b=d b a){a:Nat}:∀{PL:List (Nat×Nat)},a∈flat PL->∃ e PL',(flat PL).Perm (a::e::flat PL')/\cst d PL=d a e+cst d PL'
 |[],h=>nomatch h
 | (x,y)::PL,h=>by
  rw[bI]at h;by_cases c1:a=x
  ·subst c1;exact⟨y,PL,.refl _,ic ..⟩
  by_cases c2:a=y
  ·subst c2;exact⟨x,PL,.swap _ _ _,by rw[ic];show d x a+_=_;rw[sy x a]⟩
  have h':a∈flat PL:=by
   rcases JI.mp h with h | h
   ·exact absurd h c1
   ·rcases JI.mp h with h | h
    ·exact absurd h c2
    ·exact h
  obtain⟨e,PL',p,ec⟩:=part0 sy h';refine⟨e,(x,y)::PL',?_,by rw[ic,ic,ec];omega⟩
  rw[bI,bI];have p1:(x::y::flat PL).Perm (x::y::a::e::flat PL'):=(p.cons y).cons x;refine p1.trans ?_;have q1:([x,y]++([a,e]++flat PL')).Perm ([a,e]++([x,y]++flat PL')):=by
   rw[← Ko,← Ko];exact(Lo).append_right _
  exact q1
theorem Cs.part{d:Nat->Nat->Int}(sy:∀ a b,d a b=d b a){S:List Nat}{c:Int}{a:Nat}(h:Cs d S c)(ha:a∈S):∃ e R c0,S.Perm (a::e::R)/\Cs d R c0/\c=d a e+c0:=by
 obtain⟨PL,p,ec⟩:=h;obtain⟨e,PL',p',ec'⟩:=part0 sy (p.mem_iff.mpr ha);exact⟨e,flat PL',cst d PL',p.symm.trans p',⟨PL',.refl _,rfl⟩,by rw[← ec,ec']⟩
theorem Cs.add{d:Nat->Nat->Int}{R:List Nat}{c0:Int}(a e:Nat)(h:Cs d R c0):Cs d (a::e::R) (d a e+c0):=by
 obtain⟨PL,p,ec⟩:=h;exact⟨(a,e)::PL,by rw[bI];exact(p.cons e).cons a,by rw[ic,ec]⟩
noncomputable def tog(S:List Nat)(a:Nat):List Nat:=if a∈S then S.erase a else a::S
theorem tog_nd{S:List Nat}(h:S.Nodup)(a:Nat):(tog S a).Nodup:=by
 unfold tog;split
 ·exact h.erase _
 ·exact Kq.mpr ⟨by assumption,h⟩
theorem lG{S S':List Nat}(p:S.Perm S')(a:Nat):(tog S a).Perm (tog S' a):=by
 unfold tog;by_cases c:a∈S
 ·rw[if_pos c,if_pos (p.mem_iff.mp c)];exact p.erase a
 ·rw[if_neg c,if_neg (fun z=>c (p.mem_iff.mpr z))];exact p.cons a
theorem HC{S:List Nat}(h:S.Nodup)(a:Nat):(tog (tog S a) a).Perm S:=by
 by_cases c:a∈S
 ·have e:tog S a=S.erase a:=by unfold tog;rw[if_pos c]
  have n:a∉S.erase a:=h.not_mem_erase;have e2:tog (S.erase a) a=a::S.erase a:=by unfold tog;rw[if_neg n]
  rw[e,e2];exact(MG c).symm
 ·have e:tog S a=a::S:=by unfold tog;rw[if_neg c]
  have e2:tog (a::S) a=S:=by unfold tog;rw[if_pos (JO ..),LJ]
  rw[e,e2]
theorem IG{S:List Nat}(h:S.Nodup){a x:Nat}:x∈tog S a↔(x∈S/\x≠a)∨(x=a/\a∉S):=by
 unfold tog;by_cases c:a∈S
 ·rw[if_pos c,h.mem_erase_iff];exact⟨fun z=>.inl ⟨z.2,z.1⟩,fun z=>z.elim (fun y=>⟨y.2,y.1⟩) fun y=>absurd c y.2⟩
 ·rw[if_neg c,JI];constructor
  ·rintro(z | z)
   ·exact .inr ⟨z,c⟩
   ·exact .inl ⟨z,fun y=>c (y▸z)⟩
  ·rintro(z | z)
   ·exact .inr z.1
   ·exact .inl z.1
theorem Cs.two{n:Nat}{d:Nat->Nat->Int}(M:Met n d){S:List Nat}{c:Int}(nd:S.Nodup)(lt:∀ x∈S,x<n)(h:Cs d S c){a b:Nat}(ha:a<n)(hb:b<n):∃ c',Cs d (tog (tog S a) b) c'/\c'<=c+d a b:=by
 have dn:=M.nn a b;by_cases ab:a=b
 ·subst ab;exact⟨c,h.perm (HC nd a).symm,by omega⟩
 by_cases ca:a∈S
 ·obtain⟨e,R,c0,p,h0,ec⟩:=h.part M.sy ca;have ea:tog S a=S.erase a:=by unfold tog;rw[if_pos ca]
  have p1:(S.erase a).Perm (e::R):=by
   have:=p.erase a;rw[LJ]at this;exact this
  have elt:e<n:=lt e (p.mem_iff.mpr (JK _ (JO ..)));rw[ea];by_cases cb:b∈S.erase a
  ·have eb:tog (S.erase a) b=(S.erase a).erase b:=by unfold tog;rw[if_pos cb]
   rw[eb];by_cases ebb:e=b
   ·subst ebb;have p2:=p1.erase e;rw[LJ]at p2;refine⟨c0,h0.perm p2.symm,?_⟩;have:=M.nn a e;omega
   ·have bR:b∈R:=by
     rcases JI.mp (p1.mem_iff.mp cb)with z | z
     ·exact absurd z.symm ebb
     ·exact z
    obtain⟨f,R2,c1,q,h1,ec1⟩:=h0.part M.sy bR;have flt:f<n:=lt f (p.mem_iff.mpr (JK _ (JK _ (q.mem_iff.mpr (JK _ (JO ..))))));have p2:((S.erase a).erase b).Perm (e::f::R2):=by
     have z1:(S.erase a).Perm (b::e::f::R2):=p1.trans ((q.cons e).trans (.swap _ _ _));have z2:=z1.erase b;rw[LJ]at z2;exact z2
    refine⟨d e f+c1,(h1.add e f).perm p2.symm,?_⟩;have t1:=M.tr e a f elt ha flt;have t2:=M.tr a b f ha hb flt;have s1:=M.sy e a;omega
  ·have eb:tog (S.erase a) b=b::S.erase a:=by unfold tog;rw[if_neg cb]
   rw[eb];refine⟨d b e+c0,(h0.add b e).perm (p1.symm.cons b),?_⟩;have t1:=M.tr b a e hb ha elt;have s1:=M.sy b a;omega
 ·have ea:tog S a=a::S:=by unfold tog;rw[if_neg ca]
  rw[ea];by_cases cb:b∈S
  ·have eb:tog (a::S) b=a::S.erase b:=by
    unfold tog;rw[if_pos (JK _ cb),List.erase_cons_tail (by simpa using ab)]
   rw[eb];obtain⟨e,R,c0,p,h0,ec⟩:=h.part M.sy cb;have p1:(S.erase b).Perm (e::R):=by
    have:=p.erase b;rw[LJ]at this;exact this
   have elt:e<n:=lt e (p.mem_iff.mpr (JK _ (JO ..)));refine⟨d a e+c0,(h0.add a e).perm (p1.symm.cons a),?_⟩;have t1:=M.tr a b e ha hb elt;omega
  ·have eb:tog (a::S) b=b::a::S:=by
    unfold tog;rw[if_neg (fun z=>by rcases JI.mp z with z | z;exact ab z.symm;exact cb z)]
   rw[eb];refine⟨d b a+c,h.add b a,?_⟩;have:=M.sy b a;omega
end KF
namespace KF
open PySem L2
noncomputable def lpF:Pos:=⟨57,32,57,55⟩
theorem Fun.okT{P:Program}{w:World}{K:JH}{mg:Str->Option Value}{base:Heap}{x qual:Str}{st:Stmt}{f c TT:Addr}{fd:FuncData}{N ps:List Str}{k:Nat}{sp:Sp}(F:Fun K x qual st f fd)(S:aD N ps (ai st))(ht:L9 K x=some (c,TT))(hn:JP K mainGlobals x=some (some (.ref f)))
  (len:∀ vs H Q E,sp vs H Q E->vs.length=ps.length)
  (hbody:∀(A:Around)(outer:List Env)(s:Shared)(H:Hp)(vs:List V)(Q:VK)(E:XK),Room k (A.deeper (PyProof.Rows.envOfC qual (ai st) s.heap.objs.size f (.ref c)))->sp vs H Q E ->
   ∃ t,PSs (cxOf CX0 P w K mg base N qual (ai st) f (.ref c) A outer s H E).nox (ay st) t/\t { nx:=fun _ H'=>Q .non H',rt:=Q } (pU N vs) H):FnOk P w K mg base CX0 (k+1) f fd ps sp:=by
 obtain⟨oc,od,kV,doc,pm,an,cdv,ct,osl,rfl,lk,hcd⟩:=F.ex;have e:cdv=.ref c:=by
  unfold L9 at ht;rw[hn]at ht;simp only[lk]at ht
  cases cdv<;>first | (cases ht;done) | skip
  simp only at ht;split at ht
  ·split at ht
   ·cases ht;rfl
   ·cases ht
  ·cases ht
 subst e;refine fn_of lk hcd S len fun A outer s H vs Q E hr hsp=>?_;obtain⟨t,h,q⟩:=hbody A outer s H vs Q E hr hsp;exact⟨t,h.nox,q⟩
noncomputable def oV:Option Int->V | none=>.non | some x=>.int x
noncomputable def oN:Option Nat->V | none=>.non | some k=>.int (k:Int)
noncomputable def kw(r:Nat):Key×V:=(Sum.inl (r:Int),.bl true)
noncomputable def lqF:Str:=("fares" : Str)++".<locals>."++"<lambda>"
noncomputable def sF(ta va wd TT p:Addr):Prop:=p=TT∨p=ta∨p=va∨p=wd
noncomputable def KpS(S:Addr->Prop)(H H':Hp):Prop:=∀ b o,¬ S b->H b=some o->H' b=some o
theorem KpS.upd{S:Addr->Prop}{H H1:Hp}(a:KpS S H H1){p:Addr}(hp:S p)(o:HO):KpS S H (L2.upd H1 p o):=fun c u n h=>by
 rw[ao (fun z=>n (by rw[z];exact hp))]
 exact a c u n h
noncomputable def pY(TT:Addr):Sp:=fun vs H Q _=>∃(v:V)(n s:Nat)(ls:List Lk),vs = [.int (n:Int),v,.int (s:Int)]/\LnAt H v ls/\Lok n ls/\s<n/\Tb lqF lpF TT H /\
 ∀(t ta va:Addr)(TL:List (Option Int))(VL:List (Option Nat)) H',TbS TT H H'->Tb lqF lpF TT H'->H ta=none->H va=none->H' t=some (.tup [.ref ta,.ref va])->H' ta=some (.lst (TL.map oV))->H' va=some (.lst (VL.map oN))->FI n ls s MM TL VL [] (fun _ _=>False)->Q (.ref t) H'
structure FH(ta va wd TT:Addr)(n s:Nat)(ls:List Lk)(H1:Hp)(TL:List (Option Int))(VL:List (Option Nat))(W:List Nat)(ex:Nat->Nat->Prop)(H:Hp):Prop where
 kp:KpS (sF ta va wd TT) H1 H
 ht:H ta=some (.lst (TL.map oV))
 hv:H va=some (.lst (VL.map oN))
 hw:H wd=some (.dK (W.map kw))
 tb:Tb lqF lpF TT H
 fi:FI n ls s MM TL VL W ex
 nd:W.Nodup
noncomputable def vW(n:Nat)(v:V):Nat:=match v with | .int x=>x.toNat | _=>n*MM+1
noncomputable def mesH(n:Nat)(ta wd:Addr)(H:Hp):Nat:=match H ta,H wd with
 |some (.lst xs),some (.dK kvs)=>(xs.map (vW n)).sum*(n+1)+kvs.length
 |_,_=>0
theorem FH.mes{ta va wd TT:Addr}{n s:Nat}{ls:List Lk}{H1 H:Hp}{TL:List (Option Int)}{VL:List (Option Nat)}{W:List Nat}{ex:Nat->Nat->Prop}(h:FH ta va wd TT n s ls H1 TL VL W ex H):mesH n ta wd H=wgt (n*MM+1) TL*(n+1)+W.length:=by
 unfold mesH wgt;rw[h.ht,h.hw];have e:(TL.map oV).map (vW n)=TL.map (vOf (n*MM+1)):=by
  rw[Lu];refine Lb fun o _=>?_
  cases o<;>rfl
 show((TL.map oV).map (vW n)).sum*(n+1)+(W.map kw).length=_;rw[e,JC]
theorem FH.wlen{ta va wd TT:Addr}{n s:Nat}{ls:List Lk}{H1 H:Hp}{TL:List (Option Int)}{VL:List (Option Nat)}{W:List Nat}{ex:Nat->Nat->Prop}(h:FH ta va wd TT n s ls H1 TL VL W ex H):W.length<=n :=
 gP n W h.nd fun x hx=>by
  obtain⟨y,hy⟩:=h.fi.wk x hx;have:=(JD.mp hy).1;rw[h.fi.tl]at this;exact this
theorem GV{r s:Nat}(h:(kw r).1=(kw s).1):r=s:=by
 have:(r:Int)=(s:Int):=by injection h
 omega
theorem AR{r:Nat}:∀{W:List Nat},r∈W->valV (W.map kw) (.inl (r:Int))=some (.bl true)
 |w::W,h=>by
  rw[JQ];by_cases c:(kw w).1=Sum.inl (r:Int)
  ·rw[a9 c];rfl
  ·rw[bg c];refine AR ?_;rcases JI.mp h with h | h
   ·exact absurd (by rw[h];rfl) c
   ·exact h
theorem no_kw{r:Nat}:∀{W:List Nat},r∉W->valV (W.map kw) (.inl (r:Int))=none
 |[],_=>rfl
 |w::W,h=>by
  rw[JQ,bg (fun c=>h (by rw[GV (r:=w) (s:=r) c];exact JO ..))]
  exact no_kw fun z=>h (JK _ z)
theorem wF(r:Nat):∀ W:List Nat,lr (W.map kw) (.inl (r:Int))=(W.filter (fun x=>decide (x≠r))).map kw
 |[]=>rfl
 |w::W=>by
  rw[JQ];by_cases c:w=r
  ·rw[De (by rw[c];rfl),wF r W,Mo (by simpa using c)]
  ·rw[Df (k:=Sum.inl (r:Int)) (fun z=>c (GV (r:=w) (s:=r) z)),wF r W,Mn (by simpa using c),JQ]
theorem put_kw{t:Nat}{W:List Nat}(nd:W.Nodup):∃ W':List Nat,putK (W.map kw) (.inl (t:Int)) (.bl true)=W'.map kw/\W'.Nodup/\∀ r,r∈W'↔r∈W∨r=t:=by
 by_cases c:t∈W
 ·refine⟨W,?_,nd,fun r=>⟨.inl,fun z=>z.elim id fun z=>z▸c⟩⟩;unfold putK;rw[eY,AR c,Option.isSome_some,if_pos rfl];rw[Lu];refine Lb fun x _=>?_;show(if(kw x).1=Sum.inl (t:Int) then((kw x).1,V.bl true) else kw x)=kw x;split<;>rfl
 ·refine⟨W++[t],by rw[xT _ (no_kw c),Kc];rfl,vJ nd c,fun r=>by rw[JW,JR]⟩
structure Sg(la aa ta va wd TT:Addr)(n s:Nat)(ls:List Lk)(xs ys:List V)(rows:List (List Nat))(H1:Hp):Prop where
 hA:H1 la=some (.lst xs)
 hL:LsAt LkAt H1 xs ls
 ok:Lok n ls
 hR:H1 aa=some (.lst ys)
 rx:ik (sF ta va wd TT) H1 ys rows
 am:AtM n 120 rows (memL ls)
 nla:¬ sF ta va wd TT la
 naa:¬ sF ta va wd TT aa
 tt:∀ t o,H1 t=some (.tup o)->¬ sF ta va wd TT t
 ntv:ta≠va
 ntw:ta≠wd
 nvw:va≠wd
 nTt:ta≠TT
 nTv:va≠TT
 nTw:wd≠TT
theorem mi{q:Str}{lp:Pos}{TT:Addr}{H H':Hp}(h:Tb q lp TT H)(k:∀ b,(b=TT∨∃ c,H b=some (codO c q))->H' b=H b):Tb q lp TT H':=by
 rcases h with h | ⟨c,h1,h2⟩
 ·exact .inl ((k TT (.inl rfl)).trans h)
 ·exact .inr ⟨c,(k TT (.inl rfl)).trans h1,(k c (.inr ⟨c,h2⟩)).trans h2⟩
theorem FH.new{ta va wd TT:Addr}{n s:Nat}{ls:List Lk}{H1 H:Hp}{TL:List (Option Int)}{VL:List (Option Nat)}{W:List Nat}{ex:Nat->Nat->Prop}(h:FH ta va wd TT n s ls H1 TL VL W ex H){p:Addr}(hp:H p=none)(o:HO):FH ta va wd TT n s ls H1 TL VL W ex (upd H p o):=by
 have sm:=ak hp o;refine⟨fun b u nb e=>sm _ _ (h.kp b u nb e),sm _ _ h.ht,sm _ _ h.hv,sm _ _ h.hw,mi h.tb fun b hb=>ao fun z=>?_,h.fi,h.nd⟩;subst z;rcases hb with hb | ⟨c,hb⟩
 ·subst hb;rcases h.tb with y | ⟨_,y,_⟩<;>rw[hp]at y<;>cases y
 ·rw[hp]at hb;cases hb
theorem FH.tab{ta va wd TT:Addr}{n s:Nat}{ls:List Lk}{H1 H H':Hp}{TL:List (Option Int)}{VL:List (Option Nat)}{W:List Nat}{ex:Nat->Nat->Prop}(h:FH ta va wd TT n s ls H1 TL VL W ex H)(nTt:ta≠TT)(nTv:va≠TT)(nTw:wd≠TT)(sm:TbS TT H H')(tb:Tb lqF lpF TT H'):FH ta va wd TT n s ls H1 TL VL W ex H' :=
 ⟨fun b u nb e=>sm _ _ (fun z=>nb (.inl z)) (h.kp b u nb e),sm _ _ nTt h.ht,sm _ _ nTv h.hv,sm _ _ nTw h.hw,tb,h.fi,h.nd⟩
noncomputable def FrI(la aa ta va wd TT:Addr)(n s:Nat)(ls:List Lk)(H1:Hp)(σ:St)(H:Hp):Prop:=∃(v7 v8 v9 v10:Option V)(TL:List (Option Int))(VL:List (Option Nat))(W:List Nat),
 σ = [some (.int (n:Int)),some (.ref la),some (.int (s:Int)),some (.ref aa),some (.ref ta),some (.ref va),some (.ref wd),v7,v8,v9,v10]/\FH ta va wd TT n s ls H1 TL VL W (fun _ _=>False) H
noncomputable def InI(la aa ta va wd TT:Addr)(n s:Nat)(ls:List Lk)(row:List Nat)(m w0 l0:Nat)(H1:Hp)(i:Nat)(σ:St)(H:Hp):Prop:=∃(v8 v9 v10:Option V)(TL:List (Option Int))(VL:List (Option Nat))(W:List Nat),
 σ = [some (.int (n:Int)),some (.ref la),some (.int (s:Int)),some (.ref aa),some (.ref ta),some (.ref va),some (.ref wd),some (.int (m:Int)),v8,v9,v10]/\FH ta va wd TT n s ls H1 TL VL W (fun r j=>r=m/\j∉row.take i) H/\(∃ x,TL[m]?=some (some x)) /\
 ((wgt (n*MM+1) TL=w0/\W.length<l0)∨wgt (n*MM+1) TL<w0)
noncomputable def restF(la TT:Addr)(n s:Nat)(ls:List Lk):TS:=fun D σ H=>∃(aa ta va wd:Addr)(xs ys:List V)(rows:List (List Nat))(H1:Hp)(v8 v9 v10:Option V)(TL:List (Option Int))(VL:List (Option Nat))(W:List Nat)(m l0:Nat),Sg la aa ta va wd TT n s ls xs ys rows H1 /\
 σ = [some (.int (n:Int)),some (.ref la),some (.int (s:Int)),some (.ref aa),some (.ref ta),some (.ref va),some (.ref wd),some (.int (m:Int)),v8,v9,v10]/\FH ta va wd TT n s ls H1 TL VL W (fun r _=>r=m) H/\(∃ x,TL[m]?=some (some x))/\W.length<l0 /\
 ∀ σ' H',FrI la aa ta va wd TT n s ls H1 σ' H'->mesH n ta wd H'<wgt (n*MM+1) TL*(n+1)+l0->D.nx σ' H'
noncomputable def restM(la TT:Addr)(n s:Nat)(ls:List Lk):TS:=fun D σ H=>∃(aa ta va wd:Addr)(xs ys:List V)(rows:List (List Nat))(H1:Hp)(TL:List (Option Int))(VL:List (Option Nat))(W:List Nat)(m w0 l0 i k:Nat)(row:List Nat)(l:Lk)(x:Int)(o:Option Int),Sg la aa ta va wd TT n s ls xs ys rows H1 /\
 σ = [some (.int (n:Int)),some (.ref la),some (.int (s:Int)),some (.ref aa),some (.ref ta),some (.ref va),some (.ref wd),some (.int (m:Int)),some (.int (k:Int)),some (.int ((bey l m:Nat):Int)),some (.int (x+l.2.2))]/\FH ta va wd TT n s ls H1 TL VL W (fun r j=>r=m/\j∉row.take i) H /\
 ls[k]?=some l/\jC l m/\TL[m]?=some (some x)/\TL[bey l m]?=some o/\(∀ y,o=some y->x+l.2.2<y)/\row[i]?=some k/\((wgt (n*MM+1) TL=w0/\W.length<l0)∨wgt (n*MM+1) TL<w0) /\
 ∀ σ' H',InI la aa ta va wd TT n s ls row m w0 l0 H1 (i+1) σ' H'->D.nx σ' H'
theorem CY{row:List Nat}{m i k:Nat}(hk:row[i]?=some k):∀ r j,(r=m/\j∉row.take i)->(r=m/\j∉row.take (i+1))∨(r=m/\j=k):=fun r j ⟨h1,h2⟩=>by
 by_cases c:j=k
 ·exact .inr ⟨h1,c⟩
 ·refine .inl ⟨h1,fun z=>?_⟩;rw[Kn,hk]at z;rcases JW.mp z with z | z
  ·exact h2 z
  ·exact c (JR.mp z)
theorem vH{TL:List (Option Int)}{r:Nat}{o:Option Int}(h:TL[r]?=some o):(TL.map oV)[r]?=some (oV o):=by rw[JJ,h];rfl
section
variable{P:Program}{w:World}{K:JH}{mg:Str->Option Value}{base:Heap}
theorem c5:aD ["many","links","start","at","told","via","waiting","room","number","there","fare"] ["many","links","start"] (ai iG):=by ac_nf
theorem Fd{f f1 f2 c TT:Addr}{fd fd1 fd2:FuncData} (F:Fun K "fares" "fares" iG f fd) (T:Txt mg) (ht:L9 K "fares" = some (c,TT)) (hn:JP K mainGlobals "fares" = some (some (.ref f))) (hcd:L4 base c TT) (hbm:Bm mg base)
  (G_links_at:Cal P w K mg base 1 "links_at" ["many","links"] spAt f1 fd1) (G_beyond:Cal P w K mg base 1 "beyond" ["link","room"] EF f2 fd2):FnOk P w K mg base CX0 2 f fd ["many","links","start"] (pY TT):=by
 refine Fun.okT F c5 ht hn (fun vs H Q E h=>?_) (fun A outer s H vs Q E hr h=>?_)
 ·obtain⟨v,n,st0,ls,rfl,_⟩:=h;rfl
 obtain⟨v,n,st0,ls,rfl,⟨la,xs,rfl,hA,hL⟩,ok,hs,tb0,kk⟩:=h;have hu:=CO hr;have hu64:=hr.units;have n1:=ok.n1;have l9:=ok.l9;have LM:∀ N,Lam (cxOf CX0 P w K mg base N "fares" (ai iG) f (.ref c) A outer s H E).nox c TT (s.heap.objs.size+1) lqF:=fun N=>⟨rfl,hcd,hbm,rfl,rfl,rfl,rfl⟩
 refine⟨_,(af (au (i:=3) c5.nd rfl (Or.inl rfl) (av G_links_at.ok (hr.mono (by decide)) rfl G_links_at.mg G_links_at.kp G_links_at.bn .nil aR (ae (pv 0) (ae (pv 1) aj))))
   (af (au (i:=4) c5.nd rfl (Or.inr rfl) (iK rfl (fr:=[]) (by exact bQ.plain (by rfl) (by decide) (by rfl) (by decide) (by rfl) (by decide)) (bz rfl T.n_range (ae (pv 0) aj)) (fun C ex s H=>kL)))
   (af (j0 (i:=5) rfl c5.nd rfl rfl (fr:=[]) (by exact bQ.plain (by rfl) (by decide) (by rfl) (by decide) (by rfl) (by decide)) (bz rfl T.n_range (ae (pv 0) aj)) (fun C ex s H=>kL))
   (af (Bo ah (Bx (pv 4) (pv 2) p8))
   (af (au (i:=6) c5.nd rfl (Or.inl rfl) (By (xV (pv 2) iL Bp) rfl rfl (fun z=>by cases z) (by decide)))
   (af (gO PassesOwn.never (az (op_neE hu64) (pv 6) xX (aB _)) (af (au (i:=7) c5.nd rfl (Or.inl rfl) (Ii (it:=4) (LM _) rfl rfl (hr.mono (by decide)) rfl (Or.inr (Or.inl rfl)) rfl T.n_min (ae (pv 6) aj)))
   (af (cX (EY (pv 6) (pv 7) ⟨rfl,rfl,rfl,rfl⟩))
   (mD (t2:=restF la TT n st0 ls) (aq (cR PassesOwn.never rfl (aZ (aC aP (pv 3) (pv 7) (fun _ _=>rfl))) (aw (i:=8) c5.nd rfl (Or.inl rfl)) (af (au (i:=9) c5.nd rfl (Or.inl rfl) (av G_beyond.ok (hr.mono (by decide)) rfl G_beyond.mg G_beyond.kp G_beyond.bn .nil aR (ae (aC aP (pv 1) (pv 8) (fun _ _=>rfl)) (ae (pv 7) aj))))
   (af (au (i:=10) c5.nd rfl (Or.inl rfl) (ar b8 (aC aP (pv 4) (pv 7) (fun _ _=>rfl)) (aC aV (aC aP (pv 1) (pv 8) (fun _ _=>rfl)) ah (fun _ _=>rfl))))
   (aq (c6 (PW.pt (jZ (az GR (aC aP (pv 4) (pv 9) (fun _ _=>rfl)) kL (aB _)) (mC (az zd (pv 10) (aC aP (pv 4) (pv 9) (fun _ _=>rfl)) (aB _))))) (mD (t2:=restM la TT n st0 ls) (af (Bo (pv 10) (Bx (pv 4) (pv 9) p8))
   (af (Bo (pv 8) (Bx (pv 5) (pv 9) p8))
   (aq (vg hu (pv 6) (pv 9) iL rfl)))) (fun D0 S0 H0 h0=>?restm)) aY)))))) (fun D0 S0 H0 h0=>?restf)))))
   (aq (aJ (kK (ae (pv 4) (ae (pv 5) aj))))))))))),?_⟩
 case restm =>
  obtain⟨aa,ta,va,wd,xs,ys,rows,H1,TL,VL,W,m,w0,l0,i,k,row,l,x,o,sg,rfl,fh,hl,hm,hx,ho,hlt,hk,dec,kn⟩:=h0;have tl:=fh.fi.tl;have vl:=fh.fi.vl;have tt:bey l m<n:=by rw[← tl];exact(JD.mp ho).1
  have l0':=(fh.fi.w0 l (JG hl));have ntv:=sg.ntv;have ntw:=sg.ntw;have nvw:=sg.nvw;have nTt:=sg.nTt;have nTv:=sg.nTv;have nTw:=sg.nTw;refine⟨_,rfl,_,rfl,_,rfl,ta,_,_,bey l m,rfl,rfl,fh.ht,wx (by rw[JC];omega),?_⟩
  refine⟨_,rfl,_,rfl,_,rfl,va,_,_,bey l m,rfl,rfl,by rw[ao (Ne.symm ntv)];exact fh.hv,wx (by rw[JC];omega),?_⟩
  have hw2:(upd (upd H0 ta (.lst ((TL.map oV).set (bey l m) (.int (x+l.2.2))))) va (.lst ((VL.map oN).set (bey l m) (.int (k:Int))))) wd=some (.dK (W.map kw)):=by rw[ao (Ne.symm nvw),ao (Ne.symm ntw)];exact fh.hw
  have wl:=fh.wlen;refine⟨_,rfl,_,rfl,wd,_,rfl,DPut.k (k:=.inl ((bey l m:Nat):Int)) (v:=.bl true) hw2 (by rw[JC];exact ax (by omega)),?_⟩
  obtain⟨W',eW,nd',mW⟩:=put_kw (t:=bey l m) fh.nd;rw[eW];have e1:(TL.map oV).set (bey l m) (.int (x+l.2.2))=(TL.set (bey l m) (some (x+l.2.2))).map oV:=by rw[List.map_set];rfl
  have e2:(VL.map oN).set (bey l m) (.int (k:Int))=(VL.set (bey l m) (some k)).map oN:=by rw[List.map_set];rfl
  rw[e1,e2];have fi2:=fh.fi.mend (W':=W') hl hm hx ho hlt mW (CY hk);have wd2:=Es fh.fi l0'.1 l0'.2 hx ho hlt;have nm:bey l m≠m:=fun e=>by
   rw[e,hx]at ho
   cases ho
   have:=hlt x rfl;omega
  refine kn _ _ ⟨_,_,_,_,_,W',rfl,⟨((fh.kp.upd (.inr (.inl rfl)) _).upd (.inr (.inr (.inl rfl))) _).upd (.inr (.inr (.inr rfl))) _,?_,?_,ag,?_,fi2,nd'⟩,⟨x,by rw[rX (by omega),if_neg nm];exact hx⟩,.inr (by rcases dec with d | d<;>omega)⟩
  ·rw[ao ntw,ao ntv];exact ag
  ·rw[ao nvw];exact ag
  ·refine mi fh.tb fun b hb=>?_;rw[ao (fun z=>?_),ao (fun z=>?_),ao (fun z=>?_)]
   ·rcases hb with hb | ⟨c',hb⟩
    ·exact nTt (z▸hb)
    ·rw[z,fh.ht]at hb;cases hb
   ·rcases hb with hb | ⟨c',hb⟩
    ·exact nTv (z▸hb)
    ·rw[z,fh.hv]at hb;cases hb
   ·rcases hb with hb | ⟨c',hb⟩
    ·exact nTw (z▸hb)
    ·rw[z,fh.hw]at hb;cases hb
 case restf =>
  obtain⟨aa,ta,va,wd,xs,ys,rows,H1,v8,v9,v10,TL,VL,W,m,l0,sg,rfl,fh,⟨x,hx⟩,hl0,kn⟩:=h0;have mn:m<n:=by rw[← fh.fi.tl];exact(JD.mp hx).1
  have rl:=sg.am.len;obtain⟨row,hrow⟩:∃ row,rows[m]?=some row:=⟨_,JB (by omega)⟩
  obtain⟨pr,r1,r2,r3⟩:=sg.rx.2 _ _ hrow;have hR:=fh.kp _ _ sg.naa sg.hR;have hrw:=fh.kp _ _ r2 r3;have few:=sg.am.few row (JG hrow);refine⟨_,rfl,_,rfl,aa,_,_,_,rfl,rfl,SqL.of hR,aN r1,pr,rfl,⟨_,SqL.of hrw⟩,c9 (K:=K) (xs:=row.map iV) (InI la aa ta va wd TT n st0 ls row m (wgt (n*MM+1) TL) l0 H1) ⟨_,_,_,TL,VL,W,rfl,⟨fh.kp,fh.ht,fh.hv,fh.hw,fh.tb,fh.fi.exw fun r i l _ _ z=>⟨z,by rw[Nn];exact fun y=>nomatch y⟩,fh.nd⟩,⟨x,hx⟩,.inl ⟨rfl,hl0⟩⟩ (fun i σ H2 _ z=>?_) ?_ ?_⟩
  ·obtain⟨_,_,_,_,_,_,_,f2,_⟩:=z;exact SqL.of (f2.kp _ _ r2 r3)
  ·rintro i y σ H2 hy ⟨v8,v9,v10,TL2,VL2,W2,rfl,f2,⟨x2,hx2⟩,dec⟩;rw[JJ]at hy;obtain⟨k,hk,rfl⟩:=Km.mp hy;obtain⟨l,hl,hend⟩:=(sg.am.mm m row hrow k).mp (JG hk);obtain⟨lv,hlv,hlk⟩:=sg.hL.2 k l hl;obtain⟨lt,rfl,hlt0⟩:=hlk;have hlt2:=f2.kp _ _ (sg.tt _ _ hlt0) hlt0;have hA2:=f2.kp _ _ sg.nla sg.hA;obtain⟨b1,b2⟩:=sg.ok.sm l (JG hl);have tt:bey l m<n:=bey_lt b1 b2;have tl2:=f2.fi.tl;obtain⟨o,ho⟩:∃ o,TL2[bey l m]?=some o:=⟨_,JB (by omega)⟩
   refine⟨_,rfl,_,rfl,la,_,_,_,rfl,rfl,SqL.of hA2,aN hlv,_,rfl,.ref lt,l,m,rfl,⟨lt,rfl,hlt2⟩,?_⟩;refine⟨_,rfl,_,rfl,ta,_,_,_,rfl,rfl,SqL.of f2.ht,aN (vH hx2),_,rfl,_,rfl,la,_,_,_,rfl,rfl,SqL.of hA2,aN hlv,lt,_,2,_,rfl,rfl,SqT.of hlt2,a32,_,_,rfl,rfl,?_⟩;refine⟨_,rfl,_,rfl,ta,_,_,_,rfl,rfl,SqL.of f2.ht,aN (vH ho),rfl,_,rfl,?_⟩
   cases o with
   |none =>
    refine iteT (iteT ?_);exact⟨aa,ta,va,wd,xs,ys,rows,H1,TL2,VL2,W2,m,wgt (n*MM+1) TL,l0,i,k,row,l,x2,none,sg,rfl,f2,hl,hend,hx2,ho,(fun y e=>nomatch e),hk,dec,fun σ' H' z=>z⟩
   |some y0 =>
    refine iteF ?_;refine⟨_,rfl,_,rfl,_,rfl,ta,_,_,_,rfl,rfl,SqL.of f2.ht,aN (vH ho),_,_,rfl,rfl,_,rfl,?_⟩;refine ite2 (fun c=>?_) (fun c=>?_)
    ·have c':x2+l.2.2<y0:=of_decide_eq_true c
     exact⟨aa,ta,va,wd,xs,ys,rows,H1,TL2,VL2,W2,m,wgt (n*MM+1) TL,l0,i,k,row,l,x2,some y0,sg,rfl,f2,hl,hend,hx2,ho,(fun y e=>by cases e;exact c'),hk,dec,fun σ' H' z=>z⟩
    ·have c':¬ x2+l.2.2<y0:=fun z=>c (decide_eq_true z)
     exact⟨_,_,_,TL2,VL2,W2,rfl,⟨f2.kp,f2.ht,f2.hv,f2.hw,f2.tb,f2.fi.leave hl hx2 ho (by omega) (CY hk),f2.nd⟩,⟨x2,hx2⟩,dec⟩
  ·rintro σ H2 ⟨v8,v9,v10,TL2,VL2,W2,rfl,f2,_,dec⟩
   have fin:FH ta va wd TT n st0 ls H1 TL2 VL2 W2 (fun _ _=>False) H2:=⟨f2.kp,f2.ht,f2.hv,f2.hw,f2.tb,f2.fi.exw fun r i l hl hend ⟨z1,z2⟩=>by
    subst z1;rw[JC,Kr]at z2
    exact z2 ((sg.am.mm r row hrow i).mpr ⟨l,hl,hend⟩),f2.nd⟩
   refine kn _ _ ⟨_,_,_,_,TL2,VL2,W2,rfl,fin⟩ ?_;rw[fin.mes];have wl:=fin.wlen;rcases dec with⟨d1,d2⟩ | d
   ·rw[d1];omega
   ·have h1:(wgt (n*MM+1) TL2+1)*(n+1)<=wgt (n*MM+1) TL*(n+1):=Nl _ d
    rw[Nat.add_mul,Nat.one_mul]at h1;omega
 refine⟨_,rfl,_,rfl,.ref la,n,ls,rfl,⟨la,xs,rfl,hA,hL⟩,ok,fun aa ys rows Ha sa haa0 haa rx am=>?_⟩;refine⟨_,rfl,_,rfl,by omega,by omega,ig (n:=(n:Int).toNat) (fun i zs H2=>H2=Ha/\zs=JM i V.non) (by rw[JL];exact Kw (ax (by omega))) ⟨rfl,rfl⟩ ?_ ?_⟩
 ·rintro i zs H2 hi ⟨rfl,rfl⟩;exact⟨rfl,by rw[MF]⟩
 rintro zs H2 _ ⟨rfl,rfl⟩ ta hta;rw[JL];have z1:=ak hta (.lst (JM n V.non));refine⟨_,rfl,_,rfl,by omega,by omega,ig (n:=(n:Int).toNat) (fun i zs H3=>H3=upd H2 ta (.lst (JM n V.non))/\zs=JM i V.non) (by rw[JL];exact Kw (ax (by omega))) ⟨rfl,rfl⟩ ?_ ?_⟩
 ·rintro i zs H3 hi ⟨rfl,rfl⟩;exact⟨rfl,by rw[MF]⟩
 rintro zs H3 _ ⟨rfl,rfl⟩ va hva;rw[JL];have ntv:ta≠va:=fun z=>by rw[← z,ag]at hva;cases hva
 have z2:=ak hva (.lst (JM n V.non));refine⟨_,rfl,_,rfl,ta,_,_,st0,rfl,rfl,by rw[ao ntv];exact ag,wx (by rw[LA];exact hs),?_⟩
 intro wd hwd;refine⟨_,rfl,ag,[kw st0],rfl,(by show 1<=15;decide),?_⟩
 have ntw:ta≠wd:=fun z=>by rw[← z,ag]at hwd;cases hwd
 have hva0:H2 va=none:=cV z1 hva;have hwd0:(upd (upd H2 ta (.lst (JM n V.non))) va (.lst (JM n V.non))) wd=none:=by rw[ao (Ne.symm ntw)]at hwd;exact hwd
 have nvw:va≠wd:=fun z=>by rw[← z,ag]at hwd0;cases hwd0
 have hwd1:H2 wd=none:=cV (z1.trans z2) hwd0;have hT0:H TT≠none:=by rcases tb0 with y | ⟨_,y,_⟩<;>rw[y]<;>simp
 have hT2:H2 TT≠none:=by
  cases y:H TT with
  |none=>exact absurd y hT0
  |some o=>rw[sa _ _ y];simp
 have nTt:ta≠TT:=fun z=>hT2 (z▸hta);have nTv:va≠TT:=fun z=>hT2 (z▸hva0);have nTw:wd≠TT:=fun z=>hT2 (z▸hwd1);have sm1:Same H2 (upd (upd (upd (upd (upd H2 ta (.lst (JM n V.non))) va (.lst (JM n V.non))) ta (.lst ((JM n V.non).set st0 (.int 0)))) wd (.dK [])) wd (.dK (iu [] [kw st0]))):=bW (bW (bW (z1.trans z2) hta _) hwd1 _) hwd1 _;have eT:((JM n V.non).set st0 (.int 0))=((JM n (none:Option Int)).set st0 (some 0)).map oV:=by rw[List.map_set,List.map_replicate];rfl
 have eV:(JM n V.non)=(JM n (none:Option Nat)).map oN:=by rw[List.map_replicate];rfl
 have g1:(upd (upd (upd (upd (upd H2 ta (.lst (JM n V.non))) va (.lst (JM n V.non))) ta (.lst ((JM n V.non).set st0 (.int 0)))) wd (.dK [])) wd (.dK (iu [] [kw st0]))) ta=some (.lst (((JM n (none:Option Int)).set st0 (some 0)).map oV)):=by
  rw[ao ntw,ao ntw,← eT];exact ag
 have g2:(upd (upd (upd (upd (upd H2 ta (.lst (JM n V.non))) va (.lst (JM n V.non))) ta (.lst ((JM n V.non).set st0 (.int 0)))) wd (.dK [])) wd (.dK (iu [] [kw st0]))) va=some (.lst ((JM n (none:Option Nat)).map oN)):=by
  rw[ao nvw,ao nvw,ao (Ne.symm ntv),← eV];exact ag
 have g3:(upd (upd (upd (upd (upd H2 ta (.lst (JM n V.non))) va (.lst (JM n V.non))) ta (.lst ((JM n V.non).set st0 (.int 0)))) wd (.dK [])) wd (.dK (iu [] [kw st0]))) wd=some (.dK ([st0].map kw)):=ag;generalize (upd (upd (upd (upd (upd H2 ta (.lst (JM n V.non))) va (.lst (JM n V.non))) ta (.lst ((JM n V.non).set st0 (.int 0)))) wd (.dK [])) wd (.dK (iu [] [kw st0])))=H1 at sm1 g1 g2 g3;have sH:Same H H1:=sa.trans sm1;have nS:∀ b,H2 b≠none->b≠TT->¬ sF ta va wd TT b:=fun b hb nT z=>by
  rcases z with z | z | z | z
  ·exact nT z
  ·exact hb (z▸hta)
  ·exact hb (z▸hva0)
  ·exact hb (z▸hwd1)
 have sg:Sg la aa ta va wd TT n st0 ls xs ys rows H1:=⟨sH _ _ hA,hL.imp fun _ _ q=>q.mono sH,ok,sm1 _ _ haa,⟨rx.1,fun i l e=>by
   obtain⟨p,p1,p2,p3⟩:=rx.2 i l e;exact⟨p,p1,nS p (by rw[p3];simp) (fun z=>p2 (.inr (z▸hT0))),sm1 _ _ p3⟩⟩,am,nS la (by rw[sa _ _ hA];simp) (fun z=>by rcases tb0 with y | ⟨_,y,_⟩<;>rw[← z,hA]at y<;>cases y),nS aa (by rw[haa];simp) (fun z=>hT0 (z▸haa0)),(fun t o e z=>by
   rcases z with z | z | z | z
   ·rw[z]at e;rcases tb0 with y | ⟨_,y,_⟩<;>rw[sH _ _ y]at e<;>cases e
   ·rw[z,g1]at e;cases e
   ·rw[z,g2]at e;cases e
   ·rw[z,g3]at e;cases e),ntv,ntw,nvw,nTt,nTv,nTw⟩
 have tb1:Tb lqF lpF TT H1:=by
  rcases tb0 with y | ⟨c',y1,y2⟩
  ·exact .inl (sH _ _ y)
  ·exact .inr ⟨c',sH _ _ y1,sH _ _ y2⟩
 refine gE (FrI la aa ta va wd TT n st0 ls H1) (fun _ H'=>mesH n ta wd H') ⟨_,_,_,_,_,_,[st0],rfl,⟨fun _ _ _ e=>e,g1,g2,g3,tb1,FI.first ok.w0 hs,Kq.mpr ⟨(by simp),LV⟩⟩⟩ ?_ ?_
 ·rintro σ H3 ⟨v7,v8,v9,v10,TL,VL,W,rfl,fh⟩;refine⟨_,rfl,fun p hp=>?_⟩;have fh3:=fh.new hp (.dK []);refine⟨wd,p,W.map kw,rfl,rfl,fh3.hw,ag,_,rfl,?_⟩;refine ite2 (fun c=>?_) (fun c=>?_)
  ·have ne:W.map kw≠[]:=fun z=>by rw[z]at c;cases c
   refine⟨_,rfl,wd,W.map kw,ta,_,rfl,fh3.hw,ne,rfl,fh3.ht,fh3.tb,fun kv hkv=>?_,fun kv hkv H4 sm4 tb4=>?_⟩
   ·obtain⟨r,hr,rfl⟩:=Kk.mp hkv;obtain⟨x,hx⟩:=fh3.fi.wk r hr;exact⟨r,x,rfl,vH hx⟩
   obtain⟨r,hr,rfl⟩:=Kk.mp hkv;have fh4:=fh3.tab nTt nTv nTw sm4 tb4;obtain⟨x,hx⟩:=fh4.fi.wk r hr;refine⟨_,rfl,wd,rfl,.inl ⟨_,.inl fh4.hw⟩,_,rfl,W.map kw,.inl (r:Int),.bl true,fh4.hw,rfl,AR hr,?_⟩;rw[wF];have mW:∀ y,y∈W.filter (fun x=>decide (x≠r))↔y∈W/\y≠r:=fun y=>by rw[Mm];simp
   have lW:(W.filter (fun x=>decide (x≠r))).length<W.length:=by
    refine Nat.lt_of_le_of_ne (L6 _ _) fun z=>?_;have:=List.filter_eq_self.mp (List.Sublist.eq_of_length (List.filter_sublist ..) z) r hr;simp at this
   refine⟨aa,ta,va,wd,xs,ys,rows,H1,_,_,_,TL,VL,_,r,W.length,sg,rfl,⟨fh4.kp.upd (.inr (.inr (.inr rfl))) _,by rw[ao ntw];exact fh4.ht,by rw[ao nvw];exact fh4.hv,ag,mi fh4.tb fun b hb=>ao fun z=>?_,fh4.fi.take mW,fh4.nd.filter _⟩,⟨x,hx⟩,lW,fun σ' H' y1 y2=>⟨y1,by rw[fh.mes];exact y2⟩⟩
   rcases hb with hb | ⟨c',hb⟩
   ·exact nTw (z▸hb)
   ·rw[z,fh4.hw]at hb;cases hb
  ·have e0:W = []:=by
    cases W with
    |nil=>rfl
    |cons a b=>exact absurd rfl c
   subst e0;refine⟨_,rfl,_,rfl,(by show 2<=sizeLine;decide),fun t ht=>?_⟩
   have fh4:=fh3.new ht (.tup [.ref ta,.ref va]);refine kk t ta va TL VL _ (fun b o nb e=>?_) fh4.tb (cV sa hta) (cV sa hva0) ag fh4.ht fh4.hv fh4.fi;exact fh4.kp _ _ (nS b (by rw[sa _ _ e];simp) nb) (sH _ _ e)
 ·rintro σ H4 Q1 Q2 hi ⟨v1,e1,h⟩;refine⟨v1,e1,fun p hp=>?_⟩;obtain⟨a,b,kvs,q1,q2,q3,q4,c',q5,q6⟩:=h p hp;exact⟨a,b,kvs,q1,q2,q3,q4,c',q5,hi _ _ q6⟩
end
theorem andN(a b:Nat):Builtin.bitAnd (a:Int) (b:Int)=((a&&&b:Nat):Int):=by
 rw[PyProof.Rows.bitAnd_pp (LS _) (LS _),JL,JL]
theorem shlN(p:Nat):(1:Int)*2^((p:Nat):Int).toNat=((2^p:Nat):Int):=by
 rw[Int.one_mul,JL,Int.natCast_pow];rfl
theorem xa(m n:Nat):(m^^^n)+2*(m&&&n)=m+n:=by
 have h:=PyProof.Rows.nat_or_add_and m n;have h2:(m|||n)=(m^^^n)+(m&&&n):=by
  have e:(m^^^n)+(m&&&n)=(m^^^n)|||(m&&&n):=by
   have q:=PyProof.Rows.nat_or_add_and (m^^^n) (m&&&n);have z:(m^^^n)&&&(m&&&n)=0:=by
    apply Ks;intro i;simp only[Lh,KI,KW]
    cases m.testBit i<;>cases n.testBit i<;>rfl
   omega
  rw[e];apply Ks;intro i;simp only[Lh,KI,KZ]
  cases m.testBit i<;>cases n.testBit i<;>rfl
 omega
theorem xorN(a b:Nat):Builtin.bitXor (a:Int) (b:Int)=((a^^^b:Nat):Int):=by
 rw[PyProof.Rows.bitXor_and,andN];have q:=xa a b;omega
noncomputable def bl(c:Nat):List Nat:=K2.bitsF 0 c
theorem DT(c:Nat):(bl c).Pairwise (· < ·):=K2.bitsF_sorted c c 0 (JF _)
theorem gu(c:Nat):(bl c).Nodup:=K2.nodup_of_lt (DT c)
theorem bG{c x:Nat}:x∈bl c↔c.testBit x=true:=by
 have e:K2.S (K2.bitsF 0 c)=c:=by
  have:=K2.bitsF_sum c c 0 (JF _);rw[this,Nat.pow_zero,Nat.mul_one]
 have b:=K2.S_bit (gu c) x;unfold bl at b ⊢;rw[e]at b;rw[b,decide_eq_true_iff]
theorem lA{c m x:Nat}(h:c<2^m)(hx:x∈bl c):x<m:=by
 have:=K2.bitsF_lt m c 0 h x hx;omega
theorem nU:bl 0 = []:=K2.bitsF_zero 0
noncomputable def cut2(c f t:Nat):Nat:=c^^^2^f^^^2^t
theorem l5{c f t:Nat}(hf:f∈bl c)(ht:t∈bl c)(n:f≠t)(x:Nat):x∈bl (cut2 c f t)↔x∈bl c/\x≠f/\x≠t:=by
 rw[bG]at hf ht;rw[bG,bG];unfold cut2;rw[KI,KI,JY,JY];by_cases c1:x=f
 ·subst c1;rw[hf];simp[Ne.symm n]
 ·by_cases c2:x=t
  ·subst c2;rw[ht];simp[n]
  ·have c1':¬ f=x:=fun z=>c1 z.symm
   have c2':¬ t=x:=fun z=>c2 z.symm;simp[c1,c2,c1',c2']
theorem Dv{c f t:Nat}{rest:List Nat}(e:bl c=f::rest)(ht:t∈rest):(bl (cut2 c f t)).Perm (rest.erase t):=by
 have nd:=gu c;rw[e]at nd;obtain⟨n1,n2⟩:=Kq.mp nd;have nf:f≠t:=fun z=>n1 (z▸ht);refine(LQ (gu _) (n2.erase _)).mpr fun x=>?_;rw[l5 (by rw[e];exact JO ..) (by rw[e];exact JK _ ht) nf,e,n2.mem_erase_iff,JI]
 constructor
 ·rintro⟨h1 | h1,h2,h3⟩
  ·exact absurd h1 h2
  ·exact⟨h3,h1⟩
 ·rintro⟨h1,h2⟩;exact⟨.inr h2,fun z=>n1 (z▸h2),h1⟩
theorem Ji{c f t m:Nat}(h:c<2^m)(hf:f<m)(ht:t<m):cut2 c f t<2^m :=
 Ls (Ls h (KG (by decide) hf)) (KG (by decide) ht)
noncomputable def Opt(D:Nat->Nat->Int)(l:List Nat)(t:Int):Prop:=Cs D l t/\∀ c,Cs D l c->t<=c
theorem Opt.perm{D:Nat->Nat->Int}{l l':List Nat}{t:Int}(h:Opt D l t)(p:l.Perm l'):Opt D l' t:=⟨h.1.perm p,fun c z=>h.2 c (z.perm p.symm)⟩
theorem Opt.nil{D:Nat->Nat->Int}:Opt D [] 0:=by
 refine⟨⟨[],.refl _,rfl⟩,fun c h=>?_⟩;obtain⟨PL,p,e⟩:=h
 cases PL with
 |nil=>rw[← e];exact KR _
 |cons q r=>have:=p.length_eq;cases this
theorem Opt.step{D:Nat->Nat->Int}(sy:∀ a b,D a b=D b a){f t0:Nat}{rest:List Nat}{tr0:Int}(h0:t0∈rest)(o0:Opt D (rest.erase t0) tr0)(hm:∀ t∈rest,∃ tr,Opt D (rest.erase t) tr/\D f t0+tr0<=D f t+tr):Opt D (f::rest) (D f t0+tr0):=by
 refine⟨(o0.1.add f t0).perm ((MG h0).symm.cons f),fun c hc=>?_⟩;obtain⟨e,R,c0,p,hR,ec⟩:=hc.part sy (JO ..);have p1:rest.Perm (e::R):=p.cons_inv;have er:e∈rest:=p1.mem_iff.mpr (JO ..);have p2:R.Perm (rest.erase e):=by
  have:=(p1.erase e).symm;rw[LJ]at this;exact this
 obtain⟨tr,o1,h2⟩:=hm e er;have h1:=o1.2 c0 (hR.perm p2);omega
noncomputable def BtAt(H:Hp)(v:V)(D:Nat->Nat->Int)(m:Nat):Prop:=∃ a ys,v=.ref a/\H a=some (.lst ys)/\∀ i,i<m->∃ p xs,ys[i]?=some (.ref p)/\H p=some (.lst xs)/\∀ k,k<m->xs[k]?=some (.int (D i k))
noncomputable def kH(H:Hp)(v:V)(t:Int):Prop:=∃ a y z,v=.ref a/\H a=some (.tup [.int t,y,z])
noncomputable def Ent(H:Hp)(D:Nat->Nat->Int)(m:Nat)(kvs:List (Key×V))(c:Nat)(v:V):Prop:=c<2^m/\((c=0/\kH H v 0)∨∃(t:Int)(f g:Nat)(a:Addr)(vr:V)(tr:Int),v=.ref a/\H a=some (.tup [.int t,.int (f:Int),.int (g:Int)])/\f∈bl c/\g∈bl c/\f≠g/\valV kvs (.inl ((cut2 c f g:Nat):Int))=some vr/\kH H vr tr/\t=D f g+tr/\Opt D (bl c) t)
structure TI(H:Hp)(D:Nat->Nat->Int)(m:Nat)(kvs:List (Key×V)):Prop where
 en:∀ k v,valV kvs k=some v->∃ c:Nat,k=.inl (c:Int)/\Ent H D m kvs c v
 z:∃ v,valV kvs (.inl ((0:Nat):Int))=some v
 nd:(kvs.map (·.1)).Nodup
noncomputable def Grw(kvs kvs':List (Key×V))(n:Nat):Prop:=(∀ k v,valV kvs k=some v->valV kvs' k=some v)/\∀ c:Nat,valV kvs (.inl (c:Int))=none->valV kvs' (.inl (c:Int))≠none->(bl c).length<=n
noncomputable def Tps(H H':Hp):Prop:=∀ a xs,H a=some (.tup xs)->H' a=some (.tup xs)
theorem kH.mono{H H':Hp}{v:V}{t:Int}(h:kH H v t)(s:Tps H H'):kH H' v t:=by
 obtain⟨a,y,z,e,q⟩:=h;exact⟨a,y,z,e,s _ _ q⟩
theorem Ent.cost{H:Hp}{D:Nat->Nat->Int}{m c:Nat}{kvs:List (Key×V)}{v:V}(h:Ent H D m kvs c v):∃ t,kH H v t/\Opt D (bl c) t:=by
 obtain⟨_,⟨rfl,h⟩ | ⟨t,f,g,a,vr,tr,e1,e2,_,_,_,_,_,_,e9⟩⟩:=h
 ·exact⟨0,h,by rw[nU];exact Opt.nil⟩
 ·exact⟨t,⟨a,_,_,e1,e2⟩,e9⟩
theorem Ent.mono{H H':Hp}{D:Nat->Nat->Int}{m c:Nat}{kvs kvs':List (Key×V)}{v:V}(h:Ent H D m kvs c v)(s:Tps H H')(g:∀ k v,valV kvs k=some v->valV kvs' k=some v):Ent H' D m kvs' c v:=by
 obtain⟨h0,⟨e,h⟩ | ⟨t,f,g',a,vr,tr,e1,e2,e3,e4,e5,e6,e7,e8,e9⟩⟩:=h
 ·exact⟨h0,.inl ⟨e,h.mono s⟩⟩
 ·exact⟨h0,.inr ⟨t,f,g',a,vr,tr,e1,s _ _ e2,e3,e4,e5,g _ _ e6,e7.mono s,e8,e9⟩⟩
theorem TI.mono{H H':Hp}{D:Nat->Nat->Int}{m:Nat}{kvs:List (Key×V)}(h:TI H D m kvs)(s:Tps H H'):TI H' D m kvs:=⟨fun k v e=>by
 obtain⟨c',e1,e2⟩:=h.en k v e
 exact⟨c',e1,e2.mono s fun _ _ z=>z⟩,h.z,h.nd⟩
theorem TrA.mono{H H':Hp}{v:V}{t:T3}(h:TrA H v t)(s:Tps H H'):TrA H' v t:=by
 obtain⟨a,e,q⟩:=h;exact⟨a,e,s _ _ q⟩
theorem TbS.tps{H H':Hp}{tb:Addr}{kvs:List (Key×V)}(s:TbS tb H H')(ht:H tb=some (.dK kvs)):Tps H H':=fun a xs q=>s _ _ (fun w=>by rw[w,ht]at q;cases q) q
theorem BtAt.mono{H H':Hp}{D:Nat->Nat->Int}{m:Nat}{v:V}{tb:Addr}{kvs:List (Key×V)}(h:BtAt H v D m)(ht:H tb=some (.dK kvs))(s:TbS tb H H'):BtAt H' v D m:=by
 obtain⟨a,ys,e,q,r⟩:=h;refine⟨a,ys,e,s _ _ (fun w=>by rw[w,ht]at q;cases q) q,fun i hi=>?_⟩
 obtain⟨p,xs,r1,r2,r3⟩:=r i hi;exact⟨p,xs,r1,s _ _ (fun w=>by rw[w,ht]at r2;cases r2) r2,r3⟩
theorem sW{α β:Type}{f:α->β}:∀{l:List α},l.Nodup->(∀ a∈l,∀ b∈l,f a=f b->a=b)->(l.map f).Nodup
 |[],_,_=>LV
 |x::l,nd,h=>by
  obtain⟨n1,n2⟩:=Kq.mp nd;rw[JQ];refine Kq.mpr ⟨fun z=>?_,sW n2 fun a ha b hb=>h a (JK _ ha) b (JK _ hb)⟩;obtain⟨y,hy,e⟩:=Kk.mp z;exact n1 (h x (JO ..) y (JK _ hy) e.symm▸hy)
theorem TI.len{H:Hp}{D:Nat->Nat->Int}{m:Nat}{kvs:List (Key×V)}(h:TI H D m kvs)(hm:m<=14):kvs.length<sizeLine:=by
 have key:∀ k∈kvs.map (·.1),∃ c:Nat,k=Sum.inl (c:Int)/\c<2^m:=fun k hk=>by
  cases hv:valV kvs k with
  |none=>exact absurd hk (xH hv)
  |some v =>
   obtain⟨c,e,q⟩:=h.en k v hv;exact⟨c,e,q.1⟩
 have l1:((kvs.map (·.1)).map fun k:Key=>match k with | .inl i=>i.toNat | .inr _=>0).Nodup:=by
  refine sW h.nd fun a ha b hb e=>?_;obtain⟨c1,rfl,_⟩:=key a ha;obtain⟨c2,rfl,_⟩:=key b hb;have e':c1=c2:=by simpa using e
  rw[e']
 have l2:=gP (2^m) _ l1 fun x hx=>by
  obtain⟨k,hk,rfl⟩:=Kk.mp hx;obtain⟨c,rfl,hc⟩:=key k hk;simpa using hc
 rw[JC,JC]at l2;have:2^m<=2^14:=K0 (by decide) hm
 have e14:(2:Nat)^14=16384:=by decide
 have:=PySem.sizeLine_eq;omega
noncomputable def restR(tb:Addr)(bv:V)(c m:Nat)(D:Nat->Nat->Int)(kvs:List (Key×V))(H0:Hp)(Q:VK):TS:=fun D0 σ H=>∃(v4 v5 v6 v7 v8:Option V)(kvs':List (Key×V))(v:V),σ = [some bv,some (.int (c:Int)),some (.ref tb),v4,v5,v6,v7,v8]/\TbS tb H0 H/\H tb=some (.dK kvs')/\TI H D m kvs'/\Grw kvs kvs' (bl c).length/\valV kvs' (.inl (c:Int))=some v/\∀ x H',Q x H'->D0.rt x H'
noncomputable def LpI(bv:V)(tb r wa:Addr)(c f m:Nat)(D:Nat->Nat->Int)(kvs:List (Key×V))(rest:List Nat)(Hb:Hp)(i:Nat)(σ:St)(H:Hp):Prop:=∃(v7 v8:Option V)(kvs2:List (Key×V))(ws:List T3)(ys:List V),σ = [some bv,some (.int (c:Int)),some (.ref tb),some (.ref r),some (.int (f:Int)),some (.ref wa),v7,v8]/\(∀ b o,b≠tb->b≠wa->Hb b=some o->H b=some o)/\H tb=some (.dK kvs2)/\TI H D m kvs2/\Grw kvs kvs2 (rest.length-1)/\H wa=some (.lst ys)/\LsAt TrA H ys ws/\ws.length=i /\
 ∀(idx t:Nat),(rest.take i)[idx]?=some t->∃(tr:Int)(vr:V),ws[idx]?=some (D f t+tr,(f:Int),(t:Int))/\Opt D (rest.erase t) tr/\valV kvs2 (.inl ((cut2 c f t:Nat):Int))=some vr/\kH H vr tr
noncomputable def oW(D:Nat->Nat->Int)(m j:Nat):Sp:=fun vs H Q _=>∃(bv:V)(tb:Addr)(c:Nat)(kvs:List (Key×V)),vs = [bv,.int (c:Int),.ref tb]/\BtAt H bv D m/\H tb=some (.dK kvs)/\TI H D m kvs/\c<2^m/\m<=14/\(bl c).length<2*j/\(bl c).length%2=0 /\
 ∀ v t kvs' H',TbS tb H H'->H' tb=some (.dK kvs')->TI H' D m kvs'->Grw kvs kvs' (bl c).length->valV kvs' (.inl (c:Int))=some v->kH H' v t->Opt D (bl c) t->Q v H'
section
variable{P:Program}{w:World}{K:JH}{mg:Str->Option Value}{base:Heap}
theorem a8:aD ["between","chosen","table","numbers","first","ways","mate","rest"] ["between","chosen","table"] (ai a7):=by ac_nf
theorem E9{f f1:Addr}{fd fd1:FuncData}{D:Nat->Nat->Int}{m j:Nat}(sy:∀ a b,D a b=D b a) (F:Fun K "laid_in_pairs" "laid_in_pairs" a7 f fd) (T:Txt mg) (G_bits:Cal P w K mg base 1 "bits" ["mask"] jb f1 fd1) (G_laid_in_pairs:Cal P w K mg base (j+2) "laid_in_pairs" ["between","chosen","table"] (oW D m j) f fd):FnOk P w K mg base CX0 (j+3) f fd ["between","chosen","table"] (oW D m (j+1)):=by
 refine F.ok a8 (fun vs H Q E h=>?_) (fun cdv A outer s H vs Q E hr h=>?_)
 ·obtain⟨bv,tb,c,kvs,rfl,_⟩:=h;rfl
 obtain⟨bv,tb,c,kvs,rfl,hB,hT,ti,hc,m14,len,ev,kk⟩:=h;have hu:=CO hr;have hu64:=hr.units
 refine⟨_,(af (c6 (pt_cmp (Bz hu (pv 1) (pv 2))) (af (au (i:=3) a8.nd rfl (Or.inl rfl) (av G_bits.ok (hr.mono (by omega)) rfl G_bits.mg G_bits.kp G_bits.bn .nil aR (ae (pv 1) aj)))
   (af (au (i:=4) a8.nd rfl (Or.inl rfl) (aC aP (pv 3) ah (fun _ _=>rfl)))
   (af (au (i:=5) a8.nd rfl (Or.inl rfl) (jh aj))
   (af (cR PassesOwn.never rfl (aZ (fm iF (pv 3) (iI ah) iJ)) (aw (i:=6) a8.nd rfl (Or.inl rfl)) (af (au (i:=7) a8.nd rfl (Or.inl rfl) (ar eN (ar eN (pv 1) (ar bF ah (pv 4))) (ar bF ah (pv 6))))
   (aq (cX (qj K6 Lm Ll dB (pv 5) (ae (kK (ae (ar b8 (aC aP (aC aP (pv 0) (pv 4) (fun _ _=>rfl)) (pv 6) (fun _ _=>rfl)) (aC aV (av G_laid_in_pairs.ok (hr.mono (by omega)) rfl G_laid_in_pairs.mg G_laid_in_pairs.kp G_laid_in_pairs.bn .nil aR (ae (pv 0) (ae (pv 7) (ae (pv 2) aj)))) ah (fun _ _=>rfl))) (ae (pv 4) (ae (pv 6) aj)))) aj))))))
   (aq (vg hu (pv 2) (pv 1) (aE (DO rfl hu64) (by rfl) T.n_min yA (ae (pv 5) aj)) rfl)))))) aY)
   (mD (t2:=restR tb bv c m D kvs H Q) (aq (aJ (vp hu (pv 2) (pv 1) (fun _ _=>rfl)))) (fun D0 S0 H0 h0=>?restr))),?_⟩
 case restr =>
  obtain⟨v4,v5,v6,v7,v8,kvs',v,rfl,sT,hT',ti',gr,hv,kq⟩:=h0;obtain⟨c',e,en⟩:=ti'.en _ v hv;have ec:c'=c:=by
   have:((c:Nat):Int)=(c':Int):=by injection e
   omega
  subst ec;obtain⟨t,h1,h2⟩:=en.cost;refine⟨_,rfl,_,rfl,tb,v,rfl,by have:=DGet.k (k:=.inl ((c':Nat):Int)) hT';rw[hv]at this;exact this,?_⟩
  exact kq _ _ (kk v t kvs' H0 sT hT' ti' gr hv h1 h2)
 refine⟨_,rfl,_,rfl,tb,_,rfl,DGet.k (k:=.inl ((c:Nat):Int)) hT,_,rfl,?_⟩
 cases hv:valV kvs (.inl ((c:Nat):Int)) with
 |some v =>
  exact iteF ⟨_,_,_,_,_,kvs,v,rfl,(fun _ _ _ e=>e),hT,ti,⟨fun _ _ z=>z,fun c' z1 z2=>absurd z1 z2⟩,hv,fun _ _ z=>z⟩
 |none =>
  refine iteT ?_;have c0:c≠0:=fun z=>by
   subst z;obtain⟨v0,hv0⟩:=ti.z;rw[hv]at hv0;cases hv0
  obtain⟨f,rest,ebl⟩:∃ f rest,bl c=f::rest:=by
   cases q:bl c with
   |cons f rest=>exact⟨f,rest,rfl⟩
   |nil =>
    refine absurd (Ks fun i=>?_) c0;rw[KW]
    cases z:c.testBit i with
    |false=>rfl
    |true =>
     have:=bG.mpr z;rw[q]at this;cases this
  have nd:=gu c;rw[ebl]at nd;obtain⟨nf,ndr⟩:=Kq.mp nd;have rlen:(bl c).length=rest.length+1:=by rw[ebl,Ke]
  have flt:f<m:=lA hc (by rw[ebl];exact JO ..)
  have tlt:∀ t∈rest,t<m:=fun t ht=>lA hc (by rw[ebl];exact JK _ ht)
  have rm:rest.length+1<=m:=by
   rw[← rlen];exact gP m _ (gu c) fun x hx=>lA hc hx
  have c14:c<16384:=by
   have:2^m<=2^14:=K0 (by decide) m14
   have e14:(2:Nat)^14=16384:=by decide
   omega
  refine⟨_,rfl,(c:Int),rfl,by omega,by omega,fun r H1 s1 hr0 hr1=>?_⟩
  have enb:(K2.bitsF 0 ((c:Nat):Int).toNat).map iV=iV f::rest.map iV:=by
   rw[JL];show(bl c).map iV=_;rw[ebl,JQ]
  rw[enb]at hr1;refine⟨_,rfl,r,_,0,_,rfl,rfl,SqL.of hr1,(show atI (iV f::rest.map iV) ((0:Nat):Int)=some (iV f) from aN rfl),?_⟩;refine⟨(by show 0<=sizeLine;decide),fun wa hwa=>?_⟩
  have s2:=ak hwa (.lst []);refine⟨_,rfl,_,rfl,r,_,rfl,SqL.of (s2 _ _ hr1),fun sl hsl=>?_⟩;have ecut:cutV (iV f::rest.map iV) (some 1) none=rest.map iV:=by
   have e1:HT.sIx (iV f::rest.map iV).length 0 (some ((1:Nat):Int))=1:=by rw[HT.sIx_nat,Ke,JC];omega
   unfold cutV;rw[show(some (1:Int))=some ((1:Nat):Int) from rfl,e1,HT.sIx_none,List.drop_succ_cons,Md,Ke];exact KA (by omega)
  rw[ecut];have s3:=ak hsl (.lst (rest.map iV));have s13:Same H (upd (upd H1 wa (.lst [])) sl (.lst (rest.map iV))):=s1.trans (s2.trans s3);have wsl:wa≠sl:=fun z=>by rw[← z,ag]at hsl;cases hsl
  have g1:(upd (upd H1 wa (.lst [])) sl (.lst (rest.map iV))) wa=some (.lst []):=by rw[ao wsl];exact ag
  have g2:=ag (H:=upd H1 wa (.lst [])) (a:=sl) (o:=.lst (rest.map iV));have wa0:H wa=none:=cV s1 hwa;generalize (upd (upd H1 wa (.lst [])) sl (.lst (rest.map iV)))=Hb at s13 g1 g2;have hTb:=s13 _ _ hT;have wtb:wa≠tb:=fun z=>by rw[z,hT]at wa0;cases wa0
  have sltb:sl≠tb:=fun z=>by rw[z,hTb]at g2;cases g2
  have tsb:TbS tb H Hb:=fun b o _ e=>s13 _ _ e;have tib:TI Hb D m kvs:=ti.mono fun a xs q=>s13 _ _ q;have btb:BtAt Hb bv D m:=hB.mono hT tsb;refine⟨sl,rfl,⟨_,SqL.of g2⟩,c9 (K:=K) (xs:=rest.map iV) (LpI bv tb r wa c f m D kvs rest Hb) ⟨_,_,kvs,[],[],rfl,fun _ _ _ _ e=>e,hTb,tib,⟨fun _ _ z=>z,fun c' z1 z2=>absurd z1 z2⟩,g1,LsAt.nil,rfl,fun idx t e=>by simp at e⟩ (fun i σ H2 _ ⟨_,_,_,_,_,_,z,_⟩=>SqL.of (z _ _ sltb (Ne.symm wsl) g2)) ?_ ?_⟩
  ·rintro i x σ H2 hx ⟨v7,v8,kvs2,ws,ys,rfl,k2,hT2,ti2,gr2,hwa2,hL,wl,done⟩;rw[JJ]at hx;obtain⟨t,ht,rfl⟩:=Km.mp hx;have tm:=JG ht;have tl:=tlt t tm;have ftn:f≠t:=fun z=>nf (z▸tm);have cp:=Dv ebl tm;have cl:(bl (cut2 c f t)).length+1=rest.length:=by
    rw[cp.length_eq,NY tm];have:=Mt tm;omega
   refine⟨_,rfl,_,rfl,_,_,rfl,rfl,⟨by show(0:Int)<=(f:Int);omega,by show(f:Int)<=1000000;omega,by decide⟩,_,_,rfl,rfl,_,rfl,_,_,rfl,rfl,⟨by show(0:Int)<=(t:Int);omega,by show(t:Int)<=1000000;omega,by decide⟩,_,_,rfl,rfl,?_⟩
   have ec:Builtin.bitXor (Builtin.bitXor (c:Int) (1*2^((f:Nat):Int).toNat)) (1*2^((t:Nat):Int).toNat)=((cut2 c f t:Nat):Int):=by rw[shlN,shlN,xorN,xorN];rfl
   simp only[ec];have yl:=hL.1;have upL:∀ b zs,H b=some (.lst zs)->H2 b=some (.lst zs):=fun b zs q=>k2 b _ (fun z=>by rw[z,hT]at q;cases q) (fun z=>by rw[z,wa0]at q;cases q) (s13 _ _ q)
   obtain⟨ba,zs,rfl,hba,rr⟩:=id hB
   have bt2:BtAt H2 (.ref ba) D m:=⟨ba,zs,rfl,upL _ _ hba,fun i' hi'=>by
    obtain⟨p,xs,r1,r2,r3⟩:=rr i' hi'
    exact⟨p,xs,r1,upL _ _ r2,r3⟩⟩
   obtain⟨p,xs,r1,r2,r3⟩:=rr f flt;refine⟨_,rfl,.inl ⟨rfl,_,SqL.of hwa2⟩,_,rfl,_,rfl,ba,_,_,_,rfl,rfl,SqL.of (upL _ _ hba),aN r1,_,rfl,p,_,_,_,rfl,rfl,SqL.of (upL _ _ r2),aN (r3 t tl),_,rfl,_,rfl,_,rfl,.ref ba,tb,cut2 c f t,kvs2,rfl,bt2,hT2,ti2,Ji hc flt tl,m14,by omega,by omega,fun v tr kvs3 H3 sT3 hT3 ti3 gr3 hv3 cv3 op3=>?_⟩
   obtain⟨va,y,z,rfl,hva⟩:=id cv3;refine⟨va,_,0,_,rfl,rfl,SqT.of hva,a30,_,_,rfl,rfl,_,rfl,_,rfl,(by show 3<=sizeLine;decide),fun t3 ht3=>?_⟩
   have s4:=ak ht3 (.tup [.int (D f t+tr),.int (f:Int),.int (t:Int)]);have hwa3:H3 wa=some (.lst ys):=sT3 _ _ wtb hwa2;have itl:i<rest.length:=(JD.mp ht).1;refine⟨wa,ys,_,rfl,rfl,s4 _ _ hwa3,ax (by omega),?_⟩
   have tp23:Tps H2 H3:=TbS.tps sT3 hT2;have tp35:Tps H3 (upd (upd H3 t3 (.tup [.int (D f t+tr),.int (f:Int),.int (t:Int)])) wa (.lst (ys++[.ref t3]))):=fun a xs q=>by
    rw[ao (fun z=>by rw[z,hwa3]at q;cases q)]
    exact s4 _ _ q
   have tp25:Tps H2 (upd (upd H3 t3 (.tup [.int (D f t+tr),.int (f:Int),.int (t:Int)])) wa (.lst (ys++[.ref t3]))):=fun a xs q=>tp35 _ _ (tp23 _ _ q);have wt3:t3≠wa:=fun z=>by rw[z,hwa3]at ht3;cases ht3
   refine⟨_,_,kvs3,ws++[(D f t+tr,(f:Int),(t:Int))],ys++[.ref t3],rfl,fun b o n1 n2 e=>?_,?_,ti3.mono tp35,⟨fun k v z=>gr3.1 _ _ (gr2.1 _ _ z),fun c' y1 y2=>?_⟩,ag,?_,by rw[JN,wl];rfl,fun idx t' e=>?_⟩
   ·rw[ao n2];exact s4 _ _ (sT3 _ _ n1 (k2 b o n1 n2 e))
   ·rw[ao (Ne.symm wtb)];exact s4 _ _ hT3
   ·cases q2:valV kvs2 (.inl (c':Int)) with
    |none=>have:=gr3.2 c' q2 y2;omega
    |some v'=>exact gr2.2 c' y1 (by rw[q2];simp)
   ·exact(hL.imp fun _ _ q=>TrA.mono q tp25).snoc ⟨t3,rfl,by rw[ao wt3];exact ag⟩
   ·have til:(rest.take i).length=i:=by rw[JZ];omega
    rw[Kn,ht]at e;by_cases ci:idx<i
    ·rw[Kj (by omega)]at e
     obtain⟨tr',vr,d1,d2,d3,d4⟩:=done idx t' e;exact⟨tr',vr,by rw[Kj (by omega)];exact d1,d2,gr3.1 _ _ d3,d4.mono tp25⟩
    ·rw[Ka (by omega)]at e
     have h5:=(JD.mp e).1;have h6:idx=i:=by
      have:(Option.toList (some t)).length=1:=rfl;omega
     subst h6;rw[til,Ln]at e
     cases e
     exact⟨tr,.ref va,by rw[Ka (by omega),wl,Ln];rfl,op3.perm cp,hv3,cv3.mono tp35⟩
  ·rintro σ H2 ⟨v7,v8,kvs2,ws,ys,rfl,k2,hT2,ti2,gr2,hwa2,hL,wl,done⟩;rw[JC]at wl done;rw[Kr]at done;have rp:1<=rest.length:=by omega
   have wne:ws≠[]:=fun z=>by rw[z]at wl;simp at wl;omega
   refine⟨_,rfl,wa,ys,ws,rfl,SqL.of hwa2,hL,wne,fun idx y t3 hy ht3 hmin=>?_⟩;have il:idx<rest.length:=by rw[← wl];exact(JD.mp ht3).1
   obtain⟨t,et⟩:∃ t,rest[idx]?=some t:=⟨_,JB il⟩;have tm:=JG et;obtain⟨tr,vr,d1,d2,d3,d4⟩:=done idx t et;rw[ht3]at d1
   cases d1
   obtain⟨w',ew',a,rfl,ha⟩:=hL.get hy;rw[ht3]at ew'
   cases ew'
   have ftn:f≠t:=fun z=>nf (z▸tm);have fb:f∈bl c:=by rw[ebl];exact JO ..
   have tbm:t∈bl c:=by rw[ebl];exact JK _ tm
   have opt:Opt D (bl c) (D f t+tr):=by
    rw[ebl];refine Opt.step sy tm d2 fun t' ht'=>?_;obtain⟨k,hk,ek⟩:=KP ht';obtain⟨tr',vr',d1',d2',_,_⟩:=done k t' (by rw[JB hk,ek])
    exact⟨tr',d2',hmin _ (JG d1')⟩
   have cabs:valV kvs2 (.inl ((c:Nat):Int))=none:=by
    cases q2:valV kvs2 (.inl ((c:Nat):Int)) with
    |none=>rfl
    |some v'=>have:=gr2.2 c hv (by rw[q2];simp);omega
   have cne:((cut2 c f t:Nat):Int)≠(c:Int):=fun z=>by
    have z':cut2 c f t=c:=by omega
    have:=(l5 fb tbm ftn f).mp (by rw[z'];exact fb)
    exact this.2.1 rfl
   have vput:∀ k v,valV kvs2 k=some v->valV (putK kvs2 (.inl ((c:Nat):Int)) (.ref a)) k=some v:=fun k v e=>by
    rw[lF,if_neg (fun z=>by rw[z,cabs]at e;cases e)]
    exact e
   refine⟨_,rfl,_,rfl,tb,_,rfl,DPut.k (k:=.inl ((c:Nat):Int)) (v:=.ref a) hT2 (ti2.len m14),?_⟩;have tp:Tps H2 (upd H2 tb (.dK (putK kvs2 (.inl ((c:Nat):Int)) (.ref a)))):=fun b xs q=>by
    rw[ao (fun z=>by rw[z,hT2]at q;cases q)]
    exact q
   refine⟨_,_,_,_,_,putK kvs2 (.inl ((c:Nat):Int)) (.ref a),.ref a,rfl,fun b o n1 e=>?_,ag,⟨fun k v e=>?_,?_,IE _ ti2.nd cabs⟩,⟨fun k v e=>vput _ _ (gr2.1 _ _ e),fun c' y1 y2=>?_⟩,by rw[lF,if_pos rfl],fun _ _ z=>z⟩
   ·rw[ao n1];exact k2 b o n1 (fun z=>by rw[z,wa0]at e;cases e) (s13 _ _ e)
   ·rw[lF]at e;by_cases ck:k=.inl ((c:Nat):Int)
    ·rw[if_pos ck]at e
     cases e
     exact⟨c,ck,hc,.inr ⟨D f t+tr,f,t,a,vr,tr,rfl,tp _ _ ha,fb,tbm,ftn,vput _ _ d3,d4.mono tp,rfl,opt⟩⟩
    ·rw[if_neg ck]at e;obtain⟨c',e1,e2⟩:=ti2.en k v e;exact⟨c',e1,e2.mono tp vput⟩
   ·obtain⟨v0,hv0⟩:=ti2.z;exact⟨v0,vput _ _ hv0⟩
   ·by_cases cc:c'=c
    ·rw[cc];exact JF _
    ·rw[lF,if_neg (fun z=>cc (by have:(c':Int)=(c:Int):=by injection z
                                 omega))]at y2
     have:=gr2.2 c' y1 y2;omega
theorem BJ{f f1:Addr}{fd fd1:FuncData}{D:Nat->Nat->Int}{m:Nat}(sy:∀ a b,D a b=D b a) (F:Fun K "laid_in_pairs" "laid_in_pairs" a7 f fd) (T:Txt mg) (G_bits:Cal P w K mg base 1 "bits" ["mask"] jb f1 fd1) (bn:uJ K fd ["between","chosen","table"] []) (hm:mg "laid_in_pairs" = some (.ref f)) (kp:JX K (.ref f)=true):∀ j,FnOk P w K mg base CX0 (j+2) f fd ["between","chosen","table"] (oW D m j)
 |0=>⟨fun vs H Q E h=>by
   obtain⟨bv,tb,c,kvs,_,_,_,_,_,_,z,_⟩:=h;omega,fun A outer s H args us vs Q E _ _ _ _ h=>by
   obtain⟨bv,tb,c,kvs,_,_,_,_,_,_,z,_⟩:=h
   omega⟩
 |j+1=>E9 sy F T G_bits ⟨BJ sy F T G_bits bn hm kp j,bn,hm,kp⟩
end
theorem Fp{VL:List (Option Nat)}{r:Nat}{o:Option Nat}(h:VL[r]?=some o):(VL.map oN)[r]?=some (oN o):=by rw[JJ,h];rfl
theorem FI.even{n:Nat}{ls:List Lk}{s M:Nat}{T:List (Option Int)}{vv:List (Option Nat)}(I:FI n ls s M T vv [] (fun _ _=>False)){r k:Nat}(h:vv[r]?=some (some k)):∃(l:Lk)(x y:Int),ls[k]?=some l/\jC l r/\T[r]?=some (some x)/\T[bey l r]?=some (some y)/\y+l.2.2=x:=by
 obtain⟨l,x,y,e1,e2,e3,e4,e5⟩:=I.pr r k h;rcases I.rl (bey l r) y k l e4 (by simp) e1 (rB e2)with h' | ⟨x',h',hx⟩
 ·exact h'.elim
 ·rw[nW e2,e3]at h';cases h';exact⟨l,x,y,e1,e2,e3,e4,by omega⟩
inductive Pth(ls:List Lk)(vv:List (Option Nat))(s:Nat):Nat->List Nat->Prop where
 |root:Pth ls vv s s []
 |step {r k:Nat} {l:Lk} {ks:List Nat} (hv:vv[r]?=some (some k)) (hl:ls[k]?=some l) (h:Pth ls vv s (bey l r) ks):Pth ls vv s r (k::ks)
theorem Up.path{ls:List Lk}{vv:List (Option Nat)}{s j r:Nat}(h:Up ls vv s j r):∃ ks,Pth ls vv s r ks/\ks.length=j:=by
 induction h with
 |root=>exact⟨[],.root,rfl⟩
 |step hv hl _ ih =>
  obtain⟨ks,p,e⟩:=ih;exact⟨_::ks,.step hv hl p,by rw[Ke,e]⟩
theorem Pth.up{ls:List Lk}{vv:List (Option Nat)}{s r:Nat}{ks:List Nat}(h:Pth ls vv s r ks):Up ls vv s ks.length r:=by
 induction h with
 |root=>exact .root
 |step hv hl _ ih=>exact .step hv hl ih
noncomputable def lkA(ls:List Lk)(k:Nat):Lk:=ls.getD k (0,0,0)
theorem cf{ls:List Lk}{k:Nat}{l:Lk}(h:ls[k]?=some l):lkA ls k=l:=by unfold lkA;rw[JE,h];rfl
noncomputable def endX(l:Lk):Nat:=2^l.1^^^2^l.2.1
noncomputable def oddE(ls:List Lk)(u:Nat):Nat->Nat
 |0=>0
 |i+1=>if u.testBit i=true then oddE ls u i^^^endX (lkA ls i) else oddE ls u i
noncomputable def cstU(ls:List Lk)(u:Nat):Nat->Int
 |0=>0
 |i+1=>if u.testBit i=true then cstU ls u i+(lkA ls i).2.2 else cstU ls u i
theorem iD(x a:Nat):(bl (x^^^2^a)).Perm (tog (bl x) a):=by
 refine(LQ (gu _) (tog_nd (gu x) a)).mpr fun y=>?_;rw[IG (gu x),bG,KI,JY,bG,bG];by_cases c:y=a
 ·subst c
  cases x.testBit y<;>simp
 ·have c':¬ a=y:=fun z=>c z.symm
  cases x.testBit y<;>simp[c,c']
theorem yf{n:Nat}{d:Nat->Nat->Int}(M:Met n d){ls:List Lk}(u:Nat)(hl:∀ l∈ls,l.1<n/\l.2.1<n/\d l.1 l.2.1<=l.2.2):∀ i,i<=ls.length->oddE ls u i<2^n/\∃ c,Cs d (bl (oddE ls u i)) c/\c<=cstU ls u i
 |0,_=>⟨Lg n,0,by show Cs d (bl 0) 0;rw[nU];exact Opt.nil.1,KR _⟩
 |i+1,h=>by
  obtain⟨h1,c,h2,h3⟩:=yf M u hl i (by omega)
  unfold oddE cstU;by_cases b:u.testBit i=true
  ·rw[if_pos b,if_pos b];obtain⟨l,e⟩:∃ l,ls[i]?=some l:=⟨_,JB (by omega)⟩
   obtain⟨l1,l2,l3⟩:=hl l (JG e);rw[cf e];have ex:oddE ls u i^^^endX l=oddE ls u i^^^2^l.1^^^2^l.2.1:=by unfold endX;rw[KJ]
   rw[ex];refine⟨Ls (Ls h1 (KG (by decide) l1)) (KG (by decide) l2),?_⟩
   obtain⟨c',g1,g2⟩:=h2.two M (gu _) (fun x hx=>lA h1 hx) l1 l2;refine⟨c',g1.perm ?_,by omega⟩
   exact((iD _ _).trans (lG (iD _ _) _)).symm
  ·rw[if_neg b,if_neg b];exact⟨h1,c,h2,h3⟩
theorem jj(ls:List Lk)(u v:Nat):∀ i,oddE ls (u^^^v) i=oddE ls u i^^^oddE ls v i
 |0=>(L0 0).symm
 |i+1=>by
  unfold oddE;rw[jj ls u v i,KI];have x4:∀ a b e:Nat,(a^^^e)^^^(b^^^e)=a^^^b:=fun a b e=>by rw[Mj b e,← KJ,KJ a e e,L0,MP]
  cases u.testBit i<;>cases v.testBit i<;>simp
  ·rw[KJ]
  ·rw[KJ,KJ,Mj (oddE ls v i)]
  ·exact(x4 _ _ _).symm
theorem jL(ls:List Lk)(hw:∀ l∈ls,0<=l.2.2)(u v:Nat):∀ i,i<=ls.length->cstU ls (u^^^v) i<=cstU ls u i+cstU ls v i
 |0,_=>KR _
 |i+1,h=>by
  have ih:=jL ls hw u v i (by omega)
  obtain⟨l,e⟩:∃ l,ls[i]?=some l:=⟨_,JB (by omega)⟩
  have w0:=hw l (JG e);unfold cstU;rw[KI,cf e]
  cases u.testBit i<;>cases v.testBit i<;>simp<;>omega
inductive Wk(ls:List Lk):Nat->Nat->Int->Prop where
 |nil (a:Nat):Wk ls a a 0
 |step {a b i:Nat} {x:Int} {l:Lk} (h:Wk ls a b x) (hl:ls[i]?=some l) (he:jC l b):Wk ls a (bey l b) (x+l.2.2)
theorem Wk.trans{ls:List Lk}{a b c:Nat}{x y:Int}(h:Wk ls a b x)(g:Wk ls b c y):Wk ls a c (x+y):=by
 induction g with
 |nil=>rw[Int.add_zero];exact h
 |step _ hl he ih =>
  rw[← Int.add_assoc];exact .step ih hl he
theorem Wk.link{ls:List Lk}{a i:Nat}{l:Lk}(hl:ls[i]?=some l)(he:jC l a):Wk ls a (bey l a) l.2.2:=by
 have:=Wk.step (.nil a) hl he;rw[L8]at this;exact this
theorem Wk.rev{ls:List Lk}{a b:Nat}{x:Int}(h:Wk ls a b x):Wk ls b a x:=by
 induction h with
 |nil=>exact .nil _
 | @step b i x l h hl he ih =>
  have g:=Wk.link hl (rB he);rw[nW he]at g;rw[Int.add_comm];exact g.trans ih
theorem Wk.nn{ls:List Lk}(hw:∀ l∈ls,0<=l.2.2){a b:Nat}{x:Int}(h:Wk ls a b x):0<=x:=by
 induction h with
 |nil=>exact KR _
 |step _ hl _ ih=>have:=hw _ (JG hl);omega
theorem Wk.rel{n:Nat}{ls:List Lk}{s M:Nat}{T:List (Option Int)}{vv:List (Option Nat)}(I:FI n ls s M T vv [] (fun _ _=>False)){a b:Nat}{x:Int}(h:Wk ls a b x):∀ y,T[a]?=some (some y)->∃ z,T[b]?=some (some z)/\z<=y+x:=by
 induction h with
 |nil=>intro y hy;exact⟨y,hy,by omega⟩
 | @step b i x l h hl he ih =>
  intro y hy;obtain⟨z,h1,h2⟩:=ih y hy;rcases I.rl b z i l h1 (by simp) hl he with q | ⟨z',h3,h4⟩
  ·exact q.elim
  ·exact⟨z',h3,by omega⟩
theorem Up.wk{n:Nat}{ls:List Lk}{s M:Nat}{T:List (Option Int)}{vv:List (Option Nat)}(I:FI n ls s M T vv [] (fun _ _=>False)){j r:Nat}(h:Up ls vv s j r):∀ x,T[r]?=some (some x)->Wk ls s r x:=by
 induction h with
 |root=>intro x hx;rw[I.st]at hx;cases hx;exact .nil _
 | @step j r k l hv hl h ih =>
  intro x hx;obtain⟨l',x',y,e1,e2,e3,e4,e5⟩:=I.even hv;rw[hl]at e1;cases e1;rw[hx]at e3;cases e3;have g:=Wk.step (ih y e4) hl (rB e2);rw[nW e2,e5]at g;exact g
theorem Cu{P:Nat->Prop}(h:∃ n,P n):∃ n,P n/\∀ m,P m->n<=m:=by
 obtain⟨n,hn⟩:=h;induction n using Nf with
 |ind n ih =>
  by_cases c:∃ m,m<n/\P m
  ·obtain⟨m,h1,h2⟩:=c;exact ih m h1 h2
  ·exact⟨n,hn,fun m hm=>MD fun z=>c ⟨m,z,hm⟩⟩
open Classical in
noncomputable def farD (ls:List Lk) (a b:Nat):Int:=if h:∃ x:Nat,Wk ls a b (x:Int) then((Classical.choose (Cu h):Nat):Int) else 0
theorem fE{ls:List Lk}(hw:∀ l∈ls,0<=l.2.2){a b:Nat}{x:Int}(h:Wk ls a b x):Wk ls a b (farD ls a b)/\∀ y,Wk ls a b y->farD ls a b<=y:=by
 have x0:=h.nn hw;have ex:∃ x:Nat,Wk ls a b (x:Int):=⟨x.toNat,by rw[Int.toNat_of_nonneg x0];exact h⟩
 have e:farD ls a b=((Classical.choose (Cu ex):Nat):Int):=by unfold farD;rw[dif_pos ex]
 obtain⟨c1,c2⟩:=Nj (Cu ex);rw[e];refine⟨c1,fun y hy=>?_⟩;have y0:=hy.nn hw;have:=c2 y.toNat (by rw[Int.toNat_of_nonneg y0];exact hy)
 omega
theorem CU(ls:List Lk)(a b:Nat):farD ls a b=farD ls b a:=by
 have e:∀ x:Nat,Wk ls a b (x:Int)=Wk ls b a (x:Int):=fun x=>propext ⟨Wk.rev,Wk.rev⟩;have e2:(fun x:Nat=>Wk ls a b (x:Int))=fun x:Nat=>Wk ls b a (x:Int):=funext e;unfold farD;by_cases h:∃ x:Nat,Wk ls a b (x:Int)
 ·have h':∃ x:Nat,Wk ls b a (x:Int):=h.imp fun x z=>z.rev
  rw[dif_pos h,dif_pos h'];have c1:=Nj (Cu h);have c2:=Nj (Cu h');have l1:=c1.2 _ c2.1.rev;have l2:=c2.2 _ c1.1.rev;omega
 ·have h':¬ ∃ x:Nat,Wk ls b a (x:Int):=fun z=>h (z.imp fun x y=>y.rev)
  rw[dif_neg h,dif_neg h']
noncomputable def Conn(n:Nat)(ls:List Lk):Prop:=∀ b,b<n->∃ x,Wk ls 0 b x
theorem Conn.two{n:Nat}{ls:List Lk}(h:Conn n ls){a b:Nat}(ha:a<n)(hb:b<n):∃ x,Wk ls a b x:=by
 obtain⟨x,hx⟩:=h a ha;obtain⟨y,hy⟩:=h b hb;exact⟨_,hx.rev.trans hy⟩
theorem CV{n:Nat}{ls:List Lk}(hw:∀ l∈ls,0<=l.2.2)(hc:Conn n ls):Met n (farD ls) where
 sy:=CU ls
 nn:=fun a b=>by
  unfold farD;split
  ·omega
  ·exact KR _
 tr:=fun a b c ha hb hc'=>by
  obtain⟨x,hx⟩:=hc.two ha hb;obtain⟨y,hy⟩:=hc.two hb hc';exact(fE hw (hx.trans hy)).2 _ ((fE hw hx).1.trans (fE hw hy).1)
theorem FX{ls:List Lk}(hw:∀ l∈ls,0<=l.2.2){l:Lk}(hl:l∈ls):farD ls l.1 l.2.1<=l.2.2:=by
 obtain⟨i,hi,e⟩:=KP hl;have g:=Wk.link (ls:=ls) (i:=i) (l:=l) (a:=l.1) (by rw[JB hi,e]) (.inl rfl)
 have b1:bey l l.1=l.2.1:=by unfold bey;rw[if_pos rfl]
 rw[b1]at g;exact(fE hw g).2 _ g
theorem FI.is{n:Nat}{ls:List Lk}{s M:Nat}{T:List (Option Int)}{vv:List (Option Nat)}(I:FI n ls s M T vv [] (fun _ _=>False))(hc:Conn n ls)(hs:s<n){r:Nat}(hr:r<n):T[r]?=some (some (farD ls s r)):=by
 have hw:∀ l∈ls,0<=l.2.2:=fun l hl=>(I.w0 l hl).1;obtain⟨x,hx⟩:=hc.two hs hr;obtain⟨z,h1,h2⟩:=hx.rel I 0 I.st;obtain⟨j,u⟩:=I.up r z h1;have wz:=u.wk I z h1;obtain⟨f1,f2⟩:=fE hw hx;obtain⟨z',h3,h4⟩:=f1.rel I 0 I.st;rw[h1]at h3;cases h3;have:=f2 z wz;have e:z=farD ls s r:=by omega
 rw[← e];exact h1
noncomputable def fo(ks:List Nat):Nat:=ks.foldl (fun m k=>m|||2^k) 0
theorem fZ(ks:List Nat)(i:Nat):(fo ks).testBit i=decide (i∈ks):=by
 have gen:∀(ks:List Nat)(m:Nat),(ks.foldl (fun m k=>m|||2^k) m).testBit i=(m.testBit i||decide (i∈ks)):=by
  intro ks;induction ks with
  |nil=>intro m;simp
  |cons k ks ih =>
   intro m;rw[ML,ih,KZ,JY];by_cases c:k=i
   ·subst c;simp
   ·have c':¬ i=k:=fun z=>c z.symm
    simp[c,c']
 unfold fo;rw[gen];simp
theorem qq(ls:List Lk)(k:Nat):∀ i,oddE ls (2^k) i=if k<i then endX (lkA ls k) else 0
 |0=>by rw[if_neg (LN _)];rfl
 |i+1=>by
  unfold oddE;rw[qq ls k i,JY];by_cases c:k=i
  ·subst c;rw[if_pos (by simp),if_neg (KN _),if_pos (K4 _),Nat.zero_xor]
  ·rw[if_neg (by simpa using c)]
   by_cases d:k<i
   ·rw[if_pos d,if_pos (by omega)]
   ·rw[if_neg d,if_neg (by omega)]
theorem qX(ls:List Lk)(k:Nat):∀ i,cstU ls (2^k) i=if k<i then(lkA ls k).2.2 else 0
 |0=>by rw[if_neg (LN _)];rfl
 |i+1=>by
  unfold cstU;rw[qX ls k i,JY];by_cases c:k=i
  ·subst c;rw[if_pos (by simp),if_neg (KN _),if_pos (K4 _),L8]
  ·rw[if_neg (by simpa using c)]
   by_cases d:k<i
   ·rw[if_pos d,if_pos (by omega)]
   ·rw[if_neg d,if_neg (by omega)]
theorem fY(ls:List Lk):∀ i,oddE ls 0 i=0
 |0=>rfl
 |i+1=>by unfold oddE;rw[KW,if_neg Kb];exact fY ls i
theorem gk(ls:List Lk):∀ i,cstU ls 0 i=0
 |0=>rfl
 |i+1=>by unfold cstU;rw[KW,if_neg Kb];exact gk ls i
theorem Pth.node{ls:List Lk}{vv:List (Option Nat)}{s r:Nat}{ks:List Nat}(h:Pth ls vv s r ks):∀ k∈ks,∃ q j,vv[q]?=some (some k)/\Up ls vv s j q/\j<=ks.length:=by
 induction h with
 |root=>intro k hk;cases hk
 | @step r k l ks hv hl h ih =>
  intro k' hk;rcases JI.mp hk with rfl | hk
  ·exact⟨r,_,hv,.step hv hl h.up,JF _⟩
  ·obtain⟨q,j,h1,h2,h3⟩:=ih k' hk;exact⟨q,j,h1,h2,by rw[Ke];omega⟩
theorem Pth.join{n:Nat}{ls:List Lk}{s M:Nat}{T:List (Option Int)}{vv:List (Option Nat)}(I:FI n ls s M T vv [] (fun _ _=>False)){r:Nat}{ks:List Nat}(h:Pth ls vv s r ks) :
  (∀ k∈ks,k<ls.length)/\oddE ls (fo ks) ls.length=2^s^^^2^r/\∀ x,T[r]?=some (some x)->cstU ls (fo ks) ls.length<=x:=by
 induction h with
 |root =>
  refine⟨(fun k hk=>nomatch hk),?_,fun x hx=>?_⟩
  ·show oddE ls 0 ls.length=_;rw[fY,L0]
  ·rw[I.st]at hx;cases hx;show cstU ls 0 ls.length<=0;rw[gk];exact KR _
 | @step r k l ks hv hl h ih =>
  obtain⟨h0,h1,h2⟩:=ih;obtain⟨l',x,y,e1,e2,e3,e4,e5⟩:=I.even hv;rw[hl]at e1;cases e1;have kl:k<ls.length:=(JD.mp hl).1;have me:Up ls vv s (ks.length+1) r:=.step hv hl h.up;have nk:k∉ks:=fun z=>by
   obtain⟨q,j,g1,g2,g3⟩:=h.node k z;obtain⟨l2,_,_,f1,f2,_⟩:=I.pr q k g1;rw[hl]at f1;cases f1;have qr:q≠r:=fun w=>by
    subst w;have:=Up.uniq I.vs me g2;omega
   have eb:bey l q=r:=by
    unfold bey;rcases f2 with z1 | z1<;>rcases e2 with z2 | z2
    ·exact absurd (z1.trans z2.symm) qr
    ·rw[if_pos z1];exact z2.symm
    ·rw[if_neg (fun w=>qr (w.trans z2.symm))];exact z2.symm
    ·exact absurd (z1.trans z2.symm) qr
   have:Up ls vv s (ks.length+1+1) q:=.step g1 hl (by rw[eb];exact me)
   have:=Up.uniq I.vs this g2;omega
  have em:fo (k::ks)=fo ks^^^2^k:=Ks fun i=>by
   rw[fZ,KI,fZ,JY];by_cases c:i=k
   ·subst c;simp[nk]
   ·have c':¬ k=i:=fun z=>c z.symm
    simp[c,c']
  rw[em];refine⟨fun k' hk=>?_,?_,fun x' hx'=>?_⟩
  ·rcases JI.mp hk with rfl | hk
   ·exact kl
   ·exact h0 k' hk
  ·rw[jj,h1,qq,if_pos kl,cf hl];have ee:endX l=2^bey l r^^^2^r:=by
    unfold endX bey;rcases e2 with z | z
    ·rw[if_pos z,z,Mj]
    ·by_cases w:r=l.1
     ·rw[if_pos w,w,Mj]
     ·rw[if_neg w,z]
   rw[ee,← KJ,KJ (2^s),L0,MP]
  ·rw[hx']at e3;cases e3;have g1:=jL ls (fun l hl=>(I.w0 l hl).1) (fo ks) (2^k) ls.length (JF _);have g2:=h2 y e4;rw[qX,if_pos kl,cf hl]at g1;omega
noncomputable def wC(l:Lk):Nat:=2^l.1|||2^l.2.1
noncomputable def one1(m:Nat)(l:Lk):Nat:=if m&&&wC l=0 then m else m|||wC l
noncomputable def bT(ls:List Lk)(m:Nat):Nat:=ls.foldl one1 m
inductive Run(ls:List Lk):Nat->Nat->Nat->Prop where
 |stop {m:Nat}:Run ls m m m
 |go {m a r:Nat} (h:m≠a) (n:Run ls (bT ls m) m r):Run ls m a r
theorem BG(m:Nat)(l:Lk):m<=one1 m l:=by
 unfold one1;split
 ·exact JF _
 ·exact Nat.left_le_or
theorem BF{n m:Nat}{l:Lk}(h:m<2^n)(h1:l.1<n)(h2:l.2.1<n):one1 m l<2^n:=by
 unfold one1 wC;split
 ·exact h
 ·exact Mv h (Mv (KG (by decide) h1) (KG (by decide) h2))
theorem sE{ls:List Lk}{i:Nat}{l:Lk}{m:Nat}(h:ls[i]?=some l):bT (ls.take (i+1)) m=one1 (bT (ls.take i) m) l:=by
 unfold bT;rw[Kn,h,MU];rfl
theorem orN(a b:Nat):Builtin.bitOr (a:Int) (b:Int)=((a|||b:Nat):Int):=by
 rw[PyProof.Rows.bitOr_and,andN];have q:=PyProof.Rows.nat_or_add_and a b;omega
theorem endsV(l:Lk):Builtin.bitOr (1*2^((l.1:Nat):Int).toNat) (1*2^((l.2.1:Nat):Int).toNat)=((wC l:Nat):Int):=by rw[shlN,shlN,orN];rfl
noncomputable def PaAt(H:Hp)(v:V)(l:Lk):Prop:=∃ t,v=.ref t/\H t=some (.tup [.int (l.1:Int),.int (l.2.1:Int)])
theorem ng(a b:Int):decide (V.int a=V.int b)=decide (a=b):=decide_eq_decide.mpr ⟨V.int.inj,congrArg V.int⟩
noncomputable def uT:Sp:=fun vs H Q _=>∃(a:Addr)(ys:List V)(n:Nat)(ls:List Lk),vs = [.int 0,.ref a]/\H a=some (.lst ys)/\LsAt PaAt H ys ls/\Lok n ls/\1<=n/\∀ r:Nat,Run ls 1 0 r->Q (.int (r:Int)) H
noncomputable def HL:Sp:=fun vs H Q _=>∃(v:V)(n:Nat)(ls:List Lk),vs = [.int (n:Int),v]/\LnAt H v ls/\Lok n ls/\1<=n/\∀(r:Nat) H',Run ls 1 0 r->Same H H'->Q (.bl (decide ((r:Int)=1*2^((n:Nat):Int).toNat-1))) H'
structure TxtR(mg:Str->Option Value):Prop where
 n_list:mg "list" = none
 n_reversed:mg "reversed" = none
section
variable{P:Program}{w:World}{K:JH}{mg:Str->Option Value}{base:Heap}
theorem bM:aD ["start","pairs","mask","ahead","one","two","ends"] ["start","pairs"] (ai eB):=by ac_nf
theorem ze{f:Addr}{fd:FuncData} (F:Fun K "reached" "reached" eB f fd):FnOk P w K mg base CX0 1 f fd ["start","pairs"] uT:=by
 refine F.ok bM (fun vs H Q E h=>?_) (fun cdv A outer s H vs Q E hr h=>?_)
 ·obtain⟨a,ys,n,ls,rfl,_⟩:=h;rfl
 obtain⟨a,ys,n,ls,rfl,hA,hL,ok,n1,kk⟩:=h;have n40:=ok.n1
 refine⟨_,(af (au (i:=2) bM.nd rfl (Or.inl rfl) (ar bF ah (pv 0)))
   (af (au (i:=3) bM.nd rfl (Or.inl rfl) ah)
   (af (gO PassesOwn.never (az j4 (pv 2) (pv 3) (aB _)) (af (au (i:=3) bM.nd rfl (Or.inl rfl) (pv 2))
   (aq (cR PassesOwn.never rfl (aZ (pv 1)) (sC rfl (aM (aw (i:=4) bM.nd rfl (Or.inl rfl)) (aM (aw (i:=5) bM.nd rfl (Or.inl rfl)) cH))) (af (au (i:=6) bM.nd rfl (Or.inl rfl) (ar BD (ar bF ah (pv 4)) (ar bF ah (pv 5))))
   (aq (c6 (az j4 (ar eO (pv 2) (pv 6)) ah (aB _)) (aq (au (i:=2) bM.nd rfl (Or.inl rfl) (ar BD (pv 2) (pv 6)))) aY)))))))
   (aq (aJ (pv 2)))))),?_⟩
 refine⟨_,rfl,_,_,rfl,rfl,⟨by decide,by decide,by decide⟩,?_⟩
 refine gE (fun σ H2=>∃(M Ah:Nat),∃ v4 v5 v6,H2=H/\σ = [some (.int 0),some (.ref a),some (.int (M:Int)),some (.int (Ah:Int)),v4,v5,v6]/\M<2^n/\∀ r,Run ls M Ah r->Run ls 1 0 r)
  (fun σ _=>match σ with | [_,_,some (.int M),some (.int Ah),_,_,_]=>2*((2^n:Nat)-M).toNat+(if M=Ah then 0 else 1) | _=>0) ⟨1,0,_,_,_,rfl,rfl,Nat.one_lt_two_pow (by omega),fun r z=>z⟩ ?_ ?_
 ·rintro σ H2 ⟨M,Ah,v4,v5,v6,rfl,rfl,hM,run⟩;refine⟨_,rfl,_,rfl,rfl,_,rfl,?_⟩;by_cases c':M=Ah
  ·subst c';refine FO rfl ?_;exact⟨_,rfl,kk M (run M .stop)⟩
  refine ite2 (fun c=>?_) (fun c=>absurd (by rw[ng,decide_eq_false (fun z=>c' (by omega))];rfl) c)
  refine⟨_,rfl,?_⟩;refine⟨_,rfl,a,rfl,⟨_,SqL.of hA⟩,c9 (K:=K) (xs:=ys) (fun i σ H3=>∃ v4 v5 v6,H3=H2/\σ = [some (.int 0),some (.ref a),some (.int ((bT (ls.take i) M:Nat):Int)),some (.int (M:Int)),v4,v5,v6]/\bT (ls.take i) M<2^n/\M<=bT (ls.take i) M) ⟨_,_,_,rfl,rfl,hM,JF _⟩ (fun i σ H3 _ ⟨_,_,_,z,_⟩=>by rw[z];exact SqL.of hA) ?_ ?_⟩
  ·rintro i x σ H3 hx ⟨v4,v5,v6,rfl,rfl,hM',hle⟩;obtain⟨l,hl,p,rfl,hp⟩:=hL.get hx;obtain⟨b1,b2⟩:=ok.sm l (JG hl);refine⟨p,_,rfl,SqT.of hp,rfl,_,_,rfl,_,_,rfl,rfl,?_⟩;refine⟨_,rfl,_,_,rfl,rfl,⟨by omega,by omega,by decide⟩,_,rfl,_,_,rfl,rfl,⟨by omega,by omega,by decide⟩,_,_,rfl,rfl,?_⟩
   simp only[endsV];refine⟨_,rfl,_,rfl,_,_,rfl,rfl,rfl,_,rfl,?_⟩;have ps:=sE (m:=M) hl;have lt1:=BF hM' b1 b2;have le1:=BG (bT (ls.take i) M) l;simp only[andN];by_cases z:bT (ls.take i) M&&&wC l=0
   ·refine FO (by rw[z];rfl) ?_
    have e:one1 (bT (ls.take i) M) l=bT (ls.take i) M:=by unfold one1;rw[if_pos z]
    exact⟨_,_,_,rfl,by rw[ps,e];rfl,by rw[ps];exact lt1,by rw[ps];omega⟩
   ·refine ite2 (fun _=>?_) (fun c=>absurd (by rw[ng,decide_eq_false (fun y=>z (by omega))];rfl) c)
    have e:one1 (bT (ls.take i) M) l=bT (ls.take i) M|||wC l:=by unfold one1;rw[if_neg z]
    refine⟨_,rfl,_,rfl,_,_,rfl,rfl,?_⟩;simp only[orN];exact⟨_,_,_,rfl,by rw[ps,e];rfl,by rw[ps];exact lt1,by rw[ps];omega⟩
  ·rintro σ H3 ⟨v4,v5,v6,rfl,rfl,hM',hle⟩;rw[hL.1,Kr]at hM' hle ⊢;refine⟨⟨_,M,_,_,_,rfl,rfl,hM',fun r z=>run r (.go c' z)⟩,?_⟩;show 2*(((2^n:Nat):Int)-((bT ls M:Nat):Int)).toNat+(if((bT ls M:Nat):Int)=(M:Int) then 0 else 1)<2*(((2^n:Nat):Int)-(M:Int)).toNat+(if(M:Int)=(Ah:Int) then 0 else 1);rw[if_neg (show ¬ (M:Int)=(Ah:Int) from fun z=>c' (by omega))]
   generalize (2^n:Nat)=N at hM hM';split<;>omega
 ·rintro σ H4 Q1 Q2 hi ⟨v1,e1,v2,e2,e3,b,e4,q'⟩;exact⟨v1,e1,v2,e2,e3,b,e4,hi _ _ q'⟩
theorem EL:aD ["many","links"] ["many","links"] (ai jW):=by ac_nf
theorem ok_whl{f f1:Addr}{fd fd1:FuncData} (F:Fun K "whole" "whole" jW f fd) (G_reached:Cal P w K mg base 1 "reached" ["start","pairs"] uT f1 fd1):FnOk P w K mg base CX0 2 f fd ["many","links"] HL:=by
 refine F.ok EL (fun vs H Q E h=>?_) (fun cdv A outer s H vs Q E hr h=>?_)
 ·obtain⟨v,n,ls,rfl,_⟩:=h;rfl
 obtain⟨v,n,ls,rfl,⟨a,xs,rfl,hA,hL⟩,ok,n1,kk⟩:=h;have n40:=ok.n1;have l9:=ok.l9;have xl:=hL.1;refine⟨_,(aq (aJ (bX dQ (av G_reached.ok (hr.mono (by decide)) rfl G_reached.mg G_reached.kp G_reached.bn .nil aR (ae ah (ae (iK rfl (fr:=[]) (by exact bQ.plain (by rfl) (by decide) (by rfl) (by decide) (by rfl) (by decide)) (aZ (pv 1)) (fun C ex s H=>(kK (ae (aC (bZ (K:=K) rfl) (pv 0) ah (fun _ _=>rfl)) (ae (aC (bZ (K:=K) rfl) (pv 0) ah (fun _ _=>rfl)) aj))))) aj))) (ar ir (ar bF ah (pv 0)) ah) (aB _)))),?_⟩
 refine⟨_,rfl,a,rfl,⟨_,SqL.of hA⟩,eU (K:=K) (xs:=xs) (fun i zs H2=>Same H H2/\LsAt PaAt H2 zs (ls.take i)) (Kw (ax (by omega))) ⟨fun _ _ e=>e,LsAt.nil⟩ (fun i zs H2 _ z=>SqL.of (z.1 _ _ hA)) ?_ ?_⟩
 ·rintro i x zs H2 hx ⟨s2,hZ⟩;obtain⟨l,hl,p,rfl,hp⟩:=hL.get hx;have hp2:=s2 _ _ hp;refine⟨_,rfl,p,_,0,_,rfl,rfl,SqT.of hp2,a30,_,rfl,p,_,1,_,rfl,rfl,SqT.of hp2,a31,(by show 2<=sizeLine;decide),fun t ht=>?_⟩
  have s3:=ak ht (.tup [.int (l.1:Int),.int (l.2.1:Int)]);refine⟨s2.trans s3,?_⟩;rw[Kn,hl];exact(hZ.imp fun _ _ ⟨t,e,z⟩=>⟨t,e,s3 _ _ z⟩).snoc ⟨t,rfl,ag⟩
 rintro zs H2 _ ⟨s2,hZ⟩ D hD;rw[xl,Kr]at hZ;have s3:=ak hD (.lst zs);refine⟨D,zs,n,ls,rfl,ag,hZ.imp fun _ _ ⟨t,e,z⟩=>⟨t,e,s3 _ _ z⟩,ok,n1,fun r run=>?_⟩;refine⟨_,rfl,_,_,rfl,rfl,⟨by omega,by omega,by decide⟩,_,_,rfl,rfl,rfl,?_⟩
 rw[ng];exact kk r _ run (s2.trans s3)
end
structure TxtM(mg:Str->Option Value):Prop where
 most:∃ t,mg "MOST_MARKS" = some (.int 14 t)
theorem Ey{M p q:Nat}:(M&&&(2^p|||2^q)=0↔M.testBit p=false/\M.testBit q=false)/\(M|||(2^p|||2^q)=M->M.testBit p=true/\M.testBit q=true):=by
 have b1:∀ i,(2^p|||2^q).testBit i=(decide (p=i)||decide (q=i)):=fun i=>by rw[KZ,JY,JY]
 refine⟨⟨fun h=>?_,fun⟨h1,h2⟩=>?_⟩,fun h=>?_⟩
 ·have h1:=congrArg (fun z=>Mg z p) h
  have h2:=congrArg (fun z=>Mg z q) h;simp only[Lh,b1,KW]at h1 h2;constructor
  ·simpa using h1
  ·simpa using h2
 ·refine Ks fun i=>?_;rw[Lh,b1,KW];by_cases z1:p=i
  ·subst z1;rw[h1];rfl
  ·by_cases z2:q=i
   ·subst z2;rw[h2];rfl
   ·simp[z1,z2]
 ·have h1:=congrArg (fun z=>Mg z p) h
  have h2:=congrArg (fun z=>Mg z q) h;simp only[KZ (x:=M),b1]at h1 h2;constructor
  ·simpa using h1.symm
  ·simpa using h2.symm
theorem CT{M m:Nat}(h:M<2^m)(k:∀ p,p<m->M.testBit p=true):M=2^m-1:=by
 refine Ks fun i=>?_;rw[MJ];by_cases z:i<m
 ·rw[k i z,decide_eq_true z]
 ·rw[decide_eq_false z];exact Nat.testBit_lt_two_pow (Kx h (K0 (by decide) (by omega)))
theorem EX{X:Cx}{x:Str}{n:Int}{pos:Pos}(hg:Gl X x)(hm:∃ t,X.mg x=some (.int n t)) (hd:(x == ("__debug__" : Str))=false:=by decide):PE X (.Name x pos) (tC (.int n)):=by
 obtain⟨t,h⟩:=hm;exact Ij hg h ⟨t,rfl⟩ hd
theorem kM{ls:List Lk}{m:Nat}:∀ i,m<=bT (ls.take i) m/\bT (ls.take i) m<=bT ls m:=fun i=>by
 have le:∀(l:List Lk)(m:Nat),m<=bT l m:=fun l=>by
  induction l with
  |nil=>intro m;exact JF _
  |cons x l ih=>intro m;exact Lf (BG m x) (ih _)
 refine⟨le _ _,?_⟩;have e:bT ls m=bT (ls.drop i) (bT (ls.take i) m):=by
  unfold bT;rw[← MU,Kl]
 rw[e];exact le _ _
theorem wY{ls:List Lk}{r:Nat}(h:bT ls r=r){l:Lk}(hl:l∈ls):r.testBit l.1=r.testBit l.2.1:=by
 obtain⟨i,hi,e⟩:=KP hl;have hi':ls[i]?=some l:=by rw[JB hi,e]
 have t1:=kM (ls:=ls) (m:=r) i;have t2:=kM (ls:=ls) (m:=r) (i+1);have e1:bT (ls.take i) r=r:=by omega
 have e2:bT (ls.take (i+1)) r=r:=by omega
 rw[sE hi',e1]at e2;obtain⟨b1,b2⟩:=Ey (M:=r) (p:=l.1) (q:=l.2.1);unfold one1 wC at e2;split at e2
 ·rename_i c;obtain⟨z1,z2⟩:=b1.mp c;rw[z1,z2]
 ·obtain⟨z1,z2⟩:=b2 e2;rw[z1,z2]
theorem Run.shut{ls:List Lk}{n m a r:Nat}(h:Run ls m a r)(hl:∀ l∈ls,l.1<n/\l.2.1<n):(m=a->bT ls m=m)->m<2^n->bT ls r=r/\r<2^n/\(m.testBit 0=true->r.testBit 0=true):=by
 induction h with
 |stop=>intro h1 h2;exact⟨h1 rfl,h2,id⟩
 | @go m a r h nx ih =>
  intro _ h2;have lt:∀(k:List Lk),(∀ l∈k,l.1<n/\l.2.1<n)->∀ m,m<2^n->bT k m<2^n:=fun k=>by
   induction k with
   |nil=>intro _ m hm;exact hm
   |cons x k ihk =>
    intro hk m hm;obtain⟨b1,b2⟩:=hk x (JO ..);exact ihk (fun l hl=>hk l (JK _ hl)) _ (BF hm b1 b2)
  have bit:∀(k:List Lk)(m:Nat),m.testBit 0=true->(bT k m).testBit 0=true:=fun k=>by
   induction k with
   |nil=>intro m hm;exact hm
   |cons x k ihk =>
    intro m hm;refine ihk _ ?_;unfold one1;split
    ·exact hm
    ·rw[KZ,hm];rfl
  obtain⟨g1,g2,g3⟩:=ih (fun e=>by rw[e];exact e) (lt ls hl m h2)
  exact⟨g1,g2,fun z=>g3 (bit ls m z)⟩
theorem EO{ls:List Lk}{n r:Nat}(h:Run ls 1 0 r)(hl:∀ l∈ls,l.1<n/\l.2.1<n)(n1:1<=n)(hc:Conn n ls):r=2^n-1:=by
 obtain⟨g1,g2,g3⟩:=h.shut hl (fun z=>by cases z) (Nat.one_lt_two_pow (by omega))
 refine CT g2 fun p hp=>?_;obtain⟨x,hx⟩:=hc p hp;have gen:∀{a b:Nat}{x:Int},Wk ls a b x->r.testBit a=r.testBit b:=fun h=>by
  induction h with
  |nil=>rfl
  | @step b i x l h' hl' he ih =>
   rw[ih];have cl:=wY g1 (JG hl');unfold bey;rcases he with z | z
   ·rw[if_pos z,z];exact cl
   ·by_cases w:b=l.1
    ·rw[if_pos w,w];exact cl
    ·rw[if_neg w,z];exact cl.symm
 rw[← gen hx];exact g3 (by decide)
noncomputable def xM:Sp:=fun vs H Q _=>∃ n:Nat,vs = [.int (n:Int)]/\n<2^40/\∀ H',Same H H'->Q (.int (((bl n).length:Nat):Int)) H'
noncomputable def EE:Sp:=fun vs H Q _=>∃ n:Nat,vs = [.int (n:Int)]/\n<2^40/\∀ H',Same H H'->Q (.int (((bl n).length:Nat)%2:Int)) H'
noncomputable def A0(K:JH):Sp:=fun vs H Q _=>∃(a:Addr)(ks:List Nat),vs = [.ref a]/\SqL K H a (ks.map iV)/\(∀ k∈ks,k<80)/\Q (.int ((fo ks:Nat):Int)) H
noncomputable def ED:Sp:=fun vs H Q _=>∃(v:V)(n mk:Nat)(ls:List Lk),vs = [.int (n:Int),v,.int (mk:Int)]/\LnAt H v ls/\Lok n ls/\1<=n/\Conn n ls/\mk<2^n/\(bl mk).length%2=0/\(bl mk).length<=14/\∀ H',Same H H'->Q .non H'
section
variable{P:Program}{w:World}{K:JH}{mg:Str->Option Value}{base:Heap}
theorem Ia:aD ["mask"] ["mask"] (ai oZ):=by ac_nf
theorem Ip{f f1:Addr}{fd fd1:FuncData} (F:Fun K "ones" "ones" oZ f fd) (T:Txt mg) (G_bits:Cal P w K mg base 1 "bits" ["mask"] jb f1 fd1):FnOk P w K mg base CX0 2 f fd ["mask"] xM:=by
 refine F.ok Ia (fun vs H Q E h=>?_) (fun cdv A outer s H vs Q E hr h=>?_)
 ·obtain⟨n,rfl,_⟩:=h;rfl
 obtain⟨n,rfl,hn,kk⟩:=h;have e40:(2:Nat)^40=1099511627776:=by decide
 refine⟨_,(aq (aJ (aE aQ (by rfl) T.n_len eX (ae (av G_bits.ok (hr.mono (by decide)) rfl G_bits.mg G_bits.kp G_bits.bn .nil aR (ae (pv 0) aj)) aj)))),?_⟩
 refine⟨_,rfl,_,rfl,by omega,by omega,fun r H1 s1 _ hr1=>?_⟩
 refine⟨r,_,rfl,.inl (SqL.of hr1),?_⟩;rw[JC,JL];exact kk _ s1
theorem sc_odd:aD ["mask"] ["mask"] (ai yW):=by ac_nf
theorem ok_odd{f f1:Addr}{fd fd1:FuncData} (F:Fun K "odd" "odd" yW f fd) (G_ones:Cal P w K mg base 2 "ones" ["mask"] xM f1 fd1):FnOk P w K mg base CX0 3 f fd ["mask"] EE:=by
 refine F.ok sc_odd (fun vs H Q E h=>?_) (fun cdv A outer s H vs Q E hr h=>?_)
 ·obtain⟨n,rfl,_⟩:=h;rfl
 obtain⟨n,rfl,hn,kk⟩:=h;refine⟨_,(aq (aJ (ar bO (av G_ones.ok (hr.mono (by decide)) rfl G_ones.mg G_ones.kp G_ones.bn .nil aR (ae (pv 0) aj)) ah))),?_⟩
 exact⟨_,rfl,n,rfl,hn,fun H1 s1=>⟨_,_,rfl,rfl,(by show(0:Int)<2;decide),kk _ s1⟩⟩
theorem gF:aD ["places","mask","place"] ["places"] (ai eE):=by ac_nf
theorem Iq{f:Addr}{fd:FuncData} (F:Fun K "mask_of" "mask_of" eE f fd):FnOk P w K mg base CX0 1 f fd ["places"] (A0 K):=by
 refine F.ok gF (fun vs H Q E h=>?_) (fun cdv A outer s H vs Q E hr h=>?_)
 ·obtain⟨a,ks,rfl,_⟩:=h;rfl
 obtain⟨a,ks,rfl,hS,k80,q⟩:=h
 refine⟨_,(af (au (i:=1) gF.nd rfl (Or.inl rfl) ah)
   (af (cR PassesOwn.never rfl (aZ (pv 0)) (aw (i:=2) gF.nd rfl (Or.inl rfl)) (aq (au (i:=1) gF.nd rfl (Or.inl rfl) (ar BD (pv 1) (ar bF ah (pv 2))))))
   (aq (aJ (pv 1))))),?_⟩
 refine⟨_,rfl,a,rfl,⟨_,hS⟩,c9 (K:=K) (xs:=ks.map iV) (fun i σ H2=>∃ v2,σ = [some (.ref a),some (.int ((fo (ks.take i):Nat):Int)),v2]/\H2=H) ⟨_,rfl,rfl⟩ (fun i σ H2 _ ⟨_,_,z⟩=>by rw[z];exact hS) ?_ ?_⟩
 ·rintro i x σ H2 hx ⟨v2,rfl,rfl⟩;rw[JJ]at hx;obtain⟨k,hk,rfl⟩:=Km.mp hx;have kb:=k80 k (JG hk);refine⟨_,rfl,_,rfl,_,_,rfl,rfl,⟨by show(0:Int)<=(k:Int);omega,by show(k:Int)<=1000000;omega,by decide⟩,_,_,rfl,rfl,?_⟩
  have e:Builtin.bitOr ((fo (ks.take i):Nat):Int) (1*2^((k:Nat):Int).toNat)=((fo (ks.take (i+1)):Nat):Int):=by
   rw[shlN,orN];unfold fo;rw[Kn,hk,MU];rfl
  simp only[e];exact⟨_,rfl,rfl⟩
 ·rintro σ H2 ⟨v2,rfl,rfl⟩;rw[JC,Kr];exact⟨_,rfl,q⟩
theorem mB:aD ["many","links","marks"] ["many","links","marks"] (ai bp):=by ac_nf
theorem ok_ref{f f1 f2 f3:Addr}{fd fd1 fd2 fd3:FuncData} (F:Fun K "refuse_marks" "refuse_marks" bp f fd) (T:TxtM mg) (G_odd:Cal P w K mg base 3 "odd" ["mask"] EE f1 fd1) (G_whole:Cal P w K mg base 2 "whole" ["many","links"] HL f2 fd2) (G_ones:Cal P w K mg base 2 "ones" ["mask"] xM f3 fd3):FnOk P w K mg base CX0 4 f fd ["many","links","marks"] ED:=by
 refine F.ok mB (fun vs H Q E h=>?_) (fun cdv A outer s H vs Q E hr h=>?_)
 ·obtain⟨v,n,mk,ls,rfl,_⟩:=h;rfl
 obtain⟨v,n,mk,ls,rfl,hV,ok,n1,hc,hmk,ev,few,kk⟩:=h;have n40:=ok.n1;have mlt:mk<2^40:=Kx hmk (K0 (by decide) n40)
 obtain⟨tM,hM⟩:=T.most
 refine⟨_,(af (c6 (az dQ (av G_odd.ok (hr.mono (by decide)) rfl G_odd.mg G_odd.kp G_odd.bn .nil aR (ae (pv 2) aj)) ah (aB _)) (aq qg) aY)
   (af (c6 (fV (fU (av G_whole.ok (hr.mono (by decide)) rfl G_whole.mg G_whole.kp G_whole.bn .nil aR (ae (pv 0) (ae (pv 1) aj))))) (aq qg) aY)
   (aq (c6 (az BE (av G_ones.ok (hr.mono (by decide)) rfl G_ones.mg G_ones.kp G_ones.bn .nil aR (ae (pv 2) aj)) (EX rfl T.most) (aB _)) (aq qg) aY)))),?_⟩
 refine⟨_,rfl,mk,rfl,mlt,fun H1 s1=>?_⟩;refine⟨rfl,_,rfl,ite2 (fun z=>absurd (V.int.inj (of_decide_eq_true z)) (by omega)) (fun _=>?_)⟩
 refine⟨_,rfl,_,rfl,v,n,ls,rfl,hV.mono s1,ok,n1,fun r H2 run s2=>?_⟩;have er:=EO run ok.sm n1 hc
 have eb:decide ((r:Int)=1*2^((n:Nat):Int).toNat-1)=true:=decide_eq_true (by
  rw[shlN,er];have:=Lg n
  omega)
 rw[eb];refine⟨_,rfl,iteF ?_⟩;refine⟨_,rfl,mk,rfl,mlt,fun H3 s3=>?_⟩;refine⟨_,_,rfl,rfl,_,rfl,ite2 (fun z=>absurd (of_decide_eq_true z) (by show ¬ (((bl mk).length:Nat):Int) > 14;omega)) (fun _=>?_)⟩
 exact kk _ (s1.trans (s2.trans s3))
end
noncomputable def HN:Sp:=fun vs H Q _=>∃(v:V)(va:Addr)(r s:Nat)(ls:List Lk)(VL:List (Option Nat))(ks:List Nat),vs = [v,.ref va,.int (r:Int)]/\LnAt H v ls/\H va=some (.lst (VL.map oN))/\VL[s]?=some none/\Pth ls VL s r ks/\ks.length<=40/\∀ q H',Same H H'->H' q=some (.lst (ks.reverse.map iV))->Q (.ref q) H'
section
variable{P:Program}{w:World}{K:JH}{mg:Str->Option Value}{base:Heap}
theorem jc:aD ["links","via","room","back","here"] ["links","via","room"] (ai gH):=by ac_nf
theorem ok_row{f f1:Addr}{fd fd1:FuncData} (F:Fun K "row_to" "row_to" gH f fd) (T:TxtR mg) (G_beyond:Cal P w K mg base 1 "beyond" ["link","room"] EF f1 fd1):FnOk P w K mg base CX0 2 f fd ["links","via","room"] HN:=by
 refine F.ok jc (fun vs H Q E h=>?_) (fun cdv A outer s H vs Q E hr h=>?_)
 ·obtain⟨v,va,r,s0,ls,VL,ks,rfl,_⟩:=h;rfl
 obtain⟨v,va,r,s0,ls,VL,ks,rfl,⟨a,xs,rfl,hA,hL⟩,hva,hs0,hP,k40,kk⟩:=h
 refine⟨_,(af (au (i:=3) jc.nd rfl (Or.inl rfl) (jh aj))
   (af (au (i:=4) jc.nd rfl (Or.inl rfl) (pv 2))
   (af (gO PassesOwn.never (az Ik (aC aP (pv 1) (pv 4) (fun _ _=>rfl)) kL (aB _)) (af (cX (qj K6 Lm Ll dB (pv 3) (ae (aC aP (pv 1) (pv 4) (fun _ _=>rfl)) aj)))
   (aq (au (i:=4) jc.nd rfl (Or.inl rfl) (av G_beyond.ok (hr.mono (by decide)) rfl G_beyond.mg G_beyond.kp G_beyond.bn .nil aR (ae (aC aP (pv 0) (aC aP (pv 1) (pv 4) (fun _ _=>rfl)) (fun _ _=>rfl)) (ae (pv 4) aj)))))))
   (aq (aJ (o8 rfl rfl T.n_list rfl T.n_reversed (pv 3))))))),?_⟩
 refine⟨(by show 0<=sizeLine;decide),fun l hl=>?_⟩
 have lv:l≠va:=fun z=>by rw[z,hva]at hl;cases hl
 refine⟨_,rfl,gE (fun σ H2=>∃(here:Nat)(pre rest:List Nat),σ = [some (.ref a),some (.ref va),some (.int (r:Int)),some (.ref l),some (.int (here:Int))]/\H2 l=some (.lst (pre.map iV))/\pre++rest=ks/\Pth ls VL s0 here rest/\Same H H2)
  (fun _ H2=>match H2 l with | some (.lst zs)=>100-zs.length | _=>0) ⟨r,[],ks,rfl,ag,rfl,hP,ak hl _⟩ ?_ ?_⟩
 ·rintro σ H2 ⟨here,pre,rest,rfl,hp,hpr,hc,s2⟩;have hpl:pre.length+rest.length<=40:=by
   have:=congrArg Nr hpr;rw[JN]at this;omega
  have hva2:=s2 _ _ hva
  cases hc with
  |root =>
   refine⟨_,rfl,_,rfl,va,_,_,_,rfl,rfl,SqL.of hva2,aN (Fp hs0),rfl,_,rfl,iteF ?_⟩;rw[LZ]at hpr;subst hpr;refine⟨_,rfl,l,_,rfl,SqL.of hp,fun q hq=>?_⟩;refine kk q _ (s2.trans (ak hq _)) ?_;rw[ag,List.map_reverse]
  | @step _ k lk rest' hv hlk hc' =>
   obtain⟨lv',hlv,lt,rfl,hlt⟩:=hL.2 k lk hlk;refine⟨_,rfl,_,rfl,va,_,_,_,rfl,rfl,SqL.of hva2,aN (Fp hv),rfl,_,rfl,iteT ?_⟩;rw[Ke]at hpl;refine⟨_,rfl,.inl ⟨rfl,_,SqL.of hp⟩,_,rfl,_,rfl,va,_,_,_,rfl,rfl,SqL.of hva2,aN (Fp hv),l,_,_,rfl,rfl,hp,ax (by rw[JC];omega),?_⟩
   have s3:=bW s2 hl (.lst (pre.map iV++[.int (k:Int)]));refine⟨_,rfl,_,rfl,_,rfl,va,_,_,_,rfl,rfl,SqL.of (s3 _ _ hva),aN (Fp hv),a,_,_,_,rfl,rfl,SqL.of (s3 _ _ hA),aN hlv,_,rfl,.ref lt,lk,here,rfl,⟨lt,rfl,s3 _ _ hlt⟩,?_⟩;refine⟨⟨bey lk here,pre++[k],rest',rfl,?_,?_,hc',s3⟩,?_⟩
   ·rw[ag,Kc];rfl
   ·rw[Ko];exact hpr
   ·rw[hp];show(match(upd H2 l (.lst (pre.map iV++[.int (k:Int)]))) l with | some (.lst zs)=>100-zs.length | _=>0)<100-(pre.map iV).length
    rw[ag];show 100-(pre.map iV++[V.int (k:Int)]).length<100-(pre.map iV).length;rw[JN,JC,Lc];omega
 ·rintro σ H2 Q1 Q2 hi ⟨v',e,i,j,a',b',c',d',f',g',h',i',j',k',l',q⟩;exact⟨v',e,i,j,a',b',c',d',f',g',h',i',j',k',l',hi _ _ q⟩
end
noncomputable def RM(rho:Nat->Nat)(c:Nat):Nat->Nat
 |0=>0
 |i+1=>if c.testBit i=true then RM rho c i^^^2^rho i else RM rho c i
theorem Ej(rho:Nat->Nat)(u v:Nat):∀ i,RM rho (u^^^v) i=RM rho u i^^^RM rho v i
 |0=>(L0 0).symm
 |i+1=>by
  unfold RM;rw[Ej rho u v i,KI];have x4:∀ a b e:Nat,(a^^^e)^^^(b^^^e)=a^^^b:=fun a b e=>by rw[Mj b e,← KJ,KJ a e e,L0,MP]
  cases u.testBit i<;>cases v.testBit i<;>simp
  ·rw[KJ]
  ·rw[KJ,KJ,Mj (RM rho v i)]
  ·exact(x4 _ _ _).symm
theorem Ek(rho:Nat->Nat)(k:Nat):∀ i,RM rho (2^k) i=if k<i then 2^rho k else 0
 |0=>by rw[if_neg (LN _)];rfl
 |i+1=>by
  unfold RM;rw[Ek rho k i,JY];by_cases c:k=i
  ·subst c;rw[if_pos (by simp),if_neg (KN _),if_pos (K4 _),Nat.zero_xor]
  ·rw[if_neg (by simpa using c)]
   by_cases d:k<i
   ·rw[if_pos d,if_pos (by omega)]
   ·rw[if_neg d,if_neg (by omega)]
theorem Ei(rho:Nat->Nat):∀ i,RM rho 0 i=0
 |0=>rfl
 |i+1=>by unfold RM;rw[KW,if_neg Kb];exact Ei rho i
theorem El{l:List Nat}(nd:l.Nodup)(x:Nat):∀ i,i<=l.length->(RM (fun i=>l.getD i 0) (2^l.length-1) i).testBit x=decide (x∈l.take i)
 |0,_=>by rw[Nn];show(0:Nat).testBit x=_;rw[KW];simp
 |i+1,h=>by
  unfold RM;rw[if_pos (by rw[MJ];exact decide_eq_true (by omega)),KI,El nd x i (by omega),JY]
  have e:l[i]?=some l[i]:=JB (by omega)
  have eg:l.getD i 0=l[i]:=by rw[JE,e];rfl
  rw[eg];have nm:l[i]∉l.take i:=fun z=>by
   obtain⟨k,hk,ek⟩:=KP z;rw[JZ]at hk;rw[Mx]at ek;have:=(List.getElem_inj nd).mp ek;omega
  have mm:x∈l.take (i+1)↔(x∈l.take i∨x=l[i]):=by
   rw[Kn,e];exact JW.trans (or_congr Iff.rfl JR)
  by_cases c:x=l[i]
  ·rw[decide_eq_false (fun z=>nm (c▸z)),decide_eq_true c.symm,decide_eq_true (mm.mpr (.inr c))];rfl
  ·rw[decide_eq_false (show ¬ l[i]=x from fun z=>c z.symm),KU];exact decide_eq_decide.mpr ⟨fun h=>mm.mpr (.inl h),fun h=>(mm.mp h).resolve_right c⟩
theorem RM_all(mk:Nat):RM (fun i=>(bl mk).getD i 0) (2^(bl mk).length-1) (bl mk).length=mk:=Ks fun x=>by
 rw[El (gu mk) x _ (JF _),Kr]
 cases z:mk.testBit x with
 |true=>exact decide_eq_true (bG.mpr z)
 |false=>exact decide_eq_false fun y=>by rw[bG,z]at y;cases y
theorem Dw{c f g:Nat}(hf:f∈bl c)(hg:g∈bl c)(n:f≠g):cut2 c f g<c:=by
 have sub:cut2 c f g&&&c=cut2 c f g:=Ks fun i=>by
  rw[Lh]
  cases z:(cut2 c f g).testBit i with
  |false=>rfl
  |true =>
   have:=(l5 hf hg n i).mp (bG.mpr z);rw[bG.mp this.1];rfl
 have le:cut2 c f g<=c:=by rw[← sub];exact Nat.and_le_right
 have ne:cut2 c f g≠c:=fun z=>by
  have:=(l5 hf hg n f).mp (by rw[z];exact hf)
  exact this.2.1 rfl
 omega
theorem Cs.map{d:Nat->Nat->Int}{rho:Nat->Nat}{l:List Nat}{c:Int}(h:Cs (fun i j=>d (rho i) (rho j)) l c):Cs d (l.map rho) c:=by
 obtain⟨PL,p,e⟩:=h;refine⟨PL.map fun q=>(rho q.1,rho q.2),?_,?_⟩
 ·have ef:∀ PL:List (Nat×Nat),flat (PL.map fun q=>(rho q.1,rho q.2))=(flat PL).map rho:=fun PL=>by
   induction PL with
   |nil=>rfl
   |cons q r ih=>rw[JQ,bI,bI,ih,JQ,JQ]
  rw[ef];exact p.map rho
 ·rw[← e];unfold cst;rw[Lu];rfl
theorem Cs.back{d:Nat->Nat->Int}{rho ix:Nat->Nat}{l:List Nat}{c:Int}(hi:∀ i∈l,ix (rho i)=i)(h:Cs d (l.map rho) c):Cs (fun i j=>d (rho i) (rho j)) l c:=by
 obtain⟨PL,p,e⟩:=h;have mem:∀ x∈flat PL,rho (ix x)=x:=fun x hx=>by
  obtain⟨i,hi',rfl⟩:=Kk.mp (p.mem_iff.mp hx);rw[hi i hi']
 refine⟨PL.map fun q=>(ix q.1,ix q.2),?_,?_⟩
 ·have ef:∀ PL:List (Nat×Nat),flat (PL.map fun q=>(ix q.1,ix q.2))=(flat PL).map ix:=fun PL=>by
   induction PL with
   |nil=>rfl
   |cons q r ih=>rw[JQ,bI,bI,ih,JQ,JQ]
  rw[ef];refine(p.map ix).trans ?_;rw[Lu];have:l.map (ix∘rho)=l:=by
   conv=>rhs;rw[← List.map_id l]
   exact Lb fun i hi'=>hi i hi'
  rw[this]
 ·rw[← e];unfold cst;rw[Lu];refine congrArg List.sum (Lb fun q hq=>?_);have m1:q.1∈flat PL:=by
   unfold flat;exact List.mem_flatMap.mpr ⟨q,hq,JO ..⟩
  have m2:q.2∈flat PL:=by
   unfold flat;exact List.mem_flatMap.mpr ⟨q,hq,JK _ (JO ..)⟩
  show d (rho (ix q.1)) (rho (ix q.2))=d q.1 q.2;rw[mem _ m1,mem _ m2]
theorem rq(m:Nat):(bl (2^m-1)).Perm (KO m):=by
 refine(LQ (gu _) (List.nodup_range)).mpr fun x=>?_;rw[bG,MJ,KS,decide_eq_true_iff]
theorem Opt.rooms{d:Nat->Nat->Int}{l:List Nat}(nd:l.Nodup){t:Int}(h:Opt (fun i j=>d (l.getD i 0) (l.getD j 0)) (bl (2^l.length-1)) t):Opt d l t:=by
 have h':=h.perm (rq l.length);have em:(KO l.length).map (fun i=>l.getD i 0)=l:=by
  refine ND (by rw[JC,KY]) fun i h1 h2=>?_
  rw[List.getElem_map,List.getElem_range,JE,JB h2];rfl
 have ix:∀ i∈KO l.length,l.idxOf (l.getD i 0)=i:=fun i hi=>by
  have hi':=KS.mp hi;rw[JE,JB hi'];exact nd.idxOf_getElem i hi'
 refine⟨?_,fun c hc=>h'.2 c (Cs.back (rho:=fun i=>l.getD i 0) (ix:=fun x=>l.idxOf x) ix (by rw[em];exact hc))⟩
 have:=Cs.map (rho:=fun i=>l.getD i 0) h'.1;rw[em]at this;exact this
noncomputable def lH:Sp:=fun vs H Q _=>∃(ta r:Addr)(xs vals:List V)(ks:List Nat),vs = [.ref ta,.ref r]/\H ta=some (.lst xs)/\H r=some (.lst (ks.map iV))/\vals.length=ks.length/\ks.length<=900/\(∀(i k:Nat),ks[i]?=some k->∃ y,xs[k]?=some y/\vals[i]?=some y)/\∀ q H',Same H H'->H q=none->H' q=some (.lst vals)->Q (.ref q) H'
noncomputable def pV:Sp:=fun vs H Q _=>vs = []/\∀ p t H',Same H H'->H p=none->H' p=some (.dK [(.inl ((0:Nat):Int),.ref t)])->H' t=some (.tup [.int 0,.non,.non])->Q (.ref p) H'
section
variable{P:Program}{w:World}{K:JH}{mg:Str->Option Value}{base:Heap}
theorem r9:aD ["entries","numbers"] ["entries","numbers"] (ai cE):=by ac_nf
theorem BL{f:Addr}{fd:FuncData} (F:Fun K "chosen_of" "chosen_of" cE f fd):FnOk P w K mg base CX0 1 f fd ["entries","numbers"] lH:=by
 refine F.ok r9 (fun vs H Q E h=>?_) (fun cdv A outer s H vs Q E hr h=>?_)
 ·obtain⟨ta,r,xs,vals,ks,rfl,_⟩:=h;rfl
 obtain⟨ta,r,xs,vals,ks,rfl,hta,hr',vl,k9,hv,kk⟩:=h;refine⟨_,(aq (aJ (iK rfl (fr:=[("entries",0)]) (by exact bQ.one (by rfl) (by decide) (by rfl) (by decide) (by rfl) (by decide) (by rfl) (by rfl) (by decide) (by rfl)) (aZ (pv 1)) (fun C ex s H=>(aC (jA (K:=K) rfl) (pv 1) (pv 0) (fun _ _=>rfl)))))),?_⟩
 refine⟨_,rfl,r,rfl,⟨_,SqL.of hr'⟩,eU (K:=K) (xs:=ks.map iV) (fun i zs H2=>H2=H/\zs=vals.take i) (Kw (ax (by rw[JC];omega))) ⟨rfl,rfl⟩ (fun i zs H2 _ z=>by rw[z.1];exact SqL.of hr') ?_ ?_⟩
 ·rintro i x zs H2 hx ⟨rfl,rfl⟩;rw[JJ]at hx;obtain⟨k,hk,rfl⟩:=Km.mp hx;obtain⟨y,h1,h2⟩:=hv i k hk;refine⟨_,rfl,_,rfl,ta,_,_,_,rfl,rfl,SqL.of hta,aN h1,rfl,?_⟩;rw[Kn,h2];rfl
 rintro zs H2 _ ⟨rfl,rfl⟩ q hq;rw[JC,← vl,Kr];exact kk q _ (ak hq _) hq ag
theorem r6:aD [] [] (ai cq):=by ac_nf
theorem E5{f:Addr}{fd:FuncData} (F:Fun K "new_table" "new_table" cq f fd):FnOk P w K mg base CX0 1 f fd [] pV:=by
 refine F.ok r6 (fun vs H Q E h=>?_) (fun cdv A outer s H vs Q E hr h=>?_)
 ·rw[h.1];rfl
 obtain⟨rfl,kk⟩:=h;refine⟨_,(aq (aJ (By (xV ah (kK (ae ah (ae kL (ae kL aj)))) Bp) rfl rfl (fun z=>by cases z) (by decide)))),?_⟩
 intro p hp;refine⟨(by show 3<=sizeLine;decide),fun t ht=>?_⟩
 have z1:=ak hp (.dK []);have z2:=ak ht (.tup [.int 0,.non,.non]);have pt:p≠t:=fun z=>by rw[← z,ag]at ht;cases ht
 refine⟨by rw[ao pt];exact ag,[(.inl ((0:Nat):Int),.ref t)],rfl,(by show 1<=15;decide),?_⟩
 refine kk p t _ (bW (z1.trans z2) hp _) hp ag ?_;rw[ao (Ne.symm pt)];exact ag
end
noncomputable def FdAt(n:Nat)(ls:List Lk)(H:Hp)(v:V)(s:Nat):Prop:=∃ t ta va TL VL,v=.ref t/\H t=some (.tup [.ref ta,.ref va])/\H ta=some (.lst (TL.map oV))/\H va=some (.lst (VL.map oN))/\FI n ls s MM TL VL [] (fun _ _=>False)
theorem bH{q:Str}{lp:Pos}{TT:Addr}{H H':Hp}(h:Tb q lp TT H)(s:Same H H'):Tb q lp TT H':=by
 rcases h with y | ⟨c',y1,y2⟩
 ·exact .inl (s _ _ y)
 ·exact .inr ⟨c',s _ _ y1,s _ _ y2⟩
theorem tb_ne{q:Str}{lp:Pos}{TT:Addr}{H:Hp}(h:Tb q lp TT H){b:Addr}{o:HO}(e:H b=some o)(n:∀ ps,o≠.tbl ps):b≠TT:=fun z=>by
 rw[z]at e;rcases h with y | ⟨_,y,_⟩<;>rw[y]at e<;>cases e<;>exact n _ rfl
noncomputable def SmT(H H':Hp):Prop:=∀ b o,(∀ ps,o≠.tbl ps)->H b=some o->H' b=some o
theorem SmT.trans{H H1 H2:Hp}(a:SmT H H1)(b:SmT H1 H2):SmT H H2:=fun c o n e=>b c o n (a c o n e)
theorem SmT.of{H H':Hp}(s:Same H H'):SmT H H':=fun c o _ e=>s c o e
theorem TbS.smT{q:Str}{lp:Pos}{TT:Addr}{H H':Hp}(s:TbS TT H H')(h:Tb q lp TT H):SmT H H':=fun b o n e=>s b o (tb_ne h e n) e
theorem SmT.lst{H H':Hp}(s:SmT H H'){b:Addr}{xs:List V}(e:H b=some (.lst xs)):H' b=some (.lst xs):=s _ _ (fun ps z=>by cases z) e
theorem SmT.tup{H H':Hp}(s:SmT H H'){b:Addr}{xs:List V}(e:H b=some (.tup xs)):H' b=some (.tup xs):=s _ _ (fun ps z=>by cases z) e
theorem FdAt.mono{n:Nat}{ls:List Lk}{H H':Hp}{v:V}{s:Nat}(h:FdAt n ls H v s)(sm:SmT H H'):FdAt n ls H' v s:=by
 obtain⟨t,ta,va,TL,VL,e,h1,h2,h3,h4⟩:=h;exact⟨t,ta,va,TL,VL,e,sm.tup h1,sm.lst h2,sm.lst h3,h4⟩
theorem LnAt.smT{H H':Hp}{v:V}{r:List Lk}(h:LnAt H v r)(s:SmT H H'):LnAt H' v r:=by
 obtain⟨a,ys,e,z,l⟩:=h;exact⟨a,ys,e,s.lst z,l.imp fun _ _ ⟨t,e,q⟩=>⟨t,e,s.tup q⟩⟩
noncomputable def LT(H H':Hp):Prop:=(∀ b xs,H b=some (.lst xs)->H' b=some (.lst xs))/\∀ b xs,H b=some (.tup xs)->H' b=some (.tup xs)
theorem LT.same{H H':Hp}(s:Same H H'):LT H H':=⟨fun _ _ e=>s _ _ e,fun _ _ e=>s _ _ e⟩
theorem LT.tbS{H H':Hp}{tb:Addr}{kvs:List (Key×V)}(s:TbS tb H H')(h:H tb=some (.dK kvs)):LT H H':=⟨fun b xs e=>s _ _ (fun z=>by rw[z,h]at e;cases e) e,fun b xs e=>s _ _ (fun z=>by rw[z,h]at e;cases e) e⟩
theorem FdAt.lt{n:Nat}{ls:List Lk}{H H':Hp}{v:V}{s:Nat}(h:FdAt n ls H v s)(sm:LT H H'):FdAt n ls H' v s:=by
 obtain⟨t,ta,va,TL,VL,e,h1,h2,h3,h4⟩:=h;exact⟨t,ta,va,TL,VL,e,sm.2 _ _ h1,sm.1 _ _ h2,sm.1 _ _ h3,h4⟩
theorem kH.uniq{H:Hp}{v:V}{t t':Int}(h:kH H v t)(h':kH H v t'):t=t':=by
 obtain⟨a,y,z,e,q⟩:=h;obtain⟨a',y',z',e',q'⟩:=h';rw[e]at e'
 cases e'
 rw[q]at q'
 cases q'
 rfl
theorem Fw{ks:List Nat}{N:Nat}(h:∀ k∈ks,k<N):fo ks<2^N:=NS _ fun i hi=>by
 rw[fZ];exact decide_eq_false fun z=>by have:=h i z;omega
theorem Cf(ks:List Nat):fo ks.reverse=fo ks:=Ks fun i=>by
 rw[fZ,fZ];exact decide_eq_decide.mpr List.mem_reverse
noncomputable def PrI(v:V)(n mk m N:Nat)(ls:List Lk)(r fa bv tb:Addr)(kvs:List (Key×V))(t:Int)(H8:Hp)(σ:St)(H:Hp):Prop:=∃(c u:Nat)(v10 v11:Option V)(w:V)(tc:Int),σ = [some (.int (n:Int)),some v,some (.int (mk:Int)),some (.ref r),some (.ref fa),some (.ref bv),some (.ref tb),some (.int (c:Int)),some (.int t),some (.int (u:Int)),v10,v11]/\Same H8 H/\valV kvs (.inl (c:Int))=some w/\kH H8 w tc/\u<2^N/\oddE ls u N=mk^^^RM (fun i=>(bl mk).getD i 0) c m/\cstU ls u N<=t-tc
noncomputable def pW(TT:Addr):Sp:=fun vs H Q _=>∃(v:V)(n mk:Nat)(ls:List Lk),vs = [.int (n:Int),v,.int (mk:Int)]/\LnAt H v ls/\Lok n ls/\1<=n/\Conn n ls/\mk<2^n/\(bl mk).length%2=0/\(bl mk).length<=14/\Tb lqF lpF TT H /\
 ∀(t:Addr)(cost:Int)(u:Nat) H',SmT H H'->Tb lqF lpF TT H'->H' t=some (.tup [.int cost,.int (u:Int)])->u<2^ls.length->oddE ls u ls.length=mk->Opt (farD ls) (bl mk) cost->cstU ls u ls.length<=cost->Q (.ref t) H'
noncomputable def RwA(ls:List Lk)(mk:Nat)(H:Hp)(v:V)(s:Nat):Prop:=∃ p,v=V.ref p/\H p=some (.lst ((bl mk).map fun x=>V.int (farD ls s x)))
noncomputable def dR (ls:List Lk) (mk:Nat) (i j:Nat):Int:=farD ls ((bl mk).getD i 0) ((bl mk).getD j 0)
section
variable{P:Program}{w:World}{K:JH}{mg:Str->Option Value}{base:Heap}
theorem bj:aD ["many","links","marks","rooms","found","between","table","left","cost","used","first","mate"] ["many","links","marks"] (ai gK):=by ac_nf
theorem BI{TT f f1 f2 f3 f4 f5 f6 f7 f8:Addr}{fd fd1 fd2 fd3 fd4 fd5 fd6 fd7 fd8:FuncData} (F:Fun K "paired" "paired" gK f fd) (T:Txt mg) (G_refuse_marks:Cal P w K mg base 4 "refuse_marks" ["many","links","marks"] ED f1 fd1) (G_bits:Cal P w K mg base 1 "bits" ["mask"] jb f2 fd2) (G_fares:Cal P w K mg base 2 "fares" ["many","links","start"] (pY TT) f3 fd3)
  (G_chosen_of:Cal P w K mg base 1 "chosen_of" ["entries","numbers"] lH f4 fd4) (G_new_table:Cal P w K mg base 1 "new_table" [] pV f5 fd5) (GL:∀(D:Nat->Nat->Int)(m:Nat),(∀ a b,D a b=D b a)->Cal P w K mg base 10 "laid_in_pairs" ["between","chosen","table"] (oW D m 8) f6 fd6)
  (G_mask_of:Cal P w K mg base 1 "mask_of" ["places"] (A0 K) f7 fd7) (G_row_to:Cal P w K mg base 2 "row_to" ["links","via","room"] HN f8 fd8):FnOk P w K mg base CX0 11 f fd ["many","links","marks"] (pW TT):=by
 refine F.ok bj (fun vs H Q E h=>?_) (fun cdv A outer s H vs Q E hr h=>?_)
 ·obtain⟨v,n,mk,ls,rfl,_⟩:=h;rfl
 obtain⟨v,n,mk,ls,rfl,hV,ok,n1,hc,hmk,ev,few,tb0,kk⟩:=h;have hu:=CO hr;have n40:=ok.n1;have l60:=ok.l9;have G_laid_in_pairs:=GL (dR ls mk) (bl mk).length (fun a b=>CU _ _ _);have mlt:mk<1099511627776:=by
  have h1:2^n<=2^40:=K0 (by decide) n40
  have e40:(2:Nat)^40=1099511627776:=by decide
  omega
 have rlt:∀ x∈bl mk,x<n:=fun x hx=>lA hmk hx
 refine⟨_,(af (cX (av G_refuse_marks.ok (hr.mono (by decide)) rfl G_refuse_marks.mg G_refuse_marks.kp G_refuse_marks.bn .nil aR (ae (pv 0) (ae (pv 1) (ae (pv 2) aj)))))
   (af (au (i:=3) bj.nd rfl (Or.inr rfl) (av G_bits.ok (hr.mono (by decide)) rfl G_bits.mg G_bits.kp G_bits.bn .nil aR (ae (pv 2) aj)))
   (af (cG (i:=4) rfl bj.nd rfl rfl (fr:=[("many",0),("links",1)]) (xs:=["room"]) (dI.of (by rfl) (by decide) (by rfl) (by decide) (by intro p hp;simp only[JI,Kf,or_false]at hp;rcases hp with rfl | rfl<;>exact⟨rfl,rfl⟩) (by decide) (by intro p hp;simp only[JI,Kf,or_false]at hp;rcases hp with rfl | rfl<;>rfl)) (aZ (pv 3)) (fun C ex s H=>(aw (i:=0) (show(["room","many","links"]:List Str).Nodup from by decide) rfl (Or.inl rfl))) (fun C ex s H=>dA) (fun C ex s H=>(av G_fares.ok (hr.mono (by decide)) rfl G_fares.mg G_fares.kp G_fares.bn .nil aR (ae (pv 1) (ae (pv 2) (ae (pv 0) aj))))))
   (af (cG (i:=5) rfl bj.nd rfl rfl (fr:=[("rooms",3)]) (xs:=["told","via"]) (dI.of (by rfl) (by decide) (by rfl) (by decide) (by intro p hp;simp only[JI,Kf,or_false]at hp;rcases hp with rfl<;>exact⟨rfl,rfl⟩) (by decide) (by intro p hp;simp only[JI,Kf,or_false]at hp;rcases hp with rfl<;>rfl)) (aZ (pv 4)) (fun C ex s H=>(fj (n:=2) (K:=K) rfl rfl (aM (aw (i:=0) (show(["told","via","rooms"]:List Str).Nodup from by decide) rfl (Or.inl rfl)) (aM (aw (i:=1) (show(["told","via","rooms"]:List Str).Nodup from by decide) rfl (Or.inl rfl)) cH)))) (fun C ex s H=>dA) (fun C ex s H=>(av G_chosen_of.ok (hr.mono (by decide)) rfl G_chosen_of.mg G_chosen_of.kp G_chosen_of.bn .nil aR (ae (pv 0) (ae (pv 2) aj)))))
   (af (au (i:=6) bj.nd rfl (Or.inl rfl) (xY G_new_table.ok (hr.mono (by decide)) rfl G_new_table.mg G_new_table.kp G_new_table.bn .nil aR))
   (af (au (i:=7) bj.nd rfl (Or.inl rfl) (ar ir (ar bF ah (aE aQ (by rfl) T.n_len eX (ae (pv 3) aj))) ah))
   (af (au (i:=8) bj.nd rfl (Or.inl rfl) (aC aV (av G_laid_in_pairs.ok (hr.mono (by decide)) rfl G_laid_in_pairs.mg G_laid_in_pairs.kp G_laid_in_pairs.bn .nil aR (ae (pv 5) (ae (pv 7) (ae (pv 6) aj)))) ah (fun _ _=>rfl)))
   (af (au (i:=9) bj.nd rfl (Or.inl rfl) ah)
   (af (gO PassesOwn.never (az j4 (pv 7) ah (aB _)) (af (au (i:=10) bj.nd rfl (Or.inl rfl) (aC aV (vp hu (pv 6) (pv 7) (fun _ _=>rfl)) ah (fun _ _=>rfl)))
   (af (au (i:=11) bj.nd rfl (Or.inl rfl) (aC aV (vp hu (pv 6) (pv 7) (fun _ _=>rfl)) ah (fun _ _=>rfl)))
   (af (au (i:=9) bj.nd rfl (Or.inl rfl) (ar eN (pv 9) (av G_mask_of.ok (hr.mono (by decide)) rfl G_mask_of.mg G_mask_of.kp G_mask_of.bn .nil aR (ae (av G_row_to.ok (hr.mono (by decide)) rfl G_row_to.mg G_row_to.kp G_row_to.bn .nil aR (ae (pv 1) (ae (aC aV (aC aP (pv 4) (pv 10) (fun _ _=>rfl)) ah (fun _ _=>rfl)) (ae (aC aP (pv 3) (pv 11) (fun _ _=>rfl)) aj)))) aj))))
   (aq (au (i:=7) bj.nd rfl (Or.inl rfl) (ar eN (ar eN (pv 7) (ar bF ah (pv 10))) (ar bF ah (pv 11)))))))))
   (aq (aJ (kK (ae (pv 8) (ae (pv 9) aj)))))))))))))),?_⟩
 refine⟨_,rfl,_,rfl,_,rfl,v,n,mk,ls,rfl,hV,ok,n1,hc,hmk,ev,few,fun H1 s1=>?_⟩;refine⟨_,rfl,(mk:Int),rfl,by omega,by omega,fun r H2 s2 hr0 hr2=>?_⟩
 rw[JL]at hr2;have s12:=s1.trans s2;have tb2:=bH tb0 s12;have hr2':H2 r=some (.lst ((bl mk).map iV)):=hr2;have lenm:((bl mk).map iV).length=(bl mk).length:=JC ..;refine⟨_,rfl,r,rfl,⟨_,SqL.of hr2'⟩,bE (K:=K) (xs:=(bl mk).map iV) (fun i zs H3=>SmT H2 H3/\Tb lqF lpF TT H3/\LsAt (FdAt n ls) H3 zs ((bl mk).take i)) (Kw (ax (by omega))) ⟨fun _ _ _ e=>e,tb2,LsAt.nil⟩ (fun i zs H3 _ z=>SqL.of (z.1.lst hr2')) ?_ ?_ ?_⟩
 ·rintro i x zs H3 hx ⟨sm3,tb3,hZ⟩;rw[JJ]at hx;obtain⟨k,hk,rfl⟩:=Km.mp hx;refine⟨rfl,yesT ⟨_,rfl,_,rfl,_,rfl,v,n,k,ls,rfl,LnAt.smT (hV.mono s12) sm3,ok,rlt k (JG hk),tb3,fun t ta va TL VL H4 sm4 tb4 _ _ ht hta hva fi=>?_⟩⟩;have sm34:=TbS.smT sm4 tb3;refine⟨sm3.trans sm34,tb4,?_⟩;rw[Kn,hk];exact(hZ.imp fun _ _ q=>q.mono sm34).snoc ⟨t,ta,va,TL,VL,rfl,ht,hta,hva,fi⟩
 ·rintro zs H3 ⟨sm3,tb3,hZ⟩ fa hfa;rw[lenm,Kr]at hZ;have z4:=ak hfa (.lst zs);have sm24:SmT H2 (upd H3 fa (.lst zs)):=sm3.trans (.of z4);have tb4:=bH tb3 z4;have hZ4:LsAt (FdAt n ls) (upd H3 fa (.lst zs)) zs (bl mk):=hZ.imp fun _ _ q=>q.mono (.of z4);have gfa:(upd H3 fa (.lst zs)) fa=some (.lst zs):=ag;generalize upd H3 fa (.lst zs)=H4 at sm24 tb4 hZ4 gfa;have zl:=hZ4.1;have hr4:=sm24.lst hr2';refine⟨_,rfl,fa,rfl,⟨_,SqL.of gfa⟩,bE (K:=K) (xs:=zs) (fun i ws H5=>Same H4 H5/\LsAt (RwA ls mk) H5 ws ((bl mk).take i)) (Kw (ax (by omega))) ⟨fun _ _ e=>e,LsAt.nil⟩ (fun i ws H5 _ z=>SqL.of (z.1 _ _ gfa)) ?_ ?_ ?_⟩
  ·rintro i x ws H5 hx ⟨s5,hW⟩;obtain⟨s0,hs0,t,ta,va,TL,VL,rfl,ht,hta,hva,fi⟩:=hZ4.get hx;have slt:=rlt s0 (JG hs0);refine⟨t,_,rfl,SqT.of (s5 _ _ ht),rfl,_,_,rfl,_,_,rfl,rfl,rfl,yesT ⟨_,rfl,_,rfl,ta,r,_,(bl mk).map fun x=>V.int (farD ls s0 x),bl mk,rfl,s5 _ _ hta,s5 _ _ hr4,JC ..,by omega,fun j k hk=>?_,fun q H6 s6 hq0 hq=>?_⟩⟩
   ·refine⟨.int (farD ls s0 k),?_,by rw[JJ,hk];rfl⟩
    exact vH (fi.is hc slt (rlt k (JG hk)))
   ·refine⟨s5.trans s6,?_⟩;rw[Kn,hs0];exact(hW.imp fun _ _ ⟨p,e,z⟩=>⟨p,e,s6 _ _ z⟩).snoc ⟨q,rfl,hq⟩
  ·rintro ws H5 ⟨s5,hW⟩ bv hbv;rw[zl,Kr]at hW;have z6:=ak hbv (.lst ws);refine⟨rfl,fun tb t0 H7 s7 htb0 htb ht0=>?_⟩;have s57:Same H4 H7:=s5.trans (z6.trans s7);have hW7:LsAt (RwA ls mk) H7 ws (bl mk):=hW.imp fun _ _ ⟨p,e,z⟩=>⟨p,e,s7 _ _ (z6 _ _ z)⟩;have hbv7:H7 bv=some (.lst ws):=s7 _ _ ag;have at':∀ i,i<(bl mk).length->(bl mk)[i]?=some ((bl mk).getD i 0):=fun i hi=>by rw[JE,JB hi];rfl
   have bt:BtAt H7 (.ref bv) (dR ls mk) (bl mk).length:=⟨bv,ws,rfl,hbv7,fun i hi=>by
    obtain⟨y,hy,p,rfl,hp⟩:=hW7.2 i _ (at' i hi)
    exact⟨p,_,hy,hp,fun k hk=>by rw[JJ,at' k hk];rfl⟩⟩
   have ti:TI H7 (dR ls mk) (bl mk).length [(.inl ((0:Nat):Int),.ref t0)]:=⟨(fun k w e=>by
    by_cases c:(Sum.inl ((0:Nat):Int):Key)=k
    ·rw[a9 c]at e
     cases e
     exact⟨0,c.symm,Lg _,.inl ⟨rfl,t0,_,_,rfl,ht0⟩⟩
    ·rw[bg c]at e
     cases e),⟨_,a9 rfl⟩,Kq.mpr ⟨(by simp),LV⟩⟩
   have hr7:=s57 _ _ hr4;have tb7:=bH tb4 s57;have eL:(1:Int)*2^((((bl mk).map iV).length:Nat):Int).toNat-1=((2^(bl mk).length-1:Nat):Int):=by
    rw[lenm,shlN];have:=Lg (bl mk).length;omega
   refine⟨_,rfl,r,_,rfl,.inl (SqL.of hr7),_,_,rfl,rfl,⟨by omega,by rw[lenm];omega,by decide⟩,_,_,rfl,rfl,?_⟩
   simp only[eL];have lfull:(bl (2^(bl mk).length-1)).length=(bl mk).length:=by rw[(rq _).length_eq,KY]
   refine⟨_,rfl,_,rfl,_,rfl,.ref bv,tb,2^(bl mk).length-1,_,rfl,bt,htb,ti,by have:=Lg (bl mk).length;omega,few,by rw[lfull];omega,by rw[lfull];exact ev,fun w t kvs' H8 sT hT' ti' gr hv cv op=>?_⟩
   have lt78:=LT.tbS sT htb;obtain⟨va,y,z,rfl,hva⟩:=id cv;refine⟨va,_,0,_,rfl,rfl,SqT.of hva,a30,?_⟩;have optR:Opt (farD ls) (bl mk) t:=Opt.rooms (gu mk) op;have tb8:Tb lqF lpF TT H8:=mi tb7 fun b hb=>by
    have hs:∃ o,H7 b=some o/\b≠tb:=by
     rcases hb with rfl | ⟨c',hb⟩
     ·rcases tb7 with q | ⟨_,q,_⟩
      ·exact⟨_,q,fun z=>by rw[z,htb]at q;cases q⟩
      ·exact⟨_,q,fun z=>by rw[z,htb]at q;cases q⟩
     ·exact⟨_,hb,fun z=>by rw[z,htb]at hb;cases hb⟩
    obtain⟨o,h1,h2⟩:=hs;rw[h1];exact sT _ _ h2 h1
   have smT8:SmT H H8:=fun b o no e=>by
    have e4:=sm24 b o no (s12 _ _ e);have e7:=s57 _ _ e4;refine sT _ _ (fun z=>?_) e7;subst z;have:=cV (s5.trans z6) htb0;rw[this]at e4;cases e4
   have hZ8:LsAt (FdAt n ls) H8 zs (bl mk):=hZ4.imp fun _ _ q=>(q.lt (LT.same s57)).lt lt78;have hfa8:=lt78.1 _ _ (s57 _ _ gfa);have hr8:=lt78.1 _ _ hr7;have hV8:LnAt H8 v ls:=(LnAt.smT hV smT8);refine gE (PrI v n mk (bl mk).length ls.length ls r fa bv tb kvs' t H8) (fun σ _=>match σ with | [_,_,_,_,_,_,_,some (.int c),_,_,_,_]=>c.toNat | _=>0) ⟨2^(bl mk).length-1,0,_,_,_,t,rfl,fun _ _ e=>e,hv,cv,Lg _,by rw[fY,RM_all,L0],by rw[gk];omega⟩ ?_ ?_
   ·rintro σ H9 ⟨c,u,v10,v11,w,tc,rfl,s9,hw,cw,ult,ou,cu⟩;obtain⟨c',ec',clt,en⟩:=ti'.en _ _ hw;have ecc:c'=c:=by
     have:(c:Int)=(c':Int):=by injection ec'
     omega
    subst ecc;refine⟨_,rfl,rfl,_,rfl,?_⟩;by_cases c0:c'=0
    ·subst c0;refine FO rfl ?_;have t0':tc=0:=by
      rcases en with⟨_,q⟩ | ⟨_,f,_,_,_,_,_,_,q,_⟩
      ·exact cw.uniq q
      ·rw[nU]at q;cases q
     refine⟨_,rfl,_,rfl,(by show 2<=sizeLine;decide),fun t9 ht9=>?_⟩
     have z9:=ak ht9 (.tup [.int t,.int (u:Int)]);refine kk t9 t u _ (smT8.trans (.of (s9.trans z9))) (bH tb8 (s9.trans z9)) ag ult ?_ optR (by omega)
     rw[ou,Ei,MP]
    ·refine ite2 (fun _=>?_) (fun z=>absurd (by rw[decide_eq_false (fun y=>c0 (by have:=V.int.inj y;omega))];rfl) z)
     obtain⟨tt,f,g,a,vr,tr,rfl,ha,hf,hg,fg,hvr,cvr,ett,_⟩:∃(t:Int)(f g:Nat)(a:Addr)(vr:V)(tr:Int),w=.ref a/\H8 a=some (.tup [.int t,.int (f:Int),.int (g:Int)])/\f∈bl c'/\g∈bl c'/\f≠g/\valV kvs' (.inl ((cut2 c' f g:Nat):Int))=some vr/\kH H8 vr tr/\t=dR ls mk f g+tr/\Opt (dR ls mk) (bl c') t:=by
      rcases en with⟨q,_⟩ | q
      ·exact absurd q c0
      ·exact q
     have etc:tc=tt:=cw.uniq ⟨a,_,_,rfl,ha⟩;have flt:=lA clt hf;have glt:=lA clt hg;have hT9:=s9 _ _ hT';have ha9:=s9 _ _ ha;have dg:DGet H9 tb (.int (c':Int)) (some (.ref a)):=by have:=DGet.k (k:=.inl ((c':Nat):Int)) hT9;rw[hw]at this;exact this
     refine⟨_,rfl,_,rfl,tb,_,rfl,dg,a,_,1,_,rfl,rfl,SqT.of ha9,a31,?_⟩;refine⟨_,rfl,_,rfl,tb,_,rfl,dg,a,_,2,_,rfl,rfl,SqT.of ha9,a32,?_⟩;obtain⟨y,hy,tF,taF,vaF,TL,VL,rfl,htF,htaF,hvaF,fi⟩:=hZ8.2 f _ (at' f flt);have gl:=rlt _ (JG (at' g glt));have fl:=rlt _ (JG (at' f flt));have xg:=fi.is hc fl gl;obtain⟨j,up⟩:=fi.up _ _ xg;obtain⟨ks,pth,kl⟩:=up.path;have sh:=up.short fi.vs;have vl:=fi.vl;obtain⟨j1,j2,j3⟩:=pth.join fi;have j3':=j3 _ xg;refine⟨_,rfl,_,rfl,_,rfl,_,rfl,fa,_,_,_,rfl,rfl,SqL.of (s9 _ _ hfa8),aN hy,tF,_,1,_,rfl,rfl,SqT.of (s9 _ _ htF),at1,_,rfl,_,rfl,r,_,_,_,rfl,rfl,SqL.of (s9 _ _ hr8),aN (show((bl mk).map iV)[g]?=some (V.int (((bl mk).getD g 0:Nat):Int)) by rw[JJ,at' g glt];rfl),v,vaF,(bl mk).getD g 0,(bl mk).getD f 0,ls,VL,ks,rfl,hV8.mono s9,s9 _ _ hvaF,fi.vs,pth,by omega,fun q H10 s10 hq=>?_⟩
     refine⟨q,ks.reverse,rfl,SqL.of hq,fun k hk=>by have:=j1 k (List.mem_reverse.mp hk);omega,_,_,rfl,rfl,?_⟩
     have ex:Builtin.bitXor (u:Int) ((fo ks.reverse:Nat):Int)=((u^^^fo ks:Nat):Int):=by rw[Cf,xorN]
     simp only[ex];refine⟨_,rfl,_,rfl,_,_,rfl,rfl,⟨by omega,by omega,by decide⟩,_,_,rfl,rfl,_,rfl,_,_,rfl,rfl,⟨by omega,by omega,by decide⟩,_,_,rfl,rfl,?_⟩
     have ec:Builtin.bitXor (Builtin.bitXor (c':Int) (1*2^((f:Nat):Int).toNat)) (1*2^((g:Nat):Int).toNat)=((cut2 c' f g:Nat):Int):=by rw[shlN,shlN,xorN,xorN];rfl
     simp only[ec];have cx:=jL ls (fun l hl=>(ok.w0 l hl).1) u (fo ks) ls.length (JF _);refine⟨⟨cut2 c' f g,u^^^fo ks,some (.int (f:Int)),some (.int (g:Int)),vr,tr,rfl,s9.trans s10,hvr,cvr,Ls ult (Fw j1),?_,?_⟩,?_⟩
     ·rw[jj,ou,j2];unfold cut2;rw[Ej,Ej,Ek,Ek,if_pos flt,if_pos glt,KJ,KJ]
     ·have ed:dR ls mk f g=farD ls ((bl mk).getD f 0) ((bl mk).getD g 0):=rfl
      omega
     ·show((cut2 c' f g:Nat):Int).toNat<((c':Nat):Int).toNat;have:=Dw hf hg fg;omega
   ·rintro σ H9 Q1 Q2 hi ⟨v1,e1,e2,b,e3,q⟩;exact⟨v1,e1,e2,b,e3,hi _ _ q⟩
  ·rintro i ws H5 ⟨_,hW⟩;rw[hW.1,JZ];omega
 ·rintro i zs H3 ⟨_,_,hZ⟩;rw[hZ.1,JZ];omega
end
noncomputable def gm(ns:List Int)(k:Nat):Int:=ns.getD k 0
noncomputable def xN(K:JH):Sp:=fun vs H Q _=>∃(a:Addr)(k:Nat)(ns:List Int),vs = [.ref a,.int (k:Int)]/\SqL K H a (ns.map V.int)/\Q (.int (gm ns k)) H
noncomputable def uS:Sp:=fun vs H Q _=>∃ i:Int,vs = [.int i]/\Q (.bl true) H
noncomputable def uU:Sp:=fun vs H Q _=>∃(c:Int)(n:Nat),vs = [.int c,.int (n:Int)]/\n<=40/\∀(p:Addr)(rs:List Nat) H',Same H H'->H p=none->H' p=some (.lst (rs.map iV))->rs.length=n->rs.Nodup->(∀ x∈rs,x<n)->Q (.ref p) H'
theorem iy(u i:Nat):(Builtin.bitAnd ((u:Int)/2^((i:Nat):Int).toNat) 1=1)↔u.testBit i=true:=by
 have e1:(u:Int)/2^((i:Nat):Int).toNat=((u/2^i:Nat):Int):=by
  rw[JL];push_cast;rfl
 have e2:Builtin.bitAnd ((u/2^i:Nat):Int) 1=((u/2^i&&&1:Nat):Int):=andN _ 1;rw[e1,e2,Nu,Nat.testBit_eq_decide_div_mod_eq,decide_eq_true_iff];omega
section
variable{P:Program}{w:World}{K:JH}{mg:Str->Option Value}{base:Heap}
theorem oD:aD ["script","k"] ["script","k"] (ai bD):=by ac_nf
theorem Iw{f:Addr}{fd:FuncData} (F:Fun K "_law_cell_at" "_law_cell_at" bD f fd) (T:Txt mg):FnOk P w K mg base CX0 1 f fd ["script","k"] (xN K):=by
 refine F.ok oD (fun vs H Q E h=>?_) (fun cdv A outer s H vs Q E hr h=>?_)
 ·obtain⟨a,k,ns,rfl,_⟩:=h;rfl
 obtain⟨a,k,ns,rfl,hS,q⟩:=h
 refine⟨_,(af (c6 (az zd (pv 1) (aE aQ (by rfl) T.n_len eX (ae (pv 0) aj)) (aB _)) (aq (aJ (aC aP (pv 0) (pv 1) (fun _ _=>rfl)))) aY)
   (aq (aJ ah))),?_⟩
 refine⟨_,rfl,_,rfl,a,_,rfl,.inl hS,_,_,rfl,rfl,_,rfl,?_⟩;refine ite2 (fun c=>?_) (fun c=>?_)
 ·have c':(k:Int)<((ns.map V.int).length:Int):=of_decide_eq_true c
  rw[JC]at c';have hk:k<ns.length:=by omega
  have hat:atI (ns.map V.int) (k:Int)=some (.int (gm ns k)):=aN (by rw[JJ,JB hk];unfold gm;rw[JE,JB hk];rfl)
  exact⟨_,rfl,_,rfl,a,_,_,_,rfl,rfl,hS,hat,q⟩
 ·have c':¬ (k:Int)<((ns.map V.int).length:Int):=fun z=>c (decide_eq_true z)
  rw[JC]at c';have e:gm ns k=0:=by unfold gm;rw[JE,Ld (by omega)];rfl
  rw[e]at q;exact q
theorem r8:aD ["found"] ["found"] (ai cz):=by ac_nf
theorem E4{f:Addr}{fd:FuncData} (F:Fun K "_law_whole" "_law_whole" cz f fd) (T:Txt mg):FnOk P w K mg base CX0 1 f fd ["found"] uS:=by
 refine F.ok r8 (fun vs H Q E h=>?_) (fun cdv A outer s H vs Q E hr h=>?_)
 ·obtain⟨i,rfl,_⟩:=h;rfl
 obtain⟨i,rfl,k⟩:=h;refine⟨_,(aq (aJ (mI (aE l8 (by rfl) T.n_isinstance dh (ae (pv 0) (ae (qk (v:=.ty "int") rfl T.n_int He rfl) aj))) (xW (pe_not (aE l8 (by rfl) T.n_isinstance dh (ae (pv 0) (ae (qk (v:=.ty "bool") rfl T.n_bool Jp rfl) aj)))))))),?_⟩
 refine⟨_,rfl,_,_,_,_,_,rfl,TyOf.int i,Or.inl ⟨_,rfl,rfl⟩,kit_ii K,_,rfl,iteT ?_⟩;exact⟨_,rfl,_,_,_,_,_,rfl,TyOf.int i,Or.inl ⟨_,rfl,rfl⟩,kit_ib K,_,rfl,k⟩
theorem dJ:aD ["cell","many","names","room","mixed"] ["cell","many"] (ai cA):=by ac_nf
theorem E6{f:Addr}{fd:FuncData} (F:Fun K "_law_names" "_law_names" cA f fd) (T:Txt mg):FnOk P w K mg base CX0 1 f fd ["cell","many"] uU:=by
 refine F.ok dJ (fun vs H Q E h=>?_) (fun cdv A outer s H vs Q E hr h=>?_)
 ·obtain⟨c,n,rfl,_⟩:=h;rfl
 obtain⟨c,n,rfl,n40,kk⟩:=h
 refine⟨_,(af (au (i:=2) dJ.nd rfl (Or.inl rfl) (jh aj))
   (af (cR PassesOwn.never rfl (bz rfl T.n_range (ae (pv 1) aj)) (aw (i:=3) dJ.nd rfl (Or.inl rfl)) (af (au (i:=4) dJ.nd rfl (Or.inl rfl) (ar bO (ar fX (ar fX (ar b8 (ar bO (pv 0) ah) ah) (ar b8 (pv 3) ah)) ah) ah))
   (aq (cX (qj K6 PySem.F.slot_list_insert PySem.F.type_list_insert BZ (pv 2) (ae (ar bO (pv 4) (ar b8 (pv 3) ah)) (ae (pv 3) aj)))))))
   (aq (aJ (pv 2))))),?_⟩
 refine⟨(by show 0<=sizeLine;decide),fun l hl=>?_⟩
 refine⟨_,rfl,_,rfl,by omega,by omega,gi (n:=n) (fun i σ H2=>∃(v3 v4:Option V)(rs:List Nat),σ = [some (.int c),some (.int (n:Int)),some (.ref l),v3,v4]/\Same H H2/\H2 l=some (.lst (rs.map iV))/\rs.length=i/\rs.Nodup/\∀ x∈rs,x<i) ⟨_,_,[],rfl,ak hl _,ag,rfl,LV,fun x h=>nomatch h⟩ ?_ ?_⟩
 ·rintro i σ H2 hi ⟨v3,v4,rs,rfl,s2,hl2,rl,nd,lt⟩;have e0:(0:Int)+(i:Int)=(i:Int):=L8 _;rw[e0];refine⟨_,rfl,_,_,rfl,rfl,(by show(0:Int)<1000000007;decide),_,_,rfl,rfl,_,rfl,_,_,rfl,rfl,_,_,rfl,rfl,.inr ⟨by show -(2^64:Int)<(i:Int)+3;omega,by show(i:Int)+3<(2^64:Int);omega⟩,_,_,rfl,rfl,.inr ⟨by decide,by decide⟩,_,_,rfl,rfl,(by show(0:Int)<2147483647;decide),?_⟩
  obtain⟨mx,emx⟩:∃ mx,(c%1000000007+77)*((i:Int)+3)*48271%2147483647=mx:=⟨_,rfl⟩;simp only[emx];have ip:(0:Int)<(i:Int)+1:=by omega
  have k0:=Li mx (show(i:Int)+1≠0 by omega)
  have k1:=LU mx ip;refine⟨_,rfl,.inl ⟨rfl,_,SqL.of hl2⟩,_,rfl,_,rfl,_,_,rfl,rfl,_,_,rfl,rfl,ip,_,rfl,l,_,_,_,rfl,rfl,hl2,k0,by rw[JC,rl];omega,ax (by rw[JC];omega),?_⟩
  have ev:(rs.map iV).take (mx%((i:Int)+1)).toNat++V.int (i:Int)::(rs.map iV).drop (mx%((i:Int)+1)).toNat=(rs.take (mx%((i:Int)+1)).toNat++i::rs.drop (mx%((i:Int)+1)).toNat).map iV:=by
   rw[Kc,JQ,List.map_take,List.map_drop];rfl
  rw[ev];have pm:(rs.take (mx%((i:Int)+1)).toNat++i::rs.drop (mx%((i:Int)+1)).toNat).Perm (i::rs):=by
   have:=List.perm_middle (a:=i) (l₁:=rs.take (mx%((i:Int)+1)).toNat) (l₂:=rs.drop (mx%((i:Int)+1)).toNat);rw[Kl]at this;exact this
  refine⟨_,_,_,rfl,bW s2 hl _,ag,by rw[pm.length_eq,Ke,rl],pm.nodup_iff.mpr (Kq.mpr ⟨fun z=>by have:=lt i z;omega,nd⟩),fun x hx=>?_⟩
  rcases JI.mp (pm.mem_iff.mp hx)with z | z
  ·omega
  ·have:=lt x z;omega
 ·rintro σ H2 ⟨v3,v4,rs,rfl,s2,hl2,rl,nd,lt⟩;exact⟨_,rfl,kk l rs H2 s2 hl hl2 rl nd lt⟩
end
noncomputable def bsum(m:Nat):Nat->Int
 |0=>0
 |i+1=>bsum m i+(if m.testBit i=true then 1 else 0)
theorem w9(m:Nat):∀ i,bsum m i=((((KO i).filter fun j=>m.testBit j).length:Nat):Int)
 |0=>rfl
 |i+1=>by
  unfold bsum;rw[w9 m i,MK,Mp,JN];by_cases c:m.testBit i=true
  ·rw[if_pos c,Mn c];push_cast;rfl
  ·rw[if_neg c,Mo c];rfl
theorem Jq{m n:Nat}(h:m<2^n):bsum m n=(((bl m).length:Nat):Int):=by
 rw[w9];have p:((KO n).filter fun j=>m.testBit j).Perm (bl m):=(LQ (List.nodup_range.filter _) (gu m)).mpr fun x=>by
  rw[Mm,KS,bG];exact⟨fun z=>z.2,fun z=>⟨lA h (bG.mpr z),z⟩⟩
 rw[p.length_eq]
theorem Cq:∀(m:Nat),0<m->∃ p,m.testBit p=true/\m&&&(m-1)=m^^^2^p:=by
 intro m;induction m using Nf with
 |ind m ih =>
  intro h0;by_cases c:m%2=1
  ·refine⟨0,by rw[MB];simpa using c,Ks fun j=>?_⟩
   rw[Lh,KI,JY]
   cases j with
   |zero =>
    have e:(m-1).testBit 0=false:=by rw[MB];simp;omega
    have e1:m.testBit 0=true:=by rw[MB];simpa using c
    rw[e,e1];rfl
   |succ j =>
    rw[MC,MC,show(m-1)/2=m/2 by omega]
    simp
  ·obtain⟨p,h1,h2⟩:=ih (m/2) (by omega) (by omega)
   refine⟨p+1,by rw[MC];exact h1,Ks fun j=>?_⟩
   rw[Lh,KI,JY]
   cases j with
   |zero =>
    have e1:m.testBit 0=false:=by rw[MB];simpa using c
    rw[e1];simp
   |succ j =>
    have q:=congrArg (fun z=>Mg z j) h2;simp only[Lh,KI,JY]at q;rw[MC,MC,show(m-1)/2=m/2-1 by omega,q]
    congr 1;exact decide_eq_decide.mpr ⟨fun z=>by omega,fun z=>by omega⟩
theorem qw{n:Nat}{ls:List Lk}(ok:Lok n ls)(hc:Conn n ls){mk u:Nat}{cost:Int}(ho:Opt (farD ls) (bl mk) cost)(e:oddE ls u ls.length=mk):cost<=cstU ls u ls.length:=by
 have hw:∀ l∈ls,0<=l.2.2:=fun l hl=>(ok.w0 l hl).1;obtain⟨_,c,h1,h2⟩:=yf (CV hw hc) u (fun l hl=>⟨(ok.sm l hl).1,(ok.sm l hl).2,FX hw hl⟩) ls.length (JF _);rw[e]at h1;have:=ho.2 c h1;omega
section
variable{P:Program}{w:World}{K:JH}{mg:Str->Option Value}{base:Heap}
theorem yg{H:Hp}{a:Addr}{xs:List V}{es:List Lk}(h:SqL K H a xs)(hE:LsAt LkAt H xs es):RdD K H (.ref a) (.list (es.map fun e=>PyData.tuple [.int (e.1:Int),.int (e.2.1:Int),.int e.2.2])):=by
 refine RdD.lst h (by rw[JC];exact hE.1) fun i x d e1 e2=>?_
 rw[JJ]at e2;obtain⟨e,he,rfl⟩:=Km.mp e2;obtain⟨y,a1,p,rfl,a2⟩:=hE.2 i e he;rw[e1]at a1
 cases a1
 refine RdD.tup (SqT.of a2) rfl fun j x d' q1 q2=>?_;match j with
 |0=>cases q1;cases q2;exact .int _
 |1=>cases q1;cases q2;exact .int _
 |2=>cases q1;cases q2;exact .int _
 |j+3=>cases q1
theorem o9(es:List Lk):SeqAt.shaped (.list (es.map fun e=>PyData.tuple [.int (e.1:Int),.int (e.2.1:Int),.int e.2.2]))=true:=mz fun d hd=>by
 obtain⟨l,_,rfl⟩:=Kk.mp hd;exact flat3 _ _ _
end
theorem Opt.turn{n:Nat}{d:Nat->Nat->Int}(M:Met n d)(z:∀ a,d a a=0){S:List Nat}(nd:S.Nodup)(lt:∀ s∈S,s<n){x:Nat}(hx:x<n){R:Nat->Int}(hR:∀ s∈S,Opt d (S.erase s) (R s)){m:Int}(hm:∃ s∈S,m=d s x+R s)(hl:∀ s∈S,m<=d s x+R s):Opt d (tog S x) m:=by
 obtain⟨s0,h0,e0⟩:=hm;unfold tog;by_cases c:x∈S
 ·rw[if_pos c];have h1:=hl x c;rw[z x]at h1;obtain⟨c',g1,g2⟩:=(hR s0 h0).1.two M (nd.erase _) (fun y hy=>lt y (Nh hy)) (lt s0 h0) hx;have ns:s0∉S.erase s0:=NZ nd;have e1:tog (S.erase s0) s0=s0::S.erase s0:=by unfold tog;rw[if_neg ns]
  have p1:(tog (tog (S.erase s0) s0) x).Perm (S.erase x):=by
   rw[e1];have:=lG (MG h0).symm x;refine this.trans ?_;unfold tog;rw[if_pos c]
  have h2:=(hR x c).2 _ (g1.perm p1);have:m=R x:=by omega
  rw[this];exact hR x c
 ·rw[if_neg c];have e:m=d x s0+R s0:=by rw[e0,M.sy x s0]
  rw[e];refine Opt.step M.sy h0 (hR s0 h0) fun t ht=>⟨R t,hR t ht,?_⟩;have:=hl t ht;rw[← e,M.sy x t];exact this
theorem FW{ls:List Lk}(hw:∀ l∈ls,0<=l.2.2)(a:Nat):farD ls a a=0:=by
 have h1:=(fE hw (Wk.nil (ls:=ls) a)).2 0 (.nil a);have h2:0<=farD ls a a:=by
  unfold farD;split
  ·omega
  ·exact KR _
 omega
theorem Opt.map{d:Nat->Nat->Int}{rho ix:Nat->Nat}{L:List Nat}{t:Int}(hi:∀ i∈L,ix (rho i)=i)(h:Opt (fun i j=>d (rho i) (rho j)) L t):Opt d (L.map rho) t :=
 ⟨Cs.map h.1,fun c hc=>h.2 c (Cs.back hi hc)⟩
theorem Opt.but{d:Nat->Nat->Int}{l:List Nat}(nd:l.Nodup){k:Nat}(hk:k<l.length){t:Int}(h:Opt (fun i j=>d (l.getD i 0) (l.getD j 0)) (bl ((2^l.length-1)^^^2^k)) t):Opt d (l.erase (l.getD k 0)) t:=by
 have em:(KO l.length).map (fun i=>l.getD i 0)=l:=by
  refine ND (by rw[JC,KY]) fun i h1 h2=>?_
  rw[List.getElem_map,List.getElem_range,JE,JB h2];rfl
 have ix:∀ i∈KO l.length,l.idxOf (l.getD i 0)=i:=fun i hi=>by
  have hi':=KS.mp hi;rw[JE,JB hi'];exact nd.idxOf_getElem i hi'
 have p1:(bl ((2^l.length-1)^^^2^k)).Perm ((KO l.length).erase k):=by
  refine(iD _ _).trans ((lG (rq _) k).trans ?_);unfold tog;rw[if_pos (KS.mpr hk)]
 have h2:=(h.perm p1).map (rho:=fun i=>l.getD i 0) (ix:=fun x=>l.idxOf x) fun i hi=>ix i (Nh hi);refine h2.perm ?_;have p2:=(MG (KS.mpr hk)).map (fun i=>l.getD i 0);rw[em,JQ]at p2;have p3:=p2.erase (l.getD k 0);rw[LJ]at p3;exact p3.symm
theorem Jo{m k:Nat}(hk:k<m):(bl ((2^m-1)^^^2^k)).length=m-1:=by
 have p1:(bl ((2^m-1)^^^2^k)).Perm ((KO m).erase k):=by
  refine(iD _ _).trans ((lG (rq _) k).trans ?_);unfold tog;rw[if_pos (KS.mpr hk)]
 rw[p1.length_eq,MT,if_pos (KS.mpr hk),KY]
noncomputable def XL(l:List Nat):Nat:=l.foldr (fun s m=>2^s^^^m) 0
theorem Hi:∀{l:List Nat},l.Nodup->∀ x,(XL l).testBit x=decide (x∈l)
 |[],_,x=>by rw[show XL []=0 from rfl,KW];simp
 |s::l,nd,x=>by
  obtain⟨h1,h2⟩:=Kq.mp nd;show(2^s^^^XL l).testBit x=_;rw[KI,JY,Hi h2 x];by_cases c:s=x
  ·subst c;simp[h1]
  ·have c':¬ x=s:=fun z=>c z.symm
   simp[c,c']
theorem XL_bl(m:Nat):XL (bl m)=m:=Ks fun x=>by
 rw[Hi (gu m)]
 cases h:m.testBit x with
 |true=>exact decide_eq_true (bG.mpr h)
 |false=>exact decide_eq_false fun z=>by rw[bG.mp z]at h;cases h
theorem EA{n:Nat}{ls:List Lk}(ok:Lok n ls)(hc:Conn n ls){l:List Nat}(nd:l.Nodup)(lt:∀ s∈l,s<n){js:List Int}(hI:∀ k,k<l.length->Opt (fun i j=>farD ls (l.getD i 0) (l.getD j 0)) (bl ((2^l.length-1)^^^2^k)) (js.getD k 0)){x:Nat}(hx:x<n){m:Int}
  (h1:m∈(KO l.length).map fun k=>farD ls (l.getD k 0) x+js.getD k 0) (h2:∀ y∈(KO l.length).map fun k=>farD ls (l.getD k 0) x+js.getD k 0,m<=y):Opt (farD ls) (tog l x) m:=by
 have hw:∀ l∈ls,0<=l.2.2:=fun l hl=>(ok.w0 l hl).1;have at':∀ s∈l,l.idxOf s<l.length/\l.getD (l.idxOf s) 0=s:=fun s hs=>by
  have h:=List.idxOf_lt_length_of_mem hs;refine⟨h,?_⟩;rw[JE,JB h];exact List.getElem_idxOf h
 have mem':∀ k,k<l.length->l.getD k 0∈l:=fun k hk=>by
  rw[JE,JB hk];exact KC _
 refine Opt.turn (CV hw hc) (FW hw) nd lt hx (R:=fun s=>js.getD (l.idxOf s) 0) (fun s hs=>?_) ?_ (fun s hs=>?_)
 ·obtain⟨g1,g2⟩:=at' s hs;have:=Opt.but nd g1 (hI _ g1);rw[g2]at this;exact this
 ·obtain⟨k,hk,e⟩:=Kk.mp h1;have hk':=KS.mp hk;refine⟨l.getD k 0,mem' k hk',?_⟩;have ei:l.idxOf (l.getD k 0)=k:=by
   rw[JE,JB hk'];exact nd.idxOf_getElem k hk'
  rw[← e];show _=farD ls (l.getD k 0) x+js.getD (l.idxOf (l.getD k 0)) 0;rw[ei]
 ·obtain⟨g1,g2⟩:=at' s hs;have:=h2 _ (Kk.mpr ⟨l.idxOf s,KS.mpr g1,rfl⟩);rw[g2]at this;exact this
structure TxtZ(mg:Str->Option Value):Prop extends Txt mg where
 n_zip:mg "zip" = none
noncomputable def aK(mk:Nat):Nat:=(bl mk).getD 0 0
theorem qe{mk n:Nat}(h:mk<2^n)(n1:1<=n):aK mk<n:=by
 unfold aK;rw[JE]
 cases e:(bl mk)[0]? with
 |none=>exact n1
 |some x=>exact lA h (JG e)
theorem Bl{mk n:Nat}(h:mk<2^n)(n1:1<=n)(ev:(bl mk).length%2=0)(few:(bl mk).length<=14):(mk^^^2^aK mk)<2^n/\(bl (mk^^^2^aK mk)).length<=14/\(bl (mk^^^2^aK mk)).length%2=1/\1<=(bl (mk^^^2^aK mk)).length:=by
 have hl:=qe h n1;refine⟨Ls h (KG (by decide) hl),?_⟩
 have e:=(iD mk (aK mk)).length_eq;rw[e];unfold tog;by_cases c:aK mk∈bl mk
 ·rw[if_pos c,MT,if_pos c];have:0<(bl mk).length:=Mt c;omega
 ·rw[if_neg c,Ke];have e0:(bl mk).length=0:=by
   cases z:bl mk with
   |nil=>rfl
   |cons x r =>
    refine absurd ?_ c;unfold aK;rw[z];exact JO ..
  omega
noncomputable def TdAt(n:Nat)(ls:List Lk)(H:Hp)(v:V)(s:Nat):Prop:=∃ ta TL VL,v=.ref ta/\H ta=some (.lst (TL.map oV))/\FI n ls s MM TL VL [] (fun _ _=>False)
theorem TdAt.lt{n:Nat}{ls:List Lk}{H H':Hp}{v:V}{s:Nat}(h:TdAt n ls H v s)(k:∀ b xs,H b=some (.lst xs)->H' b=some (.lst xs)):TdAt n ls H' v s:=by
 obtain⟨ta,TL,VL,e,h1,h2⟩:=h;exact⟨ta,TL,VL,e,k _ _ h1,h2⟩
theorem GA{TT tb:Addr}{H H':Hp}{kvs:List (Key×V)}(h:Tb lqF lpF TT H)(htb:H tb=some (.dK kvs))(sT:TbS tb H H'):Tb lqF lpF TT H':=mi h fun b hb=>by
 have hs:∃ o,H b=some o/\b≠tb:=by
  rcases hb with rfl | ⟨c',hb⟩
  ·rcases h with q | ⟨_,q,_⟩
   ·exact⟨_,q,fun z=>by rw[z,htb]at q;cases q⟩
   ·exact⟨_,q,fun z=>by rw[z,htb]at q;cases q⟩
  ·exact⟨_,hb,fun z=>by rw[z,htb]at hb;cases hb⟩
 obtain⟨o,h1,h2⟩:=hs;rw[h1];exact sT _ _ h2 h1
noncomputable def dO (ls:List Lk) (l:List Nat) (i j:Nat):Int:=farD ls (l.getD i 0) (l.getD j 0)
noncomputable def RwO(ls:List Lk)(l:List Nat)(H:Hp)(v:V)(s:Nat):Prop:=∃ p,v=V.ref p/\H p=some (.lst (l.map fun x=>V.int (farD ls s x)))
noncomputable def xK:Sp:=fun vs H Q _=>∃ mk:Nat,vs = [.int (mk:Int)]/\mk<1099511627776/\∀ H',Same H H'->Q (.int ((aK mk:Nat):Int)) H'
noncomputable def HS(TT:Addr):Sp:=fun vs H Q _=>∃(v:V)(n mk:Nat)(ls:List Lk),vs = [.int (n:Int),v,.int (mk:Int)]/\LnAt H v ls/\Lok n ls/\1<=n/\Conn n ls/\mk<2^n/\(bl mk).length%2=0/\(bl mk).length<=14/\Tb lqF lpF TT H /\
 ∀(p:Addr)(cs:List Int) H',SmT H H'->Tb lqF lpF TT H'->H' p=some (.lst (cs.map fun c=>V.int (cs.getD (aK mk) 0-c)))->cs.length=n->(∀ x,x<n->Opt (farD ls) (bl (mk^^^2^aK mk^^^2^x)) (cs.getD x 0))->Q (.ref p) H'
section
variable{P:Program}{w:World}{K:JH}{mg:Str->Option Value}{base:Heap}
theorem yU:aD ["marks"] ["marks"] (ai eu):=by ac_nf
theorem Im{f f1:Addr}{fd fd1:FuncData} (F:Fun K "root_of" "root_of" eu f fd) (G_bits:Cal P w K mg base 1 "bits" ["mask"] jb f1 fd1):FnOk P w K mg base CX0 2 f fd ["marks"] xK:=by
 refine F.ok yU (fun vs H Q E h=>?_) (fun cdv A outer s H vs Q E hr h=>?_)
 ·obtain⟨mk,rfl,_⟩:=h;rfl
 obtain⟨mk,rfl,mlt,kk⟩:=h;refine⟨_,(aq (aJ (qi (az j4 (pv 0) ah (aB _)) (aC aP (av G_bits.ok (hr.mono (by decide)) rfl G_bits.mg G_bits.kp G_bits.bn .nil aR (ae (pv 0) aj)) ah (fun _ _=>rfl)) ah))),?_⟩
 refine⟨_,rfl,rfl,_,rfl,?_⟩;by_cases c0:mk=0
 ·subst c0;refine FO rfl ?_;have e:aK 0=0:=by unfold aK;rw[nU];rfl
  have:=kk H fun _ _ e=>e;rw[e]at this;exact this
 ·refine ite2 (fun _=>?_) (fun z=>absurd (by rw[decide_eq_false (fun y=>c0 (by have:=V.int.inj y;omega))];rfl) z)
  refine⟨_,rfl,(mk:Int),rfl,by omega,by omega,fun r H1 s1 _ hr1=>?_⟩
  rw[JL]at hr1;obtain⟨x,hx⟩:∃ x,(bl mk)[0]?=some x:=by
   cases z:(bl mk)[0]? with
   |some x=>exact⟨x,rfl⟩
   |none =>
    have:bl mk = []:=by rw[List.getElem?_eq_none_iff]at z;exact LF (by omega)
    have h2:=XL_bl mk;rw[this]at h2;exact absurd h2.symm c0
  have e:aK mk=x:=by unfold aK;rw[JE,hx];rfl
  have hat:atI ((bl mk).map iV) 0=some (iV x):=aN (j:=0) (by rw[JJ,hx];rfl)
  have:=kk H1 s1;rw[e]at this;exact⟨r,_,_,_,rfl,rfl,SqL.of hr1,hat,this⟩
theorem bo:aD ["many","links","marks","root","others","found","between","table","everyone","rests","costs","room"] ["many","links","marks"] (ai eG):=by ac_nf
theorem ok_hts{TT f f1 f2 f3 f4 f5 f6 f8:Addr}{fd fd1 fd2 fd3 fd4 fd5 fd6 fd8:FuncData} (F:Fun K "heights" "heights" eG f fd) (T:TxtZ mg) (G_refuse_marks:Cal P w K mg base 4 "refuse_marks" ["many","links","marks"] ED f1 fd1) (G_bits:Cal P w K mg base 1 "bits" ["mask"] jb f2 fd2) (G_fares:Cal P w K mg base 2 "fares" ["many","links","start"] (pY TT) f3 fd3)
  (G_chosen_of:Cal P w K mg base 1 "chosen_of" ["entries","numbers"] lH f4 fd4) (G_new_table:Cal P w K mg base 1 "new_table" [] pV f5 fd5) (GL:∀(D:Nat->Nat->Int)(m:Nat),(∀ a b,D a b=D b a)->Cal P w K mg base 10 "laid_in_pairs" ["between","chosen","table"] (oW D m 8) f6 fd6)
  (G_root_of:Cal P w K mg base 2 "root_of" ["marks"] xK f8 fd8):FnOk P w K mg base CX0 11 f fd ["many","links","marks"] (HS TT):=by
 refine F.ok bo (fun vs H Q E h=>?_) (fun cdv A outer s H vs Q E hr h=>?_)
 ·obtain⟨v,n,mk,ls,rfl,_⟩:=h;rfl
 obtain⟨v,n,mk,ls,rfl,hV,ok,n1,hc,hmk,ev,few,tb0,kk⟩:=h;have hu:=CO hr;have n40:=ok.n1;have l60:=ok.l9;obtain⟨l,el⟩:∃ l,l=bl (mk^^^2^aK mk):=⟨_,rfl⟩;obtain⟨ob,o14,o2,o1⟩:=Bl hmk n1 ev few;rw[← el]at o14 o2 o1;have nd:l.Nodup:=by rw[el];exact gu _
 have rlt:∀ x∈l,x<n:=fun x hx=>by rw[el]at hx;exact lA ob hx
 have G_laid_in_pairs:=GL (dO ls l) l.length (fun a b=>CU _ _ _);have e40:(2:Nat)^40=1099511627776:=by decide
 have h1:2^n<=2^40:=K0 (by decide) n40
 have mlt:mk<1099511627776:=by omega
 have rn:=qe hmk n1
 refine⟨_,(af (cX (av G_refuse_marks.ok (hr.mono (by decide)) rfl G_refuse_marks.mg G_refuse_marks.kp G_refuse_marks.bn .nil aR (ae (pv 0) (ae (pv 1) (ae (pv 2) aj)))))
   (af (au (i:=3) bo.nd rfl (Or.inr rfl) (av G_root_of.ok (hr.mono (by decide)) rfl G_root_of.mg G_root_of.kp G_root_of.bn .nil aR (ae (pv 2) aj)))
   (af (au (i:=4) bo.nd rfl (Or.inr rfl) (av G_bits.ok (hr.mono (by decide)) rfl G_bits.mg G_bits.kp G_bits.bn .nil aR (ae (ar eN (pv 2) (ar bF ah (pv 3))) aj)))
   (af (cG (i:=5) rfl bo.nd rfl rfl (fr:=[("many",0),("links",1)]) (xs:=["room"]) (dI.of (by rfl) (by decide) (by rfl) (by decide) (by intro p hp;simp only[JI,Kf,or_false]at hp;rcases hp with rfl | rfl<;>exact⟨rfl,rfl⟩) (by decide) (by intro p hp;simp only[JI,Kf,or_false]at hp;rcases hp with rfl | rfl<;>rfl)) (aZ (pv 4)) (fun C ex s H=>(aw (i:=0) (show(["room","many","links"]:List Str).Nodup from by decide) rfl (Or.inl rfl))) (fun C ex s H=>dA) (fun C ex s H=>(aC (bZ (K:=K) rfl) (av G_fares.ok (hr.mono (by decide)) rfl G_fares.mg G_fares.kp G_fares.bn .nil aR (ae (pv 1) (ae (pv 2) (ae (pv 0) aj)))) ah (fun _ _=>rfl))))
   (af (au (i:=6) bo.nd rfl (Or.inr rfl) (iK rfl (fr:=[("others",4)]) (by exact bQ.one (by rfl) (by decide) (by rfl) (by decide) (by rfl) (by decide) (by rfl) (by rfl) (by decide) (by rfl)) (aZ (pv 5)) (fun C ex s H=>(av G_chosen_of.ok (hr.mono (by decide)) rfl G_chosen_of.mg G_chosen_of.kp G_chosen_of.bn .nil aR (ae (pv 0) (ae (pv 1) aj))))))
   (af (au (i:=7) bo.nd rfl (Or.inr rfl) (xY G_new_table.ok (hr.mono (by decide)) rfl G_new_table.mg G_new_table.kp G_new_table.bn .nil aR))
   (af (au (i:=8) bo.nd rfl (Or.inr rfl) (ar ir (ar bF ah (aE aQ (by rfl) T.n_len eX (ae (pv 4) aj))) ah))
   (af (cG (i:=9) rfl bo.nd rfl rfl (fr:=[("table",7),("everyone",8),("between",6)]) (xs:=["number"]) (dI.of (by rfl) (by decide) (by rfl) (by decide) (by intro p hp;simp only[JI,Kf,or_false]at hp;rcases hp with rfl | rfl | rfl<;>exact⟨rfl,rfl⟩) (by decide) (by intro p hp;simp only[JI,Kf,or_false]at hp;rcases hp with rfl | rfl | rfl<;>rfl)) (bz rfl T.n_range (ae (aE aQ (by rfl) T.n_len eX (ae (pv 4) aj)) aj)) (fun C ex s H=>(aw (i:=0) (show(["number","table","everyone","between"]:List Str).Nodup from by decide) rfl (Or.inl rfl))) (fun C ex s H=>dA) (fun C ex s H=>(aC (bZ (K:=K) rfl) (av G_laid_in_pairs.ok (hr.mono (by decide)) rfl G_laid_in_pairs.mg G_laid_in_pairs.kp G_laid_in_pairs.bn .nil aR (ae (pv 3) (ae (ar eN (pv 2) (ar bF ah (pv 0))) (ae (pv 1) aj)))) ah (fun _ _=>rfl))))
   (af (au (i:=10) bo.nd rfl (Or.inr rfl) (jh aj))
   (af (cR PassesOwn.never rfl (bz rfl T.n_range (ae (pv 0) aj)) (aw (i:=11) bo.nd rfl (Or.inr rfl)) (aq (cX (qj K6 Lm Ll dB (pv 10) (ae (aE (DN rfl) (by rfl) T.n_min yA (ae (c7 rfl (fr:=[("room",11)]) (xs:=["told","rest"]) (dI.of (by rfl) (by decide) (by rfl) (by decide) (by intro p hp;simp only[JI,Kf,or_false]at hp;rcases hp with rfl<;>exact⟨rfl,rfl⟩) (by decide) (by intro p hp;simp only[JI,Kf,or_false]at hp;rcases hp with rfl<;>rfl)) (GN rfl T.n_zip (ae (pv 5) (ae (pv 9) aj))) (fun C ex s H=>(fj (n:=2) (K:=K) rfl rfl (aM (aw (i:=0) (show(["told","rest","room"]:List Str).Nodup from by decide) rfl (Or.inl rfl)) (aM (aw (i:=1) (show(["told","rest","room"]:List Str).Nodup from by decide) rfl (Or.inl rfl)) cH)))) (fun C ex s H=>dA) (fun C ex s H=>(ar b8 (aC (jA (K:=K) rfl) (pv 0) (pv 2) (fun _ _=>rfl)) (pv 1)))) aj)) aj)))))
   (aq (aJ (c7 rfl (fr:=[("root",3),("costs",10)]) (xs:=["cost"]) (dI.of (by rfl) (by decide) (by rfl) (by decide) (by intro p hp;simp only[JI,Kf,or_false]at hp;rcases hp with rfl | rfl<;>exact⟨rfl,rfl⟩) (by decide) (by intro p hp;simp only[JI,Kf,or_false]at hp;rcases hp with rfl | rfl<;>rfl)) (aZ (pv 10)) (fun C ex s H=>(aw (i:=0) (show(["cost","root","costs"]:List Str).Nodup from by decide) rfl (Or.inl rfl))) (fun C ex s H=>dA) (fun C ex s H=>(ar ir (aC (jA (K:=K) rfl) (pv 2) (pv 1) (fun _ _=>rfl)) (pv 0)))))))))))))))),?_⟩
 refine⟨_,rfl,_,rfl,_,rfl,v,n,mk,ls,rfl,hV,ok,n1,hc,hmk,ev,few,fun H1 s1=>?_⟩;refine⟨_,rfl,mk,rfl,mlt,fun H1' s1'=>?_⟩;have ex:Builtin.bitXor (mk:Int) (1*2^((aK mk:Nat):Int).toNat)=((mk^^^2^aK mk:Nat):Int):=by rw[shlN,xorN]
 refine⟨_,rfl,_,rfl,_,_,rfl,rfl,⟨by omega,by omega,by decide⟩,_,_,rfl,rfl,?_⟩
 simp only[ex];refine⟨((mk^^^2^aK mk:Nat):Int),rfl,by omega,by omega,fun r H2 s2 hr0 hr2=>?_⟩
 rw[JL]at hr2;have hr2':H2 r=some (.lst (l.map iV)):=by rw[el];exact hr2
 have s12:=s1.trans (s1'.trans s2);have tb2:=bH tb0 s12;have lenm:(l.map iV).length=l.length:=JC ..;refine⟨_,rfl,r,rfl,⟨_,SqL.of hr2'⟩,bE (K:=K) (xs:=l.map iV) (fun i zs H3=>SmT H2 H3/\Tb lqF lpF TT H3/\LsAt (TdAt n ls) H3 zs (l.take i)) (Kw (ax (by omega))) ⟨fun _ _ _ e=>e,tb2,LsAt.nil⟩ (fun i zs H3 _ z=>SqL.of (z.1.lst hr2')) ?_ ?_ ?_⟩
 ·rintro i x zs H3 hx ⟨sm3,tb3,hZ⟩;rw[JJ]at hx;obtain⟨k,hk,rfl⟩:=Km.mp hx;refine⟨rfl,yesT ⟨_,rfl,_,rfl,_,rfl,v,n,k,ls,rfl,LnAt.smT (hV.mono s12) sm3,ok,rlt k (JG hk),tb3,fun t ta va TL VL H4 sm4 tb4 _ _ ht hta hva fi=>?_⟩⟩;have sm34:=TbS.smT sm4 tb3;refine⟨t,_,0,_,rfl,rfl,SqT.of ht,at0,sm3.trans sm34,tb4,?_⟩;rw[Kn,hk];exact(hZ.imp fun _ _ q=>q.lt fun _ _ e=>sm34.lst e).snoc ⟨ta,TL,VL,rfl,hta,fi⟩
 ·rintro zs H3 ⟨sm3,tb3,hZ⟩ fa hfa;rw[lenm,Kr]at hZ;have z4:=ak hfa (.lst zs);have sm24:SmT H2 (upd H3 fa (.lst zs)):=sm3.trans (.of z4);have tb4:=bH tb3 z4;have hZ4:LsAt (TdAt n ls) (upd H3 fa (.lst zs)) zs l:=hZ.imp fun _ _ q=>q.lt fun _ _ e=>z4 _ _ e;have gfa:(upd H3 fa (.lst zs)) fa=some (.lst zs):=ag;generalize upd H3 fa (.lst zs)=H4 at sm24 tb4 hZ4 gfa;have zl:=hZ4.1;have hr4:=sm24.lst hr2';have at':∀ i,i<l.length->l[i]?=some (l.getD i 0):=fun i hi=>by rw[JE,JB hi];rfl
  refine⟨_,rfl,fa,rfl,⟨_,SqL.of gfa⟩,eU (K:=K) (xs:=zs) (fun i ws H5=>Same H4 H5/\LsAt (RwO ls l) H5 ws (l.take i)) (Kw (ax (by omega))) ⟨fun _ _ e=>e,LsAt.nil⟩ (fun i ws H5 _ z=>SqL.of (z.1 _ _ gfa)) ?_ ?_⟩
  ·rintro i x ws H5 hx ⟨s5,hW⟩;obtain⟨s0,hs0,ta,TL,VL,rfl,hta,fi⟩:=hZ4.get hx;have slt:=rlt s0 (JG hs0);refine⟨_,rfl,_,rfl,ta,r,_,l.map fun x=>V.int (farD ls s0 x),l,rfl,s5 _ _ hta,s5 _ _ hr4,JC ..,by omega,fun j k hk=>?_,fun q H6 s6 hq0 hq=>?_⟩
   ·refine⟨.int (farD ls s0 k),?_,by rw[JJ,hk];rfl⟩
    exact vH (fi.is hc slt (rlt k (JG hk)))
   ·refine⟨s5.trans s6,?_⟩;rw[Kn,hs0];exact(hW.imp fun _ _ ⟨p,e,z⟩=>⟨p,e,s6 _ _ z⟩).snoc ⟨q,rfl,hq⟩
  ·rintro ws H5 _ ⟨s5,hW⟩ bv hbv;rw[zl,Kr]at hW;have z6:=ak hbv (.lst ws);refine⟨rfl,fun tb t0 H7 s7 htb0 htb ht0=>?_⟩;have s57:Same H4 H7:=s5.trans (z6.trans s7);have hW7:LsAt (RwO ls l) H7 ws l:=hW.imp fun _ _ ⟨p,e,z⟩=>⟨p,e,s7 _ _ (z6 _ _ z)⟩;have hbv7:H7 bv=some (.lst ws):=s7 _ _ ag
   have bt:BtAt H7 (.ref bv) (dO ls l) l.length:=⟨bv,ws,rfl,hbv7,fun i hi=>by
    obtain⟨y,hy,p,rfl,hp⟩:=hW7.2 i _ (at' i hi)
    exact⟨p,_,hy,hp,fun k hk=>by rw[JJ,at' k hk];rfl⟩⟩
   have ti:TI H7 (dO ls l) l.length [(.inl ((0:Nat):Int),.ref t0)]:=⟨(fun k w e=>by
    by_cases c:(Sum.inl ((0:Nat):Int):Key)=k
    ·rw[a9 c]at e
     cases e
     exact⟨0,c.symm,Lg _,.inl ⟨rfl,t0,_,_,rfl,ht0⟩⟩
    ·rw[bg c]at e
     cases e),⟨_,a9 rfl⟩,Kq.mpr ⟨(by simp),LV⟩⟩
   have hr7:=s57 _ _ hr4;have tb7:=bH tb4 s57;have eL:(1:Int)*2^(((l.map iV).length:Nat):Int).toNat-1=((2^l.length-1:Nat):Int):=by
    rw[lenm,shlN];have:=Lg l.length;omega
   refine⟨_,rfl,r,_,rfl,.inl (SqL.of hr7),_,_,rfl,rfl,⟨by omega,by rw[lenm];omega,by decide⟩,_,_,rfl,rfl,?_⟩
   simp only[eL];refine⟨_,rfl,r,_,rfl,.inl (SqL.of hr7),_,rfl,by omega,by omega,nA (k:=(l.map iV).length) (fun i ys H9=>∃(kvs2:List (Key×V))(js:List Int),TbS tb H7 H9/\H9 tb=some (.dK kvs2)/\TI H9 (dO ls l) l.length kvs2/\ys=js.map V.int/\js.length=i/\∀ k,k<i->Opt (dO ls l) (bl ((2^l.length-1)^^^2^k)) (js.getD k 0)) (Kw (ax (by omega))) ⟨_,[],fun _ _ _ e=>e,htb,ti,rfl,rfl,fun k hk=>absurd hk (LN _)⟩ ?_ ?_ ?_⟩
   ·rintro i ys H9 hi ⟨kvs2,js,sT,htb9,ti9,rfl,jl,hO⟩;rw[lenm]at hi;have e0:(0:Int)+(i:Int)=(i:Int):=L8 _;rw[e0];have ex2:Builtin.bitXor ((2^l.length-1:Nat):Int) (1*2^((i:Nat):Int).toNat)=(((2^l.length-1)^^^2^i:Nat):Int):=by rw[shlN,xorN]
    refine⟨rfl,yesT ⟨_,rfl,_,rfl,_,rfl,_,_,rfl,rfl,⟨by omega,by omega,by decide⟩,_,_,rfl,rfl,?_⟩⟩
    simp only[ex2];have bl1:=Jo hi;have p2:=Lg l.length;refine⟨_,rfl,.ref bv,tb,(2^l.length-1)^^^2^i,kvs2,rfl,bt.mono htb sT,htb9,ti9,Ls (by omega) (KG (by decide) hi),o14,by rw[bl1];omega,by rw[bl1];omega,fun w t kvs' H8 sT' hT' ti' gr hv cv op=>?_⟩
    obtain⟨va,y,z,rfl,hva⟩:=id cv;refine⟨va,_,0,_,rfl,rfl,SqT.of hva,a30,kvs',js++[t],fun b o n e=>sT' b o n (sT b o n e),hT',ti',by rw[Kc];rfl,by rw[JN,jl];rfl,fun k hk=>?_⟩
    by_cases c:k=i
    ·subst c;rw[JE,Ka (by omega),jl,Ln]
     exact op
    ·have:=hO k (by omega)
     rw[JE]at this ⊢;rw[Kj (by omega)]
     exact this
   ·rintro ys H9 ⟨kvs2,js,sT,htb9,ti9,rfl,jl,hO⟩ ra hra;rw[lenm]at jl hO;have lt79:=LT.tbS sT htb;have tb9:=GA tb7 htb sT;have zA:=ak hra (.lst (js.map V.int));have hra':upd H9 ra (.lst (js.map V.int)) ra=some (.lst (js.map V.int)):=ag
    have smA:SmT H (upd H9 ra (.lst (js.map V.int))):=(show SmT H H9 from fun b o no e=>by
     have e4:=sm24 b o no (s12 _ _ e);refine sT _ _ (fun z=>?_) (s57 _ _ e4);subst z
     rw[cV (s5.trans z6) htb0]at e4;cases e4).trans (.of zA)
    have tbA:=bH tb9 zA;have hfaA:upd H9 ra (.lst (js.map V.int)) fa=some (.lst zs):=zA _ _ (lt79.1 _ _ (s57 _ _ gfa));have hZA:LsAt (TdAt n ls) (upd H9 ra (.lst (js.map V.int))) zs l:=hZ4.imp fun _ _ q=>q.lt fun _ _ e=>zA _ _ (lt79.1 _ _ (s57 _ _ e));generalize upd H9 ra (.lst (js.map V.int))=HA at hra' smA tbA hfaA hZA;refine⟨(by show 0<=sizeLine;decide),fun ca hca=>?_⟩
    have zB:=ak hca (.lst []);refine⟨_,rfl,_,rfl,by omega,by omega,gi (n:=n) (fun i σ H3=>∃(v11:Option V)(cs:List Int),σ = [some (.int (n:Int)),some v,some (.int (mk:Int)),some (.int ((aK mk:Nat):Int)),some (.ref r),some (.ref fa),some (.ref bv),some (.ref tb),some (.int ((2^l.length-1:Nat):Int)),some (.ref ra),some (.ref ca),v11]/\Same HA H3/\H3 ca=some (.lst (cs.map V.int))/\cs.length=i/\∀ x,x<i->Opt (farD ls) (tog l x) (cs.getD x 0)) ⟨_,[],rfl,zB,ag,rfl,fun x hx=>absurd hx (LN _)⟩ ?_ ?_⟩
    ·rintro i σ H3 hi ⟨v11,cs,rfl,s3,hca3,cl,hO3⟩;have e0:(0:Int)+(i:Int)=(i:Int):=L8 _;rw[e0];refine⟨_,rfl,.inl ⟨rfl,_,SqL.of hca3⟩,_,rfl,_,rfl,fa,ra,rfl,⟨_,SqL.of (s3 _ _ hfaA)⟩,⟨_,SqL.of (s3 _ _ hra')⟩,DH (K:=K) (xs:=zs) (zs:=js.map V.int) (fun j ys H5=>Same H3 H5/\ys=((KO j).map fun k=>farD ls (l.getD k 0) i+js.getD k 0).map V.int) (Kw (ax (by omega))) (by rw[JC];omega) ⟨fun _ _ e=>e,rfl⟩ (fun j ys H5 _ z=>⟨SqL.of (z.1 _ _ (s3 _ _ hfaA)),SqL.of (z.1 _ _ (s3 _ _ hra'))⟩) ?_ ?_ ?_⟩
     ·rintro j x z ys H5 T5 hx hz ⟨s5',rfl⟩ hT5;obtain⟨s0,hs0,ta,TL,VL,rfl,hta,fi⟩:=hZA.get hx;have slt:=rlt s0 (JG hs0);have jlt:j<js.length:=by
       have:=(JD.mp hz).1;rw[JC]at this;exact this
      have ez:z=.int (js.getD j 0):=by
       rw[JJ,JB jlt]at hz
       cases hz
       rw[JE,JB jlt];rfl
      subst ez;have es0:s0=l.getD j 0:=by rw[JE,hs0];rfl
      have s6:=ak hT5 (.tup [.ref ta,.int (js.getD j 0)]);refine⟨T5,_,rfl,SqT.of ag,rfl,_,_,rfl,_,_,rfl,rfl,rfl,yesT ⟨_,rfl,_,rfl,ta,_,_,_,rfl,rfl,SqL.of (s6 _ _ (s5' _ _ (s3 _ _ hta))),aN (vH (fi.is hc slt hi)),_,rfl,_,_,rfl,rfl,s5'.trans s6,?_⟩⟩;rw[MK,Kc,Kc,es0];rfl
     ·rintro ys H5 ⟨s5',rfl⟩ q hq;have zq:=ak hq (.lst (((KO zs.length).map fun k=>farD ls (l.getD k 0) i+js.getD k 0).map V.int));refine⟨q,_,rfl,SqL.of ag,by rw[JC,KY,zl];omega,fun m hm1 hm2=>?_⟩
      rw[zl]at hm1 hm2;have om:=EA ok hc nd rlt hO hi hm1 hm2;have hca5:=zq _ _ (s5' _ _ hca3);refine⟨ca,_,_,rfl,rfl,hca5,ax (by rw[JC];omega),?_⟩
      refine⟨_,cs++[m],rfl,bW (s3.trans (s5'.trans zq)) hca _,by rw[ag,Kc];rfl,by rw[JN,cl];rfl,fun x hx=>?_⟩
      by_cases c:x=i
      ·subst c;rw[JE,Ka (by omega),cl,Ln]
       exact om
      ·have:=hO3 x (by omega)
       rw[JE]at this ⊢;rw[Kj (by omega)]
       exact this
     ·rintro j ys H5 ⟨_,rfl⟩;rw[JC,JC,KY];exact JF _
    ·rintro σ H3 ⟨v11,cs,rfl,s3,hca3,cl,hO3⟩;have csat:∀ k,k<n->(cs.map V.int)[k]?=some (.int (cs.getD k 0)):=fun k hk=>by rw[JJ,JE,JB (by omega)];rfl
     refine⟨_,rfl,ca,rfl,⟨_,SqL.of hca3⟩,bE (K:=K) (xs:=cs.map V.int) (fun i zs H4=>H4=H3/\zs=(cs.take i).map fun c=>V.int (cs.getD (aK mk) 0-c)) (Kw (ax (by rw[JC];omega))) ⟨rfl,rfl⟩ (fun i zs H4 _ z=>by rw[z.1];exact SqL.of hca3) ?_ ?_ ?_⟩
     ·rintro i x zs H4 hx ⟨rfl,rfl⟩;rw[JJ]at hx;obtain⟨k,hk,rfl⟩:=Km.mp hx;refine⟨rfl,yesT ⟨_,rfl,_,rfl,ca,_,_,_,rfl,rfl,SqL.of hca3,aN (csat _ rn),_,rfl,_,_,rfl,rfl,rfl,?_⟩⟩;rw[Kn,hk,Kc];rfl
     ·rintro zs H4 ⟨rfl,rfl⟩ p hp;rw[JC,Kr];have zp:=ak hp (.lst (cs.map fun c=>V.int (cs.getD (aK mk) 0-c)));refine kk p cs _ (smA.trans (.of (s3.trans zp))) (bH tbA (s3.trans zp)) ag cl fun x hx=>?_;refine(hO3 x hx).perm ?_;rw[el];exact(iD _ _).symm
     ·rintro i zs H4 ⟨_,rfl⟩;rw[JC,JZ];omega
   ·rintro i ys H9 ⟨kvs2,js,_,_,_,rfl,jl,_⟩;rw[JC,jl];exact JF _
 ·rintro i zs H3 ⟨_,_,hZ⟩;rw[hZ.1,JZ];omega
end
end KF
namespace HM
noncomputable def par(f:Nat->Bool):Nat->Bool
 |0=>false
 |i+1=>par f i ^^ f i
noncomputable def csw(w:Nat->Nat)(F:Nat->Bool):Nat->Nat
 |0=>0
 |i+1=>csw w F i+cond (F i) (w i) 0
noncomputable def tg(F P:Nat->Bool):Nat->Bool:=fun i=>F i ^^ P i
noncomputable def one(e:Nat):Nat->Bool:=fun i=>i == e
theorem qm(f g:Nat->Bool):∀ n,par (fun i=>f i ^^ g i) n=(par f n ^^ par g n)
 |0=>rfl
 |n+1=>by
  show(par (fun i=>f i ^^ g i) n ^^ (f n ^^ g n))=((par f n ^^ f n) ^^ (par g n ^^ g n));rw[qm f g n]
  cases par f n<;>cases par g n<;>cases f n<;>cases g n<;>rfl
theorem par_congr{f g:Nat->Bool}:∀{n:Nat},(∀ i,i<n->f i=g i)->par f n=par g n
 |0,_=>rfl
 |n+1,h=>by
  show(par f n ^^ f n)=(par g n ^^ g n);rw[par_congr fun i hi=>h i (by omega),h n (by omega)]
theorem mJ{f:Nat->Bool}:∀{n:Nat},(∀ i,i<n->f i=false)->par f n=false
 |0,_=>rfl
 |n+1,h=>by
  show(par f n ^^ f n)=false;rw[mJ fun i hi=>h i (by omega),h n (by omega)]
  rfl
theorem xZ{f:Nat->Bool}{n:Nat}(h:par f n=true):∃ i,i<n/\f i=true:=by
 by_cases c:∃ i,i<n/\f i=true
 ·exact c
 ·rw[mJ fun i hi=>by cases z:f i with | false=>rfl | true=>exact absurd ⟨i,hi,z⟩ c]at h
  cases h
theorem qo{f:Nat->Bool}{e:Nat}:∀{n:Nat},(∀ i,i<n->i≠e->f i=false)->par f n=(decide (e<n)&&f e)
 |0,_=>by simp[par]
 |n+1,h=>by
  show(par f n ^^ f n)=_;rw[qo (e:=e) fun i hi=>h i (by omega)]
  by_cases c:n=e
  ·subst c;simp
  ·rw[h n (by omega) c]
   have:decide (e<n+1)=decide (e<n):=decide_eq_decide.mpr (by omega)
   rw[this,KU]
theorem GP(S:Nat->Bool){c n:Nat}(h:c<n):par (fun v=>S v&&(c == v)) n=S c:=by
 rw[qo (e:=c) fun i _ hi=>by rw[show(c == i)=false from beq_eq_false_iff_ne.mpr (Ne.symm hi),Nq],decide_eq_true h]
 simp
theorem csw_congr{w v:Nat->Nat}{F G:Nat->Bool}:∀{n:Nat},(∀ i,i<n->cond (F i) (w i) 0=cond (G i) (v i) 0)->csw w F n=csw v G n
 |0,_=>rfl
 |n+1,h=>by
  show csw w F n+_=csw v G n+_;rw[csw_congr fun i hi=>h i (by omega),h n (by omega)]
theorem G7{w v:Nat->Nat}{F G:Nat->Bool}:∀{n:Nat},(∀ i,i<n->cond (F i) (w i) 0<=cond (G i) (v i) 0)->csw w F n<=csw v G n
 |0,_=>JF _
 |n+1,h=>by
  have a:=G7 (n:=n) fun i hi=>h i (by omega)
  have b:=h n (by omega)
  show csw w F n+_<=csw v G n+_;omega
theorem DE(w v:Nat->Nat)(F:Nat->Bool):∀ n,csw (fun i=>w i+v i) F n=csw w F n+csw v F n
 |0=>rfl
 |n+1=>by
  show csw (fun i=>w i+v i) F n+_=_;rw[DE w v F n];show _=(csw w F n+cond (F n) (w n) 0)+(csw v F n+cond (F n) (v n) 0)
  cases F n<;>simp<;>omega
theorem l6{w:Nat->Nat}{F Z:Nat->Bool}{n:Nat}(h:∀ i,i<n->Z i=true->w i=0):csw w (tg F Z) n=csw w F n:=csw_congr fun i hi=>by
 unfold tg
 cases z:Z i with
 |false=>rw[KU]
 |true=>rw[h i hi z];cases F i<;>rfl
theorem pj{w:Nat->Nat}{F:Nat->Bool}{e:Nat}:∀{n:Nat},e<n->F e=false->csw w (tg F (one e)) n=csw w F n+w e
 |n+1,h,f=>by
  show csw w (tg F (one e)) n+cond (F n ^^ (n == e)) (w n) 0=csw w F n+cond (F n) (w n) 0+w e;by_cases c:n=e
  ·subst c;rw[f,csw_congr (G:=F) (v:=w) fun i hi=>by show cond (F i ^^ (i == n)) _ _=_;rw[show(i == n)=false from beq_eq_false_iff_ne.mpr (by omega),KU]]
   simp
  ·rw[pj (n:=n) (by omega) f,show(n == e)=false from beq_eq_false_iff_ne.mpr c,KU]
   omega
theorem tg_tg(F P:Nat->Bool):tg (tg F P) P=F:=funext fun i=>by unfold tg;cases F i<;>cases P i<;>rfl
theorem fM{w:Nat->Nat}{F:Nat->Bool}{e n:Nat}(h:e<n)(f:F e=true):csw w (tg F (one e)) n+w e=csw w F n:=by
 have:=pj (w:=w) (F:=tg F (one e)) h (by unfold tg one;rw[f];simp)
 rw[tg_tg]at this;exact this.symm
theorem wW{w:Nat->Nat}{J K P:Nat->Bool}:∀{n:Nat},(∀ i,i<n->P i=true->(J i ^^ K i)=true)->csw w (tg J P) n+csw w (tg K P) n=csw w J n+csw w K n
 |0,_=>rfl
 |n+1,h=>by
  have ih:=wW (w:=w) (J:=J) (K:=K) (P:=P) (n:=n) fun i hi=>h i (by omega)
  have hn:=h n (by omega)
  show csw w (tg J P) n+cond (J n ^^ P n) (w n) 0+(csw w (tg K P) n+cond (K n ^^ P n) (w n) 0)=csw w J n+cond (J n) (w n) 0+(csw w K n+cond (K n) (w n) 0)
  cases p:P n with
  |false=>simp only[KU];omega
  |true =>
   have:=hn p
   cases j:J n<;>cases k:K n<;>rw[j,k]at this<;>simp at this ⊢<;>omega
theorem DC{w:Nat->Nat}{F:Nat->Bool}{e:Nat}:∀{n:Nat},e<n->F e=true->w e<=csw w F n
 |n+1,h,f=>by
  show w e<=csw w F n+cond (F n) (w n) 0;by_cases c:n=e
  ·subst c;rw[f];simp
  ·have:=DC (w:=w) (F:=F) (n:=n) (by omega) f
   omega
theorem Jl{w:Nat->Nat}{F:Nat->Bool}:∀{n:Nat},csw w F n=0->∀ i,i<n->F i=true->w i=0:=fun{n} h i hi f=>by
 have:=DC (w:=w) hi f;omega
section
variable{N n:Nat}{a b:Nat->Nat}
noncomputable def bd(N:Nat)(a b:Nat->Nat)(F:Nat->Bool)(v:Nat):Bool:=par (fun i=>F i&&((a i == v) ^^ (b i == v))) N
theorem cS(F P:Nat->Bool)(v:Nat):bd N a b (tg F P) v=(bd N a b F v ^^ bd N a b P v):=by
 unfold bd;rw[← qm];refine par_congr fun i _=>?_;unfold tg
 cases F i<;>cases P i<;>simp
theorem gy{e:Nat}(h:e<N)(v:Nat):bd N a b (one e) v=((a e == v) ^^ (b e == v)):=by
 unfold bd;rw[qo (e:=e) fun i _ hi=>by unfold one;rw[show(i == e)=false from beq_eq_false_iff_ne.mpr hi,Lq],decide_eq_true h]
 unfold one;simp
theorem Jr(v:Nat):bd N a b (fun _=>false) v=false:=mJ fun i _=>rfl
theorem cut(S F:Nat->Bool):∀{N:Nat},(∀ i,i<N->a i<n/\b i<n)->par (fun i=>F i&&(S (a i) ^^ S (b i))) N=par (fun v=>S v&&bd N a b F v) n
 |0,_=>(mJ fun i _=>by show(S i&&false)=false;rw[Nq]).symm
 |N+1,h=>by
  show(par (fun i=>F i&&(S (a i) ^^ S (b i))) N ^^ (F N&&(S (a N) ^^ S (b N))))=_;rw[cut S F fun i hi=>h i (by omega)]
  have e:par (fun v=>S v&&(F N&&((a N == v) ^^ (b N == v)))) n=(F N&&(S (a N) ^^ S (b N))):=by
   cases F N with
   |false=>exact mJ fun _ _=>by simp
   |true =>
    obtain⟨h1,h2⟩:=h N (by omega)
    rw[Le,← GP S h1,← GP S h2,← qm];refine par_congr fun i _=>?_
    cases S i<;>simp
  rw[← e,← qm];refine par_congr fun v _=>?_;show _=(S v&&(bd N a b F v ^^ (F N&&((a N == v) ^^ (b N == v)))))
  cases S v<;>simp
theorem exits(D:Nat->Bool):∀(c:Nat)(F:Nat->Bool)(r:Nat),csw (fun _=>1) F N<=c->D r=false->(∀ v,D v=false->bd N a b F v=(r == v)) ->
  ∃(e:Nat)(P:Nat->Bool)(y x:Nat),e<N/\F e=true/\P e=false/\(∀ i,P i=true->i<N/\F i=true/\D (a i)=false/\D (b i)=false)/\D y=false/\D x=true/\(∀ v,((a e == v) ^^ (b e == v))=((y == v) ^^ (x == v)))/\(a e=y∨b e=y)/\(D (a e) ^^ D (b e))=true/\∀ v,bd N a b P v=((r == v) ^^ (y == v)):=by
 intro c;induction c with
 |zero =>
  intro F r hc hr hb;have h:=hb r hr;rw[beq_self_eq_true]at h;obtain⟨i,hi,h1⟩:=xZ h;rw[LG]at h1;exact absurd (Jl (w:=fun _=>1) (Nat.le_zero.mp hc) i hi h1.1) (by decide)
 |succ c ih =>
  intro F r hc hr hb;have h:=hb r hr;rw[beq_self_eq_true]at h;obtain⟨i,hi,h1⟩:=xZ h;rw[LG]at h1;obtain⟨f,h2⟩:=h1;obtain⟨z,hz,hl,hd⟩:∃ z,z≠r/\(∀ v,((a i == v) ^^ (b i == v))=((r == v) ^^ (z == v)))/\((a i=r/\b i=z)∨(a i=z/\b i=r)):=by
   by_cases c1:a i=r
   ·refine⟨b i,fun z=>?_,fun v=>by rw[c1],.inl ⟨c1,rfl⟩⟩
    rw[c1,z]at h2;simp at h2
   ·have c2:b i=r:=by
     rw[show(a i == r)=false from beq_eq_false_iff_ne.mpr c1,Np]at h2;exact eq_of_beq h2
    exact⟨a i,c1,fun v=>by rw[c2,M4],.inr ⟨rfl,c2⟩⟩
  cases dz:D z with
  |true =>
   refine⟨i,fun _=>false,r,z,hi,f,rfl,(fun _ hj=>NH hj),hr,dz,hl,hd.elim (fun h=>.inl h.1) (fun h=>.inr h.2),?_,fun v=>by rw[Jr,M3]⟩
   rcases hd with⟨e1,e2⟩ | ⟨e1,e2⟩<;>rw[e1,e2,hr,dz]<;>rfl
  |false =>
   have cF:=fM (w:=fun _=>1) hi f;obtain⟨e,P,y,x,h1,h2,h3,h4,h5,h6,h7,h8,h9,h10⟩:=ih (tg F (one i)) z (by omega) dz fun v hv=>by
    rw[cS,gy hi,hl,hb v hv,← NV,M3,Np]
   have ne:e≠i:=fun z=>by rw[z]at h2;unfold tg one at h2;rw[f]at h2;simp at h2
   have Pi:P i=false:=by
    cases p:P i with
    |false=>rfl
    |true=>have:=(h4 i p).2.1;unfold tg one at this;rw[f]at this;simp at this
   refine⟨e,tg P (one i),y,x,h1,?_,?_,fun j hj=>?_,h5,h6,h7,h8,h9,fun v=>?_⟩
   ·unfold tg one at h2;rw[show(e == i)=false from beq_eq_false_iff_ne.mpr ne,KU]at h2;exact h2
   ·unfold tg one;rw[show(e == i)=false from beq_eq_false_iff_ne.mpr ne,KU];exact h3
   ·by_cases c1:j=i
    ·subst c1;refine⟨hi,f,?_⟩;rcases hd with⟨e1,e2⟩ | ⟨e1,e2⟩<;>rw[e1,e2]<;>exact⟨by assumption,by assumption⟩
    ·unfold tg one at hj;rw[show(j == i)=false from beq_eq_false_iff_ne.mpr c1,KU]at hj;obtain⟨g1,g2,g3⟩:=h4 j hj;unfold tg one at g2;rw[show(j == i)=false from beq_eq_false_iff_ne.mpr c1,KU]at g2;exact⟨g1,g2,g3⟩
   ·rw[cS,gy hi,hl,h10]
    cases (r == v)<;>cases (z == v)<;>cases (y == v)<;>rfl
end
section
variable{N n:Nat}{a b:Nat->Nat}{O D:Nat->Bool}{l m:Nat->Nat}{M0:Nat}
structure Cfg(N n:Nat)(a b:Nat->Nat)(O:Nat->Bool)(l m:Nat->Nat):Prop where
 ends:∀ i,i<N->a i<n/\b i<n
 mn:∀ v,v<n->∃ F,(∀ x,bd N a b F x=(O x ^^ (v == x)))/\csw l F N=m v
 lo:∀ v F,v<n->(∀ x,bd N a b F x=(O x ^^ (v == x)))->m v<=csw l F N
 pr:∀ i,i<N->(l i+m (a i)+m (b i))%2=0
structure Top(N n:Nat)(a b:Nat->Nat)(l m:Nat->Nat)(D:Nat->Bool)(M0:Nat):Prop where
 ne:∃ x,D x=true
 lt:∀ x,D x=true->x<n
 tp:∀ x,D x=true->m x=M0
 low:∀ v,v<n->M0<=m v
 cr:∀ i,i<N->(D (a i) ^^ D (b i))=true->1<=l i
 zc:∀ x y,D x=true->D y=true->∃ Z:Nat->Bool,(∀ i,Z i=true->i<N/\D (a i)=true/\D (b i)=true/\l i=0)/\∀ v,bd N a b Z v=((x == v) ^^ (y == v))
theorem pR{i:Nat}(h:(D (a i) ^^ D (b i))=true):∃ y x,D y=false/\D x=true/\(∀ v,((a i == v) ^^ (b i == v))=((y == v) ^^ (x == v)))/\(a i=y∨b i=y):=by
 cases h1:D (a i) with
 |true =>
  have h2:D (b i)=false:=by rw[h1]at h;simpa using h
  exact⟨b i,a i,h2,h1,fun v=>M4 ..,.inr rfl⟩
 |false =>
  have h2:D (b i)=true:=by rw[h1]at h;simpa using h
  exact⟨a i,b i,h1,h2,fun v=>rfl,.inl rfl⟩
theorem x3(o p q:Bool):((o ^^ p) ^^ (p ^^ q))=(o ^^ q):=by cases o<;>cases p<;>cases q<;>rfl
theorem Cfg.out(C:Cfg N n a b O l m){i y:Nat}(hi:i<N)(h:a i=y∨b i=y):y<n:=by
 obtain⟨h1,h2⟩:=C.ends i hi;rcases h with h | h<;>omega
theorem Cfg.uniq(C:Cfg N n a b O l m)(T:Top N n a b l m D M0){v:Nat}(hv:v<n){J:Nat->Bool}(hb:∀ x,bd N a b J x=(O x ^^ (v == x)))(hc:csw l J N=m v) :
  (D v=false->∃ e,e<N/\J e=true/\(D (a e) ^^ D (b e))=true)/\(D v=true->∀ f,f<N->J f=true->(D (a f) ^^ D (b f))=true->False) /\
  ∀ f g,f<N->g<N->J f=true->J g=true->(D (a f) ^^ D (b f))=true->(D (a g) ^^ D (b g))=true->f=g:=by
 have nout:D v=true->∀ f,f<N->J f=true->(D (a f) ^^ D (b f))=true->False:=fun dv f hf jf xf=>by
  obtain⟨y,x,dy,dx,hl,hy⟩:=pR xf;obtain⟨Z,z1,z2⟩:=T.zc v x dv dx;have c1:=fM (w:=l) hf jf;have c2:=l6 (w:=l) (F:=tg J (one f)) (Z:=Z) (n:=N) fun i _ hi=>(z1 i hi).2.2.2;have yn:=C.out hf hy;have:=C.lo y (tg (tg J (one f)) Z) yn fun w=>by
   rw[cS,cS,gy hf,hl,hb,z2]
   cases (O w)<;>cases (v == w)<;>cases (y == w)<;>cases (x == w)<;>rfl
  have e1:=T.tp v dv;have e2:=T.low y yn;have e3:=T.cr f hf xf;omega
 cases dv:D v with
 |true =>
  refine⟨fun z=>(by cases z),fun _=>nout dv,fun f g hf _ jf _ xf _=>(nout dv f hf jf xf).elim⟩
 |false =>
  obtain⟨t,dt⟩:=T.ne;obtain⟨K,kb,kc⟩:=C.mn t (T.lt t dt);rw[T.tp t dt]at kc;obtain⟨e,P,y,x,h1,h2,h3,h4,h5,h6,h7,h8,h9,h10⟩:=exits (N:=N) (a:=a) (b:=b) D _ (tg J K) v (JF _) dv fun w hw=>by
   rw[cS,hb,kb,show(t == w)=false from beq_eq_false_iff_ne.mpr fun z=>by rw[← z,dt]at hw;cases hw]
   cases (O w)<;>cases (v == w)<;>rfl
  have yn:=C.out h1 h8;have sub:∀ i,i<N->tg P (one e) i=true->(J i ^^ K i)=true:=fun i _ hi=>by
   by_cases c:i=e
   ·rw[c];exact h2
   ·unfold tg one at hi;rw[show(i == e)=false from beq_eq_false_iff_ne.mpr c,KU]at hi;exact(h4 i hi).2.1
  have s1:=wW (w:=l) sub;obtain⟨Z,z1,z2⟩:=T.zc t x dt h6;have bP:∀ w,bd N a b (tg P (one e)) w=((v == w) ^^ (x == w)):=fun w=>by
   rw[cS,gy h1,h7,h10]
   cases (v == w)<;>cases (y == w)<;>cases (x == w)<;>rfl
  have l1:=C.lo x (tg J (tg P (one e))) (T.lt x h6) fun w=>by rw[cS,hb,bP,x3]
  rw[T.tp x h6]at l1;have c2:=l6 (w:=l) (F:=tg K (tg P (one e))) (Z:=Z) (n:=N) fun i _ hi=>(z1 i hi).2.2.2;have l2:=C.lo v (tg (tg K (tg P (one e))) Z) hv fun w=>by
   rw[cS,cS,kb,bP,z2]
   cases (O w)<;>cases (v == w)<;>cases (t == w)<;>cases (x == w)<;>rfl
  have le:=T.cr e h1 h9;have low:=T.low y yn;have Je:J e=true:=by
   cases je:J e with
   |true=>rfl
   |false =>
    have e3:csw l (tg J (tg P (one e))) N=csw l (tg (tg J P) (one e)) N:=csw_congr fun i _=>by unfold tg;rw[NV]
    have c3:=pj (w:=l) (F:=tg J P) h1 (by unfold tg;rw[je,h3];rfl)
    have l3:=C.lo y (tg J P) yn fun w=>by rw[cS,hb,h10,x3]
    omega
  have ue:∀ f,f<N->J f=true->(D (a f) ^^ D (b f))=true->f=e:=fun f hf jf xf=>by
   by_cases c:f=e
   ·exact c
   exfalso;obtain⟨y',x',dy',dx',hl',hy'⟩:=pR xf;have Pf:P f=false:=by
    cases p:P f with
    |false=>rfl
    |true=>obtain⟨_,_,g1,g2⟩:=h4 f p;rw[g1,g2]at xf;cases xf
   obtain⟨Z',z1',z2'⟩:=T.zc x x' h6 dx';have c3:=fM (w:=l) (F:=tg J (tg P (one e))) hf (by unfold tg one;rw[jf,Pf,show(f == e)=false from beq_eq_false_iff_ne.mpr c];rfl)
   have c4:=l6 (w:=l) (F:=tg (tg J (tg P (one e))) (one f)) (Z:=Z') (n:=N) fun i _ hi=>(z1' i hi).2.2.2;have yn':=C.out hf hy';have l3:=C.lo y' (tg (tg (tg J (tg P (one e))) (one f)) Z') yn' fun w=>by
    rw[cS,cS,cS,hb,bP,gy hf,hl',z2']
    cases (O w)<;>cases (v == w)<;>cases (y' == w)<;>cases (x == w)<;>cases (x' == w)<;>rfl
   have:=T.low y' yn';have:=T.cr f hf xf;omega
  exact⟨fun _=>⟨e,h1,Je,h9⟩,fun z=>(by cases z),fun f g hf hg jf jg xf xg=>(ue f hf jf xf).trans (ue g hg jg xg).symm⟩
theorem Cfg.ring(C:Cfg N n a b O l m){R:Nat->Bool}(h:∀ x,bd N a b R x=false):csw l R N%2=0:=by
 have e:∀ k,k<=N->csw l R k%2=cond (par (fun i=>R i&&((m (a i)%2 == 1) ^^ (m (b i)%2 == 1))) k) 1 0:=by
  intro k;induction k with
  |zero=>intro _;rfl
  |succ k ih =>
   intro hk;have i1:=ih (by omega)
   have p:=C.pr k (by omega)
   show(csw l R k+cond (R k) (l k) 0)%2=cond (par (fun i=>R i&&((m (a i)%2 == 1) ^^ (m (b i)%2 == 1))) k ^^ (R k&&((m (a k)%2 == 1) ^^ (m (b k)%2 == 1)))) 1 0;have d1:m (a k)%2=0∨m (a k)%2=1:=by omega
   have d2:m (b k)%2=0∨m (b k)%2=1:=by omega
   cases R k<;>cases hp:par (fun i=>R i&&((m (a i)%2 == 1) ^^ (m (b i)%2 == 1))) k<;>rw[hp]at i1<;>rcases d1 with d1 | d1<;>rcases d2 with d2 | d2<;>rw[d1,d2]<;>simp at i1 ⊢<;>omega
 rw[e N (JF _),cut (fun v=>m v%2 == 1) R C.ends,mJ fun v _=>by rw[h v,Nq]]
 rfl
theorem DD{l:Nat->Nat}{F G:Nat->Bool}:∀ n,(csw l (tg F G) n+csw l F n+csw l G n)%2=0
 |0=>rfl
 |n+1=>by
  have:=DD (l:=l) (F:=F) (G:=G) n;show(csw l (tg F G) n+cond (F n ^^ G n) (l n) 0+(csw l F n+cond (F n) (l n) 0)+(csw l G n+cond (G n) (l n) 0))%2=0
  cases F n<;>cases G n<;>simp<;>omega
noncomputable def chi(D:Nat->Bool)(a b:Nat->Nat)(i:Nat):Nat:=cond (D (a i) ^^ D (b i)) 1 0
noncomputable def rho(D J:Nat->Bool)(a b:Nat->Nat)(i:Nat):Nat:=cond (D (a i) ^^ D (b i)) (cond (J i) 0 1) 0
theorem Cfg.low2(C:Cfg N n a b O l m)(T:Top N n a b l m D M0){v:Nat}(hv:v<n){J:Nat->Bool}(hb:∀ x,bd N a b J x=(O x ^^ (v == x)))(hc:csw l J N=m v) :
  ∀(q:Nat)(K:Nat->Bool),csw (rho D J a b) K N<=q->(∀ x,bd N a b K x=(O x ^^ (v == x)))->m v+csw (chi D a b) K N<=csw l K N+csw (chi D a b) J N:=by
 intro q;induction q using Nf with
 |ind q ih =>
 intro K hq kb;have kl:=C.lo v K hv kb;by_cases c:∃ f,f<N/\K f=true/\(D (a f) ^^ D (b f))=true/\J f=false
 ·obtain⟨f1,hf1,k1,xf1,j1⟩:=c;obtain⟨y1,x1,dy1,dx1,hl1,hy1⟩:=pR xf1;obtain⟨f2,P,y2,x2,h1,h2,h3,h4,h5,h6,h7,h8,h9,h10⟩:=exits (N:=N) (a:=a) (b:=b) D _ (tg (tg K J) (one f1)) y1 (JF _) dy1 fun w hw=>by
   rw[cS,cS,gy hf1,hl1,kb,hb,show(x1 == w)=false from beq_eq_false_iff_ne.mpr fun z=>by rw[← z,dx1]at hw;cases hw]
   cases (O w)<;>cases (v == w)<;>cases (y1 == w)<;>rfl
  have n21:f2≠f1:=fun z=>by rw[z]at h2;unfold tg one at h2;rw[k1,j1]at h2;simp at h2
  have F2:(K f2 ^^ J f2)=true:=by
   unfold tg one at h2;rw[show(f2 == f1)=false from beq_eq_false_iff_ne.mpr n21,KU]at h2;exact h2
  have P1:P f1=false:=by
   cases p:P f1 with
   |false=>rfl
   |true=>obtain⟨_,_,g1,g2⟩:=h4 f1 p;rw[g1,g2]at xf1;cases xf1
  obtain⟨Z,z1,z2⟩:=T.zc x1 x2 dx1 h6;have Z1:∀ f,(D (a f) ^^ D (b f))=true->Z f=false:=fun f xf=>by
   cases p:Z f with
   |false=>rfl
   |true=>obtain⟨_,g1,g2,_⟩:=z1 f p;rw[g1,g2]at xf;cases xf
  obtain⟨R,hR⟩:∃ R,R=tg (tg P (one f1)) (one f2):=⟨_,rfl⟩;have subR:∀ i,i<N->R i=true->(J i ^^ K i)=true:=fun i _ hi=>by
   rw[M4];by_cases c1:i=f1
   ·rw[c1,k1,j1];rfl
   by_cases c2:i=f2
   ·rw[c2];exact F2
   rw[hR]at hi;unfold tg one at hi;rw[show(i == f1)=false from beq_eq_false_iff_ne.mpr c1,show(i == f2)=false from beq_eq_false_iff_ne.mpr c2,KU,KU]at hi;have:=(h4 i hi).2.1;unfold tg one at this;rw[show(i == f1)=false from beq_eq_false_iff_ne.mpr c1,KU]at this;exact this
  have sm:=wW (w:=l) subR;have zl:∀{F:Nat->Bool},csw l (tg F Z) N=csw l F N:=l6 fun i _ hi=>(z1 i hi).2.2.2;have bR:∀ w,bd N a b R w=((x1 == w) ^^ (x2 == w)):=fun w=>by
   rw[hR,cS,cS,gy hf1,gy h1,hl1,h7,h10]
   cases (y1 == w)<;>cases (y2 == w)<;>cases (x1 == w)<;>cases (x2 == w)<;>rfl
  have bJ:∀ w,bd N a b (tg (tg J R) Z) w=(O w ^^ (v == w)):=fun w=>by
   rw[cS,cS,hb,bR,z2]
   cases (O w)<;>cases (v == w)<;>cases (x1 == w)<;>cases (x2 == w)<;>rfl
  have bK:∀ w,bd N a b (tg (tg K R) Z) w=(O w ^^ (v == w)):=fun w=>by
   rw[cS,cS,kb,bR,z2]
   cases (O w)<;>cases (v == w)<;>cases (x1 == w)<;>cases (x2 == w)<;>rfl
  have lJ:=C.lo v _ hv bJ;rw[zl]at lJ;have cross:∀{w:Nat->Nat}{F:Nat->Bool},(∀ i,(D (a i) ^^ D (b i))=false->w i=0)->csw w (tg (tg F R) Z) N=csw w (tg (tg F (one f1)) (one f2)) N:=fun{w F} h0=>csw_congr fun i hi=>by
   cases xi:(D (a i) ^^ D (b i)) with
   |false=>rw[h0 i xi];cases tg (tg F R) Z i<;>cases tg (tg F (one f1)) (one f2) i<;>rfl
   |true =>
    have Pi:P i=false:=by
     cases p:P i with
     |false=>rfl
     |true=>obtain⟨_,_,g1,g2⟩:=h4 i p;rw[g1,g2]at xi;cases xi
    have:tg (tg F R) Z i=tg (tg F (one f1)) (one f2) i:=by
     rw[hR];unfold tg;rw[Z1 i xi,Pi]
     cases F i<;>cases one f1 i<;>cases one f2 i<;>rfl
    rw[this]
  have x0:∀ i,(D (a i) ^^ D (b i))=false->chi D a b i=0:=fun i h=>by unfold chi;rw[h];rfl
  have q0:∀ i,(D (a i) ^^ D (b i))=false->rho D J a b i=0:=fun i h=>by unfold rho;rw[h];rfl
  have xa:chi D a b f1=1:=by unfold chi;rw[xf1];rfl
  have xb:chi D a b f2=1:=by unfold chi;rw[h9];rfl
  have k2':tg K (one f1) f2=K f2:=by unfold tg one;rw[show(f2 == f1)=false from beq_eq_false_iff_ne.mpr n21,KU]
  have o1:=fM (w:=chi D a b) hf1 k1;have o2:=fM (w:=rho D J a b) hf1 k1;have w1:rho D J a b f1=1:=by unfold rho;rw[xf1,j1];rfl
  rw[w1]at o2;rw[xa]at o1;have cK:=cross (F:=K) x0;have cQ:=cross (F:=K) q0;have zK:=zl (F:=tg K R)
  cases j2:J f2 with
  |true =>
   have k2:K f2=false:=by rw[j2]at F2;simpa using F2
   have p1:=pj (w:=chi D a b) (F:=tg K (one f1)) h1 (by rw[k2'];exact k2)
   have p2:=pj (w:=rho D J a b) (F:=tg K (one f1)) h1 (by rw[k2'];exact k2)
   have w2:rho D J a b f2=0:=by unfold rho;rw[j2];cases (D (a f2) ^^ D (b f2))<;>rfl
   rw[w2]at p2;have:=ih (q-1) (by omega) (tg (tg K R) Z) (by omega) bK
   omega
  |false =>
   have k2:K f2=true:=by rw[j2]at F2;simpa using F2
   have p1:=fM (w:=chi D a b) (F:=tg K (one f1)) h1 (by rw[k2'];exact k2)
   have p2:=fM (w:=rho D J a b) (F:=tg K (one f1)) h1 (by rw[k2'];exact k2)
   have J1:tg (tg J R) Z f1=true:=by
    rw[hR];unfold tg one;rw[Z1 f1 xf1,j1,P1,show(f1 == f2)=false from beq_eq_false_iff_ne.mpr (Ne.symm n21)];simp
   have J2:tg (tg J R) Z f2=true:=by
    rw[hR];unfold tg one;rw[Z1 f2 h9,j2,h3,show(f2 == f1)=false from beq_eq_false_iff_ne.mpr n21];simp
   have lJ2:csw l (tg J R) N≠m v:=fun z=>n21 ((C.uniq T hv bJ (by rw[zl];exact z)).2.2 f2 f1 h1 hf1 J2 J1 h9 xf1)
   have rg:=C.ring (R:=tg R Z) fun w=>by rw[cS,bR,z2,M3]
   rw[zl]at rg;have pa:=DD (l:=l) (F:=J) (G:=R) N;have:=ih (q-1) (by omega) (tg (tg K R) Z) (by omega) bK
   omega
 ·have:csw (chi D a b) K N<=csw (chi D a b) J N:=G7 fun i hi=>by
   cases ki:K i with
   |false=>exact Ky _
   |true =>
    cases xi:(D (a i) ^^ D (b i)) with
    |false=>unfold chi;rw[xi];cases J i<;>exact JF _
    |true =>
     cases ji:J i with
     |true=>exact JF _
     |false=>exact absurd ⟨i,hi,ki,xi,ji⟩ c
  omega
theorem l7{w:Nat->Nat}{F:Nat->Bool}:∀{n:Nat},(∀ i,i<n->F i=true->w i=0)->csw w F n=0
 |0,_=>rfl
 |n+1,h=>by
  show csw w F n+cond (F n) (w n) 0=0;rw[l7 fun i hi=>h i (by omega)]
  cases f:F n with
  |false=>rfl
  |true=>rw[Mi];exact h n (by omega) f
theorem Cfg.one_out(C:Cfg N n a b O l m)(T:Top N n a b l m D M0){v:Nat}(hv:v<n){J:Nat->Bool}(hb:∀ x,bd N a b J x=(O x ^^ (v == x)))(hc:csw l J N=m v):csw (chi D a b) J N=cond (D v) 0 1:=by
 obtain⟨h1,h2,h3⟩:=C.uniq T hv hb hc;have x0:∀{i:Nat},¬ (D (a i) ^^ D (b i))=true->chi D a b i=0:=fun{i} h=>by unfold chi;rw[Bool.not_eq_true _ |>.mp h];rfl
 cases dv:D v with
 |true=>exact l7 fun i hi ji=>x0 (h2 dv i hi ji)
 |false =>
  obtain⟨e,he,je,xe⟩:=h1 dv;have o:=fM (w:=chi D a b) he je;have z:csw (chi D a b) (tg J (one e)) N=0:=l7 fun i hi ji=>x0 fun xi=>by
   by_cases c:i=e
   ·rw[c]at ji;unfold tg one at ji;rw[je]at ji;simp at ji
   ·unfold tg one at ji;rw[show(i == e)=false from beq_eq_false_iff_ne.mpr c,KU]at ji;exact c (h3 i e hi he ji je xi xe)
  have x1:chi D a b e=1:=by unfold chi;rw[xe];rfl
  rw[z,x1]at o;exact o.symm
theorem Cfg.odd(C:Cfg N n a b O l m)(T:Top N n a b l m D M0){v:Nat}(hv:v<n)(dv:D v=false):par (fun x=>D x&&(O x ^^ (v == x))) n=true:=by
 obtain⟨J,hb,hc⟩:=C.mn v hv;obtain⟨h1,_,h3⟩:=C.uniq T hv hb hc;obtain⟨e,he,je,xe⟩:=h1 dv;have c:=cut (n:=n) D J C.ends;have c2:par (fun x=>D x&&bd N a b J x) n=par (fun x=>D x&&(O x ^^ (v == x))) n:=par_congr fun x _=>by rw[hb]
 rw[← c2,← c,qo (e:=e) fun i hi ne=>?_,decide_eq_true he,je,xe]
 ·rfl
 ·cases ji:J i with
  |false=>rfl
  |true =>
   cases xi:(D (a i) ^^ D (b i)) with
   |false=>rfl
   |true=>exact absurd (h3 i e hi he ji je xi xe) ne
theorem Cfg.step(C:Cfg N n a b O l m)(T:Top N n a b l m D M0):Cfg N n a b O (fun i=>l i-chi D a b i) (fun v=>m v-cond (D v) 0 1)/\∀ v,v<n->D v=false->1<=m v:=by
 have le:∀ i,i<N->chi D a b i<=l i:=fun i hi=>by
  unfold chi
  cases x:(D (a i) ^^ D (b i)) with
  |false=>exact Ky _
  |true=>exact T.cr i hi x
 have sp:∀ F,csw l F N=csw (fun i=>l i-chi D a b i) F N+csw (chi D a b) F N:=fun F=>by
  rw[← DE];exact csw_congr fun i hi=>by rw[Nat.sub_add_cancel (le i hi)]
 have pos:∀ v,v<n->D v=false->1<=m v:=fun v hv dv=>by
  obtain⟨J,hb,hc⟩:=C.mn v hv;have:=C.one_out T hv hb hc;rw[dv]at this;have s:=sp J;rw[this,hc]at s;simp at s;omega
 refine⟨⟨C.ends,fun v hv=>?_,fun v F hv fb=>?_,fun i hi=>?_⟩,pos⟩
 ·obtain⟨J,hb,hc⟩:=C.mn v hv;refine⟨J,hb,?_⟩;have:=C.one_out T hv hb hc;have s:=sp J;rw[this,hc]at s;omega
 ·obtain⟨J,hb,hc⟩:=C.mn v hv;have o:=C.one_out T hv hb hc;have:=C.low2 T hv hb hc _ F (JF _) fb;have s:=sp F;show m v-cond (D v) 0 1<=_;omega
 ·have p:=C.pr i hi
  have e:=le i hi;obtain⟨ea,eb⟩:=C.ends i hi;have pa:=pos (a i) ea;have pb:=pos (b i) eb;show(l i-chi D a b i+(m (a i)-cond (D (a i)) 0 1)+(m (b i)-cond (D (b i)) 0 1))%2=0;unfold chi at e ⊢
  cases da:D (a i)<;>cases db:D (b i)<;>rw[da,db]at e<;>simp at e ⊢<;>(try have:=pa da)<;>(try have:=pb db)<;>omega
noncomputable def cn:List (Nat->Bool)->Nat->Nat
 |[],_=>0
 |D::Ds,v=>cond (D v) 0 1+cn Ds v
noncomputable def cx(a b:Nat->Nat):List (Nat->Bool)->Nat->Nat
 |[],_=>0
 |D::Ds,i=>chi D a b i+cx a b Ds i
noncomputable def jQ(D E:Nat->Bool):Prop:=∀ x,D x=true->E x=true->False
structure Pce(N n:Nat)(a b:Nat->Nat)(l m:Nat->Nat)(D:Nat->Bool)(M0:Nat):Prop where
 ne:∃ x,D x=true
 lt:∀ x,D x=true->x<n
 tp:∀ x,D x=true->m x=M0
 zc:∀ x y,D x=true->D y=true->∃ Z:Nat->Bool,(∀ i,Z i=true->i<N/\D (a i)=true/\D (b i)=true/\l i=0)/\∀ v,bd N a b Z v=((x == v) ^^ (y == v))
theorem G9{i:Nat}{E:Nat->Bool}(h1:D (a i)=true)(h2:D (b i)=true)(h:jQ D E):chi E a b i=0:=by
 unfold chi;have e1:E (a i)=false:=by cases z:E (a i)with | false=>rfl | true=>exact(h _ h1 z).elim
 have e2:E (b i)=false:=by cases z:E (b i)with | false=>rfl | true=>exact(h _ h2 z).elim
 rw[e1,e2];rfl
theorem Cfg.many:∀(Ds:List (Nat->Bool)){l m:Nat->Nat}{M0:Nat},Cfg N n a b O l m->(∀ D∈Ds,Pce N n a b l m D M0)->(∀ v,v<n->M0<=m v)->(∀ D∈Ds,∀ i,i<N->(D (a i) ^^ D (b i))=true->cx a b Ds i<=l i)->Ds.Pairwise jQ ->
  Cfg N n a b O (fun i=>l i-cx a b Ds i) (fun v=>m v-cn Ds v)/\(∀ v,v<n->cn Ds v<=m v)/\∀ D∈Ds,∀ v,v<n->D v=false->par (fun x=>D x&&(O x ^^ (v == x))) n=true
 |[],l,m,M0,C,_,_,_,_=>⟨by simpa only[cx,cn,Nd] using C,fun v _=>Ky _,fun D h=>by cases h⟩
 |D::Ds,l,m,M0,C,hp,low,cr,ap=>by
  obtain⟨ap1,ap2⟩:=Mk.mp ap;have pD:=hp D (JO ..)
  have T:Top N n a b l m D M0:=⟨pD.ne,pD.lt,pD.tp,low,fun i hi x=>by
   have:=cr D (JO ..) i hi x;have x1:chi D a b i=1:=by unfold chi;rw[x];rfl
   have:cx a b (D::Ds) i=chi D a b i+cx a b Ds i:=rfl
   omega,pD.zc⟩
  obtain⟨C1,pos⟩:=C.step T;have hE1:∀ E∈Ds,Pce N n a b (fun i=>l i-chi D a b i) (fun v=>m v-cond (D v) 0 1) E (M0-1):=fun E hE=>by
   have pE:=hp E (JK _ hE);refine⟨pE.ne,pE.lt,fun x hx=>?_,fun x y hx hy=>?_⟩
   ·show m x-cond (D x) 0 1=M0-1;have:D x=false:=by cases z:D x with | false=>rfl | true=>exact(ap1 E hE x z hx).elim
    rw[this,pE.tp x hx];rfl
   ·obtain⟨Z,z1,z2⟩:=pE.zc x y hx hy;refine⟨Z,fun i hi=>?_,z2⟩;obtain⟨q1,q2,q3,q4⟩:=z1 i hi;exact⟨q1,q2,q3,by show l i-chi D a b i=0;omega⟩
  have hE2:∀ v,v<n->M0-1<=m v-cond (D v) 0 1:=fun v hv=>by
   have:=low v hv
   cases D v<;>simp<;>omega
  have hE3:∀ E∈Ds,∀ i,i<N->(E (a i) ^^ E (b i))=true->cx a b Ds i<=l i-chi D a b i:=fun E hE i hi xi=>by
   have:=cr E (JK _ hE) i hi xi;have:cx a b (D::Ds) i=chi D a b i+cx a b Ds i:=rfl;omega
  obtain⟨g1,g2,g3⟩:=Cfg.many Ds C1 hE1 hE2 hE3 ap2;refine⟨?_,fun v hv=>?_,fun E hE v hv dv=>?_⟩
  ·have e1:(fun i=>l i-cx a b (D::Ds) i)=fun i=>l i-chi D a b i-cx a b Ds i:=funext fun i=>Nm ..
   have e2:(fun v=>m v-cn (D::Ds) v)=fun v=>m v-cond (D v) 0 1-cn Ds v:=funext fun v=>Nm ..;rw[e1,e2];exact g1
  ·have:=g2 v hv
   have p:=pos v hv;show cond (D v) 0 1+cn Ds v<=m v
   cases dv:D v with
   |true=>rw[dv]at this;simpa using this
   |false=>rw[dv]at this;have:=p dv;simp at *;omega
  ·rcases JI.mp hE with h | h
   ·rw[h]at dv ⊢;exact C.odd T hv dv
   ·exact g3 E h v hv dv
theorem Ge:∀{Ds:List (Nat->Bool)}{v:Nat},(∀ D∈Ds,D v=false)->cn Ds v=Ds.length
 |[],_,_=>rfl
 |D::Ds,v,h=>by
  show cond (D v) 0 1+cn Ds v=_;rw[h D (JO ..),Ge fun E hE=>h E (JK _ hE),Ke];simp;omega
theorem Gf:∀{Ds:List (Nat->Bool)}{v:Nat},Ds.Pairwise jQ->D∈Ds->D v=true->cn Ds v+1=Ds.length
 |E::Ds,v,ap,h,dv=>by
  obtain⟨ap1,ap2⟩:=Mk.mp ap;show cond (E v) 0 1+cn Ds v+1=_;rw[Ke];rcases JI.mp h with h | h
  ·rw[← h,dv,Ge fun F hF=>by cases z:F v with | false=>rfl | true=>exact(ap1 F hF v (by rw[← h];exact dv) z).elim]
   simp
  ·have e:E v=false:=by cases z:E v with | false=>rfl | true=>exact(ap1 D h v z dv).elim
   have:=Gf ap2 h dv;rw[e];simp;omega
theorem cx_in:∀{Ds:List (Nat->Bool)}{i:Nat},Ds.Pairwise jQ->D∈Ds->D (a i)=true->D (b i)=true->cx a b Ds i=0
 |E::Ds,i,ap,h,da,db=>by
  obtain⟨ap1,ap2⟩:=Mk.mp ap;show chi E a b i+cx a b Ds i=0;rcases JI.mp h with h | h
  ·have e:∀ Fs:List (Nat->Bool),(∀ F∈Fs,jQ D F)->cx a b Fs i=0:=fun Fs=>by
    induction Fs with
    |nil=>intro _;rfl
    |cons F Fs ih=>intro hF;show chi F a b i+cx a b Fs i=0;rw[G9 da db (hF F (JO ..)),ih fun G hG=>hF G (JK _ hG)]
   rw[e Ds fun F hF=>by rw[h];exact ap1 F hF]
   unfold chi;rw[← h,da,db];rfl
  ·rw[G9 da db fun x hx hx'=>ap1 D h x hx' hx,cx_in ap2 h da db]
theorem Cfg.down(Ds:List (Nat->Bool))(ap:Ds.Pairwise jQ):∀(t:Nat){l m:Nat->Nat}{M0:Nat},Cfg N n a b O l m->(∀ D∈Ds,Pce N n a b l m D M0)->(∀ v,v<n->(∃ D∈Ds,D v=true)∨M0+t<=m v)->(∀ i,i<N->t*cx a b Ds i<=l i) ->
  Cfg N n a b O (fun i=>l i-t*cx a b Ds i) (fun v=>m v-t*cn Ds v)/\(∀ v,v<n->t*cn Ds v<=m v)/\(0<t->∀ D∈Ds,∀ v,v<n->D v=false->par (fun x=>D x&&(O x ^^ (v == x))) n=true)
 |0,l,m,M0,C,_,_,_=>⟨by simpa only[Nat.zero_mul,Nd] using C,fun v _=>by rw[Nat.zero_mul];exact Ky _,fun h=>by omega⟩
 |t+1,l,m,M0,C,hp,low,cr=>by
  have sm:∀ k:Nat,(t+1)*k=t*k+k:=fun k=>Nat.succ_mul t k
  obtain⟨C1,h1,h2⟩:=C.many Ds hp (fun v hv=>by
   rcases low v hv with⟨D,hD,dv⟩ | h
   ·exact Nat.le_of_eq ((hp D hD).tp v dv).symm
   ·omega) (fun D hD i hi x=>by have:=cr i hi;rw[sm]at this;omega) ap
  have hE1:∀ D∈Ds,Pce N n a b (fun i=>l i-cx a b Ds i) (fun v=>m v-cn Ds v) D (M0+1-Ds.length):=fun D hD=>by
   have pD:=hp D hD;refine⟨pD.ne,pD.lt,fun x hx=>?_,fun x y hx hy=>?_⟩
   ·have:=Gf ap hD hx
    have:=pD.tp x hx;have:=h1 x (pD.lt x hx);show m x-cn Ds x=_;omega
   ·obtain⟨Z,z1,z2⟩:=pD.zc x y hx hy;refine⟨Z,fun i hi=>?_,z2⟩;obtain⟨q1,q2,q3,q4⟩:=z1 i hi;exact⟨q1,q2,q3,by show l i-cx a b Ds i=0;omega⟩
  have hk:Ds.length<=M0+1:=by
   by_cases c:Ds = []
   ·rw[c];exact Ky _
   ·obtain⟨D,hD⟩:=List.exists_mem_of_ne_nil _ c;obtain⟨x,hx⟩:=(hp D hD).ne;have:=Gf ap hD hx;have:=(hp D hD).tp x hx;have:=h1 x ((hp D hD).lt x hx);omega
  have hE2:∀ v,v<n->(∃ D∈Ds,D v=true)∨M0+1-Ds.length+t<=m v-cn Ds v:=fun v hv=>by
   by_cases c:∃ D∈Ds,D v=true
   ·exact .inl c
   ·have h:M0+(t+1)<=m v:=(low v hv).elim (fun z=>absurd z c) id
    have:=Ge (Ds:=Ds) (v:=v) fun D hD=>by cases z:D v with | false=>rfl | true=>exact absurd ⟨D,hD,z⟩ c
    have:=h1 v hv;exact .inr (by omega)
  have hE3:∀ i,i<N->t*cx a b Ds i<=l i-cx a b Ds i:=fun i hi=>by
   have:=cr i hi;rw[sm]at this;omega
  obtain⟨g1,g2,g3⟩:=Cfg.down Ds ap t C1 hE1 hE2 hE3;refine⟨?_,fun v hv=>?_,fun _=>h2⟩
  ·have e1:(fun i=>l i-(t+1)*cx a b Ds i)=fun i=>l i-cx a b Ds i-t*cx a b Ds i:=funext fun i=>by rw[sm,NA,Nm]
   have e2:(fun v=>m v-(t+1)*cn Ds v)=fun v=>m v-cn Ds v-t*cn Ds v:=funext fun v=>by rw[sm,NA,Nm]
   rw[e1,e2];exact g1
  ·have:=g2 v hv
   have:=h1 v hv;rw[sm];omega
end
section
variable{N n:Nat}{a b:Nat->Nat}{O:Nat->Bool}{len h:Nat->Int}{pc:Nat->Nat}{L:Int}{l m:Nat->Nat}
noncomputable def dm(M:Nat):Nat->Bool:=fun x=>M.testBit x
noncomputable def ZC(N:Nat)(a b:Nat->Nat)(pc l:Nat->Nat)(M x y:Nat):Prop:=∃ Z:Nat->Bool,(∀ i,Z i=true->i<N/\pc (a i)=M/\pc (b i)=M/\l i=0)/\∀ v,bd N a b Z v=((x == v) ^^ (y == v))
theorem ZC.refl(M x:Nat):ZC N a b pc l M x x:=⟨fun _=>false,fun _ h=>NH h,fun v=>by rw[Jr,M3]⟩
theorem ZC.symm{M x y:Nat}(h:ZC N a b pc l M x y):ZC N a b pc l M y x:=by
 obtain⟨Z,z1,z2⟩:=h;exact⟨Z,z1,fun v=>by rw[z2,M4]⟩
theorem ZC.trans{M x y z:Nat}(h:ZC N a b pc l M x y)(g:ZC N a b pc l M y z):ZC N a b pc l M x z:=by
 obtain⟨Z,z1,z2⟩:=h;obtain⟨Y,y1,y2⟩:=g;refine⟨tg Z Y,fun i hi=>?_,fun v=>by rw[cS,z2,y2,x3]⟩
 unfold tg at hi
 cases c:Z i with
 |true=>exact z1 i c
 |false=>rw[c,Np]at hi;exact y1 i hi
theorem ZC.imp{pc':Nat->Nat}{M M' x y:Nat}(h:ZC N a b pc l M x y)(en:∀ i,i<N->a i<n/\b i<n)(k:∀ v,v<n->pc v=M->pc' v=M'):ZC N a b pc' l M' x y:=by
 obtain⟨Z,z1,z2⟩:=h;refine⟨Z,fun i hi=>?_,z2⟩;obtain⟨s1,s2,s3,s4⟩:=z1 i hi;exact⟨s1,k _ (en i s1).1 s2,k _ (en i s1).2 s3,s4⟩
structure Run(N n:Nat)(a b:Nat->Nat)(O:Nat->Bool)(len h:Nat->Int)(pc:Nat->Nat)(L:Int)(l m:Nat->Nat):Prop where
 C:Cfg N n a b O l m
 cc:∃ c:Int,∀ v,v<n->(2*h v<=L->(m v:Int)=c-2*h v)/\(L<=2*h v->(m v:Int)=c-L)
 pa:∀ v,v<n->pc v≠0->(pc v).testBit v=true
 pb:∀ v x,v<n->(pc v).testBit x=true->x<n/\pc x=pc v
 dr:∀ v,v<n->pc v≠0->L<=2*h v
 we:∀ v,v<n->pc v=0->2*h v<=L
 zc:∀ x y,x<n->y<n->pc x≠0->pc y=pc x->ZC N a b pc l (pc x) x y
 fl:∀ i,i<N->(pc (a i)=0->pc (b i)=0->(l i:Int)=2*len i)/\(pc (a i)≠0->pc (b i)=0->(l i:Int)+(2*h (a i)-L)=2*len i)/\(pc (a i)=0->pc (b i)≠0->(l i:Int)+(2*h (b i)-L)=2*len i)/\(pc (a i)≠0->pc (b i)≠0->pc (a i)≠pc (b i)->(l i:Int)+(2*h (a i)-L)+(2*h (b i)-L)=2*len i)
theorem bit0{v:Nat}:Mg 0 v≠true:=by rw[KW];decide
theorem G4{i:Nat}:∀{Ds:List (Nat->Bool)},(∀ D∈Ds,D (a i)=true->D (b i)=true->False)->cx a b Ds i+cn Ds (a i)+cn Ds (b i)=2*Ds.length
 |[],_=>rfl
 |D::Ds,h=>by
  have ih:=G4 (i:=i) fun E hE=>h E (JK _ hE);have hd:=h D (JO ..);show chi D a b i+cx a b Ds i+(cond (D (a i)) 0 1+cn Ds (a i))+(cond (D (b i)) 0 1+cn Ds (b i))=_;rw[Ke];unfold chi
  cases da:D (a i)<;>cases db:D (b i)<;>simp<;>first | omega | exact(hd da db).elim
theorem Run.down(R:Run N n a b O len h pc L l m)(lip:∀ i,i<N->h (a i)-h (b i)<=len i/\h (b i)-h (a i)<=len i){Ms:List Nat}(hM:∀ M,M∈Ms↔M≠0/\∃ v,v<n/\pc v=M)(nd:Ms.Nodup)(ne:∃ v,v<n/\pc v≠0){t:Nat}(hw:∀ v,v<n->pc v=0->2*h v<=L-t)
  (hl:∀ i,i<N->pc (a i)≠0->pc (b i)≠0->pc (a i)≠pc (b i)->h (a i)+h (b i)-len i<=L-t) :
  ∃ l' m',Run N n a b O len h pc (L-t) l' m'/\(∀ v,v<n->m v=m' v+t*cn (Ms.map dm) v)/\(∀ i,i<N->l i=l' i+t*cx a b (Ms.map dm) i)/\(0<t->∀ M∈Ms,∀ v,v<n->M.testBit v=false->par (fun x=>M.testBit x&&(O x ^^ (v == x))) n=true):=by
 obtain⟨c,hc⟩:=R.cc;have inM:∀{M x:Nat},M∈Ms->M.testBit x=true->x<n/\pc x=M:=fun{M x} h1 h2=>by
  obtain⟨_,v,hv,e⟩:=(hM M).mp h1;rw[← e]at h2 ⊢;exact R.pb v x hv h2
 have ap:(Ms.map dm).Pairwise jQ:=Mw.mpr (nd.imp_of_mem fun{M M'} h1 h2 ne x d1 d2=>ne ((inM h1 d1).2.symm.trans (inM h2 d2).2));have mem:∀ v,v<n->pc v≠0->dm (pc v)∈Ms.map dm:=fun v hv z=>Kk.mpr ⟨_,(hM _).mpr ⟨z,v,hv,rfl⟩,rfl⟩;have cD:∀ v,v<n->pc v≠0->cn (Ms.map dm) v+1=(Ms.map dm).length:=fun v hv z=>Gf ap (mem v hv z) (R.pa v hv z);have cW:∀ v,pc v=0->cn (Ms.map dm) v=(Ms.map dm).length:=fun v z=>Ge fun D hD=>by
  obtain⟨M,h1,rfl⟩:=Kk.mp hD
  cases q:dm M v with
  |false=>rfl
  |true=>exact absurd (z▸(inM h1 q).2).symm ((hM M).mp h1).1
 have xS:∀ i,i<N->pc (a i)≠0->pc (b i)=pc (a i)->cx a b (Ms.map dm) i=0:=fun i hi z e=>by
  obtain⟨ea,eb⟩:=R.C.ends i hi;exact cx_in ap (mem _ ea z) (R.pa _ ea z) (by rw[← e];exact R.pa _ eb (by rw[e];exact z))
 have xO:∀ i,i<N->(pc (a i)=pc (b i)->pc (a i)=0)->cx a b (Ms.map dm) i+cn (Ms.map dm) (a i)+cn (Ms.map dm) (b i)=2*(Ms.map dm).length:=fun i hi z=>G4 fun D hD d1 d2=>by
  obtain⟨M,h1,rfl⟩:=Kk.mp hD;have e1:=(inM h1 d1).2;have e2:=(inM h1 d2).2;exact((hM M).mp h1).1 (e1.symm.trans (z (e1.trans e2.symm)))
 obtain⟨v0,hv0,z0⟩:=ne;have c0:=(hc v0 hv0).2 (R.dr v0 hv0 z0);obtain⟨M0,hM0⟩:∃ M0:Nat,(M0:Int)=c-L:=⟨m v0,c0⟩;have tl:∀ i,i<N->t*cx a b (Ms.map dm) i<=l i:=fun i hi=>by
  obtain⟨f1,f2,f3,f4⟩:=R.fl i hi;obtain⟨ea,eb⟩:=R.C.ends i hi;have hlp:=lip i hi;by_cases za:pc (a i)=0<;>by_cases zb:pc (b i)=0
  ·have:=xO i hi fun _=>za
   have:=cW _ za;have:=cW _ zb;rw[show cx a b (Ms.map dm) i=0 by omega]
   omega
  ·have:=xO i hi fun _=>za
   have:=cW _ za;have:=cD _ eb zb;have:=f3 za zb;have:=hw _ ea za;rw[show cx a b (Ms.map dm) i=1 by omega]
   omega
  ·have:=xO i hi fun e=>e.trans zb
   have:=cD _ ea za;have:=cW _ zb;have:=f2 za zb;have:=hw _ eb zb;rw[show cx a b (Ms.map dm) i=1 by omega]
   omega
  ·by_cases e:pc (a i)=pc (b i)
   ·rw[xS i hi za e.symm];omega
   ·have:=xO i hi fun y=>absurd y e
    have:=cD _ ea za;have:=cD _ eb zb;have:=f4 za zb e;have:=hl i hi za zb e;rw[show cx a b (Ms.map dm) i=2 by omega]
    omega
 obtain⟨g1,g2,g3⟩:=R.C.down (Ms.map dm) ap t (M0:=M0) (fun D hD=>by
  obtain⟨M,h1,rfl⟩:=Kk.mp hD;obtain⟨z,v,hv,e⟩:=(hM M).mp h1;have dry:∀ x,dm M x=true->x<n/\pc x=M/\pc x≠0:=fun x hx=>⟨(inM h1 hx).1,(inM h1 hx).2,by rw[(inM h1 hx).2];exact z⟩
  refine⟨⟨v,by show M.testBit v=true;rw[← e];exact R.pa v hv (by rw[e];exact z)⟩,fun x hx=>(dry x hx).1,fun x hx=>?_,fun x y hx hy=>?_⟩
  ·obtain⟨q1,q2,q3⟩:=dry x hx;have:=(hc x q1).2 (R.dr x q1 q3);omega
  ·obtain⟨q1,q2,q3⟩:=dry x hx;obtain⟨r1,r2,r3⟩:=dry y hy;obtain⟨Z,z1,z2⟩:=R.zc x y q1 r1 q3 (r2.trans q2.symm);refine⟨Z,fun i hi=>?_,z2⟩;obtain⟨s1,s2,s3,s4⟩:=z1 i hi;obtain⟨ea,eb⟩:=R.C.ends i s1;refine⟨s1,?_,?_,s4⟩
   ·show M.testBit (a i)=true;rw[← q2,← s2];exact R.pa _ ea (by rw[s2];exact q3)
   ·show M.testBit (b i)=true;rw[← q2,← s3];exact R.pa _ eb (by rw[s3];exact q3)) (fun v hv=>by
  by_cases z:pc v=0
  ·have:=(hc v hv).1 (R.we v hv z)
   have:=hw v hv z;exact .inr (by omega)
  ·exact .inl ⟨_,mem v hv z,R.pa v hv z⟩) tl
 refine⟨_,_,⟨g1,⟨c-t*(Ms.map dm).length,fun v hv=>?_⟩,R.pa,R.pb,fun v hv z=>?_,hw,fun x y hx hy z e=>?_,fun i hi=>?_⟩,fun v hv=>?_,fun i hi=>?_,fun ht M h1 v hv dv=>g3 ht (dm M) (Kk.mpr ⟨M,h1,rfl⟩) v hv dv⟩
 ·have le:=g2 v hv
  have hcv:=hc v hv;have em:(((m v-t*cn (Ms.map dm) v:Nat):Nat):Int)=(m v:Int)-((t*cn (Ms.map dm) v:Nat):Int):=by omega
  rw[em];by_cases z:pc v=0
  ·have e:=cW v z
   have w:=hw v hv z;rw[e];have:=hcv.1 (R.we v hv z);push_cast;exact⟨fun _=>by omega,fun _=>by omega⟩
  ·have e:=cD v hv z
   have d:=R.dr v hv z;have:=hcv.2 d;have e2:(t:Int)*((Ms.map dm).length:Int)=(t:Int)*(cn (Ms.map dm) v:Int)+t:=by
    rw[← e];push_cast;rw[Int.mul_add,Int.mul_one]
   rw[e2];push_cast;exact⟨fun _=>by omega,fun _=>by omega⟩
 ·have:=R.dr v hv z
  omega
 ·obtain⟨Z,z1,z2⟩:=R.zc x y hx hy z e;refine⟨Z,fun i hi=>?_,z2⟩;obtain⟨s1,s2,s3,s4⟩:=z1 i hi;exact⟨s1,s2,s3,by show l i-_=0;omega⟩
 ·have le:=tl i hi
  obtain⟨f1,f2,f3,f4⟩:=R.fl i hi;obtain⟨ea,eb⟩:=R.C.ends i hi;have em:(((l i-t*cx a b (Ms.map dm) i:Nat):Nat):Int)=(l i:Int)-((t*cx a b (Ms.map dm) i:Nat):Int):=by omega
  show((pc (a i)=0->pc (b i)=0->(((l i-t*cx a b (Ms.map dm) i:Nat):Nat):Int)=2*len i)/\(pc (a i)≠0->pc (b i)=0->(((l i-t*cx a b (Ms.map dm) i:Nat):Nat):Int)+(2*h (a i)-(L-t))=2*len i)/\(pc (a i)=0->pc (b i)≠0->(((l i-t*cx a b (Ms.map dm) i:Nat):Nat):Int)+(2*h (b i)-(L-t))=2*len i)/\(pc (a i)≠0->pc (b i)≠0->pc (a i)≠pc (b i)->(((l i-t*cx a b (Ms.map dm) i:Nat):Nat):Int)+(2*h (a i)-(L-t))+(2*h (b i)-(L-t))=2*len i));rw[em];refine⟨fun za zb=>?_,fun za zb=>?_,fun za zb=>?_,fun za zb e=>?_⟩
  ·have:=xO i hi fun _=>za
   have:=cW _ za;have:=cW _ zb;have:=f1 za zb;rw[show cx a b (Ms.map dm) i=0 by omega]
   omega
  ·have:=xO i hi fun e=>e.trans zb
   have:=cD _ ea za;have:=cW _ zb;have:=f2 za zb;rw[show cx a b (Ms.map dm) i=1 by omega]
   omega
  ·have:=xO i hi fun _=>za
   have:=cW _ za;have:=cD _ eb zb;have:=f3 za zb;rw[show cx a b (Ms.map dm) i=1 by omega]
   omega
  ·have:=xO i hi fun y=>absurd y e
   have:=cD _ ea za;have:=cD _ eb zb;have:=f4 za zb e;rw[show cx a b (Ms.map dm) i=2 by omega]
   omega
 ·have:=g2 v hv
  show m v=m v-t*cn (Ms.map dm) v+t*cn (Ms.map dm) v;omega
 ·have:=tl i hi
  show l i=l i-t*cx a b (Ms.map dm) i+t*cx a b (Ms.map dm) i;omega
noncomputable def jn2(pc:Nat->Nat)(P v:Nat):Nat:=if P.testBit v=true then P else pc v
theorem Run.join(R:Run N n a b O len h pc L l m){u w P:Nat}(hu:u<n)(hw:w<n)(lu:L<=2*h u)(lw:L<=2*h w)(hz:u=w∨∃ i,i<N/\a i=u/\b i=w/\h u+h w-len i=L)(hP:P=2^u|||2^w|||pc u|||pc w):Run N n a b O len h (jn2 pc P) L l m/\(jn2 pc P u=P/\jn2 pc P w=P/\P≠0)/\(∀ v,P.testBit v=true->v<n)/\∀ x v,x<n->v<n->pc v≠0->pc x=pc v->jn2 pc P x=jn2 pc P v/\jn2 pc P v≠0:=by
 have bP:∀ v,P.testBit v=true↔(v=u∨v=w∨(pc u).testBit v=true∨(pc w).testBit v=true):=fun v=>by
  rw[hP,KZ,KZ,KZ,JY,JY,LC,LC,LC,decide_eq_true_iff,decide_eq_true_iff];constructor
  ·rintro(((h | h) | h) | h)
   ·exact .inl h.symm
   ·exact .inr (.inl h.symm)
   ·exact .inr (.inr (.inl h))
   ·exact .inr (.inr (.inr h))
  ·rintro(h | h | h | h)
   ·exact .inl (.inl (.inl h.symm))
   ·exact .inl (.inl (.inr h.symm))
   ·exact .inl (.inr h)
   ·exact .inr h
 have Pu:P.testBit u=true:=(bP u).mpr (.inl rfl);have Pw:P.testBit w=true:=(bP w).mpr (.inr (.inl rfl));have P0:P≠0:=fun z=>by rw[z]at Pu;exact bit0 Pu
 have inP:∀ v,P.testBit v=true->v<n/\(v=u∨v=w∨(pc v=pc u/\pc v≠0)∨(pc v=pc w/\pc v≠0)):=fun v hv=>by
  rcases(bP v).mp hv with h | h | h | h
  ·exact⟨by omega,.inl h⟩
  ·exact⟨by omega,.inr (.inl h)⟩
  ·obtain⟨q1,q2⟩:=R.pb u v hu h;exact⟨q1,.inr (.inr (.inl ⟨q2,fun z=>by rw[← q2,z]at h;exact bit0 h⟩))⟩
  ·obtain⟨q1,q2⟩:=R.pb w v hw h;exact⟨q1,.inr (.inr (.inr ⟨q2,fun z=>by rw[← q2,z]at h;exact bit0 h⟩))⟩
 have same:∀ x v,v<n->x<n->pc v≠0->pc x=pc v->P.testBit x=true->P.testBit v=true:=fun x v hv hx z e hp=>by
  have pv:=R.pa v hv z;rcases(inP x hp).2 with h | h | h | h
  ·rw[h]at e;exact(bP v).mpr (.inr (.inr (.inl (by rw[e];exact pv))))
  ·rw[h]at e;exact(bP v).mpr (.inr (.inr (.inr (by rw[e];exact pv))))
  ·exact(bP v).mpr (.inr (.inr (.inl (by rw[← h.1,e];exact pv))))
  ·exact(bP v).mpr (.inr (.inr (.inr (by rw[← h.1,e];exact pv))))
 have jP:∀{v},P.testBit v=true->jn2 pc P v=P:=fun h=>if_pos h;have jN:∀{v},¬ P.testBit v=true->jn2 pc P v=pc v:=fun h=>if_neg h;have dr':∀ v,v<n->jn2 pc P v≠0->L<=2*h v:=fun v hv z=>by
  by_cases c:P.testBit v=true
  ·rcases(inP v c).2 with h | h | h | h
   ·rw[h];exact lu
   ·rw[h];exact lw
   ·exact R.dr v hv h.2
   ·exact R.dr v hv h.2
  ·rw[jN c]at z;exact R.dr v hv z
 have up:∀ v,pc v≠0->jn2 pc P v≠0:=fun v z=>by
  by_cases c:P.testBit v=true
  ·rw[jP c];exact P0
  ·rw[jN c];exact z
 have jS:∀ x v,x<n->v<n->pc v≠0->pc x=pc v->jn2 pc P x=jn2 pc P v:=fun x v hx hv z e=>by
  by_cases c:P.testBit x=true
  ·rw[jP c,jP (same x v hv hx z e c)]
  ·rw[jN c,jN fun c'=>c (same v x hx hv (by rw[e];exact z) e.symm c'),e]
 refine⟨⟨R.C,R.cc,fun v hv z=>?_,fun v x hv hx=>?_,dr',fun v hv z=>?_,fun x y hx hy z e=>?_,fun i hi=>?_⟩,⟨jP Pu,jP Pw,P0⟩,fun v hv=>(inP v hv).1,fun x v hx hv z e=>⟨jS x v hx hv z e,up v z⟩⟩
 ·by_cases c:P.testBit v=true
  ·rw[jP c];exact c
  ·rw[jN c]at z ⊢;exact R.pa v hv z
 ·by_cases c:P.testBit v=true
  ·rw[jP c]at hx ⊢;exact⟨(inP x hx).1,jP hx⟩
  ·rw[jN c]at hx ⊢;obtain⟨q1,q2⟩:=R.pb v x hv hx;have z:pc v≠0:=fun z=>by rw[z]at hx;exact bit0 hx
   refine⟨q1,?_⟩;rw[jN fun c'=>c (same x v hv q1 z q2 c')];exact q2
 ·by_cases c:P.testBit v=true
  ·rw[jP c]at z;exact absurd z P0
  ·rw[jN c]at z;exact R.we v hv z
 ·-- all rooms of the new piece are joined to u
  have old:∀ x y,x<n->y<n->pc x≠0->pc y=pc x->ZC N a b (jn2 pc P) l (jn2 pc P x) x y:=fun x y hx hy z e=>(R.zc x y hx hy z e).imp R.C.ends fun v vn hv=>jS v x vn hx z hv;have wu:ZC N a b (jn2 pc P) l P w u:=by
   rcases hz with rfl | ⟨i,hi,ea,eb,hL⟩
   ·exact .refl _ _
   ·by_cases c:pc u=pc w/\pc w≠0
    ·have:=old w u hw hu c.2 c.1
     rw[jP Pw]at this;exact this
    ·obtain⟨f1,f2,f3,f4⟩:=R.fl i hi;rw[ea,eb]at f1 f2 f3 f4;have l0:l i=0:=by
      by_cases zu:pc u=0<;>by_cases zw:pc w=0
      ·have:=f1 zu zw
       have:=R.we u hu zu;have:=R.we w hw zw;omega
      ·have:=f3 zu zw
       have:=R.we u hu zu;omega
      ·have:=f2 zu zw
       have:=R.we w hw zw;omega
      ·have:=f4 zu zw fun e=>c ⟨e,zw⟩
       omega
     refine ZC.symm ⟨one i,fun j hj=>?_,fun v=>by rw[gy hi,ea,eb]⟩
     rw[eq_of_beq hj];exact⟨hi,by rw[ea];exact jP Pu,by rw[eb];exact jP Pw,l0⟩
  have toU:∀ x,P.testBit x=true->ZC N a b (jn2 pc P) l P x u:=fun x hx=>by
   obtain⟨xn,q⟩:=inP x hx;rcases q with rfl | rfl | ⟨e1,e2⟩ | ⟨e1,e2⟩
   ·exact .refl _ _
   ·exact wu
   ·have:=old x u xn hu e2 e1.symm
    rw[jP hx]at this;exact this
   ·have:=old x w xn hw e2 e1.symm
    rw[jP hx]at this;exact this.trans wu
  by_cases c:P.testBit x=true
  ·rw[jP c]at e z ⊢;have cy:P.testBit y=true:=by
    by_cases cy:P.testBit y=true
    ·exact cy
    ·rw[jN cy]at e;have:=R.pa y hy (by rw[e];exact z)
     rw[e]at this;exact this
   exact(toU x c).trans (toU y cy).symm
  ·have ex:=jN c
   rw[ex]at e z;have cy:¬ P.testBit y=true:=fun cy=>by
    rw[jP cy]at e;have:=R.pa x hx z;rw[← e]at this;exact c this
   rw[jN cy]at e;exact old x y hx hy z e
 ·obtain⟨f1,f2,f3,f4⟩:=R.fl i hi;obtain⟨ea,eb⟩:=R.C.ends i hi;have wa:=R.we (a i) ea;have wb:=R.we (b i) eb;have da:=dr' (a i) ea;have db:=dr' (b i) eb;have ua:=up (a i);have ub:=up (b i);have js:=jS (a i) (b i) ea eb;by_cases za:pc (a i)=0<;>by_cases zb:pc (b i)=0
  ·have e1:=f1 za zb
   have e2:=wa za;have e3:=wb zb;refine⟨fun _ _=>e1,fun p _=>?_,fun _ p=>?_,fun p q _=>?_⟩
   ·have:=da p;omega
   ·have:=db p;omega
   ·have:=da p;have:=db q;omega
  ·have e1:=f3 za zb
   have e2:=wa za;refine⟨fun _ p=>absurd p (ub zb),fun _ p=>absurd p (ub zb),fun _ _=>e1,fun p q _=>?_⟩;have:=da p;omega
  ·have e1:=f2 za zb
   have e2:=wb zb;refine⟨fun p _=>absurd p (ua za),fun _ _=>e1,fun p _=>absurd p (ua za),fun p q _=>?_⟩;have:=db q;omega
  ·refine⟨fun p _=>absurd p (ua za),fun _ p=>absurd p (ub zb),fun p _=>absurd p (ua za),fun _ _ ne=>f4 za zb fun e=>ne (js zb e)⟩
theorem Run.end(R:Run N n a b O len h pc L l m)(all:∀ v,v<n->pc v≠0)(whole:∀ i,i<N->pc (b i)=pc (a i)){v:Nat}(hv:v<n):m v=0:=by
 obtain⟨F,fb,fc⟩:=R.C.mn v hv;have key:∀ k,k<=N->∃ Z:Nat->Bool,(∀ i,Z i=true->i<N/\l i=0)/\∀ x,bd N a b Z x=bd N a b (fun i=>F i&&decide (i<k)) x:=by
  intro k;induction k with
  |zero=>exact fun _=>⟨fun _=>false,fun _ h=>NH h,fun x=>by rw[Jr];exact(mJ fun i _=>by simp).symm⟩
  |succ k ih =>
   intro hk;obtain⟨Z,z1,z2⟩:=ih (by omega)
   cases fk:F k with
   |false =>
    refine⟨Z,z1,fun x=>?_⟩;rw[z2];refine par_congr fun i _=>?_;show((F i&&decide (i<k))&&_)=((F i&&decide (i<k+1))&&_);by_cases c:i=k
    ·rw[c,fk];rfl
    ·rw[show decide (i<k+1)=decide (i<k) from decide_eq_decide.mpr (by omega)]
   |true =>
    obtain⟨ea,eb⟩:=R.C.ends k (by omega)
    obtain⟨Y,y1,y2⟩:=R.zc (a k) (b k) ea eb (all _ ea) (whole k (by omega))
    refine⟨tg Z Y,fun i hi=>?_,fun x=>?_⟩
    ·unfold tg at hi
     cases c:Z i with
     |true=>exact z1 i c
     |false=>rw[c,Np]at hi;exact⟨(y1 i hi).1,(y1 i hi).2.2.2⟩
    ·rw[cS,z2,y2,← gy (N:=N) (a:=a) (b:=b) (show k<N by omega),← cS]
     refine par_congr fun i _=>?_;show(((F i&&decide (i<k)) ^^ (i == k))&&_)=((F i&&decide (i<k+1))&&_);by_cases c:i=k
     ·rw[c,fk];simp
     ·rw[show decide (i<k+1)=decide (i<k) from decide_eq_decide.mpr (by omega),show(i == k)=false from beq_eq_false_iff_ne.mpr c,KU]
 obtain⟨Z,z1,z2⟩:=key N (JF _);have:=R.C.lo v Z hv fun x=>by
  rw[z2,← fb];refine par_congr fun i hi=>?_;show((F i&&decide (i<N))&&_)=_;rw[decide_eq_true hi,Bool.and_true]
 rw[l7 fun i _ zi=>(z1 i zi).2]at this;omega
end
theorem Cfg.lip{N n:Nat}{a b:Nat->Nat}{O:Nat->Bool}{l m:Nat->Nat}(C:Cfg N n a b O l m){i:Nat}(hi:i<N):m (b i)<=m (a i)+l i/\m (a i)<=m (b i)+l i:=by
 obtain⟨ea,eb⟩:=C.ends i hi;have one:∀ x y,x<n->y<n->(∀ v,((a i == v) ^^ (b i == v))=((x == v) ^^ (y == v)))->m y<=m x+l i:=fun x y hx hy e=>by
  obtain⟨F,fb,fc⟩:=C.mn x hx;have:=C.lo y (tg F (one i)) hy fun v=>by rw[cS,fb,gy hi,e,x3]
  cases f:F i with
  |false=>rw[pj hi f]at this;omega
  |true=>have:=fM (w:=l) hi f;omega
 exact⟨one _ _ ea eb fun v=>rfl,one _ _ eb ea fun v=>M4 ..⟩
end HM
namespace KF
open PySem L2
noncomputable def aL(ls:List Lk)(i:Nat):Nat:=(lkA ls i).1
noncomputable def bL(ls:List Lk)(i:Nat):Nat:=(lkA ls i).2.1
noncomputable def nL(ls:List Lk)(i:Nat):Int:=(lkA ls i).2.2
noncomputable def dL(ls:List Lk)(i:Nat):Nat:=(2*nL ls i).toNat
theorem Jd(l:Lk)(v:Nat):(endX l).testBit v=((l.1 == v) ^^ (l.2.1 == v)):=by
 unfold endX;rw[KI,JY,JY];rfl
theorem DU(ls:List Lk)(u v:Nat):∀ i,HM.bd i (aL ls) (bL ls) (fun j=>u.testBit j) v=(oddE ls u i).testBit v
 |0=>by show false=Mg 0 v;rw[KW]
 |i+1=>by
  show(HM.bd i (aL ls) (bL ls) (fun j=>u.testBit j) v ^^ (u.testBit i&&((aL ls i == v) ^^ (bL ls i == v))))=_;rw[DU ls u v i];show _=(if u.testBit i=true then oddE ls u i^^^endX (lkA ls i) else oddE ls u i).testBit v
  cases b:u.testBit i with
  |false=>simp
  |true =>
   rw[if_pos rfl,KI,Jd];simp[aL,bL]
theorem qW{ls:List Lk}(hw:∀ l∈ls,0<=l.2.2)(u:Nat):∀ i,i<=ls.length->((HM.csw (dL ls) (fun j=>u.testBit j) i:Nat):Int)=2*cstU ls u i
 |0,_=>rfl
 |i+1,h=>by
  have ih:=qW hw u i (by omega)
  obtain⟨l,e⟩:∃ l,ls[i]?=some l:=⟨_,JB (by omega)⟩
  have w0:=hw l (JG e);show((HM.csw (dL ls) (fun j=>u.testBit j) i+cond (u.testBit i) (dL ls i) 0:Nat):Int)=_;unfold cstU dL nL;rw[cf e]
  cases u.testBit i with
  |false=>simp;exact ih
  |true =>
   simp only[if_true,cond_true];have:HM.csw (dL ls) (fun j=>u.testBit j) i=HM.csw (fun i=>(2*(lkA ls i).2.2).toNat) (fun j=>u.testBit j) i:=rfl;omega
noncomputable def mkF(F:Nat->Bool):Nat->Nat
 |0=>0
 |i+1=>mkF F i|||cond (F i) (2^i) 0
theorem Ca(F:Nat->Bool)(j:Nat):∀ i,(mkF F i).testBit j=(decide (j<i)&&F j)
 |0=>by show Mg 0 j=_;rw[KW];simp
 |i+1=>by
  show(mkF F i|||cond (F i) (2^i) 0).testBit j=_
  rw[KZ,Ca F j i];by_cases c:j=i
  ·subst c
   cases f:F j<;>simp
  ·have c':¬ i=j:=fun z=>c z.symm
   have e:decide (j<i+1)=decide (j<i):=decide_eq_decide.mpr (by omega)
   rw[e]
   cases F i<;>simp[c']
noncomputable def xorL(l:List Nat):Nat:=l.foldr (fun s m=>2^s^^^m) 0
theorem AL{l l':List Nat}(p:l.Perm l'):xorL l=xorL l':=by
 induction p with
 |nil=>rfl
 |cons x _ ih=>show 2^x^^^xorL _=2^x^^^xorL _;rw[ih]
 |swap x y l=>show 2^y^^^(2^x^^^xorL l)=2^x^^^(2^y^^^xorL l);rw[← KJ,← KJ,Mj (2^y)]
 |trans _ _ h1 h2=>exact h1.trans h2
theorem xD:∀{l:List Nat},l.Nodup->∀ i,(xorL l).testBit i=decide (i∈l)
 |[],_,i=>by show Mg 0 i=_;rw[KW];simp
 |x::l,h,i=>by
  obtain⟨h1,h2⟩:=Kq.mp h;show(2^x^^^xorL l).testBit i=_;rw[KI,JY,xD h2 i];by_cases c:x=i
  ·subst c;simp[h1]
  ·have c':¬ i=x:=fun z=>c z.symm
   simp[c,c']
theorem Hv(X:Nat):xorL (bl X)=X:=Ks fun i=>by
 rw[xD (gu X) i]
 cases z:X.testBit i with
 |true=>exact decide_eq_true (bG.mpr z)
 |false=>exact decide_eq_false fun y=>by rw[bG.mp y]at z;cases z
theorem Wk.set{ls:List Lk}(hw:∀ l∈ls,0<=l.2.2){a b:Nat}{x:Int}(h:Wk ls a b x):∃ u,oddE ls u ls.length=2^a^^^2^b/\cstU ls u ls.length<=x:=by
 induction h with
 |nil=>exact⟨0,by rw[fY,L0],by rw[gk];exact KR _⟩
 | @step b i x l h hl he ih =>
  obtain⟨u,h1,h2⟩:=ih;have il:i<ls.length:=(JD.mp hl).1;refine⟨u^^^2^i,?_,?_⟩
  ·rw[jj,h1,qq,if_pos il,cf hl];have ee:endX l=2^b^^^2^bey l b:=by
    unfold endX bey;rcases he with z | z
    ·rw[if_pos z,z]
    ·by_cases w:b=l.1
     ·rw[if_pos w,w]
     ·rw[if_neg w,z,Mj]
   rw[ee,← KJ,KJ (2^a),L0,MP]
  ·have g:=jL ls hw u (2^i) ls.length (JF _)
   rw[qX,if_pos il,cf hl]at g;omega
theorem Cs.set{n:Nat}{ls:List Lk}(hw:∀ l∈ls,0<=l.2.2)(hc:Conn n ls){X:Nat}{c:Int}(hX:X<2^n)(h:Cs (farD ls) (bl X) c):∃ u,oddE ls u ls.length=X/\cstU ls u ls.length<=c:=by
 obtain⟨PL,p,e⟩:=h;have key:∀ PL:List (Nat×Nat),(∀ s∈flat PL,s<n)->∃ u,oddE ls u ls.length=xorL (flat PL)/\cstU ls u ls.length<=cst (farD ls) PL:=by
  intro PL;induction PL with
  |nil=>exact fun _=>⟨0,by rw[fY];rfl,by rw[gk];exact KR _⟩
  |cons q PL ih =>
   intro hs;rw[bI]at hs;obtain⟨u,h1,h2⟩:=ih fun s hs'=>hs s (JK _ (JK _ hs'));obtain⟨x,hx⟩:=hc.two (hs q.1 (JO ..)) (hs q.2 (JK _ (JO ..)));obtain⟨v,g1,g2⟩:=Wk.set hw (fE hw hx).1;refine⟨v^^^u,?_,?_⟩
   ·rw[jj,g1,h1,bI,KJ];rfl
   ·have g:=jL ls hw v u ls.length (JF _)
    rw[ic];omega
 obtain⟨u,h1,h2⟩:=key PL fun s hs=>lA hX (p.mem_iff.mp hs);exact⟨u,by rw[h1,AL p,Hv],by omega⟩
theorem cfg0{n:Nat}{ls:List Lk}(ok:Lok n ls)(hc:Conn n ls){m0:Nat}(hm:m0<2^n){c:Nat->Int}(ho:∀ x,x<n->Opt (farD ls) (bl (m0^^^2^x)) (c x)) :
  HM.Cfg ls.length n (aL ls) (bL ls) (fun x=>m0.testBit x) (dL ls) (fun v=>(2*c v).toNat)/\∀ v,v<n->0<=c v:=by
 have hw:∀ l∈ls,0<=l.2.2:=fun l hl=>(ok.w0 l hl).1;have xb:∀ v x:Nat,(m0^^^2^v).testBit x=(m0.testBit x ^^ (v == x)):=fun v x=>by rw[KI,JY];rfl
 have lt:∀ v,v<n->m0^^^2^v<2^n:=fun v hv=>Ls hm (KG (by decide) hv)
 have at':∀ v,v<n->∃ u,oddE ls u ls.length=m0^^^2^v/\cstU ls u ls.length=c v:=fun v hv=>by
  obtain⟨u,h1,h2⟩:=Cs.set hw hc (lt v hv) (ho v hv).1;exact⟨u,h1,NM h2 (qw ok hc (ho v hv) h1)⟩
 refine⟨⟨fun i hi=>?_,fun v hv=>?_,fun v F hv hb=>?_,fun i _=>by simp only[dL];omega⟩,fun v hv=>?_⟩
 ·have:=ok.sm ls[i] (KC hi)
  unfold aL bL;rw[cf (JB hi)];exact this
 ·obtain⟨u,h1,h2⟩:=at' v hv;refine⟨fun j=>u.testBit j,fun x=>by rw[DU,h1,xb],?_⟩
  have:=qW hw u ls.length (JF _);rw[h2]at this;omega
 ·obtain⟨u,hu⟩:∃ u,u=mkF F ls.length:=⟨_,rfl⟩;have ub:∀ j,j<ls.length->u.testBit j=F j:=fun j hj=>by rw[hu,Ca,decide_eq_true hj,Le]
  have e1:∀ x,HM.bd ls.length (aL ls) (bL ls) (fun j=>u.testBit j) x=HM.bd ls.length (aL ls) (bL ls) F x:=fun x=>HM.par_congr fun i hi=>by show(u.testBit i&&_)=_;rw[ub i hi]
  have e2:HM.csw (dL ls) (fun j=>u.testBit j) ls.length=HM.csw (dL ls) F ls.length:=HM.csw_congr fun i hi=>by show cond (u.testBit i) _ _=_;rw[ub i hi]
  have eo:oddE ls u ls.length=m0^^^2^v:=Ks fun x=>by rw[← DU,e1,hb,xb]
  have:=qw ok hc (ho v hv) eo;have g:=qW hw u ls.length (JF _);rw[e2]at g;show(2*c v).toNat<=_;omega
 ·obtain⟨u,_,h2⟩:=at' v hv;have g:=qW hw u ls.length (JF _);omega
noncomputable def upK(kv:List (Nat×Nat))(M t:Nat):List (Nat×Nat):=if(kv.any fun e=>decide (e.1=M))=true then kv.map (fun e=>if e.1=M then(e.1,e.2+t) else e) else kv++[(M,t)]
noncomputable def wsum(g:Nat->Nat)(kv:List (Nat×Nat)):Nat:=(kv.map fun e=>e.2*g e.1).sum
theorem xq{kv:List (Nat×Nat)}{M:Nat}:(kv.any fun e=>decide (e.1=M))=true↔M∈kv.map (·.1):=by
 rw[NG,Kk];exact⟨fun⟨e,h1,h2⟩=>⟨e,h1,of_decide_eq_true h2⟩,fun⟨e,h1,h2⟩=>⟨e,h1,decide_eq_true h2⟩⟩
theorem Ex(kv:List (Nat×Nat))(M t:Nat):(upK kv M t).map (·.1)=if M∈kv.map (·.1) then kv.map (·.1) else kv.map (·.1)++[M]:=by
 unfold upK;by_cases c:M∈kv.map (·.1)
 ·rw[if_pos (xq.mpr c),if_pos c,Lu];refine Lb fun e _=>?_;show(if e.1=M then(e.1,e.2+t) else e).1=e.1;split<;>rfl
 ·rw[if_neg fun z=>c (xq.mp z),if_neg c,Kc];rfl
theorem Gy{kv:List (Nat×Nat)}{M t:Nat}(h:(kv.map (·.1)).Nodup):((upK kv M t).map (·.1)).Nodup:=by
 rw[Ex];split
 ·exact h
 ·rename_i c;exact Ny.mpr ⟨h,by simp,fun x hx y hy e=>c (by rw[JR]at hy;rw[← hy,← e];exact hx)⟩
theorem Hx(g:Nat->Nat){M t:Nat}:∀{kv:List (Nat×Nat)},(kv.map (·.1)).Nodup->wsum g (upK kv M t)=wsum g kv+t*g M:=fun{kv} h=>by
 unfold upK;split
 ·rename_i c;have key:∀ kv:List (Nat×Nat),(kv.map (·.1)).Nodup->wsum g (kv.map fun e=>if e.1=M then(e.1,e.2+t) else e)=wsum g kv+(if M∈kv.map (·.1) then t*g M else 0):=by
   intro kv;induction kv with
   |nil=>intro _;rfl
   |cons e kv ih =>
    intro hn;rw[JQ]at hn;obtain⟨h1,h2⟩:=Kq.mp hn;have:=ih h2;have s1:∀(x:Nat×Nat)(l:List (Nat×Nat)),wsum g (x::l)=x.2*g x.1+wsum g l:=fun x l=>by unfold wsum;rw[JQ,K7]
    rw[JQ,s1,s1,this];by_cases c:e.1=M
    ·rw[if_pos c,if_neg (fun z=>h1 (by rw[c];exact z)),if_pos (by rw[JQ,c];exact JO ..)]
     show(e.2+t)*g e.1+_=_;rw[Nat.add_mul,c];omega
    ·rw[if_neg c];by_cases d:M∈kv.map (·.1)
     ·rw[if_pos d,if_pos (by rw[JQ];exact JK _ d)]
      omega
     ·rw[if_neg d,if_neg (fun z=>by
       rw[JQ]at z;rcases JI.mp z with z | z
       ·exact c z.symm
       ·exact d z)]
      omega
  rw[key kv h,if_pos (xq.mp c)]
 ·unfold wsum;rw[Kc,NK];simp
theorem Hy{kv:List (Nat×Nat)}{M t:Nat}{e:Nat×Nat}(h:e∈upK kv M t):(∃ p,(e.1,p)∈kv/\p<=e.2)∨(e.1=M/\e.2=t):=by
 unfold upK at h;split at h
 ·obtain⟨x,hx,rfl⟩:=Kk.mp h;split
  ·exact .inl ⟨x.2,hx,by show x.2<=x.2+t;omega⟩
  ·exact .inl ⟨x.2,hx,JF _⟩
 ·rcases JW.mp h with h | h
  ·exact .inl ⟨e.2,h,JF _⟩
  ·rw[JR.mp h];exact .inr ⟨rfl,rfl⟩
noncomputable def inP(r t y:Nat):Bool:=decide (0<t)&&decide (y≠0)&&!y.testBit r
noncomputable def kh(r t:Nat)(kv:List (Nat×Nat))(hs:List Nat):List (Nat×Nat):=hs.foldl (fun kv y=>if inP r t y=true then upK kv y t else kv) kv
theorem lR{r t:Nat}:∀{hs:List Nat}{kv:List (Nat×Nat)},(kv.map (·.1)).Nodup->((kh r t kv hs).map (·.1)).Nodup
 |[],_,h=>h
 |y::hs,kv,h=>by
  show((kh r t (if inP r t y=true then upK kv y t else kv) hs).map (·.1)).Nodup;split
  ·exact lR (Gy h)
  ·exact lR h
theorem jD(g:Nat->Nat){r t:Nat}:∀{hs:List Nat}{kv:List (Nat×Nat)},(kv.map (·.1)).Nodup->wsum g (kh r t kv hs)=wsum g kv+t*(hs.map fun y=>if inP r t y=true then g y else 0).sum
 |[],_,_=>by show _=_+t*0;rw[Nat.mul_zero];rfl
 |y::hs,kv,h=>by
  show wsum g (kh r t (if inP r t y=true then upK kv y t else kv) hs)=_;rw[JQ,K7,Nat.mul_add];split
  ·rw[jD g (Gy h),Hx g h];omega
  ·rw[jD g h,Nat.mul_zero];omega
theorem eR{r t:Nat}:∀{hs:List Nat}{kv:List (Nat×Nat)}{e:Nat×Nat},e∈kh r t kv hs->(∃ p,(e.1,p)∈kv/\p<=e.2)∨(e.1∈hs/\inP r t e.1=true/\t<=e.2)
 |[],_,e,h=>.inl ⟨e.2,h,JF _⟩
 |y::hs,kv,e,h=>by
  have h':e∈kh r t (if inP r t y=true then upK kv y t else kv) hs:=h;by_cases c:inP r t y=true
  ·rw[if_pos c]at h';rcases eR h' with⟨p,h1,h2⟩ | ⟨h1,h2,h3⟩
   ·rcases Hy h1 with⟨p',h3,h4⟩ | ⟨h3,h4⟩
    ·exact .inl ⟨p',h3,by omega⟩
    ·have h3':e.1=y:=h3
     have h4':p=t:=h4;exact .inr ⟨by rw[h3'];exact JO ..,by rw[h3'];exact c,by omega⟩
   ·exact .inr ⟨JK _ h1,h2,h3⟩
  ·rw[if_neg c]at h';rcases eR h' with h | ⟨h1,h2,h3⟩
   ·exact .inl h
   ·exact .inr ⟨JK _ h1,h2,h3⟩
noncomputable def evs(n:Nat)(ls:List Lk)(h:Nat->Int):List (Int×Int):=(KO n).map (fun v=>(2*h v,((2^v:Nat):Int)))++ls.map fun l=>(h l.1+h l.2.1-l.2.2,((2^l.1|||2^l.2.1:Nat):Int))
noncomputable def pcs(ps:List Nat)(v:Nat):Nat:=ps.getD v 0
noncomputable def Sm(ps:List Nat)(D:Nat):Prop:=∀ x y,D.testBit x=true->D.testBit y=true->pcs ps x=pcs ps y/\pcs ps x≠0
noncomputable def nest(A B:Nat):Prop:=A&&&B=0∨A&&&B=A∨A&&&B=B
structure HI(n:Nat)(ls:List Lk)(mk:Nat)(h:Nat->Int)(row:List (Int×Int))(m0 j:Nat)(L:Int)(ps:List Nat)(l m:Nat->Nat)(kv:List (Nat×Nat)):Prop where
 pl:ps.length=n
 pb:∀ x∈ps,x<2^n
 R:HM.Run ls.length n (aL ls) (bL ls) (fun x=>(mk^^^2^aK mk).testBit x) (nL ls) h (pcs ps) L l m
 dn:∀ i e,i<j->row[i]?=some e->Sm ps e.2.toNat
 s1:wsum (fun _=>1) kv+m (aK mk)=m0
 s2:∀ i,i<ls.length->wsum (fun M=>HM.chi (HM.dm M) (aL ls) (bL ls) i) kv+l i<=dL ls i
 nd:(kv.map (·.1)).Nodup
 ke:∀ e∈kv,1<=e.2/\1<=e.1/\e.1<2^n/\HM.par (fun x=>e.1.testBit x&&mk.testBit x) n=true/\Sm ps e.1
 ne:∀ e∈kv,∀ e'∈kv,nest e.1 e'.1
theorem C0{n:Nat}{ls:List Lk}{h:Nat->Int}(ok:Lok n ls)(lip:∀ i,i<ls.length->h (aL ls i)-h (bL ls i)<=nL ls i/\h (bL ls i)-h (aL ls i)<=nL ls i){e:Int×Int}(he:e∈evs n ls h) :
  ∃ u w,u<n/\w<n/\e.2.toNat=2^u|||2^w/\e.2=((2^u|||2^w:Nat):Int)/\e.1<=2*h u/\e.1<=2*h w/\(u=w∨∃ i,i<ls.length/\aL ls i=u/\bL ls i=w/\h u+h w-nL ls i=e.1):=by
 rcases JW.mp he with he | he
 ·obtain⟨v,hv,rfl⟩:=Kk.mp he;have hv':=KS.mp hv;have e0:(2^v|||2^v:Nat)=2^v:=Nat.or_self _
  exact⟨v,v,hv',hv',by rw[e0,JL],by rw[e0],KR _,KR _,.inl rfl⟩
 ·obtain⟨l,hl,rfl⟩:=Kk.mp he;obtain⟨i,hi,e⟩:=KP hl;have ei:=cf (ls:=ls) (k:=i) (l:=l) (by rw[JB hi,e])
  have sm:=ok.sm l hl;have lp:=lip i hi;unfold aL bL nL at lp;rw[ei]at lp;refine⟨l.1,l.2.1,sm.1,sm.2,JL _,rfl,?_,?_,.inr ⟨i,hi,by unfold aL;rw[ei],by unfold bL;rw[ei],by unfold nL;rw[ei]⟩⟩
  ·show h l.1+h l.2.1-l.2.2<=2*h l.1;omega
  ·show h l.1+h l.2.1-l.2.2<=2*h l.2.1;omega
theorem cU{u w v:Nat}:(2^u|||2^w).testBit v=true↔v=u∨v=w:=by
 rw[KZ,JY,JY,LC,decide_eq_true_iff,decide_eq_true_iff];exact⟨fun h=>h.imp Eq.symm Eq.symm,fun h=>h.imp Eq.symm Eq.symm⟩
theorem BY{A B:Nat}(h:nest A B):nest B A:=by
 unfold nest at *;rw[Nat.and_comm];rcases h with h | h | h
 ·exact .inl h
 ·exact .inr (.inr h)
 ·exact .inr (.inl h)
theorem HI.join{n:Nat}{ls:List Lk}{mk:Nat}{h:Nat->Int}{row:List (Int×Int)}{m0 j:Nat}{L:Int}{ps:List Nat}{l m:Nat->Nat}{kv:List (Nat×Nat)}(I:HI n ls mk h row m0 j L ps l m kv)(ok:Lok n ls)
  (lip:∀ i,i<ls.length->h (aL ls i)-h (bL ls i)<=nL ls i/\h (bL ls i)-h (aL ls i)<=nL ls i) {e:Int×Int} (he:row[j]?=some e) (hev:e∈evs n ls h) (eL:e.1=L) {P:Nat} {qs:List Nat}
  (hP:∀ v,P.testBit v=true↔(e.2.toNat.testBit v=true∨∃ k,e.2.toNat.testBit k=true/\(pcs ps k).testBit v=true)) (ql:qs.length=n) (hq:∀ v,v<n->pcs qs v=HM.jn2 (pcs ps) P v) :
  HI n ls mk h row m0 (j+1) L qs l m kv/\∃ v,v<n/\pcs qs v≠0:=by
 obtain⟨u,w,hu,hw,e2,_,lu,lw,hz⟩:=C0 ok lip hev;rw[eL]at lu lw hz;have eP:P=2^u|||2^w|||pcs ps u|||pcs ps w:=Ks fun v=>by
  have tb:(2^u|||2^w|||pcs ps u|||pcs ps w).testBit v=(((2^u|||2^w).testBit v||(pcs ps u).testBit v)||(pcs ps w).testBit v):=by rw[KZ,KZ]
  rw[Mr,hP,e2,tb,LC,LC];constructor
  ·rintro(h | ⟨k,h1,h2⟩)
   ·exact .inl (.inl h)
   ·rcases cU.mp h1 with rfl | rfl
    ·exact .inl (.inr h2)
    ·exact .inr h2
  ·rintro((h | h) | h)
   ·exact .inl h
   ·exact .inr ⟨u,cU.mpr (.inl rfl),h⟩
   ·exact .inr ⟨w,cU.mpr (.inr rfl),h⟩
 obtain⟨R2,⟨ju,jw,P0⟩,Pn,js⟩:=I.R.join hu hw lu lw hz eP;have off:∀ v,¬ v<n->pcs qs v=0/\pcs ps v=0:=fun v hv=>by
  unfold pcs;rw[JE,JE,Ld (by omega),Ld (by have:=I.pl;omega)]
  exact⟨rfl,rfl⟩
 have eq:pcs qs=HM.jn2 (pcs ps) P:=funext fun v=>by
  by_cases c:v<n
  ·exact hq v c
  ·have:=off v c
   rw[this.1];unfold HM.jn2;rw[if_neg fun z=>c (Pn v z),this.2]
 have sm:∀ D,Sm ps D->Sm qs D:=fun D hD x y hx hy=>by
  obtain⟨d1,d2⟩:=hD x y hx hy;have xn:x<n:=Decidable.byContradiction fun z=>d2 (off x z).2;have yn:y<n:=Decidable.byContradiction fun z=>d2 (d1.trans (off y z).2);rw[eq];obtain⟨q1,q2⟩:=js x y xn yn (fun z=>d2 (d1.trans z)) d1;exact⟨q1,by rw[q1];exact q2⟩
 refine⟨⟨ql,fun x hx=>?_,by rw[eq];exact R2,fun i e' hi hi'=>?_,I.s1,I.s2,I.nd,fun e' he'=>?_,I.ne⟩,u,hu,by rw[eq,ju];exact P0⟩
 ·obtain⟨v,hv,rfl⟩:=KP hx;have e3:qs[v]=pcs qs v:=by unfold pcs;rw[JE,JB hv];rfl
  rw[e3];refine NS _ fun i hi=>?_
  cases z:(pcs qs v).testBit i with
  |false=>rfl
  |true =>
   rw[eq]at z;have:=(R2.pb v i (by omega) z).1
   omega
 ·by_cases c:i=j
  ·subst c;rw[he]at hi'
   cases hi'
   rw[e2];intro x y hx hy;rw[eq];have hx':HM.jn2 (pcs ps) P x=P:=by rcases cU.mp hx with rfl | rfl<;>assumption
   have hy':HM.jn2 (pcs ps) P y=P:=by rcases cU.mp hy with rfl | rfl<;>assumption
   rw[hx',hy'];exact⟨rfl,P0⟩
  ·exact sm _ (I.dn i e' (by omega) hi')
 ·obtain⟨k1,k2,k3,k4,k5⟩:=I.ke e' he';exact⟨k1,k2,k3,k4,sm _ k5⟩
theorem BB{mk r M n:Nat}(h:HM.par (fun x=>M.testBit x&&((mk^^^2^r).testBit x ^^ (r == x))) n=true):HM.par (fun x=>M.testBit x&&mk.testBit x) n=true:=by
 rw[← h];refine HM.par_congr fun x _=>?_;rw[KI,JY];show _=(M.testBit x&&((mk.testBit x ^^ decide (r=x)) ^^ decide (r=x)));rw[NV,M3,KU]
theorem GD{r t:Nat}(ht:0<t):∀ hs:List Nat,(hs.map fun y=>if inP r t y=true then 1 else 0).sum=HM.cn ((hs.filter fun y=>decide (y≠0)).map HM.dm) r
 |[]=>rfl
 |y::hs=>by
  rw[JQ,K7,GD ht hs,Lv];unfold inP;rw[decide_eq_true ht];by_cases c:y=0
  ·simp[c]
  ·rw[decide_eq_true c,if_pos rfl,JQ];show _=cond (HM.dm y r) 0 1+_;unfold HM.dm
   cases y.testBit r<;>simp
theorem GC{r t i:Nat}{a b:Nat->Nat}:∀ hs:List Nat,(hs.map fun y=>if inP r t y=true then HM.chi (HM.dm y) a b i else 0).sum<=HM.cx a b ((hs.filter fun y=>decide (y≠0)).map HM.dm) i
 |[]=>JF _
 |y::hs=>by
  have ih:=GC (r:=r) (t:=t) (i:=i) (a:=a) (b:=b) hs;rw[JQ,K7,Lv];by_cases c:y=0
  ·have:inP r t y=false:=by unfold inP;simp[c]
   rw[this,if_neg (by simp),if_neg (by simp[c])]
   omega
  ·rw[decide_eq_true c,if_pos rfl,JQ];show _<=HM.chi (HM.dm y) a b i+_;split<;>omega
section
variable{n:Nat}{ls:List Lk}{mk:Nat}{h:Nat->Int}{row:List (Int×Int)}{m0 j:Nat}{L:Int}{ps qs:List Nat}{l m:Nat->Nat}{kv:List (Nat×Nat)}
theorem wA{v:Nat}(hv:v<n):(2*h v,((2^v:Nat):Int))∈evs n ls h:=K3 _ (Kk.mpr ⟨v,KS.mpr hv,rfl⟩)
theorem C9{i:Nat}(hi:i<ls.length):(h (aL ls i)+h (bL ls i)-nL ls i,((2^aL ls i|||2^bL ls i:Nat):Int))∈evs n ls h:=JT _ (Kk.mpr ⟨ls[i],KC hi,by
 unfold aL bL nL
 rw[cf (JB hi)]⟩)
theorem Jc(rp:row.Perm (evs n ls h))(srt:row.Pairwise fun a b=>b.1<=a.1){e':Int×Int}(he':row[j]?=some e'){e:Int×Int}(he:e∈evs n ls h):(∃ i,i<j/\row[i]?=some e)∨e.1<=e'.1:=by
 obtain⟨i,hi⟩:=LI (rp.mem_iff.mpr he);by_cases c:i<j
 ·exact .inl ⟨i,c,hi⟩
 ·by_cases d:i=j
  ·subst d;rw[hi]at he'
   cases he'
   exact .inr (KR _)
  ·obtain⟨i1,i2⟩:=JD.mp hi;obtain⟨j1,j2⟩:=JD.mp he';have:=Lz.mp srt j i j1 i1 (by omega)
   rw[i2,j2]at this;exact .inr this
theorem HI.down(I:HI n ls mk h row m0 (j+1) L qs l m kv)(lip:∀ i,i<ls.length->h (aL ls i)-h (bL ls i)<=nL ls i/\h (bL ls i)-h (aL ls i)<=nL ls i)(ne:∃ v,v<n/\pcs qs v≠0)(rp:row.Perm (evs n ls h))(srt:row.Pairwise fun a b=>b.1<=a.1)
  {e':Int×Int} (he':row[j+1]?=some e') (hL:e'.1<=L) {hs:List Nat} (hnd:hs.Nodup) (hm:∀ y,y∈hs↔y∈qs) (rn:aK mk<n):∃ l' m',HI n ls mk h row m0 (j+1) e'.1 qs l' m' (kh (aK mk) (L-e'.1).toNat kv hs):=by
 obtain⟨t,ht⟩:∃ t:Nat,(L-e'.1).toNat=t:=⟨_,rfl⟩;have eL:L-(t:Int)=e'.1:=by omega
 rw[ht];have mq:∀ M,M∈qs↔∃ v,v<n/\pcs qs v=M:=fun M=>by
  constructor
  ·intro h1;obtain⟨v,hv,e⟩:=KP h1;exact⟨v,by have:=I.pl;omega,by unfold pcs;rw[JE,JB hv];exact e⟩
  ·rintro⟨v,hv,e⟩;have hv':v<qs.length:=by have:=I.pl;omega
   unfold pcs at e;rw[JE,JB hv']at e;rw[← e];exact KC hv'
 obtain⟨Ms,eMs⟩:∃ Ms,Ms=hs.filter fun y=>decide (y≠0):=⟨_,rfl⟩;have hM:∀ M,M∈Ms↔M≠0/\∃ v,v<n/\pcs qs v=M:=fun M=>by
  rw[eMs,Mm,hm,mq,decide_eq_true_iff];exact And.comm
 obtain⟨l',m',R',em,el,od⟩:=I.R.down (t:=t) lip hM (by rw[eMs];exact List.Nodup.sublist List.filter_sublist hnd) ne (fun v hv z=>by
  rw[eL];rcases Jc rp srt he' (wA hv) with⟨i,hi,hr⟩ | h1
  ·have s:=I.dn i _ hi hr
   rw[JL]at s;have b:(2^v).testBit v=true:=by rw[JY];simp
   exact absurd z (s v v b b).2
  ·exact h1) (fun i hi za zb ne=>by
  rw[eL];rcases Jc rp srt he' (C9 hi) with⟨k,hk,hr⟩ | h1
  ·have s:=I.dn k _ hk hr
   rw[JL]at s;exact absurd (s (aL ls i) (bL ls i) (cU.mpr (.inl rfl)) (cU.mpr (.inr rfl))).1 ne
  ·exact h1)
 rw[eL]at R';have pk:∀{M:Nat},M∈hs->M≠0->Sm qs M/\∀ x,M.testBit x=true↔pcs qs x=M:=fun{M} h1 h2=>by
  obtain⟨v,hv,e⟩:=(mq M).mp ((hm M).mp h1);have key:∀ x,M.testBit x=true->pcs qs x=M:=fun x hx=>by
   have:=(I.R.pb v x hv (by rw[e];exact hx)).2
   rw[this,e]
  refine⟨fun x y hx hy=>⟨(key x hx).trans (key y hy).symm,by rw[key x hx];exact h2⟩,fun x=>⟨key x,fun ex=>?_⟩⟩
  have xn:x<n:=Decidable.byContradiction fun z=>h2 (by
   rw[← ex];unfold pcs;rw[JE,Ld (by have:=I.pl;omega)]
   rfl)
  have:=I.R.pa x xn (by rw[ex];exact h2)
  rw[ex]at this;exact this
 have nst:∀{D M:Nat},Sm qs D->M∈hs->M≠0->nest D M:=fun{D M} hD h1 h2=>by
  obtain⟨_,mb⟩:=pk h1 h2;by_cases c:∃ x,D.testBit x=true/\M.testBit x=true
  ·obtain⟨x,d1,d2⟩:=c;refine .inr (.inl (Ks fun y=>?_));rw[Lh]
   cases dy:D.testBit y with
   |false=>rfl
   |true =>
    have:=(hD y x dy d1).1;rw[(mb y).mpr (this.trans ((mb x).mp d2))];rfl
  ·refine .inl (Ks fun y=>?_);rw[Lh,KW]
   cases dy:D.testBit y with
   |false=>rfl
   |true =>
    cases my:M.testBit y with
    |false=>rfl
    |true=>exact absurd ⟨y,dy,my⟩ c
 have inn:∀{y:Nat},inP (aK mk) t y=true->0<t/\y≠0/\y.testBit (aK mk)=false:=fun{y} h1=>by
  unfold inP at h1;rw[LG,LG,decide_eq_true_iff,decide_eq_true_iff]at h1;exact⟨h1.1.1,h1.1.2,by simpa using h1.2⟩
 refine⟨l',m',I.pl,I.pb,R',I.dn,?_,fun i hi=>?_,lR I.nd,fun e he=>?_,fun e he e2 he2=>?_⟩
 ·rw[jD _ I.nd];have s1:=I.s1;have e1:=em (aK mk) rn;by_cases c:0<t
  ·rw[GD c,← eMs];omega
  ·have t0:t=0:=by omega
   subst t0;rw[Nat.zero_mul]at e1 ⊢;omega
 ·rw[jD _ I.nd];have s2:=I.s2 i hi;have e1:=el i hi;have:=Nat.mul_le_mul_left t (GC (r:=aK mk) (t:=t) (i:=i) (a:=aL ls) (b:=bL ls) hs);rw[← eMs]at this;omega
 ·rcases eR he with⟨p,h1,h2⟩ | ⟨h1,h2,h3⟩
  ·obtain⟨k1,k2,k3,k4,k5⟩:=I.ke _ h1;exact⟨by have:1<=p:=k1;omega,k2,k3,k4,k5⟩
  ·obtain⟨i1,i2,i3⟩:=inn h2;have hq:=(hm _).mp h1;exact⟨by omega,by omega,I.pb _ hq,BB (od i1 _ ((hM _).mpr ⟨i2,(mq _).mp hq⟩) _ rn i3),(pk h1 i2).1⟩
 ·rcases eR he with⟨p,h1,_⟩ | ⟨h1,h2,_⟩
  ·rcases eR he2 with⟨p2,g1,_⟩ | ⟨g1,g2,_⟩
   ·exact I.ne (e.1,p) h1 (e2.1,p2) g1
   ·exact nst (I.ke _ h1).2.2.2.2 g1 (inn g2).2.1
  ·rcases eR he2 with⟨p2,g1,_⟩ | ⟨g1,g2,_⟩
   ·exact BY (nst (I.ke _ g1).2.2.2.2 h1 (inn h2).2.1)
   ·exact nst (pk h1 (inn h2).2.1).1 g1 (inn g2).2.1
theorem HI.end(I:HI n ls mk h row m0 j L ps l m kv)(ok:Lok n ls)(lip:∀ i,i<ls.length->h (aL ls i)-h (bL ls i)<=nL ls i/\h (bL ls i)-h (aL ls i)<=nL ls i)(rp:row.Perm (evs n ls h)){e:Int×Int}(he:row[j]?=some e)(eL:e.1=L)(hj:row.length=j+1)(rn:aK mk<n):m (aK mk)=0:=by
 have hev:e∈evs n ls h:=rp.mem_iff.mp (JG he);obtain⟨u,w,hu,hw,e2,_⟩:=C0 ok lip hev
 obtain⟨I2,_⟩:=I.join ok lip he hev eL (P:=2^u|||2^w|||pcs ps u|||pcs ps w) (qs:=(KO n).map fun v=>HM.jn2 (pcs ps) (2^u|||2^w|||pcs ps u|||pcs ps w) v) (fun v=>by
  have tb:(2^u|||2^w|||pcs ps u|||pcs ps w).testBit v=(((2^u|||2^w).testBit v||(pcs ps u).testBit v)||(pcs ps w).testBit v):=by rw[KZ,KZ]
  rw[tb,e2,LC,LC];constructor
  ·rintro((h | h) | h)
   ·exact .inl h
   ·exact .inr ⟨u,cU.mpr (.inl rfl),h⟩
   ·exact .inr ⟨w,cU.mpr (.inr rfl),h⟩
  ·rintro(h | ⟨k,h1,h2⟩)
   ·exact .inl (.inl h)
   ·rcases cU.mp h1 with rfl | rfl
    ·exact .inl (.inr h2)
    ·exact .inr h2) (by rw[JC,KY]) (fun v hv=>by
  show((KO n).map _).getD v 0=_;rw[JE,JJ,List.getElem?_range hv]
  rfl)
 have all:∀ e,e∈evs n ls h->Sm _ e.2.toNat:=fun e he=>by
  obtain⟨i,hi⟩:=LI (rp.mem_iff.mpr he);exact I2.dn i e (by have:=(JD.mp hi).1;omega) hi
 refine I2.R.end (fun v hv=>?_) (fun i hi=>?_) rn
 ·have s:=all _ (wA hv)
  rw[JL]at s;have b:(2^v).testBit v=true:=by rw[JY];simp
  exact(s v v b b).2
 ·have s:=all _ (C9 hi)
  rw[JL]at s;exact(s (bL ls i) (aL ls i) (cU.mpr (.inr rfl)) (cU.mpr (.inl rfl))).1
end
structure Hls(n:Nat)(ls:List Lk)(mk:Nat)(cost:Int)(kv:List (Nat×Nat)):Prop where
 ke:∀ e∈kv,1<=e.2/\1<=e.1/\e.1<2^n/\HM.par (fun x=>e.1.testBit x&&mk.testBit x) n=true
 nd:(kv.map (·.1)).Nodup
 ne:∀ e∈kv,∀ e'∈kv,nest e.1 e'.1
 pd:∀ i,i<ls.length->((wsum (fun M=>HM.chi (HM.dm M) (aL ls) (bL ls) i) kv:Nat):Int)<=2*nL ls i
 sm:((wsum (fun _=>1) kv:Nat):Int)=2*cost
theorem HI.first{n:Nat}{ls:List Lk}{mk:Nat}(ok:Lok n ls)(hc:Conn n ls)(hmk:mk<2^n)(rn:aK mk<n){c:Nat->Int}(ho:∀ x,x<n->Opt (farD ls) (bl (mk^^^2^aK mk^^^2^x)) (c x)){row:List (Int×Int)}(rp:row.Perm (evs n ls fun v=>c (aK mk)-c v))(srt:row.Pairwise fun a b=>b.1<=a.1){e:Int×Int}(he:row[0]?=some e) :
  HI n ls mk (fun v=>c (aK mk)-c v) row (2*c (aK mk)).toNat 0 e.1 (JM n 0) (dL ls) (fun v=>(2*c v).toNat) []/\(∀ i,i<ls.length->(c (aK mk)-c (aL ls i))-(c (aK mk)-c (bL ls i))<=nL ls i/\(c (aK mk)-c (bL ls i))-(c (aK mk)-c (aL ls i))<=nL ls i)/\0<=c (aK mk):=by
 obtain⟨C,c0⟩:=cfg0 ok hc (m0:=mk^^^2^aK mk) (Ls hmk (KG (by decide) rn)) ho
 have z:∀ v,pcs (JM n 0) v=0:=fun v=>by
  unfold pcs;rw[JE,LK];split<;>rfl
 have w0:∀ i,i<ls.length->0<=nL ls i:=fun i hi=>by
  unfold nL;rw[cf (JB hi)];exact(ok.w0 _ (KC hi)).1
 have top:∀ v,v<n->2*(c (aK mk)-c v)<=e.1:=fun v hv=>by
  rcases Jc rp srt he (wA (ls:=ls) (h:=fun v=>c (aK mk)-c v) hv) with⟨i,hi,_⟩ | h
  ·omega
  ·exact h
 have cr:=c0 _ rn;refine⟨⟨LA,fun x hx=>by rw[List.eq_of_mem_replicate hx];exact Lg n,⟨C,⟨2*c (aK mk),fun v hv=>?_⟩,fun v _ y=>absurd (z v) y,fun v x _ y=>by rw[z]at y;exact absurd y HM.bit0,fun v _ y=>absurd (z v) y,fun v hv _=>top v hv,fun x y _ _ w=>absurd (z x) w,fun i hi=>?_⟩,fun i e hi=>absurd hi (LN _),by show 0+_=_;rw[Mi],fun i _=>by show 0+_<=_;rw[Mi];exact JF _,LV,fun e he=>(nomatch he),fun e he=>(nomatch he)⟩,fun i hi=>?_,cr⟩
 ·have:=top v hv
  have:=c0 v hv;have e1:(((2*c v).toNat:Nat):Int)=2*c v:=by omega
  rw[e1];exact⟨fun _=>by omega,fun _=>by omega⟩
 ·have:=w0 i hi
  rw[z,z];have e1:((dL ls i:Nat):Int)=2*nL ls i:=by unfold dL;omega
  exact⟨fun _ _=>e1,fun y=>absurd rfl y,fun _ y=>absurd rfl y,fun y=>absurd rfl y⟩
 ·have lp:=C.lip hi
  obtain⟨ea,eb⟩:=C.ends i hi;have:=c0 _ ea;have:=c0 _ eb;have:=w0 i hi;have e1:((dL ls i:Nat):Int)=2*nL ls i:=by unfold dL;omega
  have l1:(2*c (bL ls i)).toNat<=(2*c (aL ls i)).toNat+dL ls i:=lp.1;have l2:(2*c (aL ls i)).toNat<=(2*c (bL ls i)).toNat+dL ls i:=lp.2;omega
theorem HI.hls{n:Nat}{ls:List Lk}{mk:Nat}{h:Nat->Int}{row:List (Int×Int)}{j:Nat}{L:Int}{ps:List Nat}{l m:Nat->Nat}{kv:List (Nat×Nat)}{c:Int}(I:HI n ls mk h row (2*c).toNat j L ps l m kv)(c0:0<=c)(ok:Lok n ls)(z:m (aK mk)=0):Hls n ls mk c kv:=by
 refine⟨fun e he=>?_,I.nd,I.ne,fun i hi=>?_,?_⟩
 ·obtain⟨k1,k2,k3,k4,_⟩:=I.ke e he;exact⟨k1,k2,k3,k4⟩
 ·have s2:=I.s2 i hi
  have w0:0<=nL ls i:=by
   unfold nL;rw[cf (JB hi)];exact(ok.w0 _ (KC hi)).1
  have e1:((dL ls i:Nat):Int)=2*nL ls i:=by unfold dL;omega
  omega
 ·have s1:=I.s1
  rw[z]at s1;omega
theorem FV{K:JH}{a b:Addr}{xs zs:List V}{g:TG}{tb:TS}{D:Ends}{σ:St}{H:Hp}(n:Nat)(Pv:Nat->St->Hp->Prop)(h0:Pv 0 σ H)(h1:n<=xs.length)(h3:zs.length=n)(hl:∀ i σ H,i<=n->Pv i σ H->SqL K H a xs/\SqL K H b zs)
  (hs:∀ i x z σ H T,xs[i]?=some x->zs[i]?=some z->Pv i σ H->H T=none->g (.ref T) σ (upd H T (.tup [x,z])) fun σ2 H2=>tb { D with nx:=Pv (i+1),ct:=Pv (i+1),bk:=D.nx } σ2 H2) (hd:∀ σ H,Pv n σ H->D.nx σ H) :
  ∃ W:Nat->Nat->St->Hp->Prop,(∃ m,W 0 m σ H)/\∀ i m σ H,W i m σ H ->
   ((Itz K a b).stop i H/\D.nx σ H)∨((Itz K a b).go i H/\∃ N:St->Hp->Prop,(∀ σ' H',N σ' H'->∃ m',m'<m/\W (i+1) m' σ' H')/\∀ x H',(Itz K a b).yld i H x H'->g x σ H' fun σ2 H2=>tb { D with nx:=N,ct:=N,bk:=D.nx } σ2 H2):=by
 refine⟨fun i m σ H=>m=n-i/\i<=n/\Pv i σ H,⟨n,by simp,Ky _,h0⟩,?_⟩
 rintro i m σ H ⟨rfl,hi,p⟩;obtain⟨q1,q3⟩:=hl i σ H hi p;by_cases hlt:i<n
 ·have l1:i<xs.length:=by omega
  have l3:i<zs.length:=by omega
  refine .inr ⟨⟨xs,zs,xs[i],zs[i],q1,q3,by simp[l1],by simp[l3]⟩,Pv (i+1),fun σ' H' p'=>⟨n-(i+1),by omega,rfl,hlt,p'⟩,fun v H' y=>?_⟩
  obtain⟨T,x,z,hT,rfl,rfl,y1,y3⟩:=y;exact hs i x z σ _ T (y1 xs q1) (y3 zs q3) p hT
 ·have e:i=n:=by omega
  subst e;exact .inl ⟨⟨xs,zs,q1,q3,.inr (by omega)⟩,hd σ H p⟩
theorem F8(xs:List V):cutV xs (some 1) none=xs.drop 1:=by
 unfold cutV;have q:=HT.sIx_nat xs.length 0 1;rw[show((1:Nat):Int)=(1:Int) from rfl]at q;rw[q,HT.sIx_none];rw[KA (by rw[Ku];omega)]
 by_cases h:1<=xs.length
 ·rw[LX h]
 ·have e:xs = []:=L3.mp (by omega)
  subst e;rfl
theorem EN{H H2:Hp}(s:Same H H2){l:Addr}(hl:H l=none)(o:HO):Same H (upd H2 l o):=fun b u e=>by
 rw[ao (fun z=>by rw[z,hl]at e;cases e)]
 exact s _ _ e
theorem GU{α:Type} [DecidableEq α]:∀{l ps:List α},l.Nodup->(∀ x∈l,x∈ps)->l.length<=ps.length
 |[],_,_,_=>Ky _
 |x::l,ps,h,k=>by
  obtain⟨h1,h2⟩:=Kq.mp h;have m:=k x (JO ..);have:=GU (l:=l) (ps:=ps.erase x) h2 fun y hy=>(List.mem_erase_of_ne (fun(e:y=x)=>h1 (by rw[← e];exact hy))).mpr (k y (JK _ hy))
  rw[NY m]at this;have p:=Mt m;rw[Ke];omega
structure TxtH(mg:Str->Option Value):Prop extends TxtZ mg where
 n_reversed:mg "reversed" = none
 n_sorted:mg "sorted" = none
 n_set:mg "set" = none
structure Drw(n:Nat)(ls:List Lk)(h:Nat->Int)(row:List (Int×Int)):Prop where
 rp:row.Perm (evs n ls h)
 srt:row.Pairwise fun a b=>b.1<=a.1
noncomputable def HU:Sp:=fun vs H Q _=>∃(v:V)(ta:Addr)(n:Nat)(ls:List Lk)(tops:List Int),vs = [v,.ref ta]/\LnAt H v ls/\Lok n ls/\H ta=some (.lst (tops.map V.int))/\tops.length=n/\n+ls.length<64 /\
 ∀(q:Addr)(out:List V)(row:List (Int×Int)) H',Same H H'->H' q=some (.lst out)->PAt H' out row->Drw n ls (fun v=>tops.getD v 0) row->Q (.ref q) H'
noncomputable def Bb:Sp:=fun vs H Q _=>∃(p:Addr)(n rm:Nat)(ps:List Nat),vs = [.ref p,.int (rm:Int)]/\H p=some (.lst (ps.map iV))/\ps.length=n/\(∀ x∈ps,x<2^n)/\rm<2^n/\n<=40 /\
 ∀(q:Addr)(qs:List Nat)(P:Nat) H',Same H H'->H' q=some (.lst (qs.map iV))->qs.length=n->(∀ v,P.testBit v=true↔(rm.testBit v=true∨∃ k,rm.testBit k=true/\(pcs ps k).testBit v=true))->(∀ v,v<n->pcs qs v=HM.jn2 (pcs ps) P v)->Q (.ref q) H'
noncomputable def toK(kv:List (Nat×Nat)):List (Key×V):=kv.map fun e=>(Sum.inl (e.1:Int),V.int (e.2:Int))
noncomputable def uY(TT:Addr):Sp:=fun vs H Q _=>∃(v:V)(n mk:Nat)(ls:List Lk),vs = [.int (n:Int),v,.int (mk:Int)]/\LnAt H v ls/\Lok n ls/\1<=n/\Conn n ls/\mk<2^n/\(bl mk).length%2=0/\(bl mk).length<=14/\n+ls.length<64/\Tb lqF lpF TT H /\
 ∀(p:Addr)(ys:List V)(kv:List (Nat×Nat))(cost:Int) H',SmT H H'->Tb lqF lpF TT H'->H' p=some (.lst ys)->PAt H' ys (kv.map fun e=>((e.1:Int),(e.2:Int)))->kv.length<=3000->Opt (farD ls) (bl mk) cost->Hls n ls mk cost kv->Q (.ref p) H'
section
variable{P:Program}{w:World}{K:JH}{mg:Str->Option Value}{base:Heap}
theorem oY:aD ["links","tops","found"] ["links","tops"] (ai eI):=by ac_nf
theorem ok_dry{f:Addr}{fd:FuncData} (F:Fun K "dryings" "dryings" eI f fd) (T:TxtH mg):FnOk P w K mg base CX0 1 f fd ["links","tops"] HU:=by
 refine F.ok oY (fun vs H Q E h=>?_) (fun cdv A outer s H vs Q E hr h=>?_)
 ·obtain⟨v,ta,n,ls,tops,rfl,_⟩:=h;rfl
 obtain⟨v,ta,n,ls,tops,rfl,hV,ok,hta,tl,few,kk⟩:=h;have n40:=ok.n1;have hu64:=hr.units;obtain⟨la,ys,rfl,hla,hL⟩:=id hV
 refine⟨_,(af (cG (i:=2) rfl oY.nd rfl rfl (fr:=[]) (xs:=["room","top"]) (dI.of (by rfl) (by decide) (by rfl) (by decide) (fun p hp=>nomatch hp) (by decide) (fun p hp=>nomatch hp)) (mH rfl T.n_enumerate (ae (pv 1) aj)) (fun C ex s H=>(fj (n:=2) (K:=K) rfl rfl (aM (aw (i:=0) (show(["room","top"]:List Str).Nodup from by decide) rfl (Or.inl rfl)) (aM (aw (i:=1) (show(["room","top"]:List Str).Nodup from by decide) rfl (Or.inl rfl)) cH)))) (fun C ex s H=>dA) (fun C ex s H=>(kK (ae (ar fX ah (pv 1)) (ae (ar bF ah (pv 0)) aj)))))
   (af (cX (qj K6 PySem.F.slot_list_extend PySem.F.type_list_extend B0 (pv 2) (ae (c7 rfl (fr:=[("tops",1)]) (xs:=["one","two","length"]) (dI.of (by rfl) (by decide) (by rfl) (by decide) (by intro p hp;simp only[JI,Kf,or_false]at hp;rcases hp with rfl<;>exact⟨rfl,rfl⟩) (by decide) (by intro p hp;simp only[JI,Kf,or_false]at hp;rcases hp with rfl<;>rfl)) (aZ (pv 0)) (fun C ex s H=>(fj (n:=3) (K:=K) rfl rfl (aM (aw (i:=0) (show(["one","two","length","tops"]:List Str).Nodup from by decide) rfl (Or.inl rfl)) (aM (aw (i:=1) (show(["one","two","length","tops"]:List Str).Nodup from by decide) rfl (Or.inl rfl)) (aM (aw (i:=2) (show(["one","two","length","tops"]:List Str).Nodup from by decide) rfl (Or.inl rfl)) cH))))) (fun C ex s H=>dA) (fun C ex s H=>(kK (ae (ar ir (ar b8 (aC (jA (K:=K) rfl) (pv 3) (pv 0) (fun _ _=>rfl)) (aC (jA (K:=K) rfl) (pv 3) (pv 1) (fun _ _=>rfl))) (pv 2)) (ae (ar BD (ar bF ah (pv 0)) (ar bF ah (pv 1))) aj))))) aj)))
   (aq (aJ (o8 rfl rfl T.n_list rfl T.n_reversed (aE Ar (by rfl) T.n_sorted uh (ae (pv 2) aj))))))),?_⟩
 have tlm:(tops.map V.int).length=n:=by rw[JC,tl]
 refine⟨_,rfl,ta,rfl,⟨_,SqL.of hta⟩,km (K:=K) (xs:=tops.map V.int) (fun i zs H2=>Same H H2/\PAt H2 zs ((KO i).map fun v=>(2*tops.getD v 0,((2^v:Nat):Int)))) (Kw (ax (by omega))) ⟨fun _ _ e=>e,PAt.nil _⟩ (fun i zs H2 _ z=>SqL.of (z.1 _ _ hta)) ?_ ?_ (fun i zs H2 z=>by have:=z.2.1;rw[JC,KY]at this;omega)⟩
 ·rintro i x zs H2 T2 hx ⟨s2,hZ⟩ hT2;have hi:i<n:=by rw[← tlm];exact(JD.mp hx).1
  have sT:=ak hT2 (.tup [.int (i:Int),x]);rw[JJ]at hx;obtain⟨tp,htp,rfl⟩:=Km.mp hx;refine⟨T2,_,rfl,SqT.of ag,rfl,_,_,rfl,_,_,rfl,rfl,rfl,yesT ?_⟩;refine⟨_,rfl,_,_,rfl,rfl,.inl ⟨by decide,by decide⟩,_,rfl,_,_,rfl,rfl,⟨by omega,by omega,by decide⟩,(by show 2<=sizeLine;decide),fun t7 ht7=>?_⟩
  have s7:=sT.trans (ak ht7 (.tup [.int (2*tp),.int (1*2^((i:Nat):Int).toNat)]));refine⟨s2.trans s7,?_⟩;rw[MK,Kc];refine(hZ.mono s7).app (PAt.one ?_);have et:tops.getD i 0=tp:=by rw[JE,htp];rfl
  show _=some (HO.tup [.int (2*tops.getD i 0),.int ((2^i:Nat):Int)]);rw[et,← shlN i];exact ag
 rintro zs H2 ⟨s2,hZ⟩ fa hfa;rw[tlm]at hZ;have nfa:H fa=none:=cV s2 hfa;have z3:=ak hfa (.lst zs);have s3:=s2.trans z3;have hZ3:=hZ.mono z3;have gfa:(upd H2 fa (.lst zs)) fa=some (.lst zs):=ag;generalize upd H2 fa (.lst zs)=H3 at s3 hZ3 gfa;have hL3:LsAt LkAt H3 ys ls:=hL.imp fun _ _ y=>y.mono s3;have yl:=hL3.1;refine⟨_,rfl,.inl ⟨rfl,_,SqL.of gfa⟩,_,rfl,la,rfl,⟨_,SqL.of (s3 _ _ hla)⟩,bE (K:=K) (xs:=ys) (fun i ws H4=>Same H3 H4/\PAt H4 ws ((ls.take i).map fun l=>(tops.getD l.1 0+tops.getD l.2.1 0-l.2.2,((2^l.1|||2^l.2.1:Nat):Int)))) (Kw (ax (by omega))) ⟨fun _ _ e=>e,PAt.nil _⟩ (fun i ws H4 _ z=>SqL.of (z.1 _ _ (s3 _ _ hla))) ?_ ?_ (fun i ws H4 z=>by have:=z.2.1;rw[JC,JZ]at this;omega)⟩
 ·rintro i x ws H4 hx ⟨s4,hW⟩;obtain⟨l,hl,t,rfl,ht⟩:=hL3.get hx;obtain⟨l1,l2⟩:=ok.sm l (JG hl);have at':∀ k,k<n->(tops.map V.int)[k]?=some (.int (tops.getD k 0)):=fun k hk=>by
   rw[JJ,JE,JB (by omega)]
   rfl
  have hta4:=s4 _ _ (s3 _ _ hta);refine⟨t,_,rfl,SqT.of (s4 _ _ ht),rfl,_,_,rfl,_,_,rfl,_,_,rfl,rfl,rfl,yesT ?_⟩;refine⟨_,rfl,_,rfl,ta,_,_,_,rfl,rfl,SqL.of hta4,aN (at' _ l1),_,rfl,_,rfl,ta,_,_,_,rfl,rfl,SqL.of hta4,aN (at' _ l2),_,_,rfl,rfl,_,rfl,_,_,rfl,rfl,?_⟩;refine⟨_,rfl,_,_,rfl,rfl,⟨by omega,by omega,by decide⟩,_,rfl,_,_,rfl,rfl,⟨by omega,by omega,by decide⟩,_,_,rfl,rfl,(by show 2<=sizeLine;decide),fun t7 ht7=>?_⟩
  have ex:Builtin.bitOr (1*2^((l.1:Nat):Int).toNat) (1*2^((l.2.1:Nat):Int).toNat)=((2^l.1|||2^l.2.1:Nat):Int):=by rw[shlN,shlN,orN]
  have s7:=ak ht7 (.tup [.int (tops.getD l.1 0+tops.getD l.2.1 0-l.2.2),.int (Builtin.bitOr (1*2^((l.1:Nat):Int).toNat) (1*2^((l.2.1:Nat):Int).toNat))]);refine⟨s4.trans s7,?_⟩;rw[Kn,hl,Option.toList_some,Kc];refine(hW.mono s7).app (PAt.one ?_);show _=some (HO.tup [.int (tops.getD l.1 0+tops.getD l.2.1 0-l.2.2),.int ((2^l.1|||2^l.2.1:Nat):Int)])
  rw[← ex];exact ag
 rintro ws H4 ⟨s4,hW⟩ D hD;rw[yl,Kr]at hW;have zl:zs.length=n:=by have:=hZ3.1;rw[JC,KY]at this;exact this
 have wl:ws.length=ls.length:=by have:=hW.1;rw[JC]at this;exact this
 have sD:=ak hD (.lst ws);have fD:fa≠D:=fun z=>by rw[← z,s4 _ _ gfa]at hD;cases hD
 have s35:=s4.trans sD;refine⟨fa,D,zs,ws,rfl,rfl,s35 _ _ gfa,ag,Kw (ax (by omega)),?_⟩
 have s6:Same H (upd (upd H4 D (.lst ws)) fa (.lst (zs++ws))):=EN (s3.trans s35) nfa _;have hp:PAt (upd (upd H4 D (.lst ws)) fa (.lst (zs++ws))) (zs++ws) (evs n ls fun v=>tops.getD v 0):=by
  have g:=(hZ3.mono s35).app (hW.mono sD)
  exact⟨g.1,fun i p e=>by
   obtain⟨t,a1,a2⟩:=g.2 i p e
   exact⟨t,a1,by rw[ao (fun z=>by rw[z,s35 _ _ gfa]at a2;cases a2)];exact a2⟩⟩
 have ghf:(upd (upd H4 D (.lst ws)) fa (.lst (zs++ws))) fa=some (.lst (zs++ws)):=ag;generalize upd (upd H4 D (.lst ws)) fa (.lst (zs++ws))=H6 at s6 hp ghf;have lenA:(zs++ws).length=n+ls.length:=by
  rw[hp.1];unfold evs;rw[JN,JC,JC,KY]
 have p41:∀ k,k<n->(2:Nat)^k<=2^40:=fun k hk=>K0 (by decide) (by omega)
 have bq:∀ q∈evs n ls (fun v=>tops.getD v 0),0<=q.2/\q.2<2199023255552:=fun q hq=>by
  rcases JW.mp hq with hq | hq
  ·obtain⟨v,hv,rfl⟩:=Kk.mp hq;have:=p41 v (KS.mp hv);exact⟨LS _,Int.ofNat_lt.mpr (MQ this (by decide:2^40<2199023255552))⟩
  ·obtain⟨l,hl,rfl⟩:=Kk.mp hq;obtain⟨l1,l2⟩:=ok.sm l hl;have:=Mv (n:=40) (KG (a:=2) (by decide) (show l.1<40 by omega)) (KG (a:=2) (by decide) (show l.2.1<40 by omega))
   exact⟨LS _,Int.ofNat_lt.mpr (LL this (by decide:2^40<2199023255552))⟩
 refine⟨_,rfl,fa,zs++ws,_,rfl,SqL.of ghf,hp,bq,by omega,fun l out ps' hl pm pw pa=>?_⟩
 have s7:=ak hl (.lst out);refine⟨l,out,rfl,SqL.of ag,fun q hq=>?_⟩;have s8:=ak hq (.lst out.reverse);refine kk q out.reverse ps'.reverse _ (s6.trans (s7.trans s8)) ag (pa.rev.mono (s7.trans s8)) ⟨(List.reverse_perm _).trans pm,List.pairwise_reverse.mpr (MW (fun{x y} hx hy z=>?_) pw)⟩;have bx:=bq x (pm.mem_iff.mp hx);have bY:=bq y (pm.mem_iff.mp hy);omega
theorem jd:aD ["pieces","rooms","piece","room"] ["pieces","rooms"] (ai gL):=by ac_nf
theorem Iu{f f1:Addr}{fd fd1:FuncData} (F:Fun K "joined" "joined" gL f fd) (T:Txt mg) (G_bits:Cal P w K mg base 1 "bits" ["mask"] jb f1 fd1):FnOk P w K mg base CX0 2 f fd ["pieces","rooms"] Bb:=by
 refine F.ok jd (fun vs H Q E h=>?_) (fun cdv A outer s H vs Q E hr h=>?_)
 ·obtain⟨p,n,rm,ps,rfl,_⟩:=h;rfl
 obtain⟨p,n,rm,ps,rfl,hp,pl,pb,rb,n40,kk⟩:=h;have e40:(2:Nat)^40=1099511627776:=by decide
 have h1:2^n<=2^40:=K0 (by decide) n40
 refine⟨_,(af (au (i:=2) jd.nd rfl (Or.inr rfl) (pv 1))
   (af (cR PassesOwn.never rfl (aZ (av G_bits.ok (hr.mono (by decide)) rfl G_bits.mg G_bits.kp G_bits.bn .nil aR (ae (pv 1) aj))) (aw (i:=3) jd.nd rfl (Or.inl rfl)) (aq (au (i:=2) jd.nd rfl (Or.inr rfl) (ar BD (pv 2) (aC aP (pv 0) (pv 3) (fun _ _=>rfl))))))
   (aq (aJ (c7 rfl (fr:=[("piece",2)]) (xs:=["room","before"]) (dI.of (by rfl) (by decide) (by rfl) (by decide) (by intro p hp;simp only[JI,Kf,or_false]at hp;rcases hp with rfl<;>exact⟨rfl,rfl⟩) (by decide) (by intro p hp;simp only[JI,Kf,or_false]at hp;rcases hp with rfl<;>rfl)) (mH rfl T.n_enumerate (ae (pv 0) aj)) (fun C ex s H=>(fj (n:=2) (K:=K) rfl rfl (aM (aw (i:=0) (show(["room","before","piece"]:List Str).Nodup from by decide) rfl (Or.inl rfl)) (aM (aw (i:=1) (show(["room","before","piece"]:List Str).Nodup from by decide) rfl (Or.inl rfl)) cH)))) (fun C ex s H=>dA) (fun C ex s H=>(qi (az dQ (ar eO (ar dM (pv 2) (pv 0)) ah) ah (aB _)) (pv 2) (pv 1)))))))),?_⟩
 refine⟨_,rfl,_,rfl,(rm:Int),rfl,by omega,by omega,fun r H1 s1 _ hr1=>?_⟩
 rw[JL]at hr1;have hr1':H1 r=some (.lst ((bl rm).map iV)):=hr1;have hp1:=s1 _ _ hp;have at':∀ k,k<n->(ps.map iV)[k]?=some (iV (ps.getD k 0))/\ps.getD k 0<2^n:=fun k hk=>by
  rw[JJ,JE,JB (by omega)]
  exact⟨rfl,pb _ (KC _)⟩
 refine⟨r,rfl,⟨_,SqL.of hr1'⟩,c9 (K:=K) (xs:=(bl rm).map iV) (fun i σ H2=>∃(v3:Option V)(pc:Nat),σ = [some (.ref p),some (.int (rm:Int)),some (.int (pc:Int)),v3]/\H2=H1/\∀ v,pc.testBit v=true↔(rm.testBit v=true∨∃ k,k∈(bl rm).take i/\(pcs ps k).testBit v=true)) ⟨_,rm,rfl,rfl,fun v=>⟨.inl,fun z=>z.elim id fun⟨k,hk,_⟩=>by simp at hk⟩⟩ (fun i σ H2 _ ⟨_,_,_,z,_⟩=>by rw[z];exact SqL.of hr1') ?_ ?_⟩
 ·rintro i x σ H2 hx ⟨v3,pc,rfl,rfl,pcb⟩;rw[JJ]at hx;obtain⟨k,hk,rfl⟩:=Km.mp hx;have kn:=lA rb (JG hk);obtain⟨a1,a2⟩:=at' k kn;have ex:Builtin.bitOr (pc:Int) ((ps.getD k 0:Nat):Int)=((pc|||ps.getD k 0:Nat):Int):=orN _ _
  refine⟨_,rfl,_,rfl,_,rfl,p,_,_,_,rfl,rfl,SqL.of hp1,aN a1,_,_,rfl,rfl,?_⟩;simp only[ex];refine⟨_,_,rfl,rfl,fun v=>?_⟩;rw[KZ,LC,pcb,Kn,hk];constructor
  ·rintro((z | ⟨k',h1,h2⟩) | z)
   ·exact .inl z
   ·exact .inr ⟨k',K3 _ h1,h2⟩
   ·exact .inr ⟨k,JT _ (by simp),z⟩
  ·rintro(z | ⟨k',h1,h2⟩)
   ·exact .inl (.inl z)
   ·rcases JW.mp h1 with h1 | h1
    ·exact .inl (.inr ⟨k',h1,h2⟩)
    ·have:k'=k:=by simpa using h1
     rw[this]at h2;exact .inr h2
 rintro σ H2 ⟨v3,pc,rfl,rfl,pcb⟩;rw[JC,Kr]at pcb;have pcb':∀ v,pc.testBit v=true↔(rm.testBit v=true∨∃ k,rm.testBit k=true/\(pcs ps k).testBit v=true):=fun v=>by
  rw[pcb v];exact or_congr Iff.rfl ⟨fun⟨k,h1,h2⟩=>⟨k,bG.mp h1,h2⟩,fun⟨k,h1,h2⟩=>⟨k,bG.mpr h1,h2⟩⟩
 have plm:(ps.map iV).length=n:=by rw[JC,pl]
 refine⟨_,rfl,p,rfl,⟨_,SqL.of hp1⟩,km (K:=K) (xs:=ps.map iV) (fun i zs H3=>Same H2 H3/\∃ qs:List Nat,zs=qs.map iV/\qs.length=i/\∀ v,v<i->pcs qs v=HM.jn2 (pcs ps) pc v) (Kw (ax (by omega))) ⟨fun _ _ e=>e,[],rfl,rfl,fun v hv=>absurd hv (LN _)⟩ (fun i zs H3 _ z=>SqL.of (z.1 _ _ hp1)) ?_ ?_ (fun i zs H3 ⟨_,qs,e,ql,_⟩=>by rw[e,JC,ql];exact JF _)⟩
 ·rintro i x zs H3 T2 hx ⟨s3,qs,rfl,ql,qb⟩ hT2;have hi:i<n:=by rw[← plm];exact(JD.mp hx).1
  have sT:=ak hT2 (.tup [.int (i:Int),x]);rw[JJ]at hx;obtain⟨b,hb,rfl⟩:=Km.mp hx;have bb:=pb b (JG hb)
  have step:∀ y:Nat,y=HM.jn2 (pcs ps) pc i->∃ qs':List Nat,qs.map iV++[iV y]=qs'.map iV/\qs'.length=i+1/\∀ v,v<i+1->pcs qs' v=HM.jn2 (pcs ps) pc v:=fun y hy=>⟨qs++[y],by rw[Kc];rfl,by rw[JN,ql];rfl,fun v hv=>by
   unfold pcs;rw[JE];by_cases c:v<i
   ·rw[Kj (by omega),← JE]
    exact qb v c
   ·have:v=qs.length:=by omega
    rw[this,Ka (JF _),Ln,ql]
    exact hy⟩
  have eb:pcs ps i=b:=by unfold pcs;rw[JE,hb];rfl
  refine⟨T2,_,rfl,SqT.of ag,rfl,_,_,rfl,_,_,rfl,rfl,rfl,yesT ?_⟩;refine⟨_,rfl,_,rfl,_,_,rfl,rfl,(show(0:Int)<=(i:Int) by omega),_,_,rfl,rfl,rfl,_,rfl,ite2 (fun c=>?_) (fun c=>?_)⟩
  ·have c':pc.testBit i=true:=(iy pc i).mp (V.int.inj (of_decide_eq_true c))
   exact⟨_,rfl,s3.trans sT,step pc (by unfold HM.jn2;rw[if_pos c'])⟩
  ·have c':¬ pc.testBit i=true:=fun z=>c (decide_eq_true (congrArg V.int ((iy pc i).mpr z)))
   exact⟨_,rfl,s3.trans sT,step b (by unfold HM.jn2;rw[if_neg c',eb])⟩
 rintro zs H3 ⟨s3,qs,rfl,ql,qb⟩ D hD;exact kk D qs pc _ (s1.trans (s3.trans (ak hD _))) ag (by rw[ql,plm]) pcb' fun v hv=>qb v (by rw[plm];exact hv)
end
theorem bit01(u i:Nat):Builtin.bitAnd ((u:Int)/2^((i:Nat):Int).toNat) 1=0∨Builtin.bitAnd ((u:Int)/2^((i:Nat):Int).toNat) 1=1:=by
 have e1:(u:Int)/2^((i:Nat):Int).toNat=((u/2^i:Nat):Int):=by
  rw[JL];push_cast;rfl
 have e2:Builtin.bitAnd ((u/2^i:Nat):Int) 1=((u/2^i&&&1:Nat):Int):=andN _ 1;rw[e1,e2,Nu];omega
theorem CZ{n:Nat}{ls:List Lk}(ok:Lok n ls){h h':Nat->Int}(e:∀ v,v<n->h v=h' v):evs n ls h=evs n ls h':=by
 unfold evs;congr 1
 ·exact Lb fun v hv=>by rw[e v (KS.mp hv)]
 ·exact Lb fun l hl=>by rw[e _ (ok.sm l hl).1,e _ (ok.sm l hl).2]
noncomputable def oldP(kv:List (Nat×Nat))(M:Nat):Nat:=((kv.find? fun e=>decide (e.1=M)).map (·.2)).getD 0
theorem HF(kv:List (Nat×Nat))(M:Nat):(valV (toK kv) (.inl (M:Int))).getD (.int 0)=V.int ((oldP kv M:Nat):Int):=by
 unfold valV toK oldP;rw[List.find?_map];have:((fun kv:Key×V=>decide (kv.1=Sum.inl (M:Int)))∘fun e:Nat×Nat=>((Sum.inl (e.1:Int):Key),V.int (e.2:Int)))=fun e=>decide (e.1=M):=funext fun e=>by
  show decide (Sum.inl (e.1:Int)=(Sum.inl (M:Int):Key))=_;exact decide_eq_decide.mpr ⟨fun z=>Mq (Sum.inl.inj z),fun z=>by rw[z]⟩
 rw[this]
 cases kv.find? fun e=>decide (e.1=M)<;>rfl
theorem BH{M:Nat}:∀{kv:List (Nat×Nat)},(kv.map (·.1)).Nodup->∀ e∈kv,e.1=M->oldP kv M=e.2
 |x::kv,h,e,he,em=>by
  rw[JQ]at h;obtain⟨h1,h2⟩:=Kq.mp h;unfold oldP;rw[L7];by_cases c:x.1=M
  ·rw[decide_eq_true c];rcases JI.mp he with rfl | he
   ·rfl
   ·exact absurd (Kk.mpr ⟨e,he,em.trans c.symm⟩) h1
  ·rw[decide_eq_false c];rcases JI.mp he with rfl | he
   ·exact absurd em c
   ·exact BH h2 e he em
theorem HD{kv:List (Nat×Nat)}{M t:Nat}(nd:(kv.map (·.1)).Nodup):putK (toK kv) (.inl (M:Int)) (V.int (((oldP kv M:Nat):Int)+(t:Int)))=toK (upK kv M t):=by
 have any:((toK kv).any fun e=>decide (e.1=Sum.inl (M:Int)))=kv.any fun e=>decide (e.1=M):=by
  unfold toK;rw[List.any_map];congr 1;funext e;show decide (Sum.inl (e.1:Int)=(Sum.inl (M:Int):Key))=_;exact decide_eq_decide.mpr ⟨fun z=>Mq (Sum.inl.inj z),fun z=>by rw[z]⟩
 unfold putK upK;rw[any];split
 ·unfold toK;rw[Lu,Lu];refine Lb fun e he=>?_;show(if(Sum.inl (e.1:Int):Key)=Sum.inl (M:Int) then _ else _)=((Sum.inl (((if e.1=M then(e.1,e.2+t) else e).1:Nat):Int):Key),V.int (((if e.1=M then(e.1,e.2+t) else e).2:Nat):Int));by_cases c:e.1=M
  ·rw[if_pos (by rw[c]),if_pos c,BH nd e he c]
   show(_,V.int _)=(_,V.int (((e.2+t:Nat):Nat):Int));rw[Int.natCast_add]
  ·rw[if_neg (show ¬ (Sum.inl (e.1:Int):Key)=Sum.inl (M:Int) from fun z=>c (Mq (Sum.inl.inj z))),if_neg c]
 ·rename_i c;have o0:oldP kv M=0:=by
   unfold oldP;rw[List.find?_eq_none.mpr fun e he z=>c (NG.mpr ⟨e,he,z⟩)];rfl
  rw[o0];unfold toK;rw[Kc];show _=_++[(_,V.int (t:Int))];simp
theorem zW{r t:Nat}{kv:List (Nat×Nat)}{hs:List Nat}{j y:Nat}(h:hs[j]?=some y):kh r t kv (hs.take (j+1))=if inP r t y=true then upK (kh r t kv (hs.take j)) y t else kh r t kv (hs.take j):=by
 unfold kh;rw[Kn,h,Option.toList_some,MU];rfl
theorem HE(kv:List (Nat×Nat)):(toK kv).length=kv.length:=JC ..
theorem Hz(kv:List (Nat×Nat))(M t:Nat):(upK kv M t).length<=kv.length+1:=by
 unfold upK;split
 ·rw[JC];omega
 ·rw[JN];exact JF _
theorem uB:∀(ns l:List Int),(ns.foldl addN l).length<=l.length+ns.length
 |[],_=>JF _
 |k::ns,l=>by
  have:=uB ns (addN l k);have:=yC l k;rw[ML,Ke];omega
section
variable{P:Program}{w:World}{K:JH}{mg:Str->Option Value}{base:Heap}
theorem cI:aD ["many","links","marks","row","root","pieces","prices","drying","lower","levels","piece"] ["many","links","marks"] (ai jY):=by ac_nf
theorem Fc{TT f f1 f2 f3 f4:Addr}{fd fd1 fd2 fd3 fd4:FuncData} (F:Fun K "hills" "hills" jY f fd) (T:TxtH mg) (G_heights:Cal P w K mg base 11 "heights" ["many","links","marks"] (HS TT) f1 fd1) (G_dryings:Cal P w K mg base 1 "dryings" ["links","tops"] HU f2 fd2) (G_root_of:Cal P w K mg base 2 "root_of" ["marks"] xK f3 fd3) (G_joined:Cal P w K mg base 2 "joined" ["pieces","rooms"] Bb f4 fd4):FnOk P w K mg base CX0 12 f fd ["many","links","marks"] (uY TT):=by
 refine F.ok cI (fun vs H Q E h=>?_) (fun cdv A outer s H vs Q E hr h=>?_)
 ·obtain⟨v,n,mk,ls,rfl,_⟩:=h;rfl
 obtain⟨v,n,mk,ls,rfl,hV,ok,n1,hc,hmk,ev,fw,few,tb0,kk⟩:=h;have hu:=CO hr;have n40:=ok.n1;have e40:(2:Nat)^40=1099511627776:=by decide
 have h1:2^n<=2^40:=K0 (by decide) n40
 have rn:=qe hmk n1
 refine⟨_,(af (au (i:=3) cI.nd rfl (Or.inl rfl) (av G_dryings.ok (hr.mono (by decide)) rfl G_dryings.mg G_dryings.kp G_dryings.bn .nil aR (ae (pv 1) (ae (av G_heights.ok (hr.mono (by decide)) rfl G_heights.mg G_heights.kp G_heights.bn .nil aR (ae (pv 0) (ae (pv 1) (ae (pv 2) aj)))) aj))))
   (af (au (i:=4) cI.nd rfl (Or.inl rfl) (av G_root_of.ok (hr.mono (by decide)) rfl G_root_of.mg G_root_of.kp G_root_of.bn .nil aR (ae (pv 2) aj)))
   (af (j0 (i:=5) rfl cI.nd rfl rfl (fr:=[]) (by exact bQ.plain (by rfl) (by decide) (by rfl) (by decide) (by rfl) (by decide)) (bz rfl T.n_range (ae (pv 0) aj)) (fun C ex s H=>ah))
   (af (au (i:=6) cI.nd rfl (Or.inl rfl) xX)
   (af (cR PassesOwn.never rfl (GN rfl T.n_zip (ae (pv 3) (ae (fm iF (pv 3) (iI ah) iJ) aj))) (sC rfl (aM (aw (i:=7) cI.nd rfl (Or.inl rfl)) (aM (aw (i:=8) cI.nd rfl (Or.inl rfl)) cH))) (af (au (i:=5) cI.nd rfl (Or.inl rfl) (av G_joined.ok (hr.mono (by decide)) rfl G_joined.mg G_joined.kp G_joined.bn .nil aR (ae (pv 5) (ae (aC aV (pv 7) ah (fun _ _=>rfl)) aj))))
   (af (au (i:=9) cI.nd rfl (Or.inl rfl) (ar ir (aC aV (pv 7) ah (fun _ _=>rfl)) (aC aV (pv 8) ah (fun _ _=>rfl))))
   (aq (cR PassesOwn.never rfl (aZ (aE (Aq rfl rfl rfl) (by rfl) T.n_sorted uh (ae (fW (DM rfl rfl rfl rfl) (by rfl) T.n_set bt_set (ae (pv 5) aj)) aj))) (aw (i:=10) cI.nd rfl (Or.inl rfl)) (aq (c6 (PW.pt (xR (az BE (pv 9) ah (aB _)) (xR (az j4 (pv 10) ah (aB _)) (Bn (az dQ (ar eO (ar dM (pv 10) (pv 4)) ah) ah (aB _)))))) (aq (vg hu (pv 6) (pv 10) (ar b8 (EZ hu (pv 6) (pv 10) ah ⟨rfl,rfl,rfl,rfl⟩) (pv 9)) rfl)) aY)))))))
   (aq (aJ (fW (As rfl) (by rfl) T.n_list nR (ae (pe_bm0 MY N3 PySem.F.type_dict_items Ft (pv 6)) aj))))))))),?_⟩
 refine⟨_,rfl,_,rfl,_,rfl,_,rfl,v,n,mk,ls,rfl,hV,ok,n1,hc,hmk,ev,fw,tb0,fun p cs H1 sm1 tb1 hp cl hop=>?_⟩;refine⟨v,p,n,ls,cs.map fun c=>cs.getD (aK mk) 0-c,rfl,hV.smT sm1,ok,by rw[hp,Lu];rfl,by rw[JC,cl],few,fun q out row H2 s2 hq pat drw=>?_⟩
 have drw':Drw n ls (fun v=>cs.getD (aK mk) 0-cs.getD v 0) row:=⟨by
  rw[CZ ok (h':=fun v=>(cs.map fun c=>cs.getD (aK mk) 0-c).getD v 0) fun v hv=>?_]
  ·exact drw.rp
  ·rw[JE (l:=cs.map _),JJ,JB (by omega),JE (i:=v),JB (by omega)]
   rfl,drw.srt⟩
 clear drw;have rl:row.length=n+ls.length:=by
  rw[drw'.rp.length_eq];unfold evs;rw[JN,JC,JC,KY]
 have ol:out.length=row.length:=pat.1;obtain⟨e0,he0⟩:∃ e0,row[0]?=some e0:=⟨_,JB (by omega)⟩
 obtain⟨I0,lip,c0⟩:=HI.first ok hc hmk rn hop drw'.rp drw'.srt he0;have oc:Opt (farD ls) (bl mk) (cs.getD (aK mk) 0):=by
  have:=hop _ rn;rw[KJ,L0,MP]at this;exact this
 generalize hcr:cs.getD (aK mk) 0=cr at I0 lip c0 oc drw';generalize hhv:(fun v=>cr-cs.getD v 0)=hv at I0 lip drw';have lip':∀ i,i<ls.length->hv (aL ls i)-hv (bL ls i)<=nL ls i/\hv (bL ls i)-hv (aL ls i)<=nL ls i:=by rw[← hhv];exact lip
 refine⟨_,rfl,mk,rfl,by omega,fun H3 s3=>?_⟩
 refine⟨_,rfl,_,rfl,by ac_rfl,by ac_rfl,ig (n:=n) (fun i zs H4=>H4=H3/\zs=(JM i 0).map iV) (Kw (ax (by omega))) ⟨rfl,rfl⟩ ?_ ?_⟩
 ·rintro i zs H4 hi ⟨rfl,rfl⟩;refine⟨rfl,?_⟩;rw[MF,Kc];rfl
 rintro zs H4 _ ⟨rfl,rfl⟩ pp hpp;have s5:=ak hpp (.lst ((JM n 0).map iV));refine fun d hd=>?_;have sd:=ak hd (.dK []);have s25:Same H2 (upd (upd H4 pp (.lst ((JM n 0).map iV))) d (.dK [])):=s3.trans (s5.trans sd);have hq6:=s25 _ _ hq;have hpp6:=sd _ _ (show upd H4 pp (.lst ((JM n 0).map iV)) pp=_ from ag);have nd2:H2 d=none:=cV (s3.trans s5) hd;have gd:(upd (upd H4 pp (.lst ((JM n 0).map iV))) d (.dK [])) d=some (.dK []):=ag;have pat6:=pat.mono s25;generalize upd (upd H4 pp (.lst ((JM n 0).map iV))) d (.dK [])=H6 at s25 hq6 hpp6 gd pat6;refine⟨_,rfl,_,rfl,_,rfl,q,_,rfl,SqL.of hq6,fun q7 hq7=>?_⟩;rw[F8];have s7:=ak hq7 (.lst (out.drop 1));have q7d:q7≠d:=fun z=>by rw[z,gd]at hq7;cases hq7
 have hq7':(upd H6 q7 (.lst (out.drop 1))) q7=some (.lst (out.drop 1)):=ag;have gd7:=s7 _ _ gd;have s27:=s25.trans s7;have hpp7:=s7 _ _ hpp6;have hqd:q≠d:=fun z=>by rw[z,gd]at hq6;cases hq6
 have pat7:=pat6.mono s7;have hq7r:=s7 _ _ hq6;generalize upd H6 q7 (.lst (out.drop 1))=H7 at s7 hq7' gd7 s27 hpp7 pat7 hq7r;have dl:(out.drop 1).length=out.length-1:=Ku ..;have prd:∀{H9:Hp}{i:Nat}{e:Int×Int},TbS d H7 H9->row[i]?=some e->∃ t,out[i]?=some (.ref t)/\H9 t=some (.tup [.int e.1,.int e.2]):=fun{H9 i e} sT hx=>by
  obtain⟨t,z1,z2⟩:=pat7.2 i e hx;exact⟨t,z1,sT _ _ (fun y=>by rw[y,gd7]at z2;cases z2) z2⟩
 have rowD:∀{i:Nat}{e:Int×Int},row[i]?=some e->row.getD i (0,0)=e:=fun{i e} h=>by rw[JE,h];rfl
 refine⟨q,q7,rfl,⟨_,SqL.of hq7r⟩,⟨_,SqL.of hq7'⟩,FV (K:=K) (xs:=out) (zs:=out.drop 1) (out.length-1) (fun i σ H9=>∃(v7 v8 v9 v10:Option V)(pa:Addr)(ps:List Nat)(kv:List (Nat×Nat))(l m:Nat->Nat),σ = [some (.int (n:Int)),some v,some (.int (mk:Int)),some (.ref q),some (.int ((aK mk:Nat):Int)),some (.ref pa),some (.ref d),v7,v8,v9,v10]/\TbS d H7 H9/\H9 d=some (.dK (toK kv))/\kv.length<=40*i/\H9 pa=some (.lst (ps.map iV))/\HI n ls mk hv row (2*cr).toNat i (row.getD i (0,0)).1 ps l m kv)
  ⟨_,_,_,_,pp,JM n 0,[],_,_,rfl,fun _ _ _ e=>e,gd7,JF _,hpp7,by rw[rowD he0];exact I0⟩ (Nat.sub_le _ _) dl (fun i σ H9 _ ⟨_,_,_,_,_,_,_,_,_,_,sT,_⟩=>⟨SqL.of (sT _ _ hqd hq7r),SqL.of (sT _ _ q7d hq7')⟩) ?_ ?_⟩
 ·rintro i x z σ H9 T9 hx hz ⟨v7,v8,v9,v10,pa,ps,kv,lq,m,rfl,sT,hd9,kl,hpa,I⟩ hT9;have hi:i<out.length-1:=by rw[← dl];exact(JD.mp hz).1
  obtain⟨e,he⟩:∃ e,row[i]?=some e:=⟨_,JB (by omega)⟩
  obtain⟨e',he'⟩:∃ e,row[i+1]?=some e:=⟨_,JB (by omega)⟩
  obtain⟨tx,hx',htx⟩:=prd sT he;obtain⟨tz,hz',htz⟩:=prd sT he';rw[hx]at hx'
  cases hx'
  rw[LD,NA,hz']at hz
  cases hz
  rw[rowD he]at I;have hev:e∈evs n ls hv:=drw'.rp.mem_iff.mp (JG he);obtain⟨u,w',hun,hwn,e2,e3,_⟩:=C0 ok lip' hev;have rmb:e.2.toNat<2^n:=by
   rw[e2];exact Mv (KG (by decide) hun) (KG (by decide) hwn)
  have e4:V.int e.2=V.int ((e.2.toNat:Nat):Int):=by rw[e2,e3]
  have le':e'.1<=e.1:=by
   obtain⟨i1,i2⟩:=JD.mp he;obtain⟨j1,j2⟩:=JD.mp he';have:=Lz.mp drw'.srt i (i+1) i1 j1 (by omega)
   rw[i2,j2]at this;exact this
  have s9:=ak hT9 (.tup [.ref tx,.ref tz]);refine⟨T9,_,rfl,SqT.of ag,rfl,_,_,rfl,_,_,rfl,rfl,?_⟩;refine⟨_,rfl,_,rfl,tx,_,1,_,rfl,rfl,SqT.of (s9 _ _ htx),at1,pa,n,e.2.toNat,ps,by rw[← e4];rfl,s9 _ _ hpa,I.pl,I.pb,rmb,n40,fun qa qs PP HA sA hqa ql hPP hqs=>?_⟩
  obtain⟨I2,ne2⟩:=I.join ok lip' he hev rfl hPP ql hqs;have s9A:=s9.trans sA;refine⟨_,rfl,tx,_,0,_,rfl,rfl,SqT.of (s9A _ _ htx),at0,_,rfl,tz,_,0,_,rfl,rfl,SqT.of (s9A _ _ htz),at0,_,_,rfl,rfl,?_⟩;have en:qs.map iV=(qs.map fun x:Nat=>(x:Int)).map V.int:=by rw[Lu];rfl
  have nl:(qs.map fun x:Nat=>(x:Int)).length=n:=by rw[JC,ql]
  refine⟨_,rfl,qa,qs.map fun x:Nat=>(x:Int),rfl,SqL.of (by rw[hqa,en]),by omega,fun a ha=>?_⟩
  have hdA:HA d=some (.dK (toK kv)):=s9A _ _ hd9;have few64:((qs.map fun x:Nat=>(x:Int)).foldl addN []).length<64:=by
   have:=uB (qs.map fun x:Nat=>(x:Int)) [];rw[LY]at this;omega
  refine⟨a,_,rfl,ag,few64,fun l hs hl mem pw=>?_⟩;have ld:l≠d:=fun y=>by
   subst y;have h2:=(ak ha (setO P w a ((qs.map fun x:Nat=>(x:Int)).foldl addN []))) _ _ hdA
   cases (hl.symm.trans h2)
  have qd:qa≠d:=fun y=>by
   rw[y,hdA]at hqa;cases hqa
  have memq:∀ x,x∈hs↔x∈qs.map fun x:Nat=>(x:Int):=fun x=>by
   rw[mem x,Gu];exact⟨fun h=>h.elim (fun h=>(nomatch h)) id,.inr⟩
  obtain⟨hn,ehn⟩:∃ hn:List Nat,hn=hs.map Int.toNat:=⟨_,rfl⟩;have ehs:hs=hn.map fun x:Nat=>(x:Int):=by
   rw[ehn,Lu];refine((Lb (g:=id) fun x hx=>?_).trans (List.map_id _)).symm;obtain⟨y,_,rfl⟩:=Kk.mp ((memq x).mp hx);rfl
  have hnn:hn.Nodup:=by
   rw[ehs]at pw;exact(Mw.mp pw).imp fun h e=>by rw[e]at h;omega
  have hnm:∀ y,y∈hn↔y∈qs:=fun y=>by
   have:=memq (y:Int);rw[ehs,Kk,Kk]at this;constructor
   ·intro h;obtain⟨x,h1,h2⟩:=this.mp ⟨y,h,rfl⟩;rw[← Mq h2];exact h1
   ·intro h;obtain⟨x,h1,h2⟩:=this.mpr ⟨y,h,rfl⟩;rw[← Mq h2];exact h1
  have hsl:hn.length<=n:=by
   have:=GU (l:=hn) (ps:=qs) hnn fun x hx=>(hnm x).mp hx;omega
  obtain⟨t,ht⟩:∃ t:Nat,(e.1-e'.1).toNat=t:=⟨_,rfl⟩;have et:e.1-e'.1=(t:Int):=by omega
  have hml:(hs.map V.int)=hn.map iV:=by rw[ehs,Lu];rfl
  rw[hml];refine⟨l,rfl,⟨_,SqL.of ag⟩,c9 (K:=K) (xs:=hn.map iV) (fun j σ HX=>∃(v10:Option V)(kv':List (Nat×Nat)),σ = [some (.int (n:Int)),some v,some (.int (mk:Int)),some (.ref q),some (.int ((aK mk:Nat):Int)),some (.ref qa),some (.ref d),some (.ref tx),some (.ref tz),some (.int (e.1-e'.1)),v10]/\TbS d HA HX/\HX l=some (.lst (hn.map iV))/\HX d=some (.dK (toK kv'))/\kv'=kh (aK mk) t kv (hn.take j)/\kv'.length<=40*i+j) ⟨_,kv,rfl,fun b o _ e=>((ak ha _).trans (ak hl _)) _ _ e,ag,((ak ha _).trans (ak hl _)) _ _ hdA,rfl,kl⟩ (fun j σ HX _ ⟨_,_,_,_,z,_⟩=>SqL.of z) ?_ ?_⟩
  ·rintro j y σ HX hy ⟨v10,kv',rfl,sX,hlX,hdX,ekv,klX⟩;have hj:j<hn.length:=by
    have:=(JD.mp hy).1;rw[JC]at this;exact this
   rw[JJ]at hy;obtain⟨yv,hyv,rfl⟩:=Km.mp hy;have stp:=zW (r:=aK mk) (t:=t) (kv:=kv) hyv;have no:inP (aK mk) t yv=false->∃(v10:Option V)(kv':List (Nat×Nat)),[some (V.int (n:Int)),some v,some (.int (mk:Int)),some (.ref q),some (.int ((aK mk:Nat):Int)),some (.ref qa),some (.ref d),some (.ref tx),some (.ref tz),some (.int (e.1-e'.1)),some (iV yv)] = [some (.int (n:Int)),some v,some (.int (mk:Int)),some (.ref q),some (.int ((aK mk:Nat):Int)),some (.ref qa),some (.ref d),some (.ref tx),some (.ref tz),some (.int (e.1-e'.1)),v10]/\TbS d HA HX/\HX l=some (.lst (hn.map iV))/\HX d=some (.dK (toK kv'))/\kv'=kh (aK mk) t kv (hn.take (j+1))/\kv'.length<=40*i+(j+1):=fun z=>⟨_,kv',rfl,sX,hlX,hdX,by rw[stp,z,if_neg (by simp)];exact ekv,by omega⟩
   refine⟨_,rfl,_,_,rfl,rfl,_,rfl,ite2 (fun c1=>?_) (fun c1=>no ?_)⟩;rotate_left
   ·unfold inP;rw[decide_eq_false (fun z=>c1 (decide_eq_true (by show(0:Int)<e.1-e'.1;omega)))]
    rfl
   have c1':(0:Int)<e.1-e'.1:=of_decide_eq_true c1;refine⟨_,rfl,rfl,_,rfl,ite2 (fun c2=>?_) (fun c2=>no ?_)⟩;rotate_left
   ·have:yv=0:=Decidable.byContradiction fun z=>c2 (by
     rw[decide_eq_false (show ¬ iV yv=V.int 0 from fun y=>z (Mq (V.int.inj y)))]
     rfl)
    unfold inP;rw[this];simp
   have c2':yv≠0:=fun z=>by
    rw[z]at c2;exact absurd c2 (by rw[decide_eq_true (show iV 0=V.int 0 from rfl)];decide)
   refine⟨_,rfl,_,rfl,_,_,rfl,rfl,(show(0:Int)<=((aK mk:Nat):Int) by omega),_,_,rfl,rfl,rfl,_,rfl,ite2 (fun c3=>?_) (fun c3=>no ?_)⟩
   rotate_left
   ·cases z:yv.testBit (aK mk) with
    |true=>unfold inP;rw[z];simp
    |false =>
     exfalso;refine c3 (decide_eq_true (congrArg V.int ?_));have h0:=(iy yv (aK mk));rw[z]at h0;have h1:=bit01 yv (aK mk);rcases h1 with h1 | h1
     ·exact h1
     ·exact absurd (h0.mp h1) (by simp)
   have c3':yv.testBit (aK mk)=false:=by
    cases z:yv.testBit (aK mk) with
    |false=>rfl
    |true =>
     have h0:=(iy yv (aK mk)).mpr z;have h1:Builtin.bitAnd ((yv:Int)/2^((aK mk:Nat):Int).toNat) 1=0:=V.int.inj (of_decide_eq_true c3);rw[h0]at h1
     cases h1
   have yes:inP (aK mk) t yv=true:=by
    unfold inP;rw[decide_eq_true (show 0<t by omega),decide_eq_true c2',c3']
    rfl
   have big:(toK kv').length<sizeLine:=by
    rw[HE];have:kv'.length<3000:=by omega
    exact LL this (by decide)
   have hxv:=HF kv' yv;have nd':(kv'.map (·.1)).Nodup:=by rw[ekv];exact lR I2.nd
   refine⟨_,rfl,d,rfl,.inl ⟨_,.inl hdX⟩,_,rfl,_,DGet.k (k:=.inl (yv:Int)) hdX,_,rfl,_,_,hxv,rfl,_,rfl,_,rfl,d,_,rfl,DPut.k (k:=.inl (yv:Int)) hdX big,?_⟩;rw[et,HD nd'];refine⟨_,upK kv' yv t,rfl,(fun b o nb e=>by rw[ao nb];exact sX b o nb e),by rw[ao ld];exact hlX,ag,by rw[stp,yes,if_pos rfl,ekv],?_⟩
   have:=Hz kv' yv t;omega
  ·rintro σ HX ⟨v10,kv',rfl,sX,_,hdX,ekv,klX⟩;rw[JC]at klX;rw[JC,Kr]at ekv;obtain⟨l',m',I3⟩:=I2.down lip' ne2 drw'.rp drw'.srt he' le' hnn hnm rn;rw[ht,← ekv]at I3;exact⟨_,_,_,_,qa,qs,kv',l',m',rfl,fun b o nb e=>sX b o nb (s9A _ _ (sT b o nb e)),hdX,by omega,sX _ _ qd hqa,by rw[rowD he'];exact I3⟩
 ·rintro σ H9 ⟨v7,v8,v9,v10,pa,ps,kv,lq,m,rfl,sT,hd9,kl,hpa,I⟩;obtain⟨e,he⟩:∃ e,row[out.length-1]?=some e:=⟨_,JB (by omega)⟩
  rw[rowD he]at I;have m0:=I.end ok lip' drw'.rp he rfl (by omega) rn
  have hH:=I.hls c0 ok m0;refine⟨_,rfl,.inr (.inr (.inl ⟨rfl,.inl ⟨_,hd9⟩⟩)),d,_,rfl,rfl,hd9,True.intro,fun vw hvw=>?_⟩;have sv:=ak hvw (yj vw d);refine⟨vw,d,toK kv,kv.map (fun e=>((e.1:Int),(e.2:Int))),rfl,ag,sv _ _ hd9,by unfold toK;rw[Lu];rfl,fun l ys H10 k10 hl hl10 yl yat=>?_⟩
  have tb7:Tb lqF lpF TT H7:=bH (bH tb1 s2) s27;refine kk l ys kv cr H10 (fun b o no e=>?_) (bH (GA tb7 gd7 sT) (sv.trans k10)) hl10 ⟨yl,yat⟩ (by omega) oc hH
  have e2:=s2 _ _ (sm1 b o no e);exact k10 _ _ (sv _ _ (sT b o (fun z=>by rw[z,nd2]at e2;cases e2) (s27 _ _ e2)))
end
noncomputable abbrev Pr:=Int×Int
noncomputable def bt(u:Int)(i:Nat):Bool:=decide (Builtin.bitAnd (u/2^((i:Nat):Int).toNat) 1=1)
noncomputable def stepE(e:Int)(l:Lk):Int:=Builtin.bitXor (Builtin.bitXor e (1*2^((l.1:Nat):Int).toNat)) (1*2^((l.2.1:Nat):Int).toNat)
noncomputable def qS(u:Int)(ls:List Lk):Nat->Int
 |0=>0
 |i+1=>if bt u i=true then stepE (qS u ls i) (lkA ls i) else qS u ls i
noncomputable def qY(u:Int)(ls:List Lk):Nat->Int
 |0=>0
 |i+1=>if bt u i=true then qY u ls i+(lkA ls i).2.2 else qY u ls i
noncomputable def jB(ls:List Lk)(m:Nat)(u:Int):Bool:=decide (u/2^((ls.length:Nat):Int).toNat=0)&&decide (qS u ls ls.length=(m:Int))
noncomputable def cB(n m:Nat)(p:Pr):Bool:=decide (0<=p.1)&&(decide (p.1/2^((n:Nat):Int).toNat=0)&&(decide ((bl (p.1.toNat&&&m)).length%2=1)&&decide (1<=p.2)))
noncomputable def pT(a b:Nat)(p:Pr):Bool:=decide (Builtin.bitAnd (Builtin.bitXor (p.1/2^((a:Nat):Int).toNat) (p.1/2^((b:Nat):Int).toNat)) 1=1)
noncomputable def vt(r:List Pr)(a b:Nat):Int:=((r.filter (pT a b)).map (·.2)).sum
noncomputable def lB(r:List Pr)(l:Lk):Bool:=decide (vt r l.1 l.2.1<=2*l.2.2)
noncomputable def exB(n m:Nat)(ls:List Lk)(u:Int)(r:List Pr):Bool:=jB ls m u&&(r.all (cB n m)&&(ls.all (lB r)&&decide ((r.map (·.2)).sum=2*qY u ls ls.length)))
noncomputable def PrAt(H:Hp)(v:V)(p:Pr):Prop:=∃ t,v=.ref t/\H t=some (.tup [.int p.1,.int p.2])
noncomputable def PpAt(H:Hp)(v:V)(r:List Pr):Prop:=∃ a ys,v=.ref a/\H a=some (.lst ys)/\LsAt PrAt H ys r
theorem PrAt.mono{H H':Hp}{v:V}{p:Pr}(h:PrAt H v p)(s:Same H H'):PrAt H' v p:=by
 obtain⟨t,e,z⟩:=h;exact⟨t,e,s _ _ z⟩
theorem PpAt.mono{H H':Hp}{v:V}{r:List Pr}(h:PpAt H v r)(s:Same H H'):PpAt H' v r:=by
 obtain⟨a,ys,e,z,l⟩:=h;exact⟨a,ys,e,s _ _ z,l.imp fun _ _ q=>q.mono s⟩
theorem big3{k:Nat}(h:k<=3000):k<=sizeLine:=Lf h (by decide)
structure TxtE(mg:Str->Option Value):Prop extends TxtH mg where
 n_sum:mg "sum" = none
 n_all:mg "all" = none
 n_max:mg "max" = none
noncomputable def uZ:Sp:=fun vs H Q _=>∃(v:V)(u:Int)(ls:List Lk)(n:Nat),vs = [v,.int u]/\LnAt H v ls/\Lok n ls/\∀ H',Same H H'->Q (.int (qS u ls ls.length)) H'
noncomputable def uX:Sp:=fun vs H Q _=>∃(v:V)(m:Nat)(u:Int)(ls:List Lk)(n:Nat),vs = [v,.int (m:Int),.int u]/\LnAt H v ls/\Lok n ls/\∀ H',Same H H'->Q (.bl (jB ls m u)) H'
noncomputable def pZ:Sp:=fun vs H Q _=>∃(n m:Nat)(p:Pr),vs = [.int (n:Int),.int (m:Int),.int p.1,.int p.2]/\n<=40/\∀ H',Same H H'->Q (.bl (cB n m p)) H'
noncomputable def AZ:Sp:=fun vs H Q _=>∃(v pv:V)(l:Lk)(r:List Pr),vs = [v,pv]/\LkAt H v l/\PpAt H pv r/\r.length<=3000/\∀ H',Same H H'->Q (.int (vt r l.1 l.2.1)) H'
noncomputable def u0:Sp:=fun vs H Q _=>∃(v:V)(u:Int)(ls:List Lk),vs = [v,.int u]/\LnAt H v ls/\ls.length<=60/\∀ H',Same H H'->Q (.int (qY u ls ls.length)) H'
noncomputable def Bc:Sp:=fun vs H Q _=>∃(n m:Nat)(lv pv:V)(u:Int)(ls:List Lk)(r:List Pr),vs = [.int (n:Int),lv,.int (m:Int),.int u,pv]/\LnAt H lv ls/\PpAt H pv r/\Lok n ls/\r.length<=3000/\∀ H',Same H H'->Q (.bl (exB n m ls u r)) H'
section
variable{P:Program}{w:World}{K:JH}{mg:Str->Option Value}{base:Heap}
theorem dw:aD ["links","used","rooms","number","link"] ["links","used"] (ai di):=by ac_nf
theorem Fe{f:Addr}{fd:FuncData} (F:Fun K "odd_ends" "odd_ends" di f fd) (T:TxtE mg):FnOk P w K mg base CX0 1 f fd ["links","used"] uZ:=by
 refine F.ok dw (fun vs H Q E h=>?_) (fun cdv A outer s H vs Q E hr h=>?_)
 ·obtain⟨v,u,ls,n,rfl,_⟩:=h;rfl
 obtain⟨v,u,ls,n,rfl,⟨a,ys,rfl,hA,hL⟩,ok,kk⟩:=h;have n1:=ok.n1
 refine⟨_,(af (au (i:=2) dw.nd rfl (Or.inl rfl) ah)
   (af (cR PassesOwn.never rfl (mH rfl T.n_enumerate (ae (pv 0) aj)) (sC rfl (aM (aw (i:=3) dw.nd rfl (Or.inl rfl)) (aM (aw (i:=4) dw.nd rfl (Or.inl rfl)) cH))) (aq (c6 (az dQ (ar eO (ar dM (pv 1) (pv 3)) ah) ah (aB _)) (aq (au (i:=2) dw.nd rfl (Or.inl rfl) (ar eN (ar eN (pv 2) (ar bF ah (aC aV (pv 4) ah (fun _ _=>rfl)))) (ar bF ah (aC aV (pv 4) ah (fun _ _=>rfl)))))) aY)))
   (aq (aJ (pv 2))))),?_⟩
 refine⟨_,rfl,a,rfl,⟨_,SqL.of hA⟩,ym (K:=K) (xs:=ys) (fun i σ H2=>∃ v3 v4,σ = [some (.ref a),some (.int u),some (.int (qS u ls i)),v3,v4]/\Same H H2) ⟨_,_,rfl,fun _ _ e=>e⟩ (fun i σ H2 _ z=>?_) ?_ ?_⟩
 ·obtain⟨_,_,_,s2⟩:=z;exact SqL.of (s2 _ _ hA)
 ·rintro i x σ H2 T2 hx ⟨v3,v4,rfl,s2⟩ hT;obtain⟨l,hl,p,rfl,hp⟩:=hL.get hx;obtain⟨b1,b2⟩:=ok.sm l (JG hl);have s3:Same H (upd H2 T2 (.tup [.int (i:Int),.ref p])):=s2.trans (ak hT _);refine⟨T2,_,rfl,SqT.of ag,rfl,_,_,rfl,_,_,rfl,rfl,?_⟩;refine⟨_,rfl,_,rfl,_,_,rfl,rfl,(show(0:Int)<=(i:Int) by omega),_,_,rfl,rfl,rfl,_,rfl,?_⟩
  refine ite2 (fun c=>?_) (fun c=>?_)
  ·have c':bt u i=true:=decide_eq_true (V.int.inj (of_decide_eq_true c))
   refine⟨_,rfl,_,rfl,p,_,0,_,rfl,rfl,SqT.of (s3 _ _ hp),a30,_,_,rfl,rfl,⟨by omega,by omega,by decide⟩,_,_,rfl,rfl,_,rfl,p,_,1,_,rfl,rfl,SqT.of (s3 _ _ hp),a31,_,_,rfl,rfl,⟨by omega,by omega,by decide⟩,_,_,rfl,rfl,?_⟩
   refine⟨some (.int (i:Int)),some (.ref p),?_,s3⟩;rw[qS,if_pos c',cf hl];rfl
  ·have c':¬ bt u i=true:=fun z=>c (decide_eq_true (congrArg V.int (of_decide_eq_true z)))
   refine⟨some (.int (i:Int)),some (.ref p),?_,s3⟩;rw[qS,if_neg c'];rfl
 ·rintro σ H2 ⟨v3,v4,rfl,s2⟩;refine⟨_,rfl,?_⟩;rw[hL.1];exact kk H2 s2
theorem EM:aD ["links","marks","used"] ["links","marks","used"] (ai jX):=by ac_nf
theorem Fb{f f1:Addr}{fd fd1:FuncData} (F:Fun K "joins" "joins" jX f fd) (T:TxtE mg) (G_odd_ends:Cal P w K mg base 1 "odd_ends" ["links","used"] uZ f1 fd1):FnOk P w K mg base CX0 2 f fd ["links","marks","used"] uX:=by
 refine F.ok EM (fun vs H Q E h=>?_) (fun cdv A outer s H vs Q E hr h=>?_)
 ·obtain⟨v,m,u,ls,n,rfl,_⟩:=h;rfl
 obtain⟨v,m,u,ls,n,rfl,hV,ok,kk⟩:=h;obtain⟨a,ys,rfl,hA,hL⟩:=id hV;refine⟨_,(aq (aJ (mI (bX dQ (ar dM (pv 2) (aE aQ (by rfl) T.n_len eX (ae (pv 0) aj))) ah (aB _)) (xW (bX dQ (av G_odd_ends.ok (hr.mono (by decide)) rfl G_odd_ends.mg G_odd_ends.kp G_odd_ends.bn .nil aR (ae (pv 0) (ae (pv 2) aj))) (pv 1) (aB _)))))),?_⟩
 have e1:=ng (u/2^((ys.length:Nat):Int).toNat) 0;rw[hL.1]at e1;refine⟨_,rfl,_,rfl,a,_,rfl,.inl (SqL.of hA),_,_,rfl,rfl,(show(0:Int)<=((ys.length:Nat):Int) by omega),rfl,_,rfl,?_⟩
 rw[hL.1];refine ite2 (fun c=>?_) (fun c=>?_)
 ·have c':=V.int.inj (of_decide_eq_true c)
  refine⟨_,rfl,_,rfl,.ref a,u,ls,n,rfl,hV,ok,fun H1 s1=>⟨_,rfl,rfl,?_⟩⟩;have:=kk H1 s1;unfold jB at this;rw[decide_eq_true c',Le]at this;rw[ng];exact this
 ·have c':¬ u/2^((ls.length:Nat):Int).toNat=0:=fun z=>c (decide_eq_true (congrArg V.int z))
  have:=kk H (fun _ _ e=>e);unfold jB at this;rw[decide_eq_false c',Lq]at this;exact this
theorem Bj:aD ["many","marks","rooms","price"] ["many","marks","rooms","price"] (ai gM):=by ac_nf
theorem BK{f f1:Addr}{fd fd1:FuncData} (F:Fun K "counts" "counts" gM f fd) (G_odd:Cal P w K mg base 3 "odd" ["mask"] EE f1 fd1):FnOk P w K mg base CX0 4 f fd ["many","marks","rooms","price"] pZ:=by
 refine F.ok Bj (fun vs H Q E h=>?_) (fun cdv A outer s H vs Q E hr h=>?_)
 ·obtain⟨n,m,p,rfl,_⟩:=h;rfl
 obtain⟨n,m,p,rfl,hn,kk⟩:=h;obtain⟨x,y⟩:=p;refine⟨_,(aq (aJ (mI (bX op_ge (pv 2) ah (aB _)) (mI (bX dQ (ar dM (pv 2) (pv 0)) ah (aB _)) (mI (bX dQ (av G_odd.ok (hr.mono (by decide)) rfl G_odd.mg G_odd.kp G_odd.bn .nil aR (ae (ar eO (pv 2) (pv 1)) aj)) ah (aB _)) (xW (bX op_ge (pv 3) ah (aB _)))))))),?_⟩
 refine⟨_,rfl,_,_,rfl,rfl,_,rfl,?_⟩;refine ite2 (fun c=>?_) (fun c=>?_)
 ·have c':0<=x:=of_decide_eq_true c
  refine⟨_,rfl,_,rfl,_,_,rfl,rfl,(show(0:Int)<=(n:Int) by omega),rfl,_,rfl,?_⟩
  refine ite2 (fun d=>?_) (fun d=>?_)
  ·have d':x/2^((n:Nat):Int).toNat=0:=V.int.inj (of_decide_eq_true d)
   obtain⟨xn,rfl⟩:∃ xn:Nat,x=(xn:Int):=⟨x.toNat,by omega⟩
   have ea:Builtin.bitAnd (xn:Int) (m:Int)=((xn&&&m:Nat):Int):=by
    rw[PyProof.Rows.bitAnd_pp (LS _) (LS _),JL,JL]
   have lt:xn&&&m<2^40:=by
    have h1:xn&&&m<=xn:=Nat.and_le_left;have h2:xn<2^n:=by
     rw[JL]at d';have d2:xn/2^n=0:=by
      have:((xn/2^n:Nat):Int)=0:=by push_cast;exact d'
      omega
     have pos:0<2^n:=Nat.pow_pos (by decide)
     rcases Nat.div_eq_zero_iff.mp d2 with h | h
     ·omega
     ·exact h
    have h3:2^n<=2^40:=K0 (by decide) hn
    omega
   refine⟨_,rfl,_,rfl,_,_,rfl,rfl,xn&&&m,by show[V.int (Builtin.bitAnd (xn:Int) (m:Int))]=_;rw[ea],lt,fun H1 s1=>⟨rfl,_,rfl,?_⟩⟩
   refine ite2 (fun e=>?_) (fun e=>?_)
   ·have e':(bl (xn&&&m)).length%2=1:=by have:=V.int.inj (of_decide_eq_true e);omega
    refine⟨_,rfl,_,_,rfl,rfl,?_⟩;have:=kk H1 s1;unfold cB at this;rw[decide_eq_true c',decide_eq_true d',JL,decide_eq_true e',Le,Le,Le]at this;exact this
   ·have e':¬ (bl (xn&&&m)).length%2=1:=fun z=>e (decide_eq_true (congrArg V.int (by omega)))
    have:=kk H1 s1;unfold cB at this;rw[decide_eq_true c',decide_eq_true d',JL,decide_eq_false e',Le,Le,Lq]at this;exact this
  ·have d':¬ x/2^((n:Nat):Int).toNat=0:=fun z=>d (decide_eq_true (congrArg V.int z))
   have:=kk H (fun _ _ e=>e);unfold cB at this;rw[decide_eq_true c',decide_eq_false d',Le,Lq]at this;exact this
 ·have c':¬ 0<=x:=fun z=>c (decide_eq_true z)
  have:=kk H (fun _ _ e=>e);unfold cB at this;rw[decide_eq_false c',Lq]at this;exact this
theorem rZ:aD ["link","paper"] ["link","paper"] (ai cm):=by ac_nf
theorem Io{f:Addr}{fd:FuncData} (F:Fun K "paid_over" "paid_over" cm f fd) (T:TxtE mg):FnOk P w K mg base CX0 1 f fd ["link","paper"] AZ:=by
 refine F.ok rZ (fun vs H Q E h=>?_) (fun cdv A outer s H vs Q E hr h=>?_)
 ·obtain⟨v,pv,l,r,rfl,_⟩:=h;rfl
 obtain⟨v,pv,l,r,rfl,⟨t,rfl,ht⟩,⟨a,ys,rfl,hA,hL⟩,h90,kk⟩:=h;have yl:=hL.1;refine⟨_,(aq (aJ (aE (ij rfl) (by rfl) T.n_sum pJ (ae (c7 rfl (fr:=[("link",0)]) (xs:=["rooms","price"]) (dI.of (by rfl) (by decide) (by rfl) (by decide) (by intro p hp;simp only[JI,Kf,or_false]at hp;rcases hp with rfl<;>exact⟨rfl,rfl⟩) (by decide) (by intro p hp;simp only[JI,Kf,or_false]at hp;rcases hp with rfl<;>rfl)) (aZ (pv 1)) (fun C ex s H=>(fj (n:=2) (K:=K) rfl rfl (aM (aw (i:=0) (show(["rooms","price","link"]:List Str).Nodup from by decide) rfl (Or.inl rfl)) (aM (aw (i:=1) (show(["rooms","price","link"]:List Str).Nodup from by decide) rfl (Or.inl rfl)) cH)))) (fun C ex s H=>(qf (az dQ (ar eO (ar eN (ar dM (pv 0) (aC (bZ (K:=K) rfl) (pv 2) ah (fun _ _=>rfl))) (ar dM (pv 0) (aC (bZ (K:=K) rfl) (pv 2) ah (fun _ _=>rfl)))) ah) ah (aB _)))) (fun C ex s H=>(pv 1))) aj)))),?_⟩
 refine⟨_,rfl,a,rfl,⟨_,SqL.of hA⟩,bE (K:=K) (xs:=ys) (fun i zs H2=>H2=H/\zs=(((r.take i).filter (pT l.1 l.2.1)).map (·.2)).map V.int) (big3 (by omega)) ⟨rfl,rfl⟩ (fun i zs H2 _ z=>by rw[z.1];exact SqL.of hA) ?_ ?_ ?_⟩
 ·rintro i x zs H2 hx ⟨rfl,rfl⟩;obtain⟨p,hp,q,rfl,hq⟩:=hL.get hx;have et:r.take (i+1)=r.take i++[p]:=by rw[Kn,hp];rfl
  refine⟨q,_,rfl,SqT.of hq,rfl,_,_,rfl,_,_,rfl,rfl,rfl,?_⟩;refine⟨_,rfl,_,rfl,t,_,0,_,rfl,rfl,SqT.of ht,a30,_,_,rfl,rfl,(show(0:Int)<=(l.1:Int) by omega),_,rfl,_,rfl,t,_,1,_,rfl,rfl,SqT.of ht,a31,_,_,rfl,rfl,(show(0:Int)<=(l.2.1:Int) by omega),_,_,rfl,rfl,_,_,rfl,rfl,rfl,_,rfl,?_⟩
  rw[et,Mp];refine ite2 (fun c=>?_) (fun c=>?_)
  ·have c':pT l.1 l.2.1 p=true:=decide_eq_true (V.int.inj (of_decide_eq_true c))
   refine⟨_,rfl,rfl,?_⟩;rw[Mn c',Kc,Kc];rfl
  ·have c':¬ pT l.1 l.2.1 p=true:=fun z=>c (decide_eq_true (congrArg V.int (of_decide_eq_true z)))
   refine⟨rfl,?_⟩;rw[Mo c',NL,LZ]
 ·rintro zs H2 ⟨rfl,rfl⟩ D hD;rw[yl,Kr];exact⟨D,_,rfl,SqL.of ag,kk _ (ak hD _)⟩
 ·rintro i zs H2 ⟨_,rfl⟩;rw[JC,JC];exact Lf (L6 _ _) (by rw[JZ];omega)
theorem yV:aD ["links","used"] ["links","used"] (ai eJ):=by ac_nf
theorem Ff{f:Addr}{fd:FuncData} (F:Fun K "cost_of" "cost_of" eJ f fd) (T:TxtE mg):FnOk P w K mg base CX0 1 f fd ["links","used"] u0:=by
 refine F.ok yV (fun vs H Q E h=>?_) (fun cdv A outer s H vs Q E hr h=>?_)
 ·obtain⟨v,u,ls,rfl,_⟩:=h;rfl
 obtain⟨v,u,ls,rfl,⟨a,ys,rfl,hA,hL⟩,h90,kk⟩:=h;have yl:=hL.1;refine⟨_,(aq (aJ (aE (ij rfl) (by rfl) T.n_sum pJ (ae (c7 rfl (fr:=[("used",1)]) (xs:=["number","link"]) (dI.of (by rfl) (by decide) (by rfl) (by decide) (by intro p hp;simp only[JI,Kf,or_false]at hp;rcases hp with rfl<;>exact⟨rfl,rfl⟩) (by decide) (by intro p hp;simp only[JI,Kf,or_false]at hp;rcases hp with rfl<;>rfl)) (mH rfl T.n_enumerate (ae (pv 0) aj)) (fun C ex s H=>(fj (n:=2) (K:=K) rfl rfl (aM (aw (i:=0) (show(["number","link","used"]:List Str).Nodup from by decide) rfl (Or.inl rfl)) (aM (aw (i:=1) (show(["number","link","used"]:List Str).Nodup from by decide) rfl (Or.inl rfl)) cH)))) (fun C ex s H=>(qf (az dQ (ar eO (ar dM (pv 2) (pv 0)) ah) ah (aB _)))) (fun C ex s H=>(aC (bZ (K:=K) rfl) (pv 1) ah (fun _ _=>rfl)))) aj)))),?_⟩
 refine⟨_,rfl,a,rfl,⟨_,SqL.of hA⟩,km (K:=K) (xs:=ys) (fun i zs H2=>Same H H2/\∃ ws:List Int,zs=ws.map V.int/\ws.sum=qY u ls i/\ws.length<=i) (big3 (by omega)) ⟨fun _ _ e=>e,[],rfl,rfl,JF _⟩ (fun i zs H2 _ z=>SqL.of (z.1 _ _ hA)) ?_ ?_ ?_⟩
 ·rintro i x zs H2 T2 hx ⟨s2,ws,rfl,hw,hl⟩ hT2;obtain⟨l,hl9,q,rfl,hq⟩:=hL.get hx;have s3:=s2.trans (ak hT2 (.tup [.int (i:Int),.ref q]));refine⟨T2,_,rfl,SqT.of ag,rfl,_,_,rfl,_,_,rfl,rfl,rfl,?_⟩;refine⟨_,rfl,_,rfl,_,_,rfl,rfl,(show(0:Int)<=(i:Int) by omega),_,_,rfl,rfl,rfl,_,rfl,?_⟩
  refine ite2 (fun c=>?_) (fun c=>?_)
  ·have c':bt u i=true:=decide_eq_true (V.int.inj (of_decide_eq_true c))
   refine⟨_,rfl,q,_,2,_,rfl,rfl,SqT.of (s3 _ _ hq),a32,s3,ws++[l.2.2],by rw[Kc];rfl,?_,by rw[JN,Lc];omega⟩
   rw[NK,hw,qY,if_pos c',cf hl9,K7,List.sum_nil,Int.add_zero]
  ·have c':¬ bt u i=true:=fun z=>c (decide_eq_true (congrArg V.int (of_decide_eq_true z)))
   refine⟨s3,ws,rfl,?_,by omega⟩
   rw[hw,qY,if_neg c']
 ·rintro zs H2 ⟨s2,ws,rfl,hw,hl⟩ D hD;rw[yl]at hw;refine⟨D,ws,rfl,SqL.of ag,?_⟩;rw[hw];exact kk _ (s2.trans (ak hD _))
 ·rintro i zs H2 ⟨_,ws,rfl,_,hl⟩;rw[JC];exact hl
theorem vf:aD ["many","links","marks","used","paper"] ["many","links","marks","used","paper"] (ai du):=by ac_nf
theorem Iv{f f1 f2 f3 f4:Addr}{fd fd1 fd2 fd3 fd4:FuncData} (F:Fun K "examined" "examined" du f fd) (T:TxtE mg) (G_joins:Cal P w K mg base 2 "joins" ["links","marks","used"] uX f1 fd1) (G_counts:Cal P w K mg base 4 "counts" ["many","marks","rooms","price"] pZ f2 fd2) (G_paid_over:Cal P w K mg base 1 "paid_over" ["link","paper"] AZ f3 fd3) (G_cost_of:Cal P w K mg base 1 "cost_of" ["links","used"] u0 f4 fd4):FnOk P w K mg base CX0 5 f fd ["many","links","marks","used","paper"] Bc:=by
 refine F.ok vf (fun vs H Q E h=>?_) (fun cdv A outer s H vs Q E hr h=>?_)
 ·obtain⟨n,m,lv,pv,u,ls,r,rfl,_⟩:=h;rfl
 obtain⟨n,m,lv,pv,u,ls,r,rfl,hLn,hPp,ok,h90,kk⟩:=h;have n1:=ok.n1;have l9:=ok.l9;obtain⟨a,ys,rfl,hA,hL⟩:=id hLn;obtain⟨b,zs,rfl,hB,hM⟩:=id hPp;have yl:=hL.1;have zl:=hM.1
 refine⟨_,(af (c6 (fV (fU (av G_joins.ok (hr.mono (by decide)) rfl G_joins.mg G_joins.kp G_joins.bn .nil aR (ae (pv 1) (ae (pv 2) (ae (pv 3) aj)))))) (aq (aJ iL)) aY)
   (af (c6 (fV (fU (aE (ug rfl) (by rfl) T.n_all Hg (ae (c7 rfl (fr:=[("marks",2),("many",0)]) (xs:=["rooms","price"]) (dI.of (by rfl) (by decide) (by rfl) (by decide) (by intro p hp;simp only[JI,Kf,or_false]at hp;rcases hp with rfl | rfl<;>exact⟨rfl,rfl⟩) (by decide) (by intro p hp;simp only[JI,Kf,or_false]at hp;rcases hp with rfl | rfl<;>rfl)) (aZ (pv 4)) (fun C ex s H=>(fj (n:=2) (K:=K) rfl rfl (aM (aw (i:=0) (show(["rooms","price","marks","many"]:List Str).Nodup from by decide) rfl (Or.inl rfl)) (aM (aw (i:=1) (show(["rooms","price","marks","many"]:List Str).Nodup from by decide) rfl (Or.inl rfl)) cH)))) (fun C ex s H=>dA) (fun C ex s H=>(av G_counts.ok (hr.mono (by decide)) rfl G_counts.mg G_counts.kp G_counts.bn .nil aR (ae (pv 3) (ae (pv 2) (ae (pv 0) (ae (pv 1) aj))))))) aj)))) (aq (aJ iL)) aY)
   (af (c6 (fV (fU (aE (ug rfl) (by rfl) T.n_all Hg (ae (iK rfl (fr:=[("paper",4)]) (by exact bQ.one (by rfl) (by decide) (by rfl) (by decide) (by rfl) (by decide) (by rfl) (by rfl) (by decide) (by rfl)) (aZ (pv 1)) (fun C ex s H=>(bX op_le (av G_paid_over.ok (hr.mono (by decide)) rfl G_paid_over.mg G_paid_over.kp G_paid_over.bn .nil aR (ae (pv 0) (ae (pv 1) aj))) (ar fX ah (aC (bZ (K:=K) rfl) (pv 0) ah (fun _ _=>rfl))) (aB _)))) aj)))) (aq (aJ iL)) aY)
   (aq (aJ (bX dQ (aE (ij rfl) (by rfl) T.n_sum pJ (ae (c7 rfl (fr:=[]) (xs:=["rooms","price"]) (dI.of (by rfl) (by decide) (by rfl) (by decide) (fun p hp=>nomatch hp) (by decide) (fun p hp=>nomatch hp)) (aZ (pv 4)) (fun C ex s H=>(fj (n:=2) (K:=K) rfl rfl (aM (aw (i:=0) (show(["rooms","price"]:List Str).Nodup from by decide) rfl (Or.inl rfl)) (aM (aw (i:=1) (show(["rooms","price"]:List Str).Nodup from by decide) rfl (Or.inl rfl)) cH)))) (fun C ex s H=>dA) (fun C ex s H=>(pv 1))) aj)) (ar fX ah (av G_cost_of.ok (hr.mono (by decide)) rfl G_cost_of.mg G_cost_of.kp G_cost_of.bn .nil aR (ae (pv 1) (ae (pv 3) aj)))) (aB _))))))),?_⟩
 refine⟨_,rfl,_,rfl,_,rfl,.ref a,m,u,ls,n,rfl,hLn,ok,fun H1 s1=>?_⟩;refine⟨_,rfl,?_⟩
 cases j:jB ls m u with
 |false =>
  refine iteT ?_;have:=kk H1 s1;unfold exB at this;rw[j,Lq]at this;exact this
 |true =>
  refine iteF ?_;refine⟨_,rfl,b,rfl,⟨_,SqL.of (s1 _ _ hB)⟩,bE (K:=K) (xs:=zs) (fun i ws H2=>Same H H2/\ws=((r.take i).map (cB n m)).map V.bl) (big3 (by omega)) ⟨s1,rfl⟩ (fun i ws H2 _ z=>SqL.of (z.1 _ _ hB)) ?_ ?_ ?_⟩
  ·rintro i x ws H2 hx ⟨s2,rfl⟩;obtain⟨p,hp,q,rfl,hq⟩:=hM.get hx;refine⟨q,_,rfl,SqT.of (s2 _ _ hq),rfl,_,_,rfl,_,_,rfl,rfl,rfl,yesT ⟨_,rfl,_,rfl,_,rfl,_,rfl,n,m,p,rfl,n1,fun H3 s3=>⟨s2.trans s3,?_⟩⟩⟩;rw[Kn,hp,Kc,Kc];rfl
  ·rintro ws H2 ⟨s2,rfl⟩ D hD;rw[zl,Kr];have sD:=s2.trans (ak hD (.lst ((r.map (cB n m)).map V.bl)));refine⟨D,r.map (cB n m),rfl,SqL.of ag,_,rfl,?_⟩;generalize upd H2 D (.lst ((r.map (cB n m)).map V.bl))=H3 at sD;have ea:(r.map (cB n m)).all id=r.all (cB n m):=by rw[List.all_map];rfl
   rw[ea]
   cases c:r.all (cB n m) with
   |false =>
    refine iteT ?_;have:=kk H3 sD;unfold exB at this;rw[j,c,Le,Lq]at this;exact this
   |true =>
    refine iteF ?_;refine⟨_,rfl,a,rfl,⟨_,SqL.of (sD _ _ hA)⟩,eU (K:=K) (xs:=ys) (fun i ws H4=>Same H H4/\ws=((ls.take i).map (lB r)).map V.bl) (big3 (by omega)) ⟨sD,rfl⟩ (fun i ws H4 _ z=>SqL.of (z.1 _ _ hA)) ?_ ?_⟩
    ·rintro i x ws H4 hx ⟨s4,rfl⟩;obtain⟨l,hl,hlk⟩:=hL.get hx;refine⟨_,rfl,_,rfl,x,.ref b,l,r,rfl,hlk.mono s4,hPp.mono s4,h90,fun H5 s5=>?_⟩;obtain⟨q,rfl,hq⟩:=hlk.mono (s4.trans s5);refine⟨_,rfl,q,_,2,_,rfl,rfl,SqT.of hq,a32,_,_,rfl,rfl,.inl ⟨by decide,by decide⟩,_,_,rfl,rfl,s4.trans s5,?_⟩
     rw[Kn,hl,Kc,Kc];rfl
    rintro ws H4 _ ⟨s4,rfl⟩ D4 hD4;rw[yl,Kr];have sD4:=s4.trans (ak hD4 (.lst ((ls.map (lB r)).map V.bl)));refine⟨D4,ls.map (lB r),rfl,SqL.of ag,_,rfl,?_⟩;generalize upd H4 D4 (.lst ((ls.map (lB r)).map V.bl))=H5 at sD4;have ea2:(ls.map (lB r)).all id=ls.all (lB r):=by rw[List.all_map];rfl
    rw[ea2]
    cases d:ls.all (lB r) with
    |false =>
     refine iteT ?_;have:=kk H5 sD4;unfold exB at this;rw[j,c,d,Le,Le,Lq]at this;exact this
    |true =>
     refine iteF ?_;refine⟨_,rfl,b,rfl,⟨_,SqL.of (sD4 _ _ hB)⟩,bE (K:=K) (xs:=zs) (fun i ws H6=>H6=H5/\ws=((r.take i).map (·.2)).map V.int) (big3 (by omega)) ⟨rfl,rfl⟩ (fun i ws H6 _ z=>by rw[z.1];exact SqL.of (sD4 _ _ hB)) ?_ ?_ ?_⟩
     ·rintro i x ws H6 hx ⟨rfl,rfl⟩;obtain⟨p,hp,q,rfl,hq⟩:=hM.get hx;refine⟨q,_,rfl,SqT.of (sD4 _ _ hq),rfl,_,_,rfl,_,_,rfl,rfl,rfl,yesT ⟨_,rfl,rfl,?_⟩⟩;rw[Kn,hp,Kc,Kc];rfl
     ·rintro ws H6 ⟨rfl,rfl⟩ D6 hD6;rw[zl,Kr];have s6:=ak hD6 (.lst ((r.map (·.2)).map V.int));refine⟨D6,r.map (·.2),rfl,SqL.of ag,_,rfl,_,rfl,.ref a,u,ls,rfl,hLn.mono (sD4.trans s6),by omega,fun H7 s7=>⟨_,_,rfl,rfl,.inl ⟨by decide,by decide⟩,rfl,?_⟩⟩
      have:=kk H7 (sD4.trans (s6.trans s7));unfold exB at this;rw[j,c,d,Le,Le,Le,← ng]at this;exact this
     ·rintro i ws H6 ⟨_,rfl⟩;rw[JC,JC,JZ];omega
  ·rintro i ws H2 ⟨_,rfl⟩;rw[JC,JC,JZ];omega
end
theorem Wk.mem{es ls:List Lk}(h:∀ l∈es,l∈ls){a b:Nat}{x:Int}(w:Wk es a b x):Wk ls a b x:=by
 induction w with
 |nil=>exact .nil _
 |step _ hl he ih =>
  obtain⟨j,hj,e⟩:=KP (h _ (JG hl));exact .step ih (by rw[JB hj,e]) he
theorem nd_all{n:Nat}{rs:List Nat}(nd:rs.Nodup)(lt:∀ x∈rs,x<n)(l:rs.length=n){b:Nat}(hb:b<n):b∈rs:=by
 by_cases c:b∈rs
 ·exact c
 ·have:=gP n (b::rs) (Kq.mpr ⟨c,nd⟩) fun x hx=>by
   rcases JI.mp hx with rfl | hx
   ·exact hb
   ·exact lt x hx
  rw[Ke]at this;omega
theorem ls_rot{H:Hp}{ys:List V}{es:List Lk}(h:LsAt LkAt H ys es)(c:Nat):LsAt LkAt H (ys.drop c++ys.take c) (es.drop c++es.take c):=by
 have hl:=h.1;refine⟨by rw[JN,JN,Ku,Ku,JZ,JZ,hl],fun i x e=>?_⟩
 rw[List.getElem?_append,Ku]at e ⊢;rw[← hl]at e;by_cases z:i<ys.length-c
 ·rw[if_pos z,LD]at e ⊢;exact h.2 _ _ e
 ·rw[if_neg z,LR]at e ⊢;by_cases z2:i-(ys.length-c)<c
  ·rw[if_pos z2]at e ⊢;exact h.2 _ _ e
  ·rw[if_neg z2]at e;cases e
theorem LkAt.put{H:Hp}{v:V}{p:Lk}{q:Addr}{us zs:List V}(h:LkAt H v p)(hq:H q=some (.lst us)):LkAt (upd H q (.lst zs)) v p:=by
 obtain⟨t,e,z⟩:=h;exact⟨t,e,by rw[ao (fun y=>by rw[y,hq]at z;cases z)];exact z⟩
theorem G5{xs:List V}{c:Nat}(h:c<=xs.length):cutV xs (some (c:Int)) none=xs.drop c:=by
 unfold cutV;rw[HT.sIx_nat,LX h];show(xs.drop c).take (xs.length-c)=_;exact KA (by rw[Ku];exact JF _)
theorem Du{xs:List V}{c:Nat}(h:c<=xs.length):cutV xs none (some (c:Int))=xs.take c:=by
 unfold cutV;rw[HT.sIx_nat,LX h];show(xs.drop 0).take (c-0)=_;rw[Md,Nd]
structure DrI(n:Nat)(rs:List Nat)(es:List Lk)(i:Nat):Prop where
 len:es.length=i
 sm:∀ x∈es,x.1<n/\x.2.1<n
 w0:∀ x∈es,0<=x.2.2/\x.2.2<=(MM:Int)
 co:∀ k,k<=i->k<n->∃ x,Wk es (rs.getD 0 0) (rs.getD k 0) x
theorem DrI.put{n:Nat}{rs:List Nat}{es:List Lk}{i:Nat}(h:DrI n rs es i){l:Lk}{o t:Nat}(hn:rs.length=n)(hlt:∀ x∈rs,x<n)(ho:o<n)(ht:t<n)(w0:0<=l.2.2/\l.2.2<=(MM:Int))(e1:l.1=rs.getD o 0)(e2:l.2.1=rs.getD t 0)
  (g:i<n-1->(o=i+1/\t<=i)∨(t=i+1/\o<=i)):DrI n rs (es++[l]) (i+1) where
 len:=by rw[JN,h.len];rfl
 sm:=fun x hx=>by
  have at':∀ k,k<n->rs.getD k 0<n:=fun k hk=>by
   rw[JE,JB (by omega)]
   exact hlt _ (KC _)
  rcases JW.mp hx with hx | hx
  ·exact h.sm x hx
  ·rw[JR.mp hx,e1,e2];exact⟨at' o ho,at' t ht⟩
 w0:=fun x hx=>by
  rcases JW.mp hx with hx | hx
  ·exact h.w0 x hx
  ·rw[JR.mp hx];exact w0
 co:=fun k hk kn=>by
  have old:∀ k,k<=i->k<n->∃ x,Wk (es++[l]) (rs.getD 0 0) (rs.getD k 0) x:=fun k a b=>by
   obtain⟨x,hx⟩:=h.co k a b;exact⟨x,hx.mem fun l hl=>K3 _ hl⟩
  by_cases c:k<=i
  ·exact old k c kn
  ·have ek:k=i+1:=by omega
   have hl:(es++[l])[i]?=some l:=by rw[Ka (by rw[h.len];exact JF _),h.len,Ln];rfl
   rcases g (by omega) with⟨g1,g2⟩ | ⟨g1,g2⟩
   ·obtain⟨x,hx⟩:=old t g2 ht;have w:=Wk.link hl (.inl rfl:jC l l.1);have eb:bey l l.1=l.2.1:=by unfold bey;rw[if_pos rfl]
    rw[eb]at w;have w':=w.rev;rw[e1,e2]at w';rw[ek,← g1];exact⟨_,hx.trans w'⟩
   ·obtain⟨x,hx⟩:=old o g2 ho;have w:=Wk.link hl (.inl rfl:jC l l.1);have eb:bey l l.1=l.2.1:=by unfold bey;rw[if_pos rfl]
    rw[eb,e1,e2]at w;rw[ek,← g1];exact⟨_,hx.trans w⟩
theorem DrI.conn{n:Nat}{rs:List Nat}{es:List Lk}{i:Nat}(h:DrI n rs es i)(hn:rs.length=n)(nd:rs.Nodup)(hlt:∀ x∈rs,x<n)(n1:1<=n)(hi:n-1<=i){ls:List Lk}(hm:∀ l∈es,l∈ls):Conn n ls:=by
 have one:∀ b,b<n->∃ x,Wk es (rs.getD 0 0) b x:=fun b hb=>by
  obtain⟨k,hk,e⟩:=KP (nd_all nd hlt hn hb);obtain⟨x,hx⟩:=h.co k (by omega) (by omega)
  rw[JE (i:=k),JB hk,e]at hx;exact⟨x,hx⟩
 intro b hb;obtain⟨x,hx⟩:=one 0 (by omega)
 obtain⟨y,hy⟩:=one b hb;exact⟨_,(hx.rev.trans hy).mem hm⟩
noncomputable def LbI(a l nm:Addr)(f0 n most:Nat)(rs:List Nat)(H:Hp)(i:Nat)(σ:St)(H3:Hp):Prop:=∃(v6 v7 v8 v9 v10 v11:Option V)(ys:List V)(es:List Lk),σ = [some (.ref a),some (.int (f0:Int)),some (.int (n:Int)),some (.int (most:Int)),some (.ref l),some (.ref nm),v6,v7,v8,v9,v10,v11]/\Same H H3/\H3 nm=some (.lst (rs.map iV))/\H3 l=some (.lst ys)/\LsAt LkAt H3 ys es/\DrI n rs es i
noncomputable def rLb(a:Addr)(f0 n most:Nat)(H:Hp):TS:=fun D0 σ H3=>∃(l nm:Addr)(rs:List Nat)(i:Nat)(c mx:Int)(o t:Nat)(v11:Option V)(ys:List V)(es:List Lk),σ = [some (.ref a),some (.int (f0:Int)),some (.int (n:Int)),some (.int (most:Int)),some (.ref l),some (.ref nm),some (.int (i:Int)),some (.int c),some (.int mx),some (.int (o:Int)),some (.int (t:Int)),v11]/\H l=none/\rs.length=n/\(∀ x∈rs,x<n)/\Same H H3/\H3 nm=some (.lst (rs.map iV))/\H3 l=some (.lst ys)/\LsAt LkAt H3 ys es/\DrI n rs es i/\i<40/\l≠nm/\o<n/\t<n/\(i<n-1->(o=i+1/\t<=i)∨(t=i+1/\o<=i))/\∀ σ' H',LbI a l nm f0 n most rs H (i+1) σ' H'->D0.nx σ' H'
noncomputable def spLb(K:JH):Sp:=fun vs H Q _=>∃(a:Addr)(f0 n most:Nat)(ns:List Int),vs = [.ref a,.int (f0:Int),.int (n:Int),.int (most:Int)]/\SqL K H a (ns.map V.int)/\ns.length<=63/\1<=n/\n<=40/\f0<=3/\most<=MM /\
 ∀(l:Addr)(ys:List V) H' (ls:List Lk),Same H H'->H l=none->H' l=some (.lst ys)->LsAt LkAt H' ys ls->Lok n ls->ls.length<=40->Conn n ls->Q (.ref l) H'
section
variable{P:Program}{w:World}{K:JH}{mg:Str->Option Value}{base:Heap}
theorem aH:aD ["script","first","many","top","links","names","k","cell","mixed","one","two","start"] ["script","first","many","top"] (ai bu):=by ac_nf
theorem ok_lb{f f1 f2:Addr}{fd fd1 fd2:FuncData} (F:Fun K "_law_links_by" "_law_links_by" bu f fd) (T:TxtE mg) (G_law_cell_at:Cal P w K mg base 1 "_law_cell_at" ["script","k"] (xN K) f1 fd1) (G_law_names:Cal P w K mg base 1 "_law_names" ["cell","many"] uU f2 fd2):FnOk P w K mg base CX0 2 f fd ["script","first","many","top"] (spLb K):=by
 refine F.ok aH (fun vs H Q E h=>?_) (fun cdv A outer s H vs Q E hr h=>?_)
 ·obtain⟨a,f0,n,most,ns,rfl,_⟩:=h;rfl
 obtain⟨a,f0,n,most,ns,rfl,hS,h63,n1,n40,hf0,hm40,kk⟩:=h;have nl:(ns.map V.int).length=ns.length:=JC ..
 refine⟨_,(af (au (i:=4) aH.nd rfl (Or.inl rfl) (jh aj))
   (af (au (i:=5) aH.nd rfl (Or.inl rfl) (av G_law_names.ok (hr.mono (by decide)) rfl G_law_names.mg G_law_names.kp G_law_names.bn .nil aR (ae (av G_law_cell_at.ok (hr.mono (by decide)) rfl G_law_cell_at.mg G_law_cell_at.kp G_law_cell_at.bn .nil aR (ae (pv 0) (ae ah aj))) (ae (pv 2) aj))))
   (af (cR PassesOwn.never rfl (bz rfl T.n_range (ae (aE (DP rfl) (by rfl) T.n_min yA (ae ah (ae (aE (uf rfl) (by rfl) T.n_max Hd (ae (ar ir (pv 2) ah) (ae (ar j5 (ar b8 (ar ir (aE aQ (by rfl) T.n_len eX (ae (pv 0) aj)) (pv 1)) ah) ah) aj))) aj))) aj)) (aw (i:=6) aH.nd rfl (Or.inl rfl)) (af (au (i:=7) aH.nd rfl (Or.inl rfl) (av G_law_cell_at.ok (hr.mono (by decide)) rfl G_law_cell_at.mg G_law_cell_at.kp G_law_cell_at.bn .nil aR (ae (pv 0) (ae (ar b8 (pv 1) (ar fX ah (pv 6))) aj))))
   (af (au (i:=8) aH.nd rfl (Or.inl rfl) (ar bO (ar fX (ar bO (pv 7) ah) ah) ah))
   (af (au (i:=9) aH.nd rfl (Or.inl rfl) (ar bO (pv 8) (pv 2)))
   (af (au (i:=10) aH.nd rfl (Or.inl rfl) (ar bO (ar bO (ar fX (pv 8) (pv 8)) ah) (pv 2)))
   (af (c6 (az zd (pv 6) (ar ir (pv 2) ah) (aB _)) (af (au (i:=9) aH.nd rfl (Or.inl rfl) (ar b8 (pv 6) ah))
   (aq (au (i:=10) aH.nd rfl (Or.inl rfl) (ar bO (pv 8) (ar b8 (pv 6) ah))))) aY)
   (mD (t2:=rLb a f0 n most H) (af (c6 (az dQ (ar bO (ar j5 (pv 7) ah) ah) ah (aB _)) (aq (ps_par (i:=9) (j:=10) rfl aH.nd rfl rfl (by decide) rfl rfl (ae (pv 10) (ae (pv 9) aj)) rfl)) aY)
   (mD (t2:=rLb a f0 n most H) (aq (cX (qj K6 Lm Ll dB (pv 4) (ae (kK (ae (aC aP (pv 5) (pv 9) (fun _ _=>rfl)) (ae (aC aP (pv 5) (pv 10) (fun _ _=>rfl)) (ae (ar bO (av G_law_cell_at.ok (hr.mono (by decide)) rfl G_law_cell_at.mg G_law_cell_at.kp G_law_cell_at.bn .nil aR (ae (pv 0) (ae (ar b8 (ar b8 (pv 1) (ar fX ah (pv 6))) ah) aj))) (ar b8 (pv 3) ah)) aj)))) aj)))) (fun D0 S0 H0 h0=>?restb))) (fun D0 S0 H0 h0=>?resta))))))))
   (af (au (i:=11) aH.nd rfl (Or.inl rfl) (ar bO (ar j5 (av G_law_cell_at.ok (hr.mono (by decide)) rfl G_law_cell_at.mg G_law_cell_at.kp G_law_cell_at.bn .nil aR (ae (pv 0) (ae ah aj))) ah) (aE (uf rfl) (by rfl) T.n_max Hd (ae ah (ae (aE aQ (by rfl) T.n_len eX (ae (pv 4) aj)) aj)))))
   (aq (aJ (ar Il (fm iF (pv 4) (iI (pv 11)) iJ) (fm iF (pv 4) iJ (iI (pv 11)))))))))),?_⟩
 case restb =>
  obtain⟨l,nm,rs,i,c,mx,o,t,v11,ys,es,rfl,hl,rl,rlt,s3,hnm,hl3,hY,dr,i40,lnm,ob,tb,g,kn⟩:=h0;have at':∀ k,k<n->(rs.map iV)[k]?=some (iV (rs.getD k 0)):=fun k hk=>by rw[JJ,JE,JB (by ac_rfl)];rfl
  have hS3:=s3.seq hS;have e1:(f0:Int)+2*(i:Int)+1=((f0+2*i+1:Nat):Int):=by push_cast;rfl
  refine⟨_,rfl,.inl ⟨rfl,_,SqL.of hl3⟩,_,rfl,_,rfl,nm,_,_,_,rfl,rfl,SqL.of hnm,aN (at' o ob),_,rfl,_,rfl,nm,_,_,_,rfl,rfl,SqL.of hnm,aN (at' t tb),_,rfl,_,rfl,_,rfl,_,_,rfl,rfl,.inr ⟨by ac_rfl,by ac_rfl⟩,_,_,rfl,rfl,_,_,rfl,rfl,a,f0+2*i+1,ns,congrArg (fun z=>[V.ref a,V.int z]) e1,hS3,_,rfl,_,_,rfl,rfl,_,_,rfl,rfl,(by show(0:Int)<(most:Int)+1;ac_rfl),(by show 3<=sizeLine;decide),fun tt htt=>?_⟩
  have w0:=Li (gm ns (f0+2*i+1)) (show(most:Int)+1≠0 by ac_rfl)
  have w1:=LU (gm ns (f0+2*i+1)) (show(0:Int)<(most:Int)+1 by ac_rfl)
  obtain⟨lk,elk⟩:∃ lk:Lk,lk=(rs.getD o 0,rs.getD t 0,gm ns (f0+2*i+1)%((most:Int)+1)):=⟨_,rfl⟩;have s4:=ak htt (.tup [iV (rs.getD o 0),iV (rs.getD t 0),.int (gm ns (f0+2*i+1)%((most:Int)+1))]);have dl:=dr.len;have yl:=hY.1;refine⟨l,ys,_,rfl,rfl,s4 _ _ hl3,ax (by ac_rfl),?_⟩
  refine kn _ _ ⟨_,_,_,_,_,_,_,es++[lk],rfl,bW (s3.trans s4) hl _,by rw[ao (Ne.symm lnm)];exact s4 _ _ hnm,ag,?_,dr.put rl rlt ob tb (by rw[elk];exact⟨w0,Int.le_trans (Int.lt_add_one_iff.mp w1) (Int.ofNat_le.mpr hm40)⟩) (by rw[elk]) (by rw[elk]) g⟩
  exact((hY.imp fun _ _ y=>y.mono s4).snoc (x:=lk) ⟨tt,rfl,by rw[elk];exact ag⟩).imp fun _ _ y=>y.put (s4 _ _ hl3)
 case resta =>
  obtain⟨l,nm,rs,i,c,mx,o,t,v11,ys,es,rfl,hl,rl,rlt,s3,hnm,hl3,hY,dr,i40,lnm,ob,tb,g,kn⟩:=h0;refine⟨_,rfl,_,_,rfl,rfl,⟨by decide,by decide⟩,_,_,rfl,rfl,(by show(0:Int)<2;decide),rfl,_,rfl,?_⟩
  refine ite2 (fun _=>?_) (fun _=>?_)
  ·exact⟨_,rfl,_,rfl,_,_,rfl,l,nm,rs,i,c,mx,t,o,v11,ys,es,rfl,hl,rl,rlt,s3,hnm,hl3,hY,dr,i40,lnm,tb,ob,fun z=>(g z).symm,kn⟩
  ·exact⟨l,nm,rs,i,c,mx,o,t,v11,ys,es,rfl,hl,rl,rlt,s3,hnm,hl3,hY,dr,i40,lnm,ob,tb,g,kn⟩
 refine⟨(by show 0<=sizeLine;decide),fun l hl=>?_⟩
 have s1:=ak hl (.lst []);refine⟨_,rfl,a,1,ns,rfl,s1.seq hS,_,rfl,gm ns 1,n,rfl,n40,fun nm rs H2 s2 hnm0 hnm rl nd rlt=>?_⟩;have s12:=s1.trans s2;have lnm:l≠nm:=fun z=>by rw[z,ag]at hnm0;cases hnm0
 refine⟨_,rfl,_,_,rfl,rfl,_,rfl,a,_,rfl,.inl (s12.seq hS),_,rfl,_,_,rfl,rfl,_,_,rfl,rfl,_,_,rfl,rfl,⟨by decide,by decide⟩,_,_,rfl,_,_,rfl,?_⟩
 have hM:(if(if(((ns.map V.int).length:Int)-(f0:Int)+1)/2 > (n:Int)-1 then(((ns.map V.int).length:Int)-(f0:Int)+1)/2 else(n:Int)-1)<80 then(if(((ns.map V.int).length:Int)-(f0:Int)+1)/2 > (n:Int)-1 then(((ns.map V.int).length:Int)-(f0:Int)+1)/2 else(n:Int)-1) else 80)<=40/\(n:Int)-1<=(if(if(((ns.map V.int).length:Int)-(f0:Int)+1)/2 > (n:Int)-1 then(((ns.map V.int).length:Int)-(f0:Int)+1)/2 else(n:Int)-1)<80 then(if(((ns.map V.int).length:Int)-(f0:Int)+1)/2 > (n:Int)-1 then(((ns.map V.int).length:Int)-(f0:Int)+1)/2 else(n:Int)-1) else 80):=by
  have hq:(((ns.map V.int).length:Int)-(f0:Int)+1)/2<=32:=by rw[nl];ac_rfl
  generalize (((ns.map V.int).length:Int)-(f0:Int)+1)/2=q at hq ⊢;by_cases c1:q > (n:Int)-1
  ·rw[if_pos c1];by_cases c2:q<80
   ·rw[if_pos c2];ac_rfl
   ·rw[if_neg c2];ac_rfl
  ·rw[if_neg c1];by_cases c2:(n:Int)-1<80
   ·rw[if_pos c2];ac_rfl
   ·rw[if_neg c2];ac_rfl
 generalize (if(if(((ns.map V.int).length:Int)-(f0:Int)+1)/2 > (n:Int)-1 then(((ns.map V.int).length:Int)-(f0:Int)+1)/2 else(n:Int)-1)<80 then(if(((ns.map V.int).length:Int)-(f0:Int)+1)/2 > (n:Int)-1 then(((ns.map V.int).length:Int)-(f0:Int)+1)/2 else(n:Int)-1) else 80)=Z at hM;obtain⟨M,rfl⟩:∃ M:Nat,Z=(M:Int):=⟨Z.toNat,by ac_rfl⟩
 have M2:n-1<=M:=by ac_rfl
 have M1:M<=40:=by ac_rfl
 refine⟨_,rfl,by ac_rfl,by ac_rfl,?_⟩
 refine gi (lo:=0) (n:=M) (LbI a l nm f0 n most rs H) ⟨_,_,_,_,_,_,[],[],rfl,s12,hnm,s2 _ _ ag,LsAt.nil,⟨rfl,(fun x h=>nomatch h),(fun x h=>nomatch h),fun k hk _=>by
  have:k=0:=by ac_rfl
  subst this
  exact⟨0,.nil _⟩⟩⟩ ?_ ?_
 ·rintro i σ H3 hi ⟨v6,v7,v8,v9,v10,v11,ys,es,rfl,s3,hnm3,hl3,hY,dr⟩;have e0:(0:Int)+(i:Int)=(i:Int):=L8 _;rw[e0];have e2:(f0:Int)+2*(i:Int)=((f0+2*i:Nat):Int):=by push_cast;rfl
  have np:(0:Int)<(n:Int):=by ac_rfl
  refine⟨_,rfl,_,rfl,_,rfl,_,_,rfl,rfl,.inr ⟨by ac_rfl,by ac_rfl⟩,_,_,rfl,rfl,a,f0+2*i,ns,congrArg (fun z=>[V.ref a,V.int z]) e2,s3.seq hS,?_⟩
  generalize gm ns (f0+2*i)=c;refine⟨_,rfl,_,_,rfl,rfl,(by show(0:Int)<1000000007;decide),_,_,rfl,rfl,.inr ⟨by decide,by decide⟩,_,_,rfl,rfl,(by show(0:Int)<2147483647;decide),?_⟩
  have mx0:=Li (c%1000000007*48271) (show(2147483647:Int)≠0 by decide)
  have mx1:=LU (c%1000000007*48271) (show(0:Int)<2147483647 by decide)
  obtain⟨mx,emx⟩:∃ mx,c%1000000007*48271%2147483647=mx:=⟨_,rfl⟩;rw[emx]at mx0 mx1;simp only[emx];refine⟨_,rfl,_,rfl,_,_,rfl,rfl,np,?_⟩;obtain⟨o,eo,ob⟩:∃ o:Nat,mx%(n:Int)=(o:Int)/\o<n:=⟨(mx%(n:Int)).toNat,by have:=Li mx (show(n:Int)≠0 by ac_rfl);ac_rfl,by have:=LU mx np;have:=Li mx (show(n:Int)≠0 by ac_rfl);ac_rfl⟩
  simp only[eo];refine⟨_,rfl,_,rfl,_,_,rfl,rfl,.inr ⟨by ac_rfl,by ac_rfl⟩,_,_,rfl,rfl,(by show(0:Int)<1000003;decide),_,rfl,_,_,rfl,rfl,np,?_⟩
  obtain⟨t,et,tb⟩:∃ t:Nat,mx*mx%1000003%(n:Int)=(t:Int)/\t<n:=⟨(mx*mx%1000003%(n:Int)).toNat,by have:=Li (mx*mx%1000003) (show(n:Int)≠0 by ac_rfl);ac_rfl,by have:=LU (mx*mx%1000003) np;have:=Li (mx*mx%1000003) (show(n:Int)≠0 by ac_rfl);ac_rfl⟩
  simp only[et];refine⟨_,rfl,_,rfl,_,_,rfl,rfl,_,_,rfl,rfl,_,rfl,?_⟩;refine ite2 (fun z=>?_) (fun z=>?_)
  ·have z':(i:Int)<(n:Int)-1:=of_decide_eq_true z
   have ip:(0:Int)<(i:Int)+1:=by ac_rfl
   refine⟨_,rfl,_,_,rfl,rfl,_,rfl,_,rfl,_,_,rfl,rfl,_,_,rfl,rfl,ip,?_⟩;obtain⟨t2,et2,tb2⟩:∃ t:Nat,mx%((i:Int)+1)=(t:Int)/\t<=i:=⟨(mx%((i:Int)+1)).toNat,by have:=Li mx (show(i:Int)+1≠0 by ac_rfl);ac_rfl,by have:=LU mx ip;have:=Li mx (show(i:Int)+1≠0 by ac_rfl);ac_rfl⟩
   simp only[et2];exact⟨l,nm,rs,i,c,mx,i+1,t2,v11,ys,es,rfl,hl,rl,rlt,s3,hnm3,hl3,hY,dr,by ac_rfl,lnm,by ac_rfl,by ac_rfl,fun _=>.inl ⟨rfl,tb2⟩,fun σ' H' z=>z⟩
  ·have z':¬ (i:Int)<(n:Int)-1:=fun y=>z (decide_eq_true y)
   exact⟨l,nm,rs,i,c,mx,o,t,v11,ys,es,rfl,hl,rl,rlt,s3,hnm3,hl3,hY,dr,by ac_rfl,lnm,ob,tb,fun y=>by ac_rfl,fun σ' H' z=>z⟩
 ·rintro σ H3 ⟨v6,v7,v8,v9,v10,v11,ys,es,rfl,s3,hnm3,hl3,hY,dr⟩;have dl:=dr.len;have yl:=hY.1;refine⟨_,rfl,a,1,ns,rfl,s3.seq hS,_,_,rfl,rfl,⟨by decide,by decide⟩,_,rfl,l,_,rfl,.inl (SqL.of hl3),_,_,rfl,?_⟩
  obtain⟨m,em,m1,m2⟩:∃ m:Nat,(if((ys.length:Nat):Int) > 1 then((ys.length:Nat):Int) else 1)=(m:Int)/\1<=m/\m<=ys.length+1/\(ys.length≠0->m<=ys.length):=by
   by_cases c:((ys.length:Nat):Int) > 1
   ·rw[if_pos c];exact⟨ys.length,rfl,by ac_rfl,by ac_rfl,fun _=>JF _⟩
   ·rw[if_neg c];exact⟨1,rfl,by ac_rfl,by ac_rfl,fun _=>by ac_rfl⟩
  simp only[em];have mp:(0:Int)<(m:Int):=by ac_rfl
  refine⟨_,_,rfl,rfl,mp,?_⟩;obtain⟨st,est,sb⟩:∃ t:Nat,gm ns 1/7%(m:Int)=(t:Int)/\t<m:=⟨(gm ns 1/7%(m:Int)).toNat,by have:=Li (gm ns 1/7) (show(m:Int)≠0 by ac_rfl);ac_rfl,by have:=LU (gm ns 1/7) mp;have:=Li (gm ns 1/7) (show(m:Int)≠0 by ac_rfl);ac_rfl⟩
  simp only[est];have sl:st<=ys.length:=by ac_rfl
  refine⟨_,rfl,_,rfl,_,rfl,l,_,rfl,SqL.of hl3,fun p1 hp1=>?_⟩;rw[G5 sl];have t1:=ak hp1 (.lst (ys.drop st));refine⟨_,rfl,_,rfl,_,rfl,l,_,rfl,SqL.of (t1 _ _ hl3),fun p2 hp2=>?_⟩;rw[Du sl];have t2:=ak hp2 (.lst (ys.take st));refine⟨p1,p2,_,_,rfl,rfl,SqL.of (t2 _ _ ag),SqL.of ag,Kw (ax (by rw[Ku,JZ];ac_rfl)),fun p3 hp3=>?_⟩
  have t3:=ak hp3 (.lst (ys.drop st++ys.take st));have s5:=s3.trans (t1.trans (t2.trans t3));have mem:∀ x,x∈es.drop st++es.take st↔x∈es:=fun x=>by
   rw[JW];constructor
   ·rintro(h | h)
    ·exact La h
    ·exact K9 h
   ·intro h;rw[← Kl st es]at h;rcases JW.mp h with h | h
    ·exact .inr h
    ·exact .inl h
  have ll:(es.drop st++es.take st).length=es.length:=by rw[JN,Ku,JZ];ac_rfl
  exact kk p3 _ _ (es.drop st++es.take st) s5 (cV (s3.trans (t1.trans t2)) hp3) ag ((ls_rot hY st).imp fun _ _ y=>y.mono (t1.trans (t2.trans t3))) ⟨n40,by ac_rfl,fun x hx=>dr.sm x ((mem x).mp hx),fun x hx=>dr.w0 x ((mem x).mp hx)⟩ (by ac_rfl) (dr.conn rl nd rlt n1 M2 fun x hx=>(mem x).mpr hx)
end
theorem DI{m:Nat}(h:0<m):(bl (m&&&(m-1))).length+1=(bl m).length/\m&&&(m-1)<m:=by
 obtain⟨p,h1,h2⟩:=Cq m h;have hp:p∈bl m:=bG.mpr h1;have l1:0<(bl m).length:=Mt hp;refine⟨?_,?_⟩
 ·rw[h2,(iD m p).length_eq];unfold tog;rw[if_pos hp,MT,if_pos hp];omega
 ·have:m&&&(m-1)<=m-1:=Nat.and_le_right
  omega
theorem BC(f:Nat->Bool):∀ n,HM.par f n=decide (((KO n).filter f).length%2=1)
 |0=>rfl
 |n+1=>by
  show(HM.par f n ^^ f n)=_;rw[BC f n,MK,Mp,JN,Lv,NL]
  cases f n with
  |false=>simp
  |true =>
   rw[if_pos rfl,Lc];have h:((KO n).filter f).length%2=0∨((KO n).filter f).length%2=1:=by omega
   rcases h with h | h
   ·rw[decide_eq_false (by omega),decide_eq_true (by omega)];rfl
   ·rw[decide_eq_true h,decide_eq_false (by omega)];rfl
theorem BA{M m n:Nat}(hM:M<2^n):HM.par (fun x=>M.testBit x&&m.testBit x) n=decide ((bl (M&&&m)).length%2=1):=by
 have lt:M&&&m<2^n:=MQ Nat.and_le_left hM;have e:(fun x=>M.testBit x&&m.testBit x)=fun x=>(M&&&m).testBit x:=funext fun x=>(Lh ..).symm;rw[e,BC];have h1:=w9 (M&&&m) n;rw[Jq lt]at h1;rw[show((KO n).filter fun x=>(M&&&m).testBit x).length=(bl (M&&&m)).length by omega]
noncomputable abbrev rK(kv:List (Nat×Nat)):List Pr:=kv.map fun e=>((e.1:Int),(e.2:Int))
theorem GO{H:Hp}{ys:List V}{r:List Pr}(h:PAt H ys r):LsAt PrAt H ys r:=⟨h.1,fun i x e=>by
 obtain⟨t,a,b⟩:=h.2 i x e
 exact⟨_,a,t,rfl,b⟩⟩
theorem kj(M a:Nat):(M:Int)/2^((a:Nat):Int).toNat=((M/2^a:Nat):Int):=by
 rw[JL];push_cast;rfl
theorem pT_bit(M p a b:Nat):pT a b ((M:Int),(p:Int))=(M.testBit a ^^ M.testBit b):=by
 unfold pT;show decide (Builtin.bitAnd (Builtin.bitXor ((M:Int)/2^((a:Nat):Int).toNat) ((M:Int)/2^((b:Nat):Int).toNat)) 1=1)=_;rw[kj,kj];have e1:Builtin.bitXor ((M/2^a:Nat):Int) ((M/2^b:Nat):Int)=((M/2^a^^^M/2^b:Nat):Int):=xorN _ _;have e2:Builtin.bitAnd ((M/2^a^^^M/2^b:Nat):Int) 1=((((M/2^a)^^^(M/2^b))&&&1:Nat):Int):=andN _ 1;rw[e1,e2];have e3:(M.testBit a ^^ M.testBit b)=(((M/2^a)^^^(M/2^b)).testBit 0):=by
  rw[KI,N6,N6,Mi,Mi]
 rw[e3,MB,Nu];exact decide_eq_decide.mpr ⟨fun z=>by omega,fun z=>by omega⟩
theorem vq(a b:Nat):∀ kv:List (Nat×Nat),vt (rK kv) a b=((wsum (fun M=>cond (M.testBit a ^^ M.testBit b) 1 0) kv:Nat):Int)
 |[]=>rfl
 |e::kv=>by
  have ih:=vq a b kv;have s1:wsum (fun M=>cond (M.testBit a ^^ M.testBit b) 1 0) (e::kv)=e.2*cond (e.1.testBit a ^^ e.1.testBit b) 1 0+wsum (fun M=>cond (M.testBit a ^^ M.testBit b) 1 0) kv:=by unfold wsum;rw[JQ,K7]
  rw[s1];unfold vt at ih ⊢;rw[show rK (e::kv)=((e.1:Int),(e.2:Int))::rK kv from rfl,Lv,pT_bit]
  cases (e.1.testBit a ^^ e.1.testBit b) with
  |false=>rw[if_neg (by simp)];simpa using ih
  |true =>
   rw[if_pos rfl,JQ,K7,ih];show(e.2:Int)+_=_;rw[cond_true,Nat.mul_one];omega
theorem AX:∀ kv:List (Nat×Nat),((rK kv).map (·.2)).sum=((wsum (fun _=>1) kv:Nat):Int)
 |[]=>rfl
 |e::kv=>by
  have ih:=AX kv;have s1:wsum (fun _=>1) (e::kv)=e.2*1+wsum (fun _=>1) kv:=by unfold wsum;rw[JQ,K7]
  rw[s1,show rK (e::kv)=((e.1:Int),(e.2:Int))::rK kv from rfl,JQ,K7,ih];show(e.2:Int)+_=_;omega
theorem Hf(u i:Nat):bt (u:Int) i=u.testBit i:=by
 unfold bt
 cases h:u.testBit i with
 |true=>exact decide_eq_true ((iy u i).mpr h)
 |false=>exact decide_eq_false fun z=>by rw[(iy u i).mp z]at h;cases h
theorem Dd(ls:List Lk)(u:Nat):∀ i,qS (u:Int) ls i=((oddE ls u i:Nat):Int)
 |0=>rfl
 |i+1=>by
  rw[qS,Hf,Dd ls u i];show _=(((if u.testBit i=true then oddE ls u i^^^endX (lkA ls i) else oddE ls u i):Nat):Int);split
  ·unfold stepE endX;rw[shlN,shlN,xorN,xorN,KJ]
  ·rfl
theorem DF(ls:List Lk)(u:Nat):∀ i,qY (u:Int) ls i=cstU ls u i
 |0=>rfl
 |i+1=>by
  rw[qY,Hf,DF ls u i];rfl
theorem Hls.exam{n:Nat}{ls:List Lk}{mk u:Nat}{cost:Int}{kv:List (Nat×Nat)}(h:Hls n ls mk cost kv)(ub:u<2^ls.length)(ho:oddE ls u ls.length=mk)(hc:cstU ls u ls.length=cost):exB n mk ls (u:Int) (rK kv)=true:=by
 unfold exB;rw[LG,LG,LG];refine⟨?_,?_,?_,?_⟩
 ·unfold jB;rw[kj,Dd,ho,M6 ub];simp
 ·rw[M7];intro p hp;obtain⟨e,he,rfl⟩:=Kk.mp hp;obtain⟨k1,k2,k3,k4⟩:=h.ke e he;rw[BA k3]at k4;unfold cB;show(decide ((0:Int)<=(e.1:Int))&&(decide ((e.1:Int)/2^((n:Nat):Int).toNat=0)&&(decide ((bl ((e.1:Int).toNat&&&mk)).length%2=1)&&decide ((1:Int)<=(e.2:Int)))))=true;rw[kj,M6 k3,JL,k4,decide_eq_true (show(0:Int)<=(e.1:Int) by omega),decide_eq_true (show(1:Int)<=(e.2:Int) by omega)]
  rfl
 ·rw[M7];intro l hl;obtain⟨i,hi,e⟩:=KP hl;have ei:=cf (ls:=ls) (k:=i) (l:=l) (by rw[JB hi,e])
  have:=h.pd i hi;unfold lB;refine decide_eq_true ?_;rw[vq];unfold nL at this;rw[ei]at this;have e2:(fun M=>HM.chi (HM.dm M) (aL ls) (bL ls) i)=fun M:Nat=>cond (M.testBit l.1 ^^ M.testBit l.2.1) 1 0:=funext fun M=>by
   unfold HM.chi HM.dm aL bL;rw[ei]
  rw[e2]at this;exact this
 ·rw[AX,DF,hc];exact decide_eq_true h.sm
theorem Ea:∀(k:Nat)(rs:List Nat),rs.length=k->rs.Pairwise (· < ·)->∃ m:Nat,(rs.map fun x:Nat=>(2:Int)^x).sum=(m:Int)/\(∀ x,m.testBit x=true↔x∈rs)/\∀ n,(∀ x∈rs,x<n)->m<2^n
 |0,rs,e,_=>by
  rw[L3.mp e];exact⟨0,rfl,fun x=>by rw[KW];simp,fun n _=>Lg n⟩
 |k+1,rs,e,h=>by
  rcases List.eq_nil_or_concat rs with z | ⟨r0,y,z⟩
  ·rw[z]at e;cases e
  rw[List.concat_eq_append]at z;subst z;rw[JN,Lc]at e;obtain⟨h1,_,h3⟩:=KQ.mp h;obtain⟨m,m1,m2,m3⟩:=Ea k r0 (by omega) h1
  have my:m<2^y:=m3 y fun x hx=>h3 x hx y (JR.mpr rfl);have eo:2^y+m=2^y|||m:=by
   have:=Nat.two_pow_add_eq_or_of_lt my 1;rw[Nat.mul_one]at this;exact this
  refine⟨2^y+m,?_,fun x=>?_,fun n hn=>?_⟩
  ·rw[Kc,NK,m1];show(m:Int)+((2:Int)^y+0)=_;push_cast;omega
  ·rw[eo,KZ,JY,LC,m2,decide_eq_true_iff,JW,JR];exact⟨fun h=>h.elim (fun h=>.inr h.symm) .inl,fun h=>h.elim .inr fun h=>.inl h.symm⟩
  ·rw[eo];have yn:=hn y (by simp)
   exact Mv (KG (by decide) yn) (Kx my (K0 (by decide) (by omega)))
theorem bl_of{m:Nat}{rs:List Nat}(nd:rs.Nodup)(h:∀ x,m.testBit x=true↔x∈rs):(bl m).length=rs.length:=((LQ (gu m) nd).mpr fun x=>by rw[bG,h]).length_eq
noncomputable def HQ:Sp:=fun vs H Q _=>∃(c:Int)(n most:Nat),vs = [.int c,.int (n:Int),.int (most:Int)]/\n<=40/\most<=14/\most%2=0/\∀(mk:Nat) H',Same H H'->mk<2^n->(bl mk).length%2=0->(bl mk).length<=14->Q (.int (mk:Int)) H'
noncomputable def Ba:Sp:=fun vs H Q _=>∃ m:Nat,vs = [.int (m:Int)]/\Q (.bl (decide ((bl m).length%2=1))) H
noncomputable def HR:Sp:=fun vs H Q _=>∃(p:Addr)(ys:List V)(kv:List (Nat×Nat))(n mk:Nat),vs = [.ref p,.int (n:Int),.int (mk:Int)]/\H p=some (.lst ys)/\PAt H ys (rK kv)/\kv.length<=3000/\n<=40/\(∀ e∈kv,1<=e.2/\1<=e.1/\e.1<2^n/\(bl (e.1&&&mk)).length%2=1)/\Q (.bl true) H
noncomputable def HP:Sp:=fun vs H Q _=>∃(p:Addr)(ys:List V)(kv:List (Nat×Nat)),vs = [.ref p]/\H p=some (.lst ys)/\PAt H ys (rK kv)/\kv.length<=3000/\(kv.map (·.1)).Nodup/\(∀ e∈kv,∀ e'∈kv,nest e.1 e'.1)/\∀ H',Same H H'->Q (.bl true) H'
noncomputable def uV:Sp:=fun vs H Q _=>∃(v:V)(l:Lk)(p:Addr)(ys:List V)(r:List Pr),vs = [v,.ref p]/\LkAt H v l/\H p=some (.lst ys)/\PAt H ys r/\r.length<=3000/\∀ H',Same H H'->Q (.int (vt r l.1 l.2.1)) H'
noncomputable def uW:Sp:=fun vs H Q _=>∃(v:V)(n u:Nat)(ls:List Lk),vs = [v,.int (u:Int),.int ((oddE ls u ls.length:Nat):Int)]/\LnAt H v ls/\Lok n ls/\u<2^ls.length/\Q (.int (cstU ls u ls.length)) H
theorem FF(ls:List Lk){u i:Nat}(h:u.testBit i=false):oddE ls u (i+1)=oddE ls u i/\cstU ls u (i+1)=cstU ls u i:=by
 have h':¬ u.testBit i=true:=by rw[h];exact Kb
 constructor
 ·show(if u.testBit i=true then _ else _)=_;rw[if_neg h']
 ·show(if u.testBit i=true then _ else _)=_;rw[if_neg h']
theorem HG{ls:List Lk}{u i:Nat}{l:Lk}(hl:ls[i]?=some l)(h:u.testBit i=true):oddE ls u (i+1)=oddE ls u i^^^endX l/\cstU ls u (i+1)=cstU ls u i+l.2.2:=by
 constructor
 ·show(if u.testBit i=true then _ else _)=_;rw[if_pos h,cf hl]
 ·show(if u.testBit i=true then _ else _)=_;rw[if_pos h,cf hl]
section
variable{P:Program}{w:World}{K:JH}{mg:Str->Option Value}{base:Heap}
theorem gG:aD ["mask","count"] ["mask"] (ai eF):=by ac_nf
theorem Ir{f:Addr}{fd:FuncData} (F:Fun K "_law_odd" "_law_odd" eF f fd):FnOk P w K mg base CX0 1 f fd ["mask"] Ba:=by
 refine F.ok gG (fun vs H Q E h=>?_) (fun cdv A outer s H vs Q E hr h=>?_)
 ·obtain⟨m,rfl,_⟩:=h;rfl
 obtain⟨m,rfl,kk⟩:=h
 refine⟨_,(af (au (i:=1) gG.nd rfl (Or.inl rfl) ah)
   (af (gO PassesOwn.never (az BE (pv 0) ah (aB _)) (af (au (i:=0) gG.nd rfl (Or.inl rfl) (ar eO (pv 0) (ar ir (pv 0) ah)))
   (aq (ps_aug (i:=1) gG.nd rfl (Or.inl rfl) ah ip_add))))
   (aq (aJ (bX dQ (ar bO (pv 1) ah) ah (aB _)))))),?_⟩
 refine gE (fun σ H2=>∃(q c:Nat),σ = [some (.int (q:Int)),some (.int (c:Int))]/\H2=H/\c+(bl q).length=(bl m).length) (fun σ _=>match σ with | [some (.int r),_]=>r.toNat | _=>0) ⟨m,0,rfl,rfl,Mi _⟩ ?_ ?_
 ·rintro σ H2 ⟨q,c,rfl,rfl,hb⟩;refine⟨_,rfl,_,_,rfl,rfl,_,rfl,?_⟩;refine ite2 (fun z=>?_) (fun z=>?_)
  ·have z':(0:Int)<(q:Int):=of_decide_eq_true z
   obtain⟨g1,g2⟩:=DI (m:=q) (by omega)
   have ea:Builtin.bitAnd (q:Int) ((q:Int)-1)=((q&&&(q-1):Nat):Int):=by
    rw[show(q:Int)-1=((q-1:Nat):Int) by omega]
    exact andN _ _
   refine⟨_,rfl,_,rfl,_,_,rfl,rfl,_,_,rfl,rfl,?_⟩;simp only[ea];refine⟨_,rfl,_,_,rfl,rfl,⟨q&&&(q-1),c+1,rfl,rfl,by omega⟩,?_⟩
   show((q&&&(q-1):Nat):Int).toNat<((q:Nat):Int).toNat;omega
  ·have z':¬ (0:Int)<(q:Int):=fun y=>z (decide_eq_true y)
   have:q=0:=by omega
   subst this;rw[nU]at hb;have hb':c=(bl m).length:=hb;rw[← hb']at kk;refine⟨_,rfl,_,_,rfl,rfl,(by show(0:Int)<2;decide),rfl,?_⟩
   rw[ng,show decide ((c:Int)%2=1)=decide (c%2=1) from decide_eq_decide.mpr (by omega)]
   exact kk
 ·rintro σ H2 Q1 Q2 hi ⟨v,e,i,j,a,b,kk,e2,q⟩;exact⟨v,e,i,j,a,b,kk,e2,hi _ _ q⟩
theorem bV:aD ["cell","many","most","marks","rooms"] ["cell","many","most"] (ai br):=by ac_nf
theorem ok_mks{f:Addr}{fd:FuncData} (F:Fun K "_law_marks_by" "_law_marks_by" br f fd) (T:TxtE mg):FnOk P w K mg base CX0 1 f fd ["cell","many","most"] HQ:=by
 refine F.ok bV (fun vs H Q E h=>?_) (fun cdv A outer s H vs Q E hr h=>?_)
 ·obtain⟨c,n,most,rfl,_⟩:=h;rfl
 obtain⟨c,n,most,rfl,n40,m14,me,kk⟩:=h
 refine⟨_,(af (au (i:=3) bV.nd rfl (Or.inr rfl) (ar bO (pv 0) (ar bF ah (pv 1))))
   (af (cG (i:=4) rfl bV.nd rfl rfl (fr:=[("marks",3)]) (xs:=["room"]) (dI.of (by rfl) (by decide) (by rfl) (by decide) (by intro p hp;simp only[JI,Kf,or_false]at hp;rcases hp with rfl<;>exact⟨rfl,rfl⟩) (by decide) (by intro p hp;simp only[JI,Kf,or_false]at hp;rcases hp with rfl<;>rfl)) (bz rfl T.n_range (ae (pv 1) aj)) (fun C ex s H=>(aw (i:=0) (show(["room","marks"]:List Str).Nodup from by decide) rfl (Or.inl rfl))) (fun C ex s H=>(qf (az dQ (ar eO (ar dM (pv 1) (pv 0)) ah) ah (aB _)))) (fun C ex s H=>(pv 0)))
   (af (au (i:=4) bV.nd rfl (Or.inl rfl) (fm iF (pv 4) (iI (ar bO (aE aQ (by rfl) T.n_len eX (ae (pv 4) aj)) ah)) iJ))
   (aq (aJ (aE (ij rfl) (by rfl) T.n_sum pJ (ae (iK rfl (fr:=[]) (by exact bQ.plain (by rfl) (by decide) (by rfl) (by decide) (by rfl) (by decide)) (aZ (fm iF (pv 4) iJ (iI (pv 2)))) (fun C ex s H=>(ar bF ah (pv 0)))) aj))))))),?_⟩
 have n1:(1:Int)*2^((n:Nat):Int).toNat=((2^n:Nat):Int):=shlN n;have pp:(0:Int)<((2^n:Nat):Int):=by have:=Lg n;omega
 refine⟨_,rfl,_,rfl,_,_,rfl,rfl,⟨by omega,by omega,by decide⟩,_,_,rfl,rfl,(by show(0:Int)<1*2^((n:Nat):Int).toNat;rw[n1];exact pp),?_⟩
 obtain⟨M,eM⟩:∃ M:Nat,c%(1*2^((n:Nat):Int).toNat)=(M:Int):=⟨(c%(1*2^((n:Nat):Int).toNat)).toNat,by
  rw[n1];have:=Li c (show((2^n:Nat):Int)≠0 by omega)
  omega⟩
 simp only[eM];refine⟨_,rfl,_,rfl,by ac_rfl,by ac_rfl,nA (lo:=0) (k:=n) (fun i zs H2=>H2=H/\zs=((KO i).filter fun x=>M.testBit x).map iV) (Kw (ax (by omega))) ⟨rfl,rfl⟩ ?_ ?_ ?_⟩
 ·rintro i zs H2 hi ⟨rfl,rfl⟩;rw[L8];refine⟨rfl,?_⟩;refine⟨_,rfl,_,rfl,_,_,rfl,rfl,(show(0:Int)<=(i:Int) by omega),_,_,rfl,rfl,rfl,_,rfl,?_⟩
  rw[MK,Mp,Kc];refine ite2 (fun c=>?_) (fun c=>?_)
  ·have c':M.testBit i=true:=(iy M i).mp (V.int.inj (of_decide_eq_true c))
   refine⟨_,rfl,rfl,?_⟩;rw[Lv,if_pos c'];rfl
  ·have c':¬ M.testBit i=true:=fun z=>c (decide_eq_true (congrArg V.int ((iy M i).mpr z)))
   refine⟨rfl,?_⟩;rw[Lv,if_neg c'];simp
 ·rintro zs H2 ⟨rfl,rfl⟩ D hD;obtain⟨rs,ers⟩:∃ rs,rs=(KO n).filter fun x=>M.testBit x:=⟨_,rfl⟩;rw[← ers];have asc:rs.Pairwise (· < ·):=by rw[ers];exact List.Pairwise.filter _ List.pairwise_lt_range
  have rlt:∀ x∈rs,x<n:=fun x hx=>by rw[ers]at hx;exact KS.mp (Mm.mp hx).1
  have s1:=ak hD (.lst (rs.map iV));refine⟨_,rfl,_,rfl,D,_,rfl,.inl (SqL.of ag),_,_,rfl,rfl,(by show(0:Int)<2;decide),_,rfl,D,_,rfl,SqL.of ag,fun D2 hD2=>?_⟩
  rw[show(((rs.map iV).length:Nat):Int)%2=((rs.length%2:Nat):Int) by rw[JC];omega,G5 (by rw[JC];omega),← List.map_drop]
  have s2:=ak hD2 (.lst ((rs.drop (rs.length%2)).map iV));obtain⟨qs,eqs⟩:∃ qs,qs=rs.drop (rs.length%2):=⟨_,rfl⟩;rw[← eqs]at s2 ⊢;have ql:qs.length%2=0:=by rw[eqs,Ku];omega
  have qa:qs.Pairwise (· < ·):=by rw[eqs];exact asc.sublist (List.drop_sublist ..)
  have qn:∀ x∈qs,x<n:=fun x hx=>rlt x (by rw[eqs]at hx;exact La hx)
  refine⟨_,rfl,_,rfl,_,rfl,D2,_,rfl,SqL.of ag,fun D3 hD3=>?_⟩;have ec:cutV (qs.map iV) none (some (most:Int))=(qs.take most).map iV:=by
   by_cases c:most<=(qs.map iV).length
   ·rw[Du c,List.map_take]
   ·unfold cutV;rw[HT.sIx_nat,Nat.min_eq_right (by omega)]
    show((qs.map iV).drop 0).take ((qs.map iV).length-0)=_;rw[Md,Nd,Kr,KA (by rw[JC]at c;omega)]
  rw[ec];have s3:=ak hD3 (.lst ((qs.take most).map iV));obtain⟨ts,ets⟩:∃ ts,ts=qs.take most:=⟨_,rfl⟩;rw[← ets]at s3 ⊢;have tl:ts.length%2=0/\ts.length<=14:=by rw[ets,JZ];omega
  have ta:ts.Pairwise (· < ·):=by rw[ets];exact qa.sublist (Nx ..)
  have tn:∀ x∈ts,x<n:=fun x hx=>qn x (by rw[ets]at hx;exact K9 hx)
  refine⟨D3,rfl,⟨_,SqL.of ag⟩,eU (K:=K) (xs:=ts.map iV) (fun i zs H4=>H4=_/\zs=((ts.take i).map fun x:Nat=>(2:Int)^x).map V.int) (Kw (ax (by rw[JC];omega))) ⟨rfl,rfl⟩ (fun i zs H4 _ z=>by rw[z.1];exact SqL.of ag) ?_ ?_⟩
  ·rintro i x zs H4 hx ⟨rfl,rfl⟩;rw[JJ]at hx;obtain⟨y,hy,rfl⟩:=Km.mp hx;have yn:=tn y (JG hy);refine⟨_,rfl,_,_,rfl,rfl,⟨by omega,by omega,by decide⟩,rfl,?_⟩
   show _++[V.int (1*2^((y:Nat):Int).toNat)]=_;rw[Kn,hy,Kc,Kc,Int.one_mul,JL];rfl
  rintro zs H4 _ ⟨rfl,rfl⟩ D4 hD4;rw[JC,Kr];obtain⟨mk,m1,m2,m3⟩:=Ea _ ts rfl ta;have bln:=bl_of (ta.imp fun h e=>by omega) m2
  refine⟨D4,_,rfl,SqL.of ag,?_⟩;rw[m1];exact kk mk _ (s1.trans (s2.trans (s3.trans (ak hD4 _)))) (m3 n tn) (by omega) (by omega)
 ·rintro i zs H2 ⟨_,rfl⟩;rw[JC];exact Lf (L6 _ _) (by rw[KY];exact JF _)
theorem kJ:aD ["found","many","marks","pair"] ["found","many","marks"] (ai cC):=by ac_nf
theorem ok_kin{f f1 f2:Addr}{fd d1 d2:FuncData} (F:Fun K "_law_kinds" "_law_kinds" cC f fd) (T:TxtE mg) (G_law_whole:Cal P w K mg base 1 "_law_whole" ["found"] uS f1 d1) (G_law_odd:Cal P w K mg base 1 "_law_odd" ["mask"] Ba f2 d2):FnOk P w K mg base CX0 2 f fd ["found","many","marks"] HR:=by
 refine F.ok kJ (fun vs H Q E h=>?_) (fun cdv A outer s H vs Q E hr h=>?_)
 ·obtain⟨p,ys,kv,n,mk,rfl,_⟩:=h;rfl
 obtain⟨p,ys,kv,n,mk,rfl,hp,pat,k3,n40,ke,kk⟩:=h
 refine⟨_,(af (c6 (fV (fU (aE l8 (by rfl) T.n_isinstance dh (ae (pv 0) (ae (qk (v:=.ty "list") rfl T.n_list nR rfl) aj))))) (aq (aJ iL)) aY)
   (af (cR PassesOwn.never rfl (aZ (pv 0)) (aw (i:=3) kJ.nd rfl (Or.inl rfl)) (af (c6 (PW.pt (jZ (fV (fU (aE l8 (by rfl) T.n_isinstance dh (ae (pv 3) (ae (qk (v:=.ty "tuple") rfl T.n_tuple Gg rfl) aj))))) (jZ (az j4 (aE aQ (by rfl) T.n_len eX (ae (pv 3) aj)) ah (aB _)) (jZ (fV (fU (av G_law_whole.ok (hr.mono (by decide)) rfl G_law_whole.mg G_law_whole.kp G_law_whole.bn .nil aR (ae (aC aV (pv 3) ah (fun _ _=>rfl)) aj)))) (mC (fV (fU (av G_law_whole.ok (hr.mono (by decide)) rfl G_law_whole.mg G_law_whole.kp G_law_whole.bn .nil aR (ae (aC aV (pv 3) ah (fun _ _=>rfl)) aj))))))))) (aq (aJ iL)) aY)
   (aq (c6 (PW.pt (jZ (az zd (aC aV (pv 3) ah (fun _ _=>rfl)) ah (aB _)) (jZ (az j4 (ar dM (aC aV (pv 3) ah (fun _ _=>rfl)) (pv 1)) ah (aB _)) (jZ (az zd (aC aV (pv 3) ah (fun _ _=>rfl)) ah (aB _)) (mC (fV (fU (av G_law_odd.ok (hr.mono (by decide)) rfl G_law_odd.mg G_law_odd.kp G_law_odd.bn .nil aR (ae (ar eO (aC aV (pv 3) ah (fun _ _=>rfl)) (pv 2)) aj))))))))) (aq (aJ iL)) aY))))
   (aq (aJ iL)))),?_⟩
 refine⟨_,rfl,_,_,_,_,_,rfl,TyOf.lst hp,Or.inl ⟨_,rfl,rfl⟩,kit_ll K,_,rfl,iteF ?_⟩;refine⟨_,rfl,p,rfl,⟨_,SqL.of hp⟩,c9 (K:=K) (xs:=ys) (fun i σ H2=>∃ v3:Option V,σ = [some (.ref p),some (.int (n:Int)),some (.int (mk:Int)),v3]/\H2=H) ⟨_,rfl,rfl⟩ (fun i σ H2 _ ⟨_,_,z⟩=>by rw[z];exact SqL.of hp) ?_ ?_⟩
 ·rintro i x σ H2 hx ⟨v3,rfl,rfl⟩;obtain⟨e,he⟩:∃ e,kv[i]?=some e:=⟨_,JB (by have:=(JD.mp hx).1;have:=pat.1;rw[JC]at this;ac_rfl)⟩
  obtain⟨t,ht,hh⟩:=pat.2 i ((e.1:Int),(e.2:Int)) (by rw[JJ,he];rfl)
  rw[hx]at ht
  cases ht
  obtain⟨k1,k2,k4,k5⟩:=ke e (JG he);refine⟨_,rfl,_,_,_,_,_,rfl,TyOf.tup hh,Or.inl ⟨_,rfl,rfl⟩,kit_tt K,_,rfl,iteF ?_⟩;refine⟨_,rfl,t,_,rfl,.inr (SqT.of hh),rfl,_,rfl,ite2 (fun z=>absurd z (by show ¬ (!decide (V.int ((2:Nat):Int)=V.int 2))=true;decide)) (fun _=>?_)⟩
  refine⟨_,rfl,t,_,0,_,rfl,rfl,SqT.of hh,at0,_,rfl,_,rfl,iteF ?_⟩;refine⟨_,rfl,t,_,1,_,rfl,rfl,SqT.of hh,at1,_,rfl,_,rfl,iteF ?_⟩;refine⟨_,rfl,t,_,0,_,rfl,rfl,SqT.of hh,at0,_,_,rfl,rfl,_,rfl,ite2 (fun z=>absurd (show(e.1:Int)<1 from of_decide_eq_true z) (by ac_rfl)) (fun _=>?_)⟩
  refine⟨_,rfl,t,_,0,_,rfl,rfl,SqT.of hh,at0,_,rfl,_,_,rfl,rfl,(show(0:Int)<=(n:Int) by ac_rfl),rfl,_,rfl,ite2 (fun z=>absurd z ?_) (fun _=>?_)⟩
  ·show ¬ (!decide (V.int ((e.1:Int)/2^((n:Nat):Int).toNat)=V.int 0))=true;rw[kj,M6 k4];decide
  refine⟨_,rfl,t,_,1,_,rfl,rfl,SqT.of hh,at1,_,_,rfl,rfl,_,rfl,ite2 (fun z=>absurd (show(e.2:Int)<1 from of_decide_eq_true z) (by ac_rfl)) (fun _=>?_)⟩
  have ea:Builtin.bitAnd (e.1:Int) (mk:Int)=((e.1&&&mk:Nat):Int):=andN _ _;refine⟨_,rfl,t,_,0,_,rfl,rfl,SqT.of hh,at0,_,rfl,_,_,rfl,rfl,e.1&&&mk,by show[V.int (Builtin.bitAnd (e.1:Int) (mk:Int))]=_;rw[ea],_,rfl,?_⟩
  rw[decide_eq_true k5];exact iteF ⟨_,rfl,rfl⟩
 ·rintro σ H2 ⟨v3,rfl,rfl⟩;exact kk
theorem cZ:aD ["found","k","other","both"] ["found"] (ai bN):=by ac_nf
theorem ok_nes{f:Addr}{fd:FuncData} (F:Fun K "_law_nested" "_law_nested" bN f fd) (T:TxtE mg):FnOk P w K mg base CX0 1 f fd ["found"] HP:=by
 refine F.ok cZ (fun vs H Q E h=>?_) (fun cdv A outer s H vs Q E hr h=>?_)
 ·obtain⟨p,ys,kv,rfl,_⟩:=h;rfl
 obtain⟨p,ys,kv,rfl,hp,pat,k3,nd,ne,kk⟩:=h
 refine⟨_,(af (cR PassesOwn.never rfl (bz rfl T.n_range (ae (aE aQ (by rfl) T.n_len eX (ae (pv 0) aj)) aj)) (aw (i:=1) cZ.nd rfl (Or.inl rfl)) (aq (cR PassesOwn.never rfl (aZ (fm iF (pv 0) iJ (iI (pv 1)))) (aw (i:=2) cZ.nd rfl (Or.inl rfl)) (af (au (i:=3) cZ.nd rfl (Or.inl rfl) (ar eO (aC aV (aC aP (pv 0) (pv 1) (fun _ _=>rfl)) ah (fun _ _=>rfl)) (aC aV (pv 2) ah (fun _ _=>rfl))))
   (aq (c6 (PW.pt (jZ (az dQ (aC aV (aC aP (pv 0) (pv 1) (fun _ _=>rfl)) ah (fun _ _=>rfl)) (aC aV (pv 2) ah (fun _ _=>rfl)) (aB _)) (mC (PW.pt (xR (az j4 (pv 3) ah (aB _)) (xR (az j4 (pv 3) (aC aV (aC aP (pv 0) (pv 1) (fun _ _=>rfl)) ah (fun _ _=>rfl)) (aB _)) (Bn (az j4 (pv 3) (aC aV (pv 2) ah (fun _ _=>rfl)) (aB _))))))))) (aq (aJ iL)) aY))))))
   (aq (aJ iL))),?_⟩
 have yl:ys.length=kv.length:=by have:=pat.1;rw[JC]at this;exact this
 have at':∀{k:Nat}{e:Nat×Nat},kv[k]?=some e->∃ t,ys[k]?=some (.ref t)/\H t=some (.tup [.int (e.1:Int),.int (e.2:Int)]):=fun{k e} he=>pat.2 k ((e.1:Int),(e.2:Int)) (by rw[JJ,he];rfl)
 refine⟨_,rfl,p,ys,rfl,.inl (SqL.of hp),_,rfl,by omega,by omega,gi (n:=(ys.length:Int).toNat) (fun i σ H2=>∃ v1 v2 v3:Option V,σ = [some (.ref p),v1,v2,v3]/\Same H H2) ⟨_,_,_,rfl,fun _ _ e=>e⟩ ?_ ?_⟩
 ·rintro i σ H2 hi ⟨v1,v2,v3,rfl,s2⟩;rw[JL]at hi;rw[L8];obtain⟨e,he⟩:∃ e,kv[i]?=some e:=⟨_,JB (by omega)⟩
  obtain⟨te,hte,hhe⟩:=at' he;refine⟨_,rfl,_,rfl,_,rfl,p,_,rfl,SqL.of (s2 _ _ hp),fun D hD=>?_⟩;rw[Du (by omega)]
  have s3:=s2.trans (ak hD (.lst (ys.take i)));refine⟨D,rfl,⟨_,SqL.of ag⟩,c9 (K:=K) (xs:=ys.take i) (fun j σ H3=>∃ v2 v3:Option V,σ = [some (.ref p),some (.int (i:Int)),v2,v3]/\H3=_) ⟨_,_,rfl,rfl⟩ (fun j σ H3 _ ⟨_,_,_,z⟩=>by rw[z];exact SqL.of ag) ?_ ?_⟩
  ·rintro j x σ H3 hx ⟨v2,v3,rfl,rfl⟩;rw[LR]at hx;split at hx
   ·rename_i ji;obtain⟨e',he'⟩:∃ e,kv[j]?=some e:=⟨_,JB (by omega)⟩
    obtain⟨to,hto,hho⟩:=at' he';rw[hx]at hto
    cases hto
    have nE:=ne e (JG he) e' (JG he');have nk:e.1≠e'.1:=fun z=>by
     have e1:(kv.map (·.1))[i]?=some e.1:=by rw[JJ,he];rfl
     have e2:(kv.map (·.1))[j]?=some e'.1:=by rw[JJ,he'];rfl
     have:=(List.getElem?_inj (i:=i) (j:=j) (JD.mp e1).1 nd).mp (by rw[e1,e2,z])
     omega
    have s3e:=s3 _ _ hhe;have s3o:=s3 _ _ hho;have s3p:=s3 _ _ hp;have ea:Builtin.bitAnd (e.1:Int) (e'.1:Int)=((e.1&&&e'.1:Nat):Int):=andN _ _;refine⟨_,rfl,_,rfl,p,_,_,_,rfl,rfl,SqL.of s3p,aN hte,te,_,0,_,rfl,rfl,SqT.of s3e,at0,_,rfl,to,_,0,_,rfl,rfl,SqT.of s3o,at0,_,_,rfl,rfl,?_⟩;simp only[ea];refine⟨_,rfl,_,rfl,p,_,_,_,rfl,rfl,SqL.of s3p,aN hte,te,_,0,_,rfl,rfl,SqT.of s3e,at0,_,rfl,to,_,0,_,rfl,rfl,SqT.of s3o,at0,rfl,_,rfl,ite2 (fun z=>absurd (Mq (V.int.inj (of_decide_eq_true z))) nk) (fun _=>?_)⟩;refine⟨_,rfl,rfl,_,rfl,ite2 (fun c1=>?_) (fun _=>iteF ⟨_,_,rfl,rfl⟩)⟩;have c1':e.1&&&e'.1≠0:=fun z=>by
     rw[z]at c1;exact absurd c1 (by decide)
    refine⟨_,rfl,_,rfl,_,rfl,p,_,_,_,rfl,rfl,SqL.of s3p,aN hte,te,_,0,_,rfl,rfl,SqT.of s3e,at0,rfl,_,rfl,ite2 (fun c2=>?_) (fun _=>iteF ⟨_,_,rfl,rfl⟩)⟩;have c2':e.1&&&e'.1≠e.1:=fun z=>by
     rw[z]at c2;exact absurd c2 (by rw[decide_eq_true rfl];decide)
    refine⟨_,rfl,_,rfl,to,_,0,_,rfl,rfl,SqT.of s3o,at0,rfl,_,rfl,ite2 (fun c3=>?_) (fun _=>⟨_,_,rfl,rfl⟩)⟩;have c3':e.1&&&e'.1≠e'.1:=fun z=>by
     rw[z]at c3;exact absurd c3 (by rw[decide_eq_true rfl];decide)
    rcases nE with z | z | z
    ·exact absurd z c1'
    ·exact absurd z c2'
    ·exact absurd z c3'
   ·cases hx
  ·rintro σ H3 ⟨v2,v3,rfl,rfl⟩;exact⟨_,_,_,rfl,s3⟩
 ·rintro σ H2 ⟨v1,v2,v3,rfl,s2⟩;exact kk H2 s2
theorem ve:aD ["link","found"] ["link","found"] (ai dk):=by ac_nf
theorem E7{f:Addr}{fd:FuncData} (F:Fun K "_law_paid" "_law_paid" dk f fd) (T:TxtE mg):FnOk P w K mg base CX0 1 f fd ["link","found"] uV:=by
 refine F.ok ve (fun vs H Q E h=>?_) (fun cdv A outer s H vs Q E hr h=>?_)
 ·obtain⟨v,l,p,ys,r,rfl,_⟩:=h;rfl
 obtain⟨v,l,p,ys,r,rfl,⟨t,rfl,ht⟩,hp,pat,r3,kk⟩:=h;have yl:=pat.1;refine⟨_,(aq (aJ (aE (ij rfl) (by rfl) T.n_sum pJ (ae (c7 rfl (fr:=[("link",0)]) (xs:=["pair"]) (dI.of (by rfl) (by decide) (by rfl) (by decide) (by intro p hp;simp only[JI,Kf,or_false]at hp;rcases hp with rfl<;>exact⟨rfl,rfl⟩) (by decide) (by intro p hp;simp only[JI,Kf,or_false]at hp;rcases hp with rfl<;>rfl)) (aZ (pv 1)) (fun C ex s H=>(aw (i:=0) (show(["pair","link"]:List Str).Nodup from by decide) rfl (Or.inl rfl))) (fun C ex s H=>(qf (az dQ (ar eO (ar eN (ar dM (aC (bZ (K:=K) rfl) (pv 0) ah (fun _ _=>rfl)) (aC (bZ (K:=K) rfl) (pv 1) ah (fun _ _=>rfl))) (ar dM (aC (bZ (K:=K) rfl) (pv 0) ah (fun _ _=>rfl)) (aC (bZ (K:=K) rfl) (pv 1) ah (fun _ _=>rfl)))) ah) ah (aB _)))) (fun C ex s H=>(aC (bZ (K:=K) rfl) (pv 0) ah (fun _ _=>rfl)))) aj)))),?_⟩
 refine⟨_,rfl,p,rfl,⟨_,SqL.of hp⟩,bE (K:=K) (xs:=ys) (fun i zs H2=>H2=H/\zs=(((r.take i).filter (pT l.1 l.2.1)).map (·.2)).map V.int) (big3 (by omega)) ⟨rfl,rfl⟩ (fun i zs H2 _ z=>by rw[z.1];exact SqL.of hp) ?_ ?_ ?_⟩
 ·rintro i x zs H2 hx ⟨rfl,rfl⟩;obtain⟨e,he⟩:∃ e,r[i]?=some e:=⟨_,JB (by have:=(JD.mp hx).1;omega)⟩
  obtain⟨q,hq',hq⟩:=pat.2 i e he;rw[hx]at hq'
  cases hq'
  have et:r.take (i+1)=r.take i++[e]:=by rw[Kn,he];rfl
  refine⟨rfl,?_⟩;refine⟨_,rfl,q,_,0,_,rfl,rfl,SqT.of hq,at0,_,rfl,t,_,0,_,rfl,rfl,SqT.of ht,a30,_,_,rfl,rfl,(show(0:Int)<=(l.1:Int) by omega),_,rfl,q,_,0,_,rfl,rfl,SqT.of hq,at0,_,rfl,t,_,1,_,rfl,rfl,SqT.of ht,a31,_,_,rfl,rfl,(show(0:Int)<=(l.2.1:Int) by omega),_,_,rfl,rfl,_,_,rfl,rfl,rfl,_,rfl,?_⟩
  rw[et,Mp];refine ite2 (fun c=>?_) (fun c=>?_)
  ·have c':pT l.1 l.2.1 e=true:=decide_eq_true (V.int.inj (of_decide_eq_true c))
   refine⟨_,rfl,q,_,1,_,rfl,rfl,SqT.of hq,at1,rfl,?_⟩;rw[Mn c',Kc,Kc];rfl
  ·have c':¬ pT l.1 l.2.1 e=true:=fun z=>c (decide_eq_true (congrArg V.int (of_decide_eq_true z)))
   refine⟨rfl,?_⟩;rw[Mo c',NL,LZ]
 ·rintro zs H2 ⟨rfl,rfl⟩ D hD;rw[yl,Kr];exact⟨D,_,rfl,SqL.of ag,kk _ (ak hD _)⟩
 ·rintro i zs H2 ⟨_,rfl⟩;rw[JC,JC];exact Lf (L6 _ _) (by rw[JZ];omega)
theorem cj:aD ["links","used","marks","cost","ends","k"] ["links","used","marks"] (ai dq):=by ac_nf
theorem E8{f:Addr}{fd:FuncData} (F:Fun K "_law_cost" "_law_cost" dq f fd) (T:TxtE mg):FnOk P w K mg base CX0 1 f fd ["links","used","marks"] uW:=by
 refine F.ok cj (fun vs H Q E h=>?_) (fun cdv A outer s H vs Q E hr h=>?_)
 ·obtain⟨v,n,u,ls,rfl,_⟩:=h;rfl
 obtain⟨v,n,u,ls,rfl,⟨a,ys,rfl,hA,hL⟩,ok,ub,kk⟩:=h;have yl:=hL.1;have l9:=ok.l9
 refine⟨_,(af (au (i:=3) cj.nd rfl (Or.inl rfl) ah)
   (af (au (i:=4) cj.nd rfl (Or.inl rfl) ah)
   (af (cR PassesOwn.never rfl (bz rfl T.n_range (ae (aE aQ (by rfl) T.n_len eX (ae (pv 0) aj)) aj)) (aw (i:=5) cj.nd rfl (Or.inl rfl)) (aq (c6 (az dQ (ar eO (ar dM (pv 1) (pv 5)) ah) ah (aB _)) (af (au (i:=3) cj.nd rfl (Or.inl rfl) (ar b8 (pv 3) (aC aV (aC aP (pv 0) (pv 5) (fun _ _=>rfl)) ah (fun _ _=>rfl))))
   (aq (au (i:=4) cj.nd rfl (Or.inl rfl) (ar eN (ar eN (pv 4) (ar bF ah (aC aV (aC aP (pv 0) (pv 5) (fun _ _=>rfl)) ah (fun _ _=>rfl)))) (ar bF ah (aC aV (aC aP (pv 0) (pv 5) (fun _ _=>rfl)) ah (fun _ _=>rfl))))))) aY)))
   (af (c6 (PW.pt (jZ (az zd (pv 1) ah (aB _)) (jZ (az j4 (ar dM (pv 1) (aE aQ (by rfl) T.n_len eX (ae (pv 0) aj))) ah (aB _)) (mC (az j4 (pv 4) (pv 2) (aB _)))))) (aq (aJ kL)) aY)
   (aq (aJ (pv 3))))))),?_⟩
 refine⟨_,rfl,a,ys,rfl,.inl (SqL.of hA),_,rfl,by omega,by omega,gi (n:=(ys.length:Int).toNat) (fun i σ H2=>∃ v5:Option V,σ = [some (.ref a),some (.int (u:Int)),some (.int ((oddE ls u ls.length:Nat):Int)),some (.int (cstU ls u i)),some (.int ((oddE ls u i:Nat):Int)),v5]/\H2=H) ⟨_,rfl,rfl⟩ ?_ ?_⟩
 ·rintro i σ H2 hi ⟨v5,rfl,rfl⟩;rw[JL]at hi;rw[L8];obtain⟨l,hl⟩:∃ l,ls[i]?=some l:=⟨_,JB (by omega)⟩
  obtain⟨y,hy,t,rfl,ht⟩:=hL.2 i l hl;obtain⟨b1,b2⟩:=ok.sm l (JG hl);have n1:=ok.n1;refine⟨_,rfl,_,rfl,_,_,rfl,rfl,(show(0:Int)<=(i:Int) by omega),_,_,rfl,rfl,rfl,_,rfl,?_⟩
  refine ite2 (fun c=>?_) (fun c=>?_)
  ·have c':u.testBit i=true:=(iy u i).mp (V.int.inj (of_decide_eq_true c))
   obtain⟨g1,g2⟩:=HG hl c';refine⟨_,rfl,_,rfl,_,rfl,a,_,_,_,rfl,rfl,SqL.of hA,aN hy,t,_,2,_,rfl,rfl,SqT.of ht,a32,_,_,rfl,rfl,?_⟩;refine⟨_,rfl,_,rfl,_,rfl,a,_,_,_,rfl,rfl,SqL.of hA,aN hy,t,_,0,_,rfl,rfl,SqT.of ht,a30,_,_,rfl,rfl,⟨by omega,by omega,by decide⟩,_,_,rfl,rfl,_,rfl,_,rfl,a,_,_,_,rfl,rfl,SqL.of hA,aN hy,t,_,1,_,rfl,rfl,SqT.of ht,a31,_,_,rfl,rfl,⟨by omega,by omega,by decide⟩,_,_,rfl,rfl,?_⟩
   have ex:Builtin.bitXor (Builtin.bitXor ((oddE ls u i:Nat):Int) (1*2^((l.1:Nat):Int).toNat)) (1*2^((l.2.1:Nat):Int).toNat)=((oddE ls u (i+1):Nat):Int):=by
    rw[shlN,shlN,xorN,xorN,g1,KJ];rfl
   simp only[ex,← g2];exact⟨_,rfl,rfl⟩
  ·have c':u.testBit i=false:=by
    cases z:u.testBit i with
    |false=>rfl
    |true=>exact absurd (decide_eq_true (congrArg V.int ((iy u i).mpr z))) c
   obtain⟨g1,g2⟩:=FF ls c';exact⟨_,by rw[g1,g2];rfl,rfl⟩
 ·rintro σ H2 ⟨v5,rfl,rfl⟩;rw[JL,yl];refine⟨_,rfl,_,_,rfl,rfl,_,rfl,ite2 (fun z=>absurd (show(u:Int)<0 from of_decide_eq_true z) (by omega)) (fun _=>?_)⟩
  refine⟨_,rfl,_,rfl,a,_,rfl,.inl (SqL.of hA),_,_,rfl,rfl,(show(0:Int)<=((ys.length:Nat):Int) by omega),rfl,_,rfl,ite2 (fun z=>absurd z ?_) (fun _=>?_)⟩
  ·show ¬ (!decide (V.int ((u:Int)/2^((ys.length:Nat):Int).toNat)=V.int 0))=true;rw[kj,yl,M6 ub];decide
  refine⟨_,rfl,_,rfl,rfl,_,rfl,ite2 (fun z=>absurd z (by rw[decide_eq_true rfl];decide)) (fun _=>⟨_,rfl,kk⟩)⟩
end
theorem op_isB{X:Cx}:OpR X (compareOp .Is) (fun x y H Q=>∃ b c,x=.bl b/\y=.bl c/\Q (.bl (b == c)) H):=by
 intro pins s σ H x y v u Q I rx ry h;obtain⟨b,c,rfl,rfl,q⟩:=h
 cases rx
 cases ry
 exact PyProof.Rows.is_bool (aX I q rfl)
theorem GJ{K:JH}{H:Hp}{a:Addr}{xs:List V}{es:List Pr}(h:SqL K H a xs)(hE:LsAt PrAt H xs es):RdD K H (.ref a) (.list (es.map fun e=>PyData.tuple [.int e.1,.int e.2])):=by
 refine RdD.lst h (by rw[JC];exact hE.1) fun i x d e1 e2=>?_
 rw[JJ]at e2;obtain⟨e,he,rfl⟩:=Km.mp e2;obtain⟨y,a1,p,rfl,a2⟩:=hE.2 i e he;rw[e1]at a1
 cases a1
 refine RdD.tup (SqT.of a2) rfl fun j x d' q1 q2=>?_;match j,q1,q2 with
 |0,q1,q2=>cases q1;cases q2;exact RdD.int _
 |1,q1,q2=>cases q1;cases q2;exact RdD.int _
 |j+2,q1,q2=>simp at q1
theorem yX(es:List Pr):SeqAt.shaped (.list (es.map fun e=>PyData.tuple [.int e.1,.int e.2]))=true:=mz fun d hd=>by
 obtain⟨l,_,rfl⟩:=Kk.mp hd;exact flat2 _ _
theorem mo_at(b:Bool):atI [V.int 8,V.int 14] (if b=true then 1 else 0)=some (V.int ((if b=true then 14 else 8:Nat):Int)):=by cases b<;>rfl
theorem Opt.same{D:Nat->Nat->Int}{l:List Nat}{t t':Int}(h:Opt D l t)(h':Opt D l t'):t=t':=NM (h.2 _ h'.1) (h'.2 _ h.1)
theorem Hls.paid{n:Nat}{ls:List Lk}{mk:Nat}{cost:Int}{kv:List (Nat×Nat)}(h:Hls n ls mk cost kv){i:Nat}{l:Lk}(hl:ls[i]?=some l):vt (rK kv) l.1 l.2.1<=2*l.2.2:=by
 have ei:=cf hl;have:=h.pd i (JD.mp hl).1;rw[vq];unfold nL at this;rw[ei]at this;have e2:(fun M=>HM.chi (HM.dm M) (aL ls) (bL ls) i)=fun M:Nat=>cond (M.testBit l.1 ^^ M.testBit l.2.1) 1 0:=funext fun M=>by
  unfold HM.chi HM.dm aL bL;rw[ei]
 rw[e2]at this;exact this
noncomputable def pX(K:JH)(TT:Addr):Sp:=fun vs H Q _=>∃(a:Addr)(ns:List Int),vs = [.ref a]/\SqL K H a (ns.map V.int)/\ns.length<=63/\Tb lqF lpF TT H/\∀ H',Q (.bl true) H'
section
variable{P:Program}{w:World}{K:JH}{mg:Str->Option Value}{base:Heap}
theorem fT:aD ["script","lead","many","links","marks","handed","found","link","told","cost","copy"] ["script"] (ai p9):=by ac_nf
theorem ok_law{f f1 f2 f3 f4 f5 f6 f7 f8 f9 f10 TT:Addr}{fd fd1 fd2 fd3 fd4 fd5 fd6 fd7 fd8 fd9 fd10:FuncData} (F:Fun K "law" "law" p9 f fd) (T:TxtE mg) (G_law_cell_at:Cal P w K mg base 1 "_law_cell_at" ["script","k"] (xN K) f1 fd1) (G_law_links_by:Cal P w K mg base 2 "_law_links_by" ["script","first","many","top"] (spLb K) f2 fd2) (G_law_marks_by:Cal P w K mg base 1 "_law_marks_by" ["cell","many","most"] HQ f3 fd3) (G_hills:Cal P w K mg base 12 "hills" ["many","links","marks"] (uY TT) f4 fd4) (G_law_kinds:Cal P w K mg base 2 "_law_kinds" ["found","many","marks"] HR f5 fd5) (G_law_nested:Cal P w K mg base 1 "_law_nested" ["found"] HP f6 fd6) (G_law_paid:Cal P w K mg base 1 "_law_paid" ["link","found"] uV f7 fd7) (G_paired:Cal P w K mg base 11 "paired" ["many","links","marks"] (pW TT) f8 fd8) (G_law_cost:Cal P w K mg base 1 "_law_cost" ["links","used","marks"] uW f9 fd9) (G_examined:Cal P w K mg base 5 "examined" ["many","links","marks","used","paper"] Bc f10 fd10):FnOk P w K mg base CX0 13 f fd ["script"] (pX K TT):=by
 refine F.ok fT (fun vs H Q E h=>?_) (fun cdv A outer s H vs Q E hr h=>?_)
 ·obtain⟨a,ns,rfl,_⟩:=h;rfl
 obtain⟨a,ns,rfl,hS,h63,tb0,kq⟩:=h;have hu64:=hr.units
 refine⟨_,(af (au (i:=1) fT.nd rfl (Or.inl rfl) (av G_law_cell_at.ok (hr.mono (by decide)) rfl G_law_cell_at.mg G_law_cell_at.kp G_law_cell_at.bn .nil aR (ae (pv 0) (ae ah aj))))
   (af (au (i:=2) fT.nd rfl (Or.inl rfl) (ar b8 ah (ar bO (pv 1) ah)))
   (af (au (i:=3) fT.nd rfl (Or.inl rfl) (av G_law_links_by.ok (hr.mono (by decide)) rfl G_law_links_by.mg G_law_links_by.kp G_law_links_by.bn .nil aR (ae (pv 0) (ae ah (ae (pv 2) (ae (aC aP (jh (ae (ar GQ ah ah) (ae ah (ae (ar GQ ah ah) aj)))) (ar bO (ar j5 (pv 1) ah) ah) (fun _ _=>rfl)) aj))))))
   (af (au (i:=4) fT.nd rfl (Or.inl rfl) (av G_law_marks_by.ok (hr.mono (by decide)) rfl G_law_marks_by.mg G_law_marks_by.kp G_law_marks_by.bn .nil aR (ae (av G_law_cell_at.ok (hr.mono (by decide)) rfl G_law_cell_at.mg G_law_cell_at.kp G_law_cell_at.bn .nil aR (ae (pv 0) (ae ah aj))) (ae (pv 2) (ae (aC aP (jh (ae ah (ae ah aj))) (fW DQ (by rfl) T.n_int He (ae (bX dQ (ar bO (ar j5 (pv 1) ah) ah) ah (aB _)) aj)) (fun _ _=>rfl)) aj)))))
   (af (au (i:=5) fT.nd rfl (Or.inl rfl) (fW kX (by rfl) T.n_list nR (ae (pv 3) aj)))
   (af (au (i:=6) fT.nd rfl (Or.inl rfl) (av G_hills.ok (hr.mono (by decide)) rfl G_hills.mg G_hills.kp G_hills.bn .nil aR (ae (pv 2) (ae (pv 5) (ae (pv 4) aj)))))
   (af (c6 (PW.pt (jZ (fV (fU (av G_law_kinds.ok (hr.mono (by decide)) rfl G_law_kinds.mg G_law_kinds.kp G_law_kinds.bn .nil aR (ae (pv 6) (ae (pv 2) (ae (pv 4) aj)))))) (jZ (fV (fU (av G_law_nested.ok (hr.mono (by decide)) rfl G_law_nested.mg G_law_nested.kp G_law_nested.bn .nil aR (ae (pv 6) aj)))) (mC (az (op_neD hu64) (pv 5) (pv 3) (aB _)))))) (aq (aJ iL)) aY)
   (af (cR PassesOwn.never rfl (aZ (pv 3)) (aw (i:=7) fT.nd rfl (Or.inl rfl)) (aq (c6 (az BE (av G_law_paid.ok (hr.mono (by decide)) rfl G_law_paid.mg G_law_paid.kp G_law_paid.bn .nil aR (ae (pv 7) (ae (pv 6) aj))) (ar fX ah (aC aV (pv 7) ah (fun _ _=>rfl))) (aB _)) (aq (aJ iL)) aY)))
   (af (au (i:=8) fT.nd rfl (Or.inl rfl) (av G_paired.ok (hr.mono (by decide)) rfl G_paired.mg G_paired.kp G_paired.bn .nil aR (ae (pv 2) (ae (pv 5) (ae (pv 4) aj)))))
   (af (au (i:=9) fT.nd rfl (Or.inl rfl) (av G_law_cost.ok (hr.mono (by decide)) rfl G_law_cost.mg G_law_cost.kp G_law_cost.bn .nil aR (ae (pv 3) (ae (aC aV (pv 8) ah (fun _ _=>rfl)) (ae (pv 4) aj)))))
   (af (c6 (PW.pt (jZ (az GR (pv 9) kL (aB _)) (mC (az j4 (aE (ij rfl) (by rfl) T.n_sum pJ (ae (iK rfl (fr:=[]) (by exact bQ.plain (by rfl) (by decide) (by rfl) (by decide) (by rfl) (by decide)) (aZ (pv 6)) (fun C ex s H=>(aC (bZ (K:=K) rfl) (pv 0) ah (fun _ _=>rfl)))) aj)) (ar fX ah (pv 9)) (aB _))))) (aq (aJ iL)) aY)
   (af (au (i:=10) fT.nd rfl (Or.inl rfl) (fW kX (by rfl) T.n_list nR (ae (pv 6) aj)))
   (aq (aJ (mI (bX op_isB (av G_examined.ok (hr.mono (by decide)) rfl G_examined.mg G_examined.kp G_examined.bn .nil aR (ae (pv 2) (ae (pv 5) (ae (pv 4) (ae (aC aV (pv 8) ah (fun _ _=>rfl)) (ae (pv 10) aj)))))) iL (aB _)) (mI (bX (GS hu64) (pv 10) (pv 6) (aB _)) (xW (bX (GS hu64) (pv 5) (pv 3) (aB _))))))))))))))))))),?_⟩
 refine⟨_,rfl,a,0,ns,rfl,hS,?_⟩;generalize gm ns 0=lead;refine⟨_,rfl,_,_,rfl,rfl,(by show(0:Int)<16;decide),_,_,rfl,rfl,?_⟩
 obtain⟨n,en,n1,n16⟩:∃ n:Nat,1+lead%16=(n:Int)/\1<=n/\n<=16:=⟨(1+lead%16).toNat,by ac_rfl,by ac_rfl,by ac_rfl⟩
 simp only[en];obtain⟨tp,htp,tpM⟩:∃ tp:Nat,atI [V.int (10^(31:Int).toNat),V.int 3,V.int (10^(31:Int).toNat)] (lead/16%3)=some (V.int (tp:Int))/\tp<=MM:=by
  have h3:lead/16%3=0∨lead/16%3=1∨lead/16%3=2:=by ac_rfl
  rcases h3 with h | h | h<;>rw[h]
  ·exact⟨10^31,rfl,JF _⟩
  ·exact⟨3,rfl,by unfold MM;decide⟩
  ·exact⟨10^31,rfl,JF _⟩
 refine⟨_,rfl,_,rfl,_,_,rfl,rfl,⟨by decide,by decide,by decide⟩,_,_,rfl,rfl,⟨by decide,by decide,by decide⟩,(by show 3<=sizeLine;decide),fun D hD=>?_⟩
 have sD:=ak hD (.lst [V.int (10^(31:Int).toNat),V.int 3,V.int (10^(31:Int).toNat)]);refine⟨_,rfl,_,_,rfl,rfl,⟨by decide,by decide⟩,_,_,rfl,rfl,(by show(0:Int)<3;decide),D,_,_,_,rfl,rfl,SqL.of ag,htp,?_⟩
 refine⟨a,3,n,tp,ns,rfl,sD.seq hS,h63,n1,by ac_rfl,by ac_rfl,tpM,fun la ys H1 ls s1 hla0 hla hL ok l40 hc=>?_⟩
 have s01:=sD.trans s1;refine⟨_,rfl,a,2,ns,rfl,s01.seq hS,_,rfl,(by show 2<=sizeLine;decide),fun D2 hD2=>?_⟩
 have sD2:=ak hD2 (.lst [V.int 8,V.int 14]);refine⟨_,rfl,_,_,rfl,rfl,⟨by decide,by decide⟩,_,_,rfl,rfl,(by show(0:Int)<8;decide),rfl,.inr ⟨_,rfl,D2,_,_,_,rfl,rfl,SqL.of ag,mo_at _,?_⟩⟩
 refine⟨_,n,_,rfl,by ac_rfl,by split<;>ac_rfl,by split<;>rfl,fun mk H2 s2 mb ev few=>?_⟩
 have s12:=sD2.trans s2;have s02:=s01.trans s12;have hla2:=s12 _ _ hla;have hL2:LsAt LkAt H2 ys ls:=hL.imp fun _ _ y=>y.mono s12;refine⟨_,rfl,la,ys,rfl,.inl (SqL.of hla2),fun lb hlb=>?_⟩;have s3:=ak hlb (.lst ys);have tb3:=bH (bH tb0 s02) s3;have hla3:=s3 _ _ hla2;have hL3:LsAt LkAt (upd H2 lb (.lst ys)) ys ls:=hL2.imp fun _ _ y=>y.mono s3;have hlb3:(upd H2 lb (.lst ys)) lb=some (.lst ys):=ag;generalize upd H2 lb (.lst ys)=H3 at s3 tb3 hla3 hL3 hlb3;refine⟨_,rfl,_,rfl,_,rfl,.ref lb,n,mk,ls,rfl,⟨lb,ys,rfl,hlb3,hL3⟩,ok,n1,hc,mb,ev,few,by ac_rfl,tb3,fun p zs kv cost H4 sm4 tb4 hp pat kl oc hh=>?_⟩
 have hla4:=sm4.lst hla3;have hlb4:=sm4.lst hlb3;have hL4:LsAt LkAt H4 ys ls:=hL3.imp fun _ _ ⟨t,e,z⟩=>⟨t,e,sm4.tup z⟩;refine⟨_,rfl,_,rfl,_,rfl,p,zs,kv,n,mk,rfl,hp,pat,kl,by ac_rfl,fun e he=>?_,_,rfl,iteF ?_⟩
 ·obtain⟨k1,k2,k3,k4⟩:=hh.ke e he;rw[BA k3]at k4;exact⟨k1,k2,k3,of_decide_eq_true k4⟩
 refine⟨_,rfl,p,zs,kv,rfl,hp,pat,kl,hh.nd,hh.ne,fun H5 s5=>⟨_,rfl,iteF ?_⟩⟩;have hla5:=s5 _ _ hla4;have hlb5:=s5 _ _ hlb4;have hL5:LsAt LkAt H5 ys ls:=hL4.imp fun _ _ y=>y.mono s5;have hp5:=s5 _ _ hp;have pat5:=pat.mono s5;have tb5:=bH tb4 s5;have yl:=hL5.1;have rl:(rK kv).length<=3000:=by rw[JC];exact kl
 refine⟨_,rfl,_,rfl,_,yg (SqL.of hlb5) hL5,yg (SqL.of hla5) hL5,o9 _,_,rfl,iteF ?_⟩;refine⟨_,rfl,la,rfl,⟨_,SqL.of hla5⟩,c9 (K:=K) (xs:=ys) (fun i σ H6=>∃ v7:Option V,σ = [some (.ref a),some (.int lead),some (.int (n:Int)),some (.ref la),some (.int (mk:Int)),some (.ref lb),some (.ref p),v7,none,none,none]/\Same H5 H6) ⟨_,rfl,fun _ _ e=>e⟩ (fun i σ H6 _ ⟨_,_,z⟩=>SqL.of (z _ _ hla5)) ?_ ?_⟩
 ·rintro i x σ H6 hx ⟨v7,rfl,s6⟩;obtain⟨l,hl,t,rfl,ht⟩:=hL5.get hx;refine⟨_,rfl,_,rfl,.ref t,l,p,zs,rK kv,rfl,⟨t,rfl,s6 _ _ ht⟩,s6 _ _ hp5,pat5.mono s6,rl,fun H7 s7=>?_⟩;have s67:=s6.trans s7;refine⟨_,rfl,t,_,2,_,rfl,rfl,SqT.of (s67 _ _ ht),a32,_,_,rfl,rfl,.inl ⟨by decide,by decide⟩,_,_,rfl,rfl,_,rfl,ite2 (fun z=>absurd (of_decide_eq_true z) ?_) (fun _=>⟨_,rfl,s67⟩)⟩
  have pd:vt (rK kv) l.1 l.2.1<=2*l.2.2:=hh.paid hl;ac_rfl
 rintro σ H6 ⟨v7,rfl,s6⟩;have tb6:=bH tb5 s6;have hL6:LsAt LkAt H6 ys ls:=hL5.imp fun _ _ y=>y.mono s6;refine⟨_,rfl,_,rfl,_,rfl,.ref lb,n,mk,ls,rfl,⟨lb,ys,rfl,s6 _ _ hlb5,hL6⟩,ok,n1,hc,mb,ev,few,tb6,fun t cost' u H7 sm7 tb7 ht ub ho oc' lec=>?_⟩;have ec:cost'=cost:=Opt.same oc' oc;subst ec;have cu:cstU ls u ls.length=cost':=NM lec (qw ok hc oc ho);have hla7:=sm7.lst (s6 _ _ hla5);have hlb7:=sm7.lst (s6 _ _ hlb5);have hL7:LsAt LkAt H7 ys ls:=hL6.imp fun _ _ ⟨t,e,z⟩=>⟨t,e,sm7.tup z⟩;have hp7:=sm7.lst (s6 _ _ hp5)
 have pat7:PAt H7 zs (rK kv):=⟨pat5.1,fun i e he=>by
  obtain⟨t,a1,a2⟩:=pat5.2 i e he
  exact⟨t,a1,sm7.tup (s6 _ _ a2)⟩⟩
 refine⟨_,rfl,_,rfl,t,_,1,_,rfl,rfl,SqT.of ht,at1,_,rfl,.ref la,n,u,ls,by rw[ho];rfl,⟨la,ys,rfl,hla7,hL7⟩,ok,ub,?_⟩
 rw[cu];refine⟨_,rfl,rfl,_,rfl,ite2 (fun z=>absurd (of_decide_eq_true z) (by intro y;cases y)) (fun _=>?_)⟩
 have zl:zs.length=(rK kv).length:=pat7.1;refine⟨_,rfl,p,rfl,⟨_,SqL.of hp7⟩,eU (K:=K) (xs:=zs) (fun i ws H8=>H8=H7/\ws=(((rK kv).take i).map (·.2)).map V.int) (big3 (by ac_rfl)) ⟨rfl,rfl⟩ (fun i ws H8 _ z=>by rw[z.1];exact SqL.of hp7) ?_ ?_⟩
 ·rintro i x ws H8 hx ⟨rfl,rfl⟩;obtain⟨e,he⟩:∃ e,(rK kv)[i]?=some e:=⟨_,JB (by have:=(JD.mp hx).1;ac_rfl)⟩
  obtain⟨q,hq',hq⟩:=pat7.2 i e he;rw[hx]at hq'
  cases hq'
  refine⟨_,rfl,q,_,1,_,rfl,rfl,SqT.of hq,at1,rfl,?_⟩;rw[Kn,he,Kc,Kc];rfl
 rintro ws H8 _ ⟨rfl,rfl⟩ D8 hD8;rw[zl,Kr];have s8:=ak hD8 (.lst (((rK kv).map (·.2)).map V.int));refine⟨D8,_,rfl,SqL.of ag,_,rfl,_,_,rfl,rfl,.inl ⟨by decide,by decide⟩,rfl,_,rfl,ite2 (fun z=>absurd z ?_) (fun _=>?_)⟩
 ·rw[AX,hh.sm,decide_eq_true rfl];decide
 generalize upd H8 D8 (.lst (((rK kv).map (·.2)).map V.int))=H9 at s8;have hL9:LsAt LkAt H9 ys ls:=hL7.imp fun _ _ y=>y.mono s8;have hp9:=s8 _ _ hp7;refine⟨_,rfl,p,zs,rfl,.inl (SqL.of hp9),fun cp hcp=>?_⟩;have s10:=ak hcp (.lst zs);have s80:=s8.trans s10;have hcp0:(upd H9 cp (.lst zs)) cp=some (.lst zs):=ag;generalize upd H9 cp (.lst zs)=H10 at s10 s80 hcp0;have hL10:LsAt LkAt H10 ys ls:=hL7.imp fun _ _ y=>y.mono s80;have pp10:LsAt PrAt H10 zs (rK kv):=GO (pat7.mono s80);refine⟨_,rfl,_,rfl,_,rfl,_,rfl,t,_,1,_,rfl,rfl,SqT.of (s80 _ _ ht),at1,_,rfl,n,mk,.ref lb,.ref cp,(u:Int),ls,rK kv,rfl,⟨lb,ys,rfl,s80 _ _ hlb7,hL10⟩,⟨cp,zs,rfl,hcp0,pp10⟩,ok,rl,fun H11 s11=>?_⟩;rw[hh.exam ub ho cu];have s8B:=s80.trans s11;have pp11:LsAt PrAt H11 zs (rK kv):=GO (pat7.mono s8B);have hL11:LsAt LkAt H11 ys ls:=hL7.imp fun _ _ y=>y.mono s8B;refine⟨_,_,rfl,rfl,_,rfl,iteT ?_⟩;refine⟨_,rfl,_,rfl,_,GJ (SqL.of (s11 _ _ hcp0)) pp11,GJ (SqL.of (s8B _ _ hp7)) pp11,yX _,_,rfl,iteT ?_⟩;exact⟨_,rfl,_,rfl,_,yg (SqL.of (s8B _ _ hlb7)) hL11,yg (SqL.of (s8B _ _ hla7)) hL11,o9 _,kq _⟩
end
theorem EB{K:JH}{x:Str}{f c T:Addr}{o1 o3:Value}{o2 o4:Option Addr}{o5 o6:Array (Option Value)}{fd:FuncData}{vs:Array Value}(a:JP K mainGlobals x=some (some (.ref f)))(l:K.lookup f=some ⟨o1,o2,.func fd,o5⟩)(e:fd.code=.ref c)(lc:K.lookup c=some ⟨o3,o4,.fields vs,o6⟩)(v:vs[11]?=some (.ref T)):L9 K x=some (c,T):=by
 unfold L9;rw[a];simp only[l,e,lc,v]
theorem all_mk{l:NJ}{w:World}{K:JH}{h:Heap}{mg:Str->Option Value}{fa jF lY g7 qQ lT qN yq yp FY jG gZ cN fK b7 fG lU jE jI jJ lV qP qO lX fF jK hU de fI cP cO jH fH fJ dP g8 g9 IZ:Addr}{cT TT:Addr}{oT:Value}{dT:Option Addr}{vT:Array Value}{sT:Array (Option Value)}(X:K.In h)(G:h.Ns mainGlobals mg) (hfa:mg "law" = some (.ref fa))
  {zg AB BR Ef vy xt Fj Gs BN Eb Fg Gp IB Jx IA Jw od_odd an_odd zh AD vx xr mK nX sO uA k8 lC sJ uw BO Ec zf AA zm AF zo AG BP Ed Fi Gr Fh Gq BQ Ee sG uv zr AH vB xy oF oU sM uy mM nZ mL nY zj AE sL ux sN uz qt rD vz xu vA xw od_law Hh:Option Addr} {yO Bh u5 EJ Bd EG HW HV sl_odd yP u4 ml rW kZ rS Be yN yR yS Bf EI EH Bg rR yT vc oB rU mw mv yQ rT rV p7 u6 u9 sl_law:Array (Option Value)} {zx zP Ab yZ pA Aj BX CG Dq Bv ud DB vD wj wI vj nC wQ Fo FN F7 EW qZ Gd BS CB Dl Br t5 Dx Fl FJ F4 ET yw F9 ID IV Jg Ih DL Jk IC IU Jf Ig DJ Jj oc_odd kV_odd dc_odd pm_odd Hc ct_odd zy zQ Ac y4 pB Ak vC wg wH vi nB wO mN mY nh mE gn nq sV tE tR sq kU tX lg lj lx k7 fP ly sQ tq tN sf kQ tT BU CC Dm Bs t6 Dy zt zO Aa yY pz Ai zC zS Ae y7 pF Am zD zT Af y8 pG An BV CD Dn Bt t8 Dz Fn FL F6 EV yz Gb Fm FK F5 EU yx Ga BW CF Dp Bu uc DA sP tj tL se kP tS zE zU Ag y9 pH Ao vG wt wL vo nH wV oG oK oO oE iw oP sS tw tP sk kS tV mP m5 nj mG gq nz mO mZ ni mF gp nu zz zR Ad y6 pC Al sR tu tO sj kR tU sU tD tQ so kT tW qu qK qT qh jM qV vE wm wJ vk nF wR vF wo wK vm nG wU oc_law GW G3 GK DK G6:Value}
  {ti_most:Tok}
  (n8:JP K mainGlobals "reached" = some (some (.ref jF)))
  (mR:K.lookup jF=some ⟨zx,zg,.func (Kh "reached" "reached" (aA eB) (ay eB) (ai eB) .none zP Ab yZ AB pA Aj),yO⟩)
  (nK:Kd K pA "reached" = true)
  (jr:JX K (.ref jF)=true)
  (rJ:JP K mainGlobals "beyond" = some (some (.ref lY)))
  (qE:K.lookup lY=some ⟨BX,BR,.func (Kh "beyond" "beyond" (aA gN) (ay gN) (ai gN) .none CG Dq Bv Ef ud DB),Bh⟩)
  (rj:Kd K ud "beyond" = true)
  (lP:JX K (.ref lY)=true)
  (kD:JP K mainGlobals "links_at" = some (some (.ref g7)))
  (j7:K.lookup g7=some ⟨vD,vy,.func (Kh "links_at" "links_at" (aA dj) (ay dj) (ai dj) .none wj wI vj xt nC wQ),u5⟩)
  (kr:Kd K nC "links_at" = true)
  (gU:JX K (.ref g7)=true)
  (oh:JP K mainGlobals "fares" = some (some (.ref qQ)))
  (qC:K.lookup qQ=some ⟨Fo,Fj,.func (Kh "fares" "fares" (aA iG) (ay iG) (ai iG) .none FN F7 EW Gs qZ Gd),EJ⟩)
  (w6:Kd K qZ "fares" = true)
  (qJ:JX K (.ref qQ)=true)
  (rE:JP K mainGlobals "row_to" = some (some (.ref lT)))
  (qz:K.lookup lT=some ⟨BS,BN,.func (Kh "row_to" "row_to" (aA gH) (ay gH) (ai gH) .none CB Dl Br Eb t5 Dx),Bd⟩)
  (q8:Kd K t5 "row_to" = true)
  (lK:JX K (.ref lT)=true)
  (xA:JP K mainGlobals "whole" = some (some (.ref qN)))
  (vY:K.lookup qN=some ⟨Fl,Fg,.func (Kh "whole" "whole" (aA jW) (ay jW) (ai jW) .none FJ F4 ET Gp yw F9),EG⟩)
  (wZ:Kd K yw "whole" = true)
  (qG:JX K (.ref qN)=true)
  (Eh:JP K mainGlobals "bits" = some (some (.ref yq)))
  (Cy:K.lookup yq=some ⟨ID,IB,.func (Kh "bits" "bits" (aA o7) (ay o7) (ai o7) .none IV Jg Ih Jx DL Jk),HW⟩)
  (DS:Kd K DL "bits" = true)
  (yi:JX K (.ref yq)=true)
  (Eg:JP K mainGlobals "ones" = some (some (.ref yp)))
  (Cw:K.lookup yp=some ⟨IC,IA,.func (Kh "ones" "ones" (aA oZ) (ay oZ) (ai oZ) .none IU Jf Ig Jw DJ Jj),HV⟩)
  (DR:Kd K DJ "ones" = true)
  (yh:JX K (.ref yp)=true)
  (Jz:JP K mainGlobals "odd" = some (some (.ref FY)))
  (IP:K.lookup FY=some ⟨oc_odd,od_odd,.func (Kh "odd" "odd" (aA yW) (ay yW) (ai yW) .none kV_odd dc_odd pm_odd an_odd Hc ct_odd),sl_odd⟩)
  (Jm:Kd K Hc "odd" = true)
  (FG:JX K (.ref FY)=true)
  (n9:JP K mainGlobals "mask_of" = some (some (.ref jG)))
  (mS:K.lookup jG=some ⟨zy,zh,.func (Kh "mask_of" "mask_of" (aA eE) (ay eE) (ai eE) .none zQ Ac y4 AD pB Ak),yP⟩)
  (nM:Kd K pB "mask_of" = true)
  (jt:JX K (.ref jG)=true)
  (kC:JP K mainGlobals "odd_ends" = some (some (.ref gZ)))
  (j6:K.lookup gZ=some ⟨vC,vx,.func (Kh "odd_ends" "odd_ends" (aA di) (ay di) (ai di) .none wg wH vi xr nB wO),u4⟩)
  (ko:Kd K nB "odd_ends" = true)
  (gR:JX K (.ref gZ)=true)
  (d7:JP K mainGlobals "refuse_marks" = some (some (.ref cN)))
  (dU:K.lookup cN=some ⟨mN,mK,.func (Kh "refuse_marks" "refuse_marks" (aA bp) (ay bp) (ai bp) .none mY nh mE nX gn nq),ml⟩)
  (dZ:Kd K gn "refuse_marks" = true)
  (cJ:JX K (.ref cN)=true)
  (i9:JP K mainGlobals "chosen_of" = some (some (.ref fK)))
  (iS:K.lookup fK=some ⟨sV,sO,.func (Kh "chosen_of" "chosen_of" (aA cE) (ay cE) (ai cE) .none tE tR sq uA kU tX),rW⟩)
  (iZ:Kd K kU "chosen_of" = true)
  (fB:JX K (.ref fK)=true)
  (dH:JP K mainGlobals "laid_in_pairs" = some (some (.ref b7)))
  (dD:K.lookup b7=some ⟨lg,k8,.func (Kh "laid_in_pairs" "laid_in_pairs" (aA a7) (ay a7) (ai a7) .none lj lx k7 lC fP ly),kZ⟩)
  (dG:Kd K fP "laid_in_pairs" = true)
  (bC:JX K (.ref b7)=true)
  (i5:JP K mainGlobals "new_table" = some (some (.ref fG)))
  (iO:K.lookup fG=some ⟨sQ,sJ,.func (Kh "new_table" "new_table" (aA cq) (ay cq) (ai cq) .none tq tN sf uw kQ tT),rS⟩)
  (iU:Kd K kQ "new_table" = true)
  (fx:JX K (.ref fG)=true)
  (rF:JP K mainGlobals "paired" = some (some (.ref lU)))
  (qA:K.lookup lU=some ⟨BU,BO,.func (Kh "paired" "paired" (aA gK) (ay gK) (ai gK) .none CC Dm Bs Ec t6 Dy),Be⟩)
  (q9:Kd K t6 "paired" = true)
  (lL:JX K (.ref lU)=true)
  (n6:JP K mainGlobals "root_of" = some (some (.ref jE)))
  (mQ:K.lookup jE=some ⟨zt,zf,.func (Kh "root_of" "root_of" (aA eu) (ay eu) (ai eu) .none zO Aa yY AA pz Ai),yN⟩)
  (nJ:Kd K pz "root_of" = true)
  (jq:JX K (.ref jE)=true)
  (og:JP K mainGlobals "heights" = some (some (.ref jI)))
  (mU:K.lookup jI=some ⟨zC,zm,.func (Kh "heights" "heights" (aA eG) (ay eG) (ai eG) .none zS Ae y7 AF pF Am),yR⟩)
  (nO:Kd K pF "heights" = true)
  (jx:JX K (.ref jI)=true)
  (oi:JP K mainGlobals "dryings" = some (some (.ref jJ)))
  (mV:K.lookup jJ=some ⟨zD,zo,.func (Kh "dryings" "dryings" (aA eI) (ay eI) (ai eI) .none zT Af y8 AG pG An),yS⟩)
  (nP:Kd K pG "dryings" = true)
  (jy:JX K (.ref jJ)=true)
  (rG:JP K mainGlobals "joined" = some (some (.ref lV)))
  (qB:K.lookup lV=some ⟨BV,BP,.func (Kh "joined" "joined" (aA gL) (ay gL) (ai gL) .none CD Dn Bt Ed t8 Dz),Bf⟩)
  (rf:Kd K t8 "joined" = true)
  (lM:JX K (.ref lV)=true)
  (xC:JP K mainGlobals "hills" = some (some (.ref qP)))
  (wc:K.lookup qP=some ⟨Fn,Fi,.func (Kh "hills" "hills" (aA jY) (ay jY) (ai jY) .none FL F6 EV Gr yz Gb),EI⟩)
  (w5:Kd K yz "hills" = true)
  (qI:JX K (.ref qP)=true)
  (xB:JP K mainGlobals "joins" = some (some (.ref qO)))
  (vZ:K.lookup qO=some ⟨Fm,Fh,.func (Kh "joins" "joins" (aA jX) (ay jX) (ai jX) .none FK F5 EU Gq yx Ga),EH⟩)
  (w4:Kd K yx "joins" = true)
  (qH:JX K (.ref qO)=true)
  (rH:JP K mainGlobals "counts" = some (some (.ref lX)))
  (qD:K.lookup lX=some ⟨BW,BQ,.func (Kh "counts" "counts" (aA gM) (ay gM) (ai gM) .none CF Dp Bu Ee uc DA),Bg⟩)
  (rh:Kd K uc "counts" = true)
  (lN:JX K (.ref lX)=true)
  (i4:JP K mainGlobals "paid_over" = some (some (.ref fF)))
  (iN:K.lookup fF=some ⟨sP,sG,.func (Kh "paid_over" "paid_over" (aA cm) (ay cm) (ai cm) .none tj tL se uv kP tS),rR⟩)
  (iT:Kd K kP "paid_over" = true)
  (fu:JX K (.ref fF)=true)
  (oj:JP K mainGlobals "cost_of" = some (some (.ref jK)))
  (mX:K.lookup jK=some ⟨zE,zr,.func (Kh "cost_of" "cost_of" (aA eJ) (ay eJ) (ai eJ) .none zU Ag y9 AH pH Ao),yT⟩)
  (nQ:Kd K pH "cost_of" = true)
  (jz:JX K (.ref jK)=true)
  (kG:JP K mainGlobals "examined" = some (some (.ref hU)))
  (ka:K.lookup hU=some ⟨vG,vB,.func (Kh "examined" "examined" (aA du) (ay du) (ai du) .none wt wL vo xy nH wV),vc⟩)
  (kA:Kd K nH "examined" = true)
  (gY:JX K (.ref hU)=true)
  (fO:JP K mainGlobals "_law_cell_at" = some (some (.ref de)))
  (fq:K.lookup de=some ⟨oG,oF,.func (Kh "_law_cell_at" "_law_cell_at" (aA bD) (ay bD) (ai bD) .none oK oO oE oU iw oP),oB⟩)
  (fN:Kd K iw "_law_cell_at" = true)
  (c8:JX K (.ref de)=true)
  (i7:JP K mainGlobals "_law_names" = some (some (.ref fI)))
  (iQ:K.lookup fI=some ⟨sS,sM,.func (Kh "_law_names" "_law_names" (aA cA) (ay cA) (ai cA) .none tw tP sk uy kS tV),rU⟩)
  (iX:Kd K kS "_law_names" = true)
  (fz:JX K (.ref fI)=true)
  (d9:JP K mainGlobals "_law_links_by" = some (some (.ref cP)))
  (dX:K.lookup cP=some ⟨mP,mM,.func (Kh "_law_links_by" "_law_links_by" (aA bu) (ay bu) (ai bu) .none m5 nj mG nZ gq nz),mw⟩)
  (d6:Kd K gq "_law_links_by" = true)
  (cM:JX K (.ref cP)=true)
  (d8:JP K mainGlobals "_law_marks_by" = some (some (.ref cO)))
  (dW:K.lookup cO=some ⟨mO,mL,.func (Kh "_law_marks_by" "_law_marks_by" (aA br) (ay br) (ai br) .none mZ ni mF nY gp nu),mv⟩)
  (d5:Kd K gp "_law_marks_by" = true)
  (cL:JX K (.ref cO)=true)
  (oe:JP K mainGlobals "_law_odd" = some (some (.ref jH)))
  (mT:K.lookup jH=some ⟨zz,zj,.func (Kh "_law_odd" "_law_odd" (aA eF) (ay eF) (ai eF) .none zR Ad y6 AE pC Al),yQ⟩)
  (nN:Kd K pC "_law_odd" = true)
  (jv:JX K (.ref jH)=true)
  (i6:JP K mainGlobals "_law_whole" = some (some (.ref fH)))
  (iP:K.lookup fH=some ⟨sR,sL,.func (Kh "_law_whole" "_law_whole" (aA cz) (ay cz) (ai cz) .none tu tO sj ux kR tU),rT⟩)
  (iW:Kd K kR "_law_whole" = true)
  (fy:JX K (.ref fH)=true)
  (i8:JP K mainGlobals "_law_kinds" = some (some (.ref fJ)))
  (iR:K.lookup fJ=some ⟨sU,sN,.func (Kh "_law_kinds" "_law_kinds" (aA cC) (ay cC) (ai cC) .none tD tQ so uz kT tW),rV⟩)
  (iY:Kd K kT "_law_kinds" = true)
  (fA:JX K (.ref fJ)=true)
  (gA:JP K mainGlobals "_law_nested" = some (some (.ref dP)))
  (gh:K.lookup dP=some ⟨qu,qt,.func (Kh "_law_nested" "_law_nested" (aA bN) (ay bN) (ai bN) .none qK qT qh rD jM qV),p7⟩)
  (gs:Kd K jM "_law_nested" = true)
  (dN:JX K (.ref dP)=true)
  (kE:JP K mainGlobals "_law_paid" = some (some (.ref g8)))
  (j8:K.lookup g8=some ⟨vE,vz,.func (Kh "_law_paid" "_law_paid" (aA dk) (ay dk) (ai dk) .none wm wJ vk xu nF wR),u6⟩)
  (ku:Kd K nF "_law_paid" = true)
  (gW:JX K (.ref g8)=true)
  (kF:JP K mainGlobals "_law_cost" = some (some (.ref g9)))
  (j9:K.lookup g9=some ⟨vF,vA,.func (Kh "_law_cost" "_law_cost" (aA dq) (ay dq) (ai dq) .none wo wK vm xw nG wU),u9⟩)
  (kx:Kd K nG "_law_cost" = true)
  (gX:JX K (.ref g9)=true)
  (Gv:JP K mainGlobals "law" = some (some (.ref IZ)))
  (IQ:K.lookup IZ=some ⟨oc_law,od_law,.func (Kh "law" "law" (aA p9) (ay p9) (ai p9) .none GW G3 GK Hh DK G6),sl_law⟩)
  (Jn:Kd K DK "law" = true)
  (IT:JX K (.ref IZ)=true)
  (gi_most:JP K mainGlobals "MOST_MARKS" = some (some (.int 14 ti_most)))
  (Hr:JP K mainGlobals "len" = some none)
  (Hs:JP K mainGlobals "int" = some none)
  (AK:JP K mainGlobals "bool" = some none)
  (AJ:JP K mainGlobals "list" = some none)
  (uK:JP K mainGlobals "tuple" = some none)
  (uL:JP K mainGlobals "range" = some none)
  (Ho:JP K mainGlobals "min" = some none)
  (Hu:JP K mainGlobals "abs" = some none)
  (iC:JP K mainGlobals "enumerate" = some none)
  (fQ:JP K mainGlobals "isinstance" = some none)
  (jR:JP K mainGlobals "reversed" = some none)
  (Hq:JP K mainGlobals "max" = some none)
  (Hm:JP K mainGlobals "sum" = some none)
  (Hl:JP K mainGlobals "zip" = some none)
  (pQ:JP K mainGlobals "sorted" = some none)
  (Hn:JP K mainGlobals "set" = some none)
  (Ht:JP K mainGlobals "all" = some none)
  (tbc:qZ=.ref cT) (tbl:K.lookup cT=some ⟨oT,dT,.fields vT,sT⟩) (tbv:vT[11]?=some (.ref TT)) (tbn:K.lookup TT=none)
  : ∃ fd:FuncData,(∀(s:Shared)(v:Value),BindsTo s fd ⟨[v],[]⟩ [("script",v)])/\∃ c T,L9 K "fares" = some (c,T)/\K.lookup T=none/\∀ base:Heap,K.In base->base.Ns mainGlobals mg->L4 base c T->Bm mg base->FnOk l.prog w K mg base CX0 13 fa fd ["script"] (pX K T):=by
 have tbi:=EB oh qC tbc tbl tbv;have e:=hfa.symm.trans (Ki X G Gv)
 cases e
 have uD:=aU (st:=eB) mR nK jr;have DW:=uD.binds (ps:=["start","pairs"]) fun _ _ _ _ _ _ us hl=>by obtain⟨x0,x1,rfl⟩:=jn hl;rfl
 have yJ:=aU (st:=gN) qE rj lP;have Gn:=yJ.binds (ps:=["link","room"]) fun _ _ _ _ _ _ us hl=>by obtain⟨x0,x1,rfl⟩:=jn hl;rfl
 have pM:=aU (st:=dj) j7 kr gU;have Av:=pM.binds (ps:=["many","links"]) fun _ _ _ _ _ _ us hl=>by obtain⟨x0,x1,rfl⟩:=jn hl;rfl
 have Ep:=aU (st:=iG) qC w6 qJ;have Jv:=Ep.binds (ps:=["many","links","start"]) fun _ _ _ _ _ _ us hl=>by obtain⟨x0,x1,x2,rfl⟩:=lh hl;rfl
 have yF:=aU (st:=gH) qz q8 lK;have Gi:=yF.binds (ps:=["links","via","room"]) fun _ _ _ _ _ _ us hl=>by obtain⟨x0,x1,x2,rfl⟩:=lh hl;rfl
 have Em:=aU (st:=jW) vY wZ qG;have Js:=Em.binds (ps:=["many","links"]) fun _ _ _ _ _ _ us hl=>by obtain⟨x0,x1,rfl⟩:=jn hl;rfl
 have Hk:=aU (st:=o7) Cy DS yi;have b_bits:=Hk.binds (ps:=["mask"]) fun _ _ _ _ _ _ us hl=>by obtain⟨x0,rfl⟩:=qx hl;rfl
 have Hj:=aU (st:=oZ) Cw DR yh;have b_ones:=Hj.binds (ps:=["mask"]) fun _ _ _ _ _ _ us hl=>by obtain⟨x0,rfl⟩:=qx hl;rfl
 have F_odd:=aU (st:=yW) IP Jm FG;have b_odd:=F_odd.binds (ps:=["mask"]) fun _ _ _ _ _ _ us hl=>by obtain⟨x0,rfl⟩:=qx hl;rfl
 have uE:=aU (st:=eE) mS nM jt;have DX:=uE.binds (ps:=["places"]) fun _ _ _ _ _ _ us hl=>by obtain⟨x0,rfl⟩:=qx hl;rfl
 have pL:=aU (st:=di) j6 ko gR;have Au:=pL.binds (ps:=["links","used"]) fun _ _ _ _ _ _ us hl=>by obtain⟨x0,x1,rfl⟩:=jn hl;rfl
 have iz:=aU (st:=bp) dU dZ cJ;have oQ:=iz.binds (ps:=["many","links","marks"]) fun _ _ _ _ _ _ us hl=>by obtain⟨x0,x1,x2,rfl⟩:=lh hl;rfl
 have oA:=aU (st:=cE) iS iZ fB;have xo:=oA.binds (ps:=["entries","numbers"]) fun _ _ _ _ _ _ us hl=>by obtain⟨x0,x1,rfl⟩:=jn hl;rfl
 have gC:=aU (st:=a7) dD dG bC;have gz:=gC.binds (ps:=["between","chosen","table"]) fun _ _ _ _ _ _ us hl=>by obtain⟨x0,x1,x2,rfl⟩:=lh hl;rfl
 have ow:=aU (st:=cq) iO iU fx;have xh:=ow.binds (ps:=[]) fun _ _ _ _ _ _ us hl=>by cases len_0 hl;rfl
 have yG:=aU (st:=gK) qA q9 lL;have Gj:=yG.binds (ps:=["many","links","marks"]) fun _ _ _ _ _ _ us hl=>by obtain⟨x0,x1,x2,rfl⟩:=lh hl;rfl
 have uC:=aU (st:=eu) mQ nJ jq;have DV:=uC.binds (ps:=["marks"]) fun _ _ _ _ _ _ us hl=>by obtain⟨x0,rfl⟩:=qx hl;rfl
 have uG:=aU (st:=eG) mU nO jx;have DZ:=uG.binds (ps:=["many","links","marks"]) fun _ _ _ _ _ _ us hl=>by obtain⟨x0,x1,x2,rfl⟩:=lh hl;rfl
 have uH:=aU (st:=eI) mV nP jy;have D5:=uH.binds (ps:=["links","tops"]) fun _ _ _ _ _ _ us hl=>by obtain⟨x0,x1,rfl⟩:=jn hl;rfl
 have yH:=aU (st:=gL) qB rf lM;have Gk:=yH.binds (ps:=["pieces","rooms"]) fun _ _ _ _ _ _ us hl=>by obtain⟨x0,x1,rfl⟩:=jn hl;rfl
 have Eo:=aU (st:=jY) wc w5 qI;have Ju:=Eo.binds (ps:=["many","links","marks"]) fun _ _ _ _ _ _ us hl=>by obtain⟨x0,x1,x2,rfl⟩:=lh hl;rfl
 have En:=aU (st:=jX) vZ w4 qH;have Jt:=En.binds (ps:=["links","marks","used"]) fun _ _ _ _ _ _ us hl=>by obtain⟨x0,x1,x2,rfl⟩:=lh hl;rfl
 have yI:=aU (st:=gM) qD rh lN;have Gm:=yI.binds (ps:=["many","marks","rooms","price"]) fun _ _ _ _ _ _ us hl=>by obtain⟨x0,x1,x2,x3,rfl⟩:=IL hl;rfl
 have oq:=aU (st:=cm) iN iT fu;have xc:=oq.binds (ps:=["link","paper"]) fun _ _ _ _ _ _ us hl=>by obtain⟨x0,x1,rfl⟩:=jn hl;rfl
 have uI:=aU (st:=eJ) mX nQ jz;have D7:=uI.binds (ps:=["links","used"]) fun _ _ _ _ _ _ us hl=>by obtain⟨x0,x1,rfl⟩:=jn hl;rfl
 have pP:=aU (st:=du) ka kA gY;have Ay:=pP.binds (ps:=["many","links","marks","used","paper"]) fun _ _ _ _ _ _ us hl=>by obtain⟨x0,x1,x2,x3,x4,rfl⟩:=len_5 hl;rfl
 have jO:=aU (st:=bD) fq fN c8;have rC:=jO.binds (ps:=["script","k"]) fun _ _ _ _ _ _ us hl=>by obtain⟨x0,x1,rfl⟩:=jn hl;rfl
 have oy:=aU (st:=cA) iQ iX fz;have xk:=oy.binds (ps:=["cell","many"]) fun _ _ _ _ _ _ us hl=>by obtain⟨x0,x1,rfl⟩:=jn hl;rfl
 have iB:=aU (st:=bu) dX d6 cM;have oS:=iB.binds (ps:=["script","first","many","top"]) fun _ _ _ _ _ _ us hl=>by obtain⟨x0,x1,x2,x3,rfl⟩:=IL hl;rfl
 have iA:=aU (st:=br) dW d5 cL;have oR:=iA.binds (ps:=["cell","many","most"]) fun _ _ _ _ _ _ us hl=>by obtain⟨x0,x1,x2,rfl⟩:=lh hl;rfl
 have uF:=aU (st:=eF) mT nN jv;have DY:=uF.binds (ps:=["mask"]) fun _ _ _ _ _ _ us hl=>by obtain⟨x0,rfl⟩:=qx hl;rfl
 have ox:=aU (st:=cz) iP iW fy;have xj:=ox.binds (ps:=["found"]) fun _ _ _ _ _ _ us hl=>by obtain⟨x0,rfl⟩:=qx hl;rfl
 have oz:=aU (st:=cC) iR iY fA;have xm:=oz.binds (ps:=["found","many","marks"]) fun _ _ _ _ _ _ us hl=>by obtain⟨x0,x1,x2,rfl⟩:=lh hl;rfl
 have kY:=aU (st:=bN) gh gs dN;have uu:=kY.binds (ps:=["found"]) fun _ _ _ _ _ _ us hl=>by obtain⟨x0,rfl⟩:=qx hl;rfl
 have pN:=aU (st:=dk) j8 ku gW;have Aw:=pN.binds (ps:=["link","found"]) fun _ _ _ _ _ _ us hl=>by obtain⟨x0,x1,rfl⟩:=jn hl;rfl
 have pO:=aU (st:=dq) j9 kx gX;have Ax:=pO.binds (ps:=["links","used","marks"]) fun _ _ _ _ _ _ us hl=>by obtain⟨x0,x1,x2,rfl⟩:=lh hl;rfl
 have F_law:=aU (st:=p9) IQ Jn IT;refine⟨Kh "law" "law" (aA p9) (ay p9) (ai p9) .none GW G3 GK Hh DK G6,fun s v=>.of_eq rfl,cT,TT,tbi,tbn,fun base _ _ hcd hbm=>?_⟩;have Ci:=Ki X G n8;have FC:=Ki X G rJ;have zH:=Ki X G kD;have IK:=Ki X G oh;have Fx:=Ki X G rE;have IH:=Ki X G xA;have m_bits:=Ki X G Eh;have m_ones:=Ki X G Eg;have m_odd:=Ki X G Jz;have Cj:=Ki X G n9;have zG:=Ki X G kC;have oH:=Ki X G d7;have vR:=Ki X G i9;have gf:=Ki X G dH;have vN:=Ki X G i5;have Fy:=Ki X G rF;have Cg:=Ki X G n6;have Cm:=Ki X G og;have Cn:=Ki X G oi;have Fz:=Ki X G rG;have IJ:=Ki X G xC;have II:=Ki X G xB;have FA:=Ki X G rH;have vM:=Ki X G i4;have Co:=Ki X G oj;have zL:=Ki X G kG;have qv:=Ki X G fO;have vP:=Ki X G i7;have oJ:=Ki X G d9;have oI:=Ki X G d8;have Ck:=Ki X G oe;have vO:=Ki X G i6;have vQ:=Ki X G i8;have sY:=Ki X G gA;have zI:=Ki X G kE;have zJ:=Ki X G kF;have m_law:=Ki X G Gv;have most:=Ki X G gi_most;have n_len:=KD X G Hr;have n_int:=KD X G Hs;have n_bool:=KD X G AK;have n_list:=KD X G AJ;have n_tuple:=KD X G uK;have n_range:=KD X G uL;have n_min:=KD X G Ho;have n_abs:=KD X G Hu;have n_enumerate:=KD X G iC;have n_isinstance:=KD X G fQ;have n_reversed:=KD X G jR;have n_max:=KD X G Hq;have n_sum:=KD X G Hm;have n_zip:=KD X G Hl;have n_sorted:=KD X G pQ;have n_set:=KD X G Hn;have n_all:=KD X G Ht;have T:Txt mg:=⟨n_len,n_int,n_bool,n_list,n_tuple,n_range,n_min,n_abs,n_enumerate,n_isinstance⟩;have TZ:TxtZ mg:=⟨T,n_zip⟩;have TH:TxtH mg:=⟨TZ,n_reversed,n_sorted,n_set⟩;have TE:TxtE mg:=⟨TH,n_sum,n_all,n_max⟩;have A1:Cal l.prog w K mg base 1 "beyond" _ EF lY _:=⟨ok_bey yJ,Gn,FC,lP⟩;have A2:Cal l.prog w K mg base 1 "links_at" _ spAt g7 _:=⟨ok_at pM T,Av,zH,gU⟩;have A3:Cal l.prog w K mg base 2 "fares" _ (pY TT) qQ _:=⟨Fd Ep T tbi oh hcd hbm A2 A1,Jv,IK,qJ⟩;have A4:Cal l.prog w K mg base 1 "reached" _ uT jF _:=⟨ze uD,DW,Ci,jr⟩;have A5:Cal l.prog w K mg base 2 "whole" _ HL qN _:=⟨ok_whl Em A4,Js,IH,qG⟩;have A6:Cal l.prog w K mg base 2 "row_to" _ HN lT _:=⟨ok_row yF ⟨n_list,n_reversed⟩ A1,Gi,Fx,lK⟩;have A7:Cal l.prog w K mg base 1 "bits" _ jb yq _:=⟨Iy Hk,b_bits,m_bits,yi⟩;have A8:Cal l.prog w K mg base 2 "ones" _ xM yp _:=⟨Ip Hj T A7,b_ones,m_ones,yh⟩;have A9:Cal l.prog w K mg base 3 "odd" _ EE FY _:=⟨ok_odd F_odd A8,b_odd,m_odd,FG⟩;have C1:Cal l.prog w K mg base 1 "mask_of" _ (A0 K) jG _:=⟨Iq uE,DX,Cj,jt⟩;have C2:Cal l.prog w K mg base 4 "refuse_marks" _ ED cN _:=⟨ok_ref iz ⟨⟨_,most⟩⟩ A9 A5 A8,oQ,oH,cJ⟩;have C3:Cal l.prog w K mg base 1 "chosen_of" _ lH fK _:=⟨BL oA,xo,vR,fB⟩;have C4:Cal l.prog w K mg base 1 "new_table" _ pV fG _:=⟨E5 ow,xh,vN,fx⟩;have C5:∀(D:Nat->Nat->Int)(m:Nat),(∀ a b,D a b=D b a)->Cal l.prog w K mg base 10 "laid_in_pairs" _ (oW D m 8) b7 _:=fun D m sy=>⟨BJ sy gC T A7 gz gf bC 8,gz,gf,bC⟩;have C6:Cal l.prog w K mg base 11 "paired" _ (pW TT) lU _:=⟨BI yG T C2 A7 A3 C3 C4 C5 C1 A6,Gj,Fy,lL⟩;have B1:Cal l.prog w K mg base 1 "_law_cell_at" _ (xN K) de _:=⟨Iw jO T,rC,qv,c8⟩;have B2:Cal l.prog w K mg base 1 "_law_whole" _ uS fH _:=⟨E4 ox T,xj,vO,fy⟩;have B3:Cal l.prog w K mg base 1 "_law_names" _ uU fI _:=⟨E6 oy T,xk,vP,fz⟩;have C7:Cal l.prog w K mg base 2 "root_of" _ xK jE _:=⟨Im uC A7,DV,Cg,jq⟩;have C8:Cal l.prog w K mg base 11 "heights" _ (HS TT) jI _:=⟨ok_hts uG TZ C2 A7 A3 C3 C4 C5 C7,DZ,Cm,jx⟩;have E1:Cal l.prog w K mg base 1 "dryings" _ HU jJ _:=⟨ok_dry uH TH,D5,Cn,jy⟩;have E2:Cal l.prog w K mg base 2 "joined" _ Bb lV _:=⟨Iu yH T A7,Gk,Fz,lM⟩;have E3:Cal l.prog w K mg base 12 "hills" _ (uY TT) qP _:=⟨Fc Eo TH C8 E1 C7 E2,Ju,IJ,qI⟩;have X1:Cal l.prog w K mg base 1 "odd_ends" _ uZ gZ _:=⟨Fe pL TE,Au,zG,gR⟩;have X2:Cal l.prog w K mg base 2 "joins" _ uX qO _:=⟨Fb En TE X1,Jt,II,qH⟩;have X3:Cal l.prog w K mg base 4 "counts" _ pZ lX _:=⟨BK yI A9,Gm,FA,lN⟩;have X4:Cal l.prog w K mg base 1 "paid_over" _ AZ fF _:=⟨Io oq TE,xc,vM,fu⟩;have X5:Cal l.prog w K mg base 1 "cost_of" _ u0 jK _:=⟨Ff uI TE,D7,Co,jz⟩;have X6:Cal l.prog w K mg base 5 "examined" _ Bc hU _:=⟨Iv pP TE X2 X3 X4 X5,Ay,zL,gY⟩;have B4:Cal l.prog w K mg base 2 "_law_links_by" _ (spLb K) cP _:=⟨ok_lb iB TE B1 B3,oS,oJ,cM⟩;have B5:Cal l.prog w K mg base 1 "_law_marks_by" _ HQ cO _:=⟨ok_mks iA TE,oR,oI,cL⟩;have B6:Cal l.prog w K mg base 1 "_law_odd" _ Ba jH _:=⟨Ir uF,DY,Ck,jv⟩;have B7:Cal l.prog w K mg base 2 "_law_kinds" _ HR fJ _:=⟨ok_kin oz TE B2 B6,xm,vQ,fA⟩;have B8:Cal l.prog w K mg base 1 "_law_nested" _ HP dP _:=⟨ok_nes kY TE,uu,sY,dN⟩;have B9:Cal l.prog w K mg base 1 "_law_paid" _ uV g8 _:=⟨E7 pN TE,Aw,zI,gW⟩;have D1:Cal l.prog w K mg base 1 "_law_cost" _ uW g9 _:=⟨E8 pO TE,Ax,zJ,gX⟩;exact ok_law F_law TE B1 B4 B5 E3 B7 B8 B9 C6 D1 X6
theorem walk{l:NJ}{q:Program}{loose:List Str}{XP:(Str->Option Value)->Heap->Prop}{YP:World->Heap->Prop}{d:DefRec}{K:Params->JH}(hn:l.most=some 63)(hdf:d.params.defaults = [])
  (hY:∀(w:World)(h:Heap),YP w h->(K w.params).In h) (hrec:((PyProof.Rows.recsOf q).find? (fun e=>e.name == ("fares" : Str))).isSome=true)
  (F:∀(w:World)(mg:Str->Option Value)(fa:Addr)(h:Heap),(K w.params).In h->h.Ns mainGlobals mg->mg d.name=some (.ref fa) ->
   ∃ fd:FuncData,(∀(s:Shared)(u:Value),BindsTo s fd ⟨[u],[]⟩ [("script",u)])/\∃ c T,L9 (K w.params) "fares" = some (c,T)/\(K w.params).lookup T=none/\∀ base:Heap,(K w.params).In base->base.Ns mainGlobals mg->L4 base c T->Bm mg base->FnOk l.prog w (K w.params) mg base CX0 13 fa fd ["script"] (pX (K w.params) T)) :
  PySem.W.WalkO q loose XP YP l.row.toRowW d [] (fun f vs=>PySem.call f vs) :=
 L2.walk_ofT (n:=63) (k:=13) (x:="script") (CX:=CX0) (sp:=fun K T=>pX K T) hn (by decide) hdf ⟨rfl,by decide,by decide⟩ hY (Option.some_get hrec).symm F (fun _ _ _ a ns hl hT hS=>⟨a,ns,rfl,hS,hl,.inl hT,fun _=>rfl⟩) fun _ _ _ _ z=>z
end KF
def PySem.W.Fast.tw7507704753437646947:Nat:=0
def PySem.W.Fast.tw15744139304144835078:Nat:=0
def PySem.W.Fast.tw7711183446619058380:Nat:=0
def PySem.W.Fast.tw9017654125010261171:Nat:=0
def PySem.W.Fast.tw5261251591057680660:Nat:=0
def PySem.W.Fast.tw10956825916536104727:Nat:=0
def PySem.W.Fast.tw5709557757123799804:Nat:=0
def PySem.W.Fast.tw18119817565983942301:Nat:=0
def PySem.W.Fast.tw417890011038604062:Nat:=0
def PySem.W.Fast.tw8152442704213896990:Nat:=0
def PySem.W.Fast.tw899311355552072479:Nat:=0
namespace PySem.W.Fast
def tw9365444997857607680:=0
def tw3537092372466508928:=0
def tw6810026155873873120:=0
def tw752821396352776512:=0
def tw7073253068638005600:=0
def tw5948717795697096096:=0
def tw12067058393895402976:=0
def tw8971420298931835616:=0
def tw3530220745068072736:=0
def tw12398376895134654272:=0
def tw1087141063341298528:=0
def tw2654117711755676512:=0
def tw2464502883559245696:=0
def tw6614930056807907232:=0
def tw9052114802147213248:=0
def tw7362447691935837185:=0
def tw482369750846552097:=0
def tw11306773296100119617:=0
def tw14092756838660017281:=0
def tw3990747280543510945:=0
def tw13198083147796163105:=0
def tw7145308603533921089:=0
def tw9155165909712382817:=0
def tw1251652786004799329:=0
def tw829605379343668129:=0
def tw13214984597796322241:=0
def tw3063593576951319489:=0
def tw14658130888288825410:=0
def tw8724014731347032226:=0
def tw7673381996900073634:=0
def tw16043221586178740418:=0
def tw4963187479366165762:=0
def tw8142722806831208706:=0
def tw15619580645146803490:=0
def tw6880859593311794562:=0
def tw6033957273890489890:=0
def tw11825552909922613922:=0
def tw3581533479512694434:=0
def tw7776978423622778658:=0
def tw11868417198299151459:=0
def tw14060567529566423171:=0
def tw9667854390585298435:=0
def tw15368151254324204067:=0
def tw13569514426393322243:=0
def tw812771814120821539:=0
def tw11855678687254089860:=0
def tw4508050905034404004:=0
def tw9031205723533630820:=0
def tw11532454787962651076:=0
def tw16916950968550280740:=0
def tw17572135539139710564:=0
def tw10637360349794495236:=0
def tw14473705940428036932:=0
def tw11940281475520617477:=0
def tw3363673240928277541:=0
def tw15390361883022382213:=0
def tw13356748114926680261:=0
def tw9356756986994042117:=0
def tw17410189149053394213:=0
def tw9116909208948713797:=0
def tw11476060340467201413:=0
def tw17417363899637544389:=0
def tw2814911429135526565:=0
def tw17230829662034801413:=0
def tw13184697463713634117:=0
def tw17567528614892975013:=0
def tw524021660655585221:=0
def tw1837559551104735173:=0
def tw5761093084535848966:=0
def tw12148497842979629254:=0
def tw11142063568498086182:=0
def tw11326087403293792678:=0
def tw1884440582788013574:=0
def tw10613024226401946246:=0
def tw12100632043147859622:=0
def tw6171357316218059558:=0
def tw6429064984319630118:=0
def tw4121923022122563430:=0
def tw3939197760246041799:=0
def tw7361416127492903303:=0
def tw13776725362376502791:=0
def tw9038098759574889672:=0
def tw8847568894207145288:=0
def tw17442812154768152968:=0
def tw6660149476863497704:=0
def tw2229150547011101224:=0
def tw9017166584678973032:=0
def tw10713034349362304648:=0
def tw5719154790460925576:=0
def tw11361561732388279048:=0
def tw10170058718386510664:=0
def tw12652735240896588169:=0
def tw1112208661785912937:=0
def tw9674229240930606857:=0
def tw13101845159063911209:=0
def tw13767164957537922857:=0
def tw6370500508182187082:=0
def tw12009062120754211946:=0
def tw2851868189670102186:=0
def tw14426497802502109386:=0
def tw2700281525343874282:=0
def tw12510766887840294250:=0
def tw13168407369901425066:=0
def tw11238174174468765322:=0
def tw1013703112593156778:=0
def tw4129297914105104074:=0
def tw9019068933944297194:=0
def tw1175596439497152330:=0
def tw2602318661646983146:=0
def tw12729015748170792971:=0
def tw12585561063036080203:=0
def tw12860167533777597931:=0
def tw13974835834589614603:=0
def tw12354145213408932459:=0
def tw5828319093334791851:=0
def tw13566869652897832651:=0
def tw8804931356093963979:=0
def tw13865150881094060939:=0
def tw10942720428827383723:=0
def tw11089299331856765004:=0
def tw1185411377141945420:=0
def tw15090847873964485900:=0
def tw15030464312445634828:=0
def tw16867365417529851180:=0
def tw5672605824790785356:=0
def tw8320787875111395692:=0
def tw5563605244305768012:=0
def tw9085109648582180556:=0
def tw5747554367826051852:=0
def tw15886016487199314957:=0
def tw13982700639750560877:=0
def tw11699760536235814189:=0
def tw11099169456222944557:=0
def tw616846526079920525:=0
def tw4133635240699468205:=0
def tw10592177848957057805:=0
def tw8674272045406349069:=0
def tw7321396626453296941:=0
def tw16715698985512799149:=0
def tw11783853639903313998:=0
def tw14460159122552652878:=0
def tw11524794968378650702:=0
def tw7865460535232897166:=0
def tw5816993256689132718:=0
def tw5849988850235260110:=0
def tw9030781454503447918:=0
def tw15919762619516444142:=0
def tw3319711395365706254:=0
def tw11187298794418801230:=0
def tw17720536486175273710:=0
def tw12842379875373009838:=0
def tw2601823536220003503:=0
def tw445378103275129263:=0
def tw9790769776230887855:=0
def tw7447173546720437743:=0
def tw17640360241214519055:=0
def tw9306847046779374768:=0
def tw5571003316583901456:=0
def tw4829482338557020464:=0
def tw510716614883671472:=0
def tw13855961890202418704:=0
def tw10816306781745596016:=0
def tw18043887419407504304:=0
def tw6936574659297701840:=0
def tw14982709707286771857:=0
def tw12139408933361464625:=0
def tw7104917829779329329:=0
def tw1236599732173927761:=0
def tw12304151109505141073:=0
def tw10057675876244744657:=0
def tw14760101097949967921:=0
def tw16614956539158385585:=0
def tw17017503445406871505:=0
def tw798566027523471410:=0
def tw16887070007404722258:=0
def tw6673532691109658834:=0
def tw2394213467599823090:=0
def tw18129520858874307890:=0
def tw459654076289734994:=0
def tw5656708730114479506:=0
def tw15529962248097748466:=0
def tw17572069940561162802:=0
def tw699271639071137426:=0
def tw2614536608222195506:=0
def tw13079251526694283122:=0
def tw10442994386475234162:=0
def tw4046635136328804371:=0
def tw13559091106203813907:=0
def tw13730638797467324499:=0
def tw4084937482942686355:=0
def tw12052702122310197459:=0
def tw7289510747923876179:=0
def tw12862853532796465491:=0
def tw13486102873618478419:=0
def tw3939886630880156083:=0
def tw1430017770667630035:=0
def tw1657770838896824979:=0
def tw3685398993169744563:=0
def tw17374997446686275251:=0
def tw14095267324855737075:=0
def tw5229238932646787859:=0
def tw6636574131560613683:=0
def tw16403237275963333427:=0
def tw5597215181651963731:=0
def tw16955302567912063923:=0
def tw4274915876051303347:=0
def tw13272831063817818164:=0
def tw5754543767250684340:=0
def tw12943099591261749940:=0
def tw2243370904284017364:=0
def tw17912273782167244596:=0
def tw4429278576006962132:=0
def tw2997560551750198260:=0
def tw8037141810214651253:=0
def tw3209518408346816917:=0
def tw15932604532612191637:=0
def tw13438757265846260149:=0
def tw9713414910711511701:=0
def tw8098104619918728885:=0
def tw11126266019624938197:=0
def tw630969084873649941:=0
def tw16735621308765624277:=0
def tw9635429982985635286:=0
def tw9177565199398274710:=0
def tw1857263962400915190:=0
def tw16287541540840758166:=0
def tw1908113776775449558:=0
def tw14972747582422270966:=0
def tw10739784889581854743:=0
def tw11876531345529845783:=0
def tw16761066074476564567:=0
def tw3272003836832981079:=0
def tw8987529233248382135:=0
def tw6815927195000007319:=0
def tw231329185913522903:=0
def tw1975455920333817112:=0
def tw1376093804609840952:=0
def tw16608644348457484184:=0
def tw4690390532567301080:=0
def tw229603291721664504:=0
def tw18182833240891091193:=0
def tw11621631048893914393:=0
def tw10570791047478663545:=0
def tw17321799296610443673:=0
def tw2600902188207870361:=0
def tw7034833527579864505:=0
def tw6148806475334054809:=0
def tw18183049790536978393:=0
def tw4273560050763108345:=0
def tw17350478093439098234:=0
def tw2262927854814650778:=0
def tw17482327960125025722:=0
def tw5662209599094044154:=0
def tw10328552890513787482:=0
def tw451787440997015194:=0
def tw2654652371733039002:=0
def tw12801272842698382330:=0
def tw5025930312818068603:=0
def tw1023725598482132379:=0
def tw7732760675927696827:=0
def tw2773721158353215003:=0
def tw15270154995196718619:=0
def tw10990387350533522139:=0
def tw14989039171036624603:=0
def tw17538236378403295099:=0
def tw11270712173499297691:=0
def tw7410333567141601275:=0
def tw5586681453955129532:=0
def tw424025731605884124:=0
def tw14686038176255469116:=0
def tw1380198345579831004:=0
def tw5564270433243187004:=0
def tw3496901280860636988:=0
def tw18433046298439225501:=0
def tw10329446696051839357:=0
def tw12387753478534047197:=0
def tw18442339335895913981:=0
def tw13711185187171532317:=0
def tw16020061104621946653:=0
def tw13611188362051388478:=0
def tw14494271849101942910:=0
def tw11547893066854034558:=0
def tw5829785471274267806:=0
def tw12481922636112694558:=0
def tw2590739352027490654:=0
def tw15896460621931024766:=0
def tw12285699382781458846:=0
def tw1752279172798823870:=0
def tw11193556216545360350:=0
def tw15189691973007870686:=0
def tw12238667573133802238:=0
def tw6879848926998703006:=0
def tw3823463918077190271:=0
def tw5487817109446601887:=0
def tw16998579230776172703:=0
def tw9158128569971919007:=0
def tw12480781493600697535:=0
def tw7392138870656517471:=0
def tw11092327145017998687:=0
def tw8801093775744128383:=0
def tw3217378685059939967:=0
def tw3916781012595752607:=0
def tw1191641056027910847:=0
def tw1478146771197089503:=0
def tw17086808189041527583:=0
def tw12866416697643754399:=0
def tw7569082310426277792:=0
end PySem.W.Fast
open PySem PySem.W PyProof.Rows
set_option maxRecDepth 100000 in
set_option maxHeartbeats 0 in
theorem PySem.Challenge.cw_spinfloor_k28_whole_hills_holds : PySem.Challenge.rw_spinfloor_k28_whole_hills.Holds := by
 w_on;o_law;k_head;(case hw=>w_witness2);k_fill;refine KF.walk (l:=PySem.Challenge.rw_spinfloor_k28_whole_hills) rfl rfl (fun w h Y=>PySem.W.km_in_of Y) ?R ?F;(case R=>kernel_rfl)
 case F =>
  intro w mg fa h KX G hmg;refine' KF.all_mk KX G hmg ?n8 ?mR ?nK ?jr ?rJ ?qE ?rj ?lP ?kD ?j7 ?kr ?gU ?oh ?qC ?w6 ?qJ ?rE ?qz ?q8 ?lK ?xA ?vY ?wZ ?qG ?Eh ?Cy ?DS ?yi ?Eg ?Cw ?DR ?yh ?Jz ?IP ?Jm ?FG ?n9 ?mS ?nM ?jt ?kC ?j6 ?ko ?gR ?d7 ?dU ?dZ ?cJ ?i9 ?iS ?iZ ?fB ?dH ?dD ?dG ?bC ?i5 ?iO ?iU ?fx ?rF ?qA ?q9 ?lL ?n6 ?mQ ?nJ ?jq ?og ?mU ?nO ?jx ?oi ?mV ?nP ?jy ?rG ?qB ?rf ?lM ?xC ?wc ?w5 ?qI ?xB ?vZ ?w4 ?qH ?rH ?qD ?rh ?lN ?i4 ?iN ?iT ?fu ?oj ?mX ?nQ ?jz ?kG ?ka ?kA ?gY ?fO ?fq ?fN ?c8 ?i7 ?iQ ?iX ?fz ?d9 ?dX ?d6 ?cM ?d8 ?dW ?d5 ?cL ?oe ?mT ?nN ?jv ?i6 ?iP ?iW ?fy ?i8 ?iR ?iY ?fA ?gA ?gh ?gs ?dN ?kE ?j8 ?ku ?gW ?kF ?j9 ?kx ?gX ?Gv ?IQ ?Jn ?IT ?gi_most ?Hr ?Hs ?AK ?AJ ?uK ?uL ?Ho ?Hu ?iC ?fQ ?jR ?Hq ?Hm ?Hl ?pQ ?Hn ?Ht ?tbc ?tbl ?tbv ?tbn;(case n8|mR|nK|jr|rJ|qE|rj|lP|kD|j7|kr|gU|oh|qC|w6|qJ|rE|qz|q8|lK|xA|vY|wZ|qG|Eh|Cy|DS|yi|Eg|Cw|DR|yh|Jz|IP|Jm|FG|n9|mS|nM|jt|kC|j6|ko|gR|d7|dU|dZ|cJ|i9|iS|iZ|fB|dH|dD|dG|bC|i5|iO|iU|fx|rF|qA|q9|lL|n6|mQ|nJ|jq|og|mU|nO|jx|oi|mV|nP|jy|rG|qB|rf|lM|xC|wc|w5|qI|xB|vZ|w4|qH|rH|qD|rh|lN|i4|iN|iT|fu|oj|mX|nQ|jz|kG|ka|kA|gY|fO|fq|fN|c8|i7|iQ|iX|fz|d9|dX|d6|cM|d8|dW|d5|cL|oe|mT|nN|jv|i6|iP|iW|fy|i8|iR|iY|fA|gA|gh|gs|dN|kE|j8|ku|gW|kF|j9|kx|gX|Gv|IQ|Jn|IT|gi_most|Hr|Hs|AK|AJ|uK|uL|Ho|Hu|iC|fQ|jR|Hq|Hm|Hl|pQ|Hn|Ht=>k_is)
  (case tbc=>rfl);(case tbl=>k_is);(case tbv=>rfl);(case tbn=>kernel_rfl)
