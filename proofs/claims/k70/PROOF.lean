import PyProof.Rows.All
import Wide.All
import OpenK.AllK
import Wide.FinOn
import Lean
import PyProof.EqAt
import PyProof.EqKinds
import PyProof.TupleCall
import PySem.Challenge.RW_spinfloor_k70_worths_by_trial
open Array renaming toList_append → Kx, length_toList → KZ, getElem?_toList → Lo, toList_push → LJ, perm_iff_toList_perm → Mc, toList_reverse → Md, toList_extract → ME, toList_setIfInBounds → NH, getElem?_eq_some_iff → NI, getElem?_eq_getElem → NP, size_setIfInBounds → NT
open Bool renaming false_ne_true → Ka, false_eq_true → K1, and_eq_true_iff → LC, true_and → Mb, false_and → Mi, not_eq_true' → Mx, or_false → M4, eq_iff_iff → Nd, and_false → NO
open Int renaming toNat_natCast → Kq, zero_add → Lb, add_zero → Ld, le_refl → Lr, le_of_lt → Lv, emod_lt_of_pos → LU, emod_nonneg → LZ, toNat_of_nonneg → MJ, natCast_nonneg → MN, le_trans → Nu, fdiv_eq_ediv_of_nonneg → NG
open List renaming getElem?_eq_some_iff → JK, getElem?_eq_getElem → JL, mem_of_getElem? → JM, length_append → JO, getElem?_append_right → JP, getElem?_map → JR, length_map → JS, mem_cons → JT, getElem?_append_left → JU, mem_append → JV, length_singleton → JW, mem_append_right → JY, mem_cons_of_mem → J1, nodup_cons → Kc, mem_map → Ke, nodup_append → Kg, mem_cons_self → Kh, mem_singleton → Kj, take_append_drop → Km, size_toArray → Ko, length_cons → Kt, length_take → Ku, mem_append_left → Kv, take_add_one → Kw, take_of_length_le → Kz, map_cons → KA, append_assoc → KC, map_append → KD, getElem?_set → KG, range → KJ, length_drop → KL, flatten_cons → KO, take_length → KP, length_set → KQ, pairwise_append → KS, mem_range → KU, not_mem_nil → KW, mem_iff_getElem? → KY, mem_flatten → K0, getD_eq_getElem?_getD → K3, mem_of_mem_take → K6, mem_of_mem_drop → K7, getElem?_of_mem → K9, flatten_append → Lf, length_range → Lg, getElem_mem → Li, perm_ext_iff_of_nodup → Lj, pairwise_iff_getElem → Ll, perm_append_comm → Lm, nodup_range → Lz, getElem?_take → LA, drop_eq_getElem_cons → LB, pairwise_map → LG, ext_getElem? → LI, map_map → LK, getElem?_replicate → LP, any_eq_true → LR, getElem?_drop → LS, lookup → LW, length_nil → LX, getElem?_eq_none → LY, replicate → Me, nodup_nil → Mf, extract_eq_drop_take → Mg, drop_drop → Mh, getElem?_range → Mm, pairwise_singleton → Mp, mem_filter → Mq, length_eq_zero_iff → Mr, find?_cons → Ms, append_nil → Mt, length_pos_of_mem → Mv, drop_take → Mz, take_append_of_le_length → MC, take_add → MF, map_congr_left → MI, append_of_mem → MM, take_take → MO, drop_zero → MP, idxOf_lt_length_iff → MT, getElem_take → MU, getElem?_inj → MV, flatMap_cons → MX, any_cons → M1, Pairwise → M3, getElem?_set_self → M5, drop_eq_nil_of_le → M6, set_append_right → Na, of_mem_zip → Nb, nil_append → Nc, filterMap_cons → Nj, pairwise_cons → Nk, mem_filterMap → Nl, map_drop → Nm, getElem_drop → Np, map_nil → Nt, zipIdx_cons → Nv, drop_append → Nw, dropLast_concat_getLast → Ny, sum_append → NC, range_succ → ND, idxOf_lt_length_of_mem → NF, take_zero → NL, mem_or_eq_of_mem_set → NM, getElem?_zip_eq_some → NN, sum_cons → NV, map_take → NW
open List.Pairwise renaming nil → Nq, imp_of_mem → NS
open List.Perm renaming append_left → Ln, refl → MA
open Nat renaming le_refl → JQ, ne_of_lt → Kp, sub_self → Kr, lt_of_lt_of_le → Ky, le_trans → KR, le_of_lt → K2, zero_le → K4, testBit_two_pow → K5, lt_irrefl → La, ne_of_gt → Lc, zero_testBit → Lp, lt_succ_self → Lq, eq_of_testBit_eq → Ls, testBit_or → Lu, lt_succ_of_lt → Lw, min_eq_left → Lx, mod_eq_of_lt → Ly, testBit_and → LF, le_succ_of_le → Ma, le_succ → Mj, testBit_lt_two_pow → Mu, le_add_right → MB, pow_le_pow_right → MD, not_lt_zero → MH, mod_self → M9, or_zero → Ni, and_zero → Nr, testBit → NB
open Option renaming map_eq_some_iff → Kl, map_some → M8, isSome_iff_exists → NR
open Option.some renaming inj → JZ
open PySem renaming Spec → Kf, mem_of_lookup → Le
open PySem.F renaming plainAttrs_list → Kk, type_list_append → KH, slot_list_append → KI, slot_dict_items → LL, plainAttrs_dict → LN, type_list_index → Mn, slot_list_index → Mo, type_list_insert → MQ, slot_list_insert → MR, type_dict_items → M0, slot_dict_get → M7, slot_dict_setdefault → Nx, plain_extend_loop → NJ, args_dict_items_1 → NK, entry_dict_items → NQ, args_dict_get_3 → NU
open PySem.W renaming Frag → JN, keepIn → JX, nsIn → J2, codeIn → Kb, fnOf → Kd, mg_of → Ki, findIn → Ks, mg_none_of → KN, kia_one → Lh, emptyDict → Lk, instObj → LD, plainGet → LQ, isFn → LV, hasDictIn → L0, plainOver → Mw, kitOne → My, makesIn → MG, callWith_K → MK, mroIn → MY, excIn → MZ, lookIn → Nf, plainGet_of → Ng, hideAll_get → Nh, methodObj → Nn, takerIn → Nz, OpenLaw → NA
set_option Elab.async false
set_option linter.all false
set_option maxRecDepth 100000
local macro_rules | `(tactic| omega) => `(tactic| first | assumption | lia | omega +splitDisjunctions)
namespace L2
open PySem PySem.Spec PyProof.Rows
abbrev Key:=Sum Int Str
def zF:Key->Value->Bool
 |.inl k,v=>Value.isInt k v
 |.inr x,v=>Value.isStrOf x v
def keyH(w:World):Key->Int
 |.inl k=>hashInt k
 |.inr x=>hashStr w x
theorem bh:∀{k:Key}{v:Value},zF k v=true->(∃ i t,k=Sum.inl i/\v=Value.int i t)∨(∃ x t,k=Sum.inr x/\v=Value.str x t)
 |.inl i,v,h=>by
  obtain⟨t,e⟩:=Value.isInt_shape (k:=i) (v:=v) h
  exact .inl ⟨i,t,rfl,e⟩
 |.inr x,v,h=>by
  obtain⟨t,e⟩:=Value.isStrOf_shape (x:=x) (v:=v) h
  exact .inr ⟨x,t,rfl,e⟩
theorem Ex(i:Int)(t:Tok):zF (.inl i) (.int i t)=true:=by simp[zF,Value.isInt]
theorem Ew(x:Str)(t:Tok):zF (.inr x) (.str x t)=true:=by simp[zF,Value.isStrOf]
theorem key_ll(a b:Int):decide ((Sum.inl a:Key)=Sum.inl b)=(a == b):=by
 by_cases e:a=b
 ·subst e;simp
 ·have h:¬ (Sum.inl a:Key)=Sum.inl b:=fun q=>e (Sum.inl.inj q)
  rw[decide_eq_false h]
  exact(beq_eq_false_iff_ne.mpr e).symm
theorem key_rr(a b:Str):decide ((Sum.inr a:Key)=Sum.inr b)=decide (a=b):=by
 by_cases e:a=b
 ·subst e;simp
 ·have h:¬ (Sum.inr a:Key)=Sum.inr b:=fun q=>e (Sum.inr.inj q)
  rw[decide_eq_false h,decide_eq_false e]
theorem key_lr(a:Int)(b:Str):decide ((Sum.inl a:Key)=Sum.inr b)=false:=decide_eq_false (fun q=>nomatch q)
theorem key_rl(a:Str)(b:Int):decide ((Sum.inr a:Key)=Sum.inl b)=false:=decide_eq_false (fun q=>nomatch q)
def bI(prog:Program)(w:World):PySem.KeyKind prog w Key where
 is:=zF
 hash:=keyH w
 inj:=fun v a b ha hb=>by
  rcases bh ha with⟨i,t,rfl,rfl⟩ | ⟨x,t,rfl,rfl⟩
  ·rcases bh hb with⟨j,u,rfl,e⟩ | ⟨y,u,rfl,e⟩
   ·injection e with e1 _;rw[e1]
   ·exact nomatch e
  ·rcases bh hb with⟨j,u,rfl,e⟩ | ⟨y,u,rfl,e⟩
   ·exact nomatch e
   ·injection e with e1 _;rw[e1]
 byValue:=fun k v h=>by
  rcases bh h with⟨i,t,rfl,rfl⟩ | ⟨x,t,rfl,rfl⟩<;>rfl
 pyHash:=fun hv h=>by
  rcases bh hv with⟨i,t,rfl,rfl⟩ | ⟨x,t,rfl,rfl⟩
  ·exact wpAny_pyHash_int h
  ·exact wpAny_pyHash_str h
 eqBool:=fun hu hv h=>by
  rcases bh hu with⟨i,t,rfl,rfl⟩ | ⟨x,t,rfl,rfl⟩
  ·rcases bh hv with⟨j,u,rfl,rfl⟩ | ⟨y,u,rfl,rfl⟩
   ·rw[key_ll]at h;exact wpAny_eqBool_int h
   ·rw[key_lr]at h;exact SeqAt.EqAt.int_str i t y u _ _ _ _ h
  ·rcases bh hv with⟨j,u,rfl,rfl⟩ | ⟨y,u,rfl,rfl⟩
   ·rw[key_rl]at h;exact SeqAt.EqAt.str_int x t j u _ _ _ _ h
   ·rw[key_rr]at h;exact wpAny_eqBool_str h
 «strs»:=fun k x t v h=>by
  rcases bh h with⟨i,u,rfl,e⟩ | ⟨y,u,rfl,e⟩
  ·exact nomatch e
  ·injection e with e1 _
   subst e1
   cases v<;>rfl
theorem zt(prog:Program)(w:World)(i:Int)(t:Tok):(bI prog w).is (.inl i) (.int i t)=true:=Ex i t
theorem zr(prog:Program)(w:World)(x:Str)(t:Tok):(bI prog w).is (.inr x) (.str x t)=true:=Ew x t
end L2
namespace L2
open PySem PySem.Spec PyProof.Rows
inductive V where
 |non | bl (b:Bool) | int (i:Int) | str (x:Str) | byt (b:Array UInt8) | flt (b:UInt64) | ref (a:Addr) | ty (n:String)
 deriving DecidableEq
def RelV:V->Value->Prop
 |.non,u=>u=Value.none
 |.bl b,u=>u=Value.bool b
 |.int i,u=>∃ t,u=Value.int i t
 |.str x,u=>∃ t,u=Value.str x t
 |.byt b,u=>∃ t,u=Value.bytes b t
 |.flt b,u=>∃ t,u=Value.float b t
 |.ref a,u=>u=Value.ref a
 |.ty n,u=>u=Value.type n
abbrev Vals:List V->List Value->Prop:=Paired RelV
theorem Vals.length{xs:List V}{us:List Value}(r:Vals xs us):xs.length=us.length:=Paired.length r
theorem Vals.get:∀{xs:List V}{us:List Value}{i:Nat}{x:V},Vals xs us->xs[i]?=some x->∃ u,us[i]?=some u/\RelV x u
 |_,_,_,_,.nil,e=>by simp at e
 |_,_,0,_,.cons r _,e=>by simp at e;subst e;exact⟨_,rfl,r⟩
 |_,_,i+1,x,.cons _ t,e=>by
  obtain⟨u,h1,h2⟩:=Vals.get (i:=i) (x:=x) t (by simpa using e)
  exact⟨u,by simpa using h1,h2⟩
theorem Vals.set{x:V}{u:Value}(r:RelV x u):∀{xs:List V}{us:List Value}(i:Nat),Vals xs us->Vals (xs.set i x) (us.set i u)
 |_,_,_,.nil=>.nil
 |_,_,0,.cons _ t=>.cons r t
 |_,_,i+1,.cons q t=>.cons q (Vals.set r i t)
theorem Vals.append:∀{xs ys:List V}{us ws:List Value},Vals xs us->Vals ys ws->Vals (xs++ys) (us++ws)
 |_,_,_,_,.nil,s=>s
 |_,_,_,_,.cons r t,s=>.cons r (Vals.append t s)
theorem Vals.take:∀{xs:List V}{us:List Value}(n:Nat),Vals xs us->Vals (xs.take n) (us.take n)
 |_,_,0,_=>.nil
 |_,_,_+1,.nil=>.nil
 |_,_,n+1,.cons r t=>.cons r (Vals.take n t)
theorem Vals.drop:∀{xs:List V}{us:List Value}(n:Nat),Vals xs us->Vals (xs.drop n) (us.drop n)
 |_,_,0,r=>r
 |_,_,_+1,.nil=>.nil
 |_,_,n+1,.cons _ t=>Vals.drop n t
def RelO:Option V->Option Value->Prop
 |some v,some u=>RelV v u
 |none,none=>True
 |_,_=>False
def KV{κ:Type}:List (κ×V)->List (κ×Value)->Prop:=Paired fun(p:κ×V) (q:κ×Value)=>p.1=q.1/\RelV p.2 q.2
def kV:Key->V
 |.inl i=>.int i
 |.inr x=>.str x
inductive HO where
  |lst (xs:List V)
  |tup (xs:List V)
  |dK (kvs:List (Key×V)) | dT (kvs:List (List Key×V))
  |set (S:Int->Bool) (n:Nat)
  |ins (C dx:Addr) (fs:List (Str×V))
  |own (x:Addr)
  |xd (fs:List (Str×V))
  |met (f x:Addr)
  |rng (lo hi:Int)
  |frz (o:Obj) (u:HO)
  |tbl (ps:Array Value)
  |ext (φ:Heap->Prop)
abbrev Hp:=Addr->Option HO
def upd(H:Hp)(a:Addr)(o:HO):Hp:=fun b=>if b=a then some o else H b
theorem ae{H:Hp}{a:Addr}{o:HO}:upd H a o a=some o:=by unfold upd;rw[if_pos rfl]
theorem ak{H:Hp}{a b:Addr}{o:HO}(h:b≠a):upd H a o b=H b:=by unfold upd;rw[if_neg h]
theorem B6{H:Hp}{a b:Addr}{o u:HO}(h:H a=some o)(h':H b=some u)(d:o≠u):a≠b:=by
 intro e;subst e;rw[h]at h';exact d (JZ h')
theorem ar{H:Hp}{a b:Addr}{o:HO}(h:H a=some o)(h':H b=none):a≠b:=by
 intro e;subst e;rw[h]at h';cases h'
section
variable(P:Program)(w:World)
def bA(H:Hp)(h:Heap)(a:Addr):HO->Prop
 |.lst xs=>xs.length<=sizeLine/\∃(its:List Value)(n:Nat),Vals xs its/\h.get? a=some { cls:=.type "list",data:=.seq its.toArray n }
 |.tup xs=>xs.length<=sizeLine/\∃ its:List Value,Vals xs its/\IsTup h a its.toArray
 |.dK kvs=>kvs.length<=sizeLine/\(a == sysModules)=false/\∃ vs,KV kvs vs/\h.DictOf (bI P w) a vs
 |.dT kvs=>kvs.length<=sizeLine/\(a == sysModules)=false/\∃ xs:List (List Key×Addr×Value),
   Paired (fun(p:List Key×V) (q:List Key×Addr×Value)=>p.1=q.1/\H q.2.1=some (.tup (p.1.map kV))/\RelV p.2 q.2.2) kvs xs /\
   ∃ o es ep,h.get? a=some o/\o.ExactDict/\o.data=.dict es ep/\es.toList=xs.map (entryOfKey (tupleKind (bI P w)))/\(xs.map (·.1)).Nodup
 |.set S n=>h.SetOf (intKind P w) a S n
 |.ins C dx fs=>H dx=some (.own a)/\fs.length<=1000/\dx≠a/\h.get? a=some (LD C dx) /\
   ∃ mA,h.Ns1 dx mA/\(∀ f,RelO (fs.lookup f) (mA f))/\PySem.Within mA (fs.map (·.1))
 |.own _=>∃ o,h.get? a=some o
 |.xd fs=>∃ mA,h.Ns1 a mA/\∀ f,RelO (fs.lookup f) (mA f)
 |.rng lo hi=>∃ t u v,h.get? a=some { cls:=.type "range",data:=.fields #[.int lo t,.int hi u,.int 1 v] }
 |.frz o u=>h.get? a=some o/\bA H h a u
 |.tbl ps=>h.get? a=some { cls:=.none,data:=.fields ps }
 |.met f x=>h.get? a=some (Nn (.ref f) (.ref x))
 |.ext φ=>φ h/\(∃ o,h.get? a=some o)/\∀ h1 h2:Heap,φ h1->(∀ o,h1.get? a=some o->h2.get? a=some o)->φ h2
def HOk(H:Hp)(h:Heap):Prop:=∀ a o,H a=some o->bA P w H h a o
end
section
variable{P:Program}{w:World}{H H':Hp}{h h':Heap}{a:Addr}{o:HO}
theorem bA.lt(x:bA P w H h a o):a<h.objs.size:=by
 cases o with
 |lst xs=>obtain⟨_,_,_,_,e⟩:=x;exact Heap.lt_size e
 |tup xs=>obtain⟨_,_,_,p⟩:=x;exact p.lt
 |dK kvs=>obtain⟨_,_,_,_,o,_,_,e,_⟩:=x;exact Heap.lt_size e
 |dT kvs=>obtain⟨_,_,_,_,o,_,_,e,_⟩:=x;exact Heap.lt_size e
 |set S n=>obtain⟨o,_,_,_,e,_⟩:=x;exact Heap.lt_size e
 |ins C dx fs=>obtain⟨_,_,_,e,_⟩:=x;exact Heap.lt_size e
 |own y=>obtain⟨_,e⟩:=x;exact Heap.lt_size e
 |xd fs=>obtain⟨_,⟨_,_,_,e,_⟩,_⟩:=x;exact Heap.lt_size e
 |rng lo hi=>obtain⟨_,_,_,e⟩:=x;exact Heap.lt_size e
 |frz ob u=>obtain⟨e,_⟩:=x;exact Heap.lt_size e
 |tbl ps=>exact Heap.lt_size (show h.get? a=some _ from x)
 |met f y=>exact Heap.lt_size (show h.get? a=some _ from x)
 |ext φ=>obtain⟨_,⟨_,e⟩,_⟩:=x;exact Heap.lt_size e
theorem Paired.mapP{α β:Type}{F G:α->β->Prop}:∀{l₁:List α}{l₂:List β},Paired F l₁ l₂->(∀ a b,F a b->G a b)->Paired G l₁ l₂
 |_,_,.nil,_=>.nil
 |_,_,.cons r t,f=>.cons (f _ _ r) (Paired.mapP t f)
theorem bA.stay(x:bA P w H h a o)(k:∀ b u,(b=a∨H b=some (.own a))->h.get? b=some u->h'.get? b=some u)
  (ho:∀ b,H b=some (.own a)->H' b=some (.own a)) (ht:∀ b xs,H b=some (.tup xs)->H' b=some (.tup xs)):bA P w H' h' a o:=by
 induction o with
 |lst xs=>obtain⟨z,its,n,r,e⟩:=x;exact⟨z,its,n,r,k _ _ (.inl rfl) e⟩
 |tup xs=>obtain⟨z,its,r,ob,e,c⟩:=x;exact⟨z,its,r,ob,k _ _ (.inl rfl) e,c⟩
 |dK kvs=>obtain⟨z,y,vs,r,ob,es,ep,e,c⟩:=x;exact⟨z,y,vs,r,ob,es,ep,k _ _ (.inl rfl) e,c⟩
 |dT kvs =>
  obtain⟨z,y,xs,r,ob,es,ep,e,c⟩:=x
  exact⟨z,y,xs,Paired.mapP r fun p q z=>⟨z.1,ht _ _ z.2.1,z.2.2⟩,ob,es,ep,k _ _ (.inl rfl) e,c⟩
 |set S n=>obtain⟨ob,es,ep,t,e,c⟩:=x;exact⟨ob,es,ep,t,k _ _ (.inl rfl) e,c⟩
 |ins C dx fs =>
  obtain⟨d,z,ne,e,mA,⟨od,es,ep,e2,c⟩,r⟩:=x
  exact⟨ho _ d,z,ne,k _ _ (.inl rfl) e,mA,⟨od,es,ep,k _ _ (.inr d) e2,c⟩,r⟩
 |own y=>obtain⟨ob,e⟩:=x;exact⟨ob,k _ _ (.inl rfl) e⟩
 |xd fs=>obtain⟨mA,⟨od,es,ep,e,c⟩,r⟩:=x;exact⟨mA,⟨od,es,ep,k _ _ (.inl rfl) e,c⟩,r⟩
 |rng lo hi=>obtain⟨t,u,v,e⟩:=x;exact⟨t,u,v,k _ _ (.inl rfl) e⟩
 |frz ob u ih=>obtain⟨e,q⟩:=x;exact⟨k _ _ (.inl rfl) e,ih q⟩
 |tbl ps =>
  have e:h.get? a=some { cls:=.none,data:=.fields ps }:=x
  show h'.get? a=some { cls:=.none,data:=.fields ps }
  exact k a _ (.inl rfl) e
 |met f y =>
  have e:h.get? a=some (Nn (.ref f) (.ref y)):=x
  show h'.get? a=some (Nn (.ref f) (.ref y))
  exact k a _ (.inl rfl) e
 |ext φ=>obtain⟨p,⟨o,e⟩,st⟩:=x;exact⟨st _ _ p fun o q=>k _ _ (.inl rfl) q,⟨o,k _ _ (.inl rfl) e⟩,st⟩
theorem HOk.lt(x:HOk P w H h)(e:H a=some o):a<h.objs.size:=(x a o e).lt
theorem HOk.fresh(x:HOk P w H h)(e:h.objs.size<=a):H a=none:=by
 cases q:H a with
 |none=>rfl
 |some u=>exact absurd (Ky (x.lt q) e) (La _)
theorem HOk.kept(x:HOk P w H h)(k:∀ b u,h.get? b=some u->h'.get? b=some u):HOk P w H h':=fun a o e =>
 (x a o e).stay (fun b u _ q=>k b u q) (fun _ q=>q) fun _ _ q=>q
theorem HOk.laid(x:HOk P w H h)(k:∀ b u,h.get? b=some u->h'.get? b=some u)(hp:h.objs.size<=a)(new:bA P w (upd H a o) h' a o):HOk P w (upd H a o) h':=fun b u e=>by
 have hn:=x.fresh hp
 by_cases hb:b=a
 ·subst hb;rw[ae]at e;cases e;exact new
 ·rw[ak hb]at e
  exact(x b u e).stay (fun c v _ q=>k c v q) (fun c q=>by rw[ak (ar q hn)];exact q) fun c xs q=>by rw[ak (ar q hn)];exact q
end
def Rd(H:Hp)(a:Addr)(u:HO):Prop:=H a=some u∨∃ o,H a=some (.frz o u)
theorem Rd.ok{P:Program}{w:World}{H:Hp}{h:Heap}{a:Addr}{u:HO}(r:Rd H a u)(x:HOk P w H h):bA P w H h a u:=by
 rcases r with r | ⟨o,r⟩
 ·exact x a u r
 ·obtain⟨_,q⟩:=x a _ r
  exact q
def Mut:Option HO->Prop
 |some (.lst _)=>True
 |some (.dK _)=>True
 |some (.dT _)=>True
 |some (.set _ _)=>True
 |some (.ins _ _ _)=>True
 |some (.ext _)=>True
 |_=>False
section
variable{P:Program}{w:World}{H:Hp}{h h':Heap}{x e:Addr}{o':HO}
theorem HOk.write(ok:HOk P w H h)(mu:Mut (H x))(he:e=x∨H e=some (.own x))(k:∀ b u,b≠e->h.get? b=some u->h'.get? b=some u)(heo:∃ u,h'.get? e=some u)
  (new:bA P w (upd H x o') h' x o'):HOk P w (upd H x o') h':=fun b u q=>by
 have nown:∀ c y,H c=some (.own y)->c≠x:=fun c y r z=>by subst z;rw[r]at mu;exact mu
 have ntup:∀ c xs,H c=some (.tup xs)->c≠x:=fun c xs r z=>by subst z;rw[r]at mu;exact mu
 by_cases hb:b=x
 ·subst hb;rw[ae]at q;cases q;exact new
 ·rw[ak hb]at q
  by_cases hbe:b=e
  ·have q':H b=some (.own x):=by
    rcases he with z | z
    ·exact absurd (hbe.trans z) hb
    ·rw[hbe];exact z
   rw[q]at q';cases q'
   obtain⟨v,hv⟩:=heo
   exact⟨v,by rw[hbe];exact hv⟩
  ·refine(ok b u q).stay (fun c v hc r=>k c v ?_ r) (fun c r=>by rw[ak (nown c b r)];exact r) fun c xs r=>by rw[ak (ntup c xs r)];exact r
   rcases hc with rfl | hc
   ·exact hbe
   ·rintro rfl
    rcases he with z | z
    ·exact nown c b hc z
    ·rw[hc]at z;cases z;exact hb rfl
end
structure Un(fs ex:List Addr)(H H':Hp)(h h':Heap):Prop where
 keep:∀ b o,h.get? b=some o->H b=none->b∉fs->b∉ex->h'.get? b=some o
 slot:∀ b o,h.get? b=some o->H b=none->b∈fs->b∉ex->∃ sl,h'.get? b=some { o with slots:=sl }
 free:∀ b o,h.get? b=some o->H b=none->b∉ex->H' b=none
 there:∀ b o,h.get? b=some o->b∉ex->∃ o',h'.get? b=some o'
 tups:∀ b xs,H b=some (.tup xs)->H' b=some (.tup xs)
 frzs:∀ b o u,H b=some (.frz o u)->H' b=some (.frz o u)
 tbls:∀ b ps,H b=some (.tbl ps)->∃ more,H' b=some (.tbl (ps++more))
section
variable{fs fs' ex ex':List Addr}{H H1 H2:Hp}{h h1 h2 h':Heap}{a x e:Addr}{o:HO}
theorem Un.any(u:Un fs ex H H1 h h1){b:Addr}{ob:Obj}(q:h.get? b=some ob)(n:H b=none)(hx:b∉ex):∃ sl,h1.get? b=some { ob with slots:=sl }:=by
 by_cases hb:b∈fs
 ·exact u.slot b ob q n hb hx
 ·exact⟨ob.slots,u.keep b ob q n hb hx⟩
theorem Un.kept(k:∀ b u,h.get? b=some u->h'.get? b=some u):Un fs ex H H h h' :=
 ⟨fun b ob q _ _ _=>k b ob q,fun b ob q _ _ _=>⟨ob.slots,k b ob q⟩,fun _ _ _ n _=>n,fun b ob q _=>⟨ob,k b ob q⟩,fun _ _ q=>q,fun _ _ _ q=>q,fun _ ps q=>⟨#[],by rw[q];simp⟩⟩
theorem Un.refl:Un fs ex H H h h:=Un.kept fun _ _ q=>q
theorem Un.laid(k:∀ b u,h.get? b=some u->h'.get? b=some u)(hp:h.objs.size<=a)(hn:H a=none):Un fs ex H (upd H a o) h h' where
 keep:=fun b u q _ _ _=>k b u q
 slot:=fun b u q _ _ _=>⟨u.slots,k b u q⟩
 free:=fun b u q n _=>by rw[ak (Kp (Ky (Heap.lt_size q) hp))];exact n
 there:=fun b u q _=>⟨u,k b u q⟩
 tups:=fun b xs q=>by rw[ak (ar q hn)];exact q
 frzs:=fun b u xs q=>by rw[ak (ar q hn)];exact q
 tbls:=fun b ps q=>⟨#[],by rw[ak (ar q hn),q];simp⟩
theorem Un.write(mu:Mut (H x))(he:e=x∨H e=some (.own x))(k:∀ b u,b≠e->h.get? b=some u->h'.get? b=some u)(heo:∃ u,h'.get? e=some u):Un fs ex H (upd H x o) h h':=by
 have hx:∀ b,H b=none->b≠x:=fun b n z=>by subst z;rw[n]at mu;exact mu
 have hb:∀ b,H b=none->b≠e:=fun b n z=>by
  subst z
  rcases he with r | r
  ·exact hx b n r
  ·rw[n]at r;cases r
 have hm:∀ b u,H b=some u->¬ Mut (some u)->b≠x:=fun b u q nm z=>by subst z;rw[q]at mu;exact nm mu
 refine⟨fun b u q n _ _=>k b u (hb b n) q,fun b u q n _ _=>⟨u.slots,k b u (hb b n) q⟩,fun b u q n _=>by rw[ak (hx b n)];exact n,fun b u q _=>?_,
  fun b xs q=>by rw[ak (hm b _ q fun z=>z)];exact q,fun b u xs q=>by rw[ak (hm b _ q fun z=>z)];exact q,fun b ps q=>⟨#[],by rw[ak (hm b _ q fun z=>z),q];simp⟩⟩
 by_cases hbe:b=e
 ·subst hbe;exact heo
 ·exact⟨u,k b u hbe q⟩
end
def trk(h:Heap)(H:Hp):List Addr:=(KJ h.objs.size).filter fun a=>(H a).isSome
def hidT(h:Heap)(H:Hp):Heap:=PySem.W.hideAll h (trk h H)
theorem ET(h:Heap)(H:Hp):(hidT h H).objs.size=h.objs.size:=PySem.W.hideAll_size _ _
theorem GW{h:Heap}{H:Hp}{b:Addr}{o:Obj}(e:h.get? b=some o)(n:H b=none):(hidT h H).get? b=some o :=
 Nh _ e fun hm=>by
  have q:(H b).isSome=true:=(Mq.mp hm).2
  rw[n]at q;simp at q
theorem I9{h:Heap}{H:Hp}{b:Addr}{o:Obj}(e:(hidT h H).get? b=some o):h.get? b=some o/\H b=none:=by
 have e':h.get? b=some o:=PySem.W.of_hideAll (trk h H) e
 refine⟨e',?_⟩
 cases q:H b with
 |none=>rfl
 |some x =>
  have hm:b∈trk h H:=Mq.mpr ⟨KU.mpr (Heap.lt_size e'),by simp[q]⟩
  have z:(hidT h H).get? b=none:=PySem.W.hideAll_none (trk h H) hm
  rw[z]at e;cases e
end L2
namespace L2
open PySem PySem.Spec PyProof.Rows
structure Mod(K:JN)(mg:Str->Option Value)(base:Heap):Prop where
 kin:K.In base
 glob:base.Ns mainGlobals mg
 blt:∃ mb,base.Ns builtinsNs mb/\∀ x:Str,x≠"__name__"->mb x=bootBuiltins x
 nolimit:base.NoLimit
structure Cx where
 prog:Program
 w:World
 K:JN
 mg:Str->Option Value
 base:Heap
 A:Around
 N:List Str
 s₀:Shared
 H₀:Hp
 env:Env
 outer:List Env
 stack:List Env
 ex:List Addr
 fn:Str->Bool
 calm:Bool
 pn:List (Addr×Obj)
 xe:Value->Shared->Prop
def frs(l:List Env):List Addr:=l.filterMap (·.frame)
abbrev Cx.fs(X:Cx):List Addr:=frs X.outer
def Vis(sc:Scope)(x:Str):Prop:=sc.names.lookup x=some .local∨sc.names.lookup x=some .cell∨sc.names.lookup x=some .free
def Loc(sc:Scope)(x:Str):Prop:=sc.names.lookup x=some .local∨sc.names.lookup x=some .cell
def Look(env:Env)(h:Heap)(m:Str->Option Value)(x:Str)(u:Value):Prop :=
 (env.kindOf x=some .local/\m x=some u)∨((env.kindOf x=some .cell∨env.kindOf x=some .free)/\∃ c,env.cells.lookup x=some c/\h.IsCell c (some u))
structure Cx.Ok(X:Cx):Prop where
 mod:Mod X.K X.mg X.base
 kind:X.env.scope.kind=.function
 glob:X.env.globals=mainGlobals
 blt:X.env.builtins=builtinsNs
 above:X.s₀.heap.objs.size<=X.env.locals
 inj:∀ x y c,X.env.cells.lookup x=some c->X.env.cells.lookup y=some c->x=y
 has:∀ x,(X.env.kindOf x=some .cell∨X.env.kindOf x=some .free)->∃ c,X.env.cells.lookup x=some c
 cab:∀ x c,X.fn x=true->X.env.cells.lookup x=some c->X.s₀.heap.objs.size<=c
 hd:X.calm=true->X.A.handled=none
 frames:X.A.frames=some X.stack
 stk:X.stack=X.outer∨(X.stack=X.env::X.outer/\X.env.frame=some X.env.locals)
 exf:∀ b∈X.ex,b≠X.env.locals/\∀ x c,X.env.cells.lookup x=some c->c≠b
 bs:∀ b o,X.base.get? b=some o->X.s₀.heap.get? b=some o/\X.H₀ b=none
 bsz:X.base.objs.size<=X.s₀.heap.objs.size
 noex:∀ b o,X.base.get? b=some o->b∉X.ex
 exfs:∀ b∈X.ex,b∉X.fs
 funs:X.s₀.heap.FunFrames X.base X.outer
 frf:∀ b∈X.fs,X.H₀ b=none
structure Inv(X:Cx)(pins:List (Addr×Obj))(σ:List (Option V))(H:Hp)(s:Shared):Prop where
 ok:X.Ok
 os:s.os=X.s₀.os
 bare:AllBare s.gens
 base:Un X.fs X.ex X.H₀ H X.s₀.heap s.heap
 loc:∃ m,s.heap.Ns X.env.locals m/\∀(i:Nat)(x:Str)(v:V),X.N[i]?=some x->σ[i]?=some (some v)->Vis X.env.scope x->∃ u,RelV v u/\Look X.env s.heap m x u
 cell:∀ x c,X.env.cells.lookup x=some c->∃ v,s.heap.IsCell c v
 free:H X.env.locals=none
 freeC:∀ x c,X.env.cells.lookup x=some c->H c=none
 pin:∀ p∈X.pn++pins,s.heap.get? p.1=some p.2/\H p.1=none/\p.1≠X.env.locals/\p.1∉X.fs/\∀ v,p.2.data≠.cell v
 hok:HOk X.prog X.w H s.heap
 len:σ.length=X.N.length
section
variable{X:Cx}{pins:List (Addr×Obj)}{σ:List (Option V)}{H H':Hp}{s:Shared}{h':Heap}
theorem Cx.Ok.nofr(ok:X.Ok){b:Addr}{o:Obj}(e:X.base.get? b=some o):b∉X.fs:=fun hb=>by
 have:=(ok.funs.mem hb).1
 rw[e]at this;cases this
theorem Inv.bs(I:Inv X pins σ H s):∀ b o,X.base.get? b=some o->s.heap.get? b=some o/\H b=none:=fun b o e =>
 ⟨I.base.keep b o (I.ok.bs b o e).1 (I.ok.bs b o e).2 (I.ok.nofr e) (I.ok.noex b o e),I.base.free b o (I.ok.bs b o e).1 (I.ok.bs b o e).2 (I.ok.noex b o e)⟩
theorem Inv.bk(I:Inv X pins σ H s):∀ b o,X.base.get? b=some o->s.heap.get? b=some o:=fun b o e=>(I.bs b o e).1
theorem Inv.mod(I:Inv X pins σ H s):Mod X.K X.mg X.base:=I.ok.mod
theorem Inv.kIn(I:Inv X pins σ H s):X.K.In s.heap:=I.ok.mod.kin.keeps I.bk
theorem Inv.lt(I:Inv X pins σ H s):X.env.locals<s.heap.objs.size:=let ⟨_,hn,_⟩:=I.loc;hn.lt
theorem Inv.sz(I:Inv X pins σ H s):X.s₀.heap.objs.size<=s.heap.objs.size:=KR I.ok.above (K2 I.lt)
theorem Inv.nofs(I:Inv X pins σ H s){a:Addr}(h:s.heap.objs.size<=a):a∉X.fs:=fun hb=>by
 obtain⟨_,o,ho,_⟩:=I.ok.funs.mem hb
 exact absurd (Ky (Heap.lt_size ho) (KR I.sz h)) (La _)
theorem Inv.cne(I:Inv X pins σ H s):∀ x c,X.env.cells.lookup x=some c->c≠X.env.locals:=fun x c e z=>by
 obtain⟨v,o,ho,hd⟩:=I.cell x c e
 obtain⟨m,⟨o',es,ep,ho',hd',_⟩,_⟩:=I.loc
 rw[z,ho']at ho;cases ho;rw[hd']at hd;cases hd
theorem Inv.funs(I:Inv X pins σ H s):s.heap.FunFrames X.base X.outer:=by
 have all:∀(l:List Env),(∀ b∈frs l,b∈X.fs)->X.s₀.heap.FunFrames X.base l->s.heap.FunFrames X.base l:=by
  intro l
  induction l with
  |nil=>intro _ _;trivial
  |cons env r ih =>
   intro hs hl
   obtain⟨hk,⟨L,o,hf,hn,ho,hd⟩,hr⟩:=hl
   have hL:L∈X.fs:=hs L (by unfold frs;rw[Nj,hf];exact Kh)
   obtain⟨sl,e⟩:=I.base.slot L o ho (I.ok.frf L hL) hL fun z=>I.ok.exfs L z hL
   exact⟨hk,⟨L,_,hf,hn,e,hd⟩,ih (fun b hb=>hs b (by unfold frs;rw[Nj,hf];exact J1 _ hb)) hr⟩
 exact all X.outer (fun _ hb=>hb) I.ok.funs
theorem Inv.stack(I:Inv X pins σ H s):s.heap.FunFrames X.base X.stack:=by
 rcases I.ok.stk with e | ⟨e,hf⟩
 ·rw[e];exact I.funs
 ·rw[e]
  obtain⟨m,hn,_⟩:=I.loc
  refine .cons (by rw[I.ok.kind];decide) hf hn ?_ I.funs
  exact Heap.get?_none_of_le (KR I.ok.bsz I.ok.above)
theorem Inv.stkSub(I:Inv X pins σ H s):∀ b∈frs X.stack,b∈X.env.locals::X.fs:=fun b hb=>by
 rcases I.ok.stk with e | ⟨e,hf⟩
 ·rw[e]at hb;exact J1 _ hb
 ·rw[e]at hb
  unfold frs at hb
  rw[Nj,hf]at hb
  exact hb
theorem Inv.stkFree(I:Inv X pins σ H s):∀ b∈frs X.stack,H b=none:=fun b hb=>by
 rcases JT.mp (I.stkSub b hb)with e | hb
 ·rw[e];exact I.free
 ·obtain⟨_,o,ho,_⟩:=I.ok.funs.mem hb
  exact I.base.free b o ho (I.ok.frf b hb) fun z=>I.ok.exfs b z hb
theorem Inv.step{g':Array GenState}{t':Nat}{d':Drawn}{ch:List Addr}(I:Inv X pins σ H s)
  (hch:∀ b∈ch,(b∈X.ex∨X.s₀.heap.objs.size<=b)/\b≠X.env.locals/\(∀ x c,X.env.cells.lookup x=some c->c≠b)/\∀ p∈X.pn++pins,p.1≠b)
  (keep:∀ b o,b≠X.env.locals->b∉X.fs->b∉ch->s.heap.get? b=some o->H b=none->h'.get? b=some o)
  (slot:∀ b o,b≠X.env.locals->b∈X.fs->b∉ch->s.heap.get? b=some o->H b=none->∃ sl,h'.get? b=some { o with slots:=sl }) (free:∀ b o,b∉ch->s.heap.get? b=some o->H b=none->H' b=none)
  (there:∀ b o,b∉ch->s.heap.get? b=some o->∃ o',h'.get? b=some o')
  (tups:∀ b xs,H b=some (.tup xs)->H' b=some (.tup xs)) (frzs:∀ b o u,H b=some (.frz o u)->H' b=some (.frz o u)) (tbls:∀ b ps,H b=some (.tbl ps)->∃ more,H' b=some (.tbl (ps++more)))
  (ns:∀ m,s.heap.Ns X.env.locals m->h'.Ns X.env.locals m) (hok:HOk X.prog X.w H' h') (hg:AllBare g') :
  Inv X pins σ H' { s with heap:=h',gens:=g',drawn:=d',toks:=t' }:=by
 have neL:∀ b o,X.s₀.heap.get? b=some o->b≠X.env.locals:=fun b o e=>Kp (Ky (Heap.lt_size e) I.ok.above)
 have neC:∀ b o,X.s₀.heap.get? b=some o->b∉X.ex->b∉ch:=fun b o e hx hb=>by
  rcases(hch b hb).1 with z | z
  ·exact hx z
  ·exact absurd (Ky (Heap.lt_size e) z) (La _)
 have cellK:∀ x c,X.env.cells.lookup x=some c->∀ v,s.heap.IsCell c v->h'.IsCell c v:=fun x c e v ⟨o,ho,hd⟩=>by
  have nch:c∉ch:=fun z=>(hch c z).2.2.1 x c e rfl
  by_cases hc:c∈X.fs
  ·obtain⟨sl,q⟩:=slot c o (I.cne x c e) hc nch ho (I.freeC x c e)
   exact⟨_,q,hd⟩
  ·exact⟨o,keep c o (I.cne x c e) hc nch ho (I.freeC x c e),hd⟩
 refine⟨I.ok,I.os,hg,⟨fun b o e n hb hx=>?_,fun b o e n hb hx=>?_,fun b o e n hx=>?_,fun b o e hx=>?_,fun b xs e=>tups b xs (I.base.tups b xs e),fun b o xs e=>frzs b o xs (I.base.frzs b o xs e),fun b ps e=>?_⟩,?_,fun x c e=>?_,?_,fun x c e=>?_,fun p hp=>?_,hok,I.len⟩
 ·exact keep b o (neL b o e) hb (neC b o e hx) (I.base.keep b o e n hb hx) (I.base.free b o e n hx)
 ·obtain⟨sl,e1⟩:=I.base.slot b o e n hb hx
  obtain⟨sl',e2⟩:=slot b _ (neL b o e) hb (neC b o e hx) e1 (I.base.free b o e n hx)
  exact⟨sl',e2⟩
 ·obtain⟨o',e1⟩:=I.base.there b o e hx
  exact free b o' (neC b o e hx) e1 (I.base.free b o e n hx)
 ·obtain⟨o',e1⟩:=I.base.there b o e hx
  exact there b o' (neC b o e hx) e1
 ·obtain⟨m1,e1⟩:=I.base.tbls b ps e
  obtain⟨m2,e2⟩:=tbls b _ e1
  exact⟨m1++m2,by rw[e2,Array.append_assoc]⟩
 ·obtain⟨m,hn,hl⟩:=I.loc
  refine⟨m,ns m hn,fun i x v e1 e2 e3=>?_⟩
  obtain⟨u,r,l⟩:=hl i x v e1 e2 e3
  refine⟨u,r,?_⟩
  rcases l with l | ⟨k,c,e,z⟩
  ·exact .inl l
  ·exact .inr ⟨k,c,e,cellK x c e _ z⟩
 ·obtain⟨v,z⟩:=I.cell x c e
  exact⟨v,cellK x c e v z⟩
 ·obtain⟨m,⟨o,_,_,ho,_⟩,_⟩:=I.loc
  exact free _ o (fun z=>(hch _ z).2.1 rfl) ho I.free
 ·obtain⟨v,o,ho,hd⟩:=I.cell x c e
  exact free c o (fun z=>(hch c z).2.2.1 x c e rfl) ho (I.freeC x c e)
 ·obtain⟨e,n,ne,nf,d⟩:=I.pin p hp
  have nch:p.1∉ch:=fun z=>(hch p.1 z).2.2.2 p hp rfl
  exact⟨keep p.1 p.2 ne nf nch e n,free p.1 p.2 nch e n,ne,nf,d⟩
theorem Inv.un{t':Nat}(I:Inv X pins σ H s)(u:Un X.fs [] H H' s.heap h')(hok:HOk X.prog X.w H' h'):Inv X pins σ H' { s with heap:=h',toks:=t' }:=by
 obtain⟨m,⟨o,es,ep,ho,r⟩,_⟩:=id I.loc
 obtain⟨sl,hL⟩:=u.any ho I.free (by simp)
 exact I.step (g':=s.gens) (d':=s.drawn) (ch:=[]) (fun _ z=>nomatch z) (fun b o _ hb _ e n=>u.keep b o e n hb (by simp)) (fun b o _ hb _ e n=>u.slot b o e n hb (by simp)) (fun b o _ e n=>u.free b o e n (by simp)) (fun b o _ e=>u.there b o e (by simp)) u.tups u.frzs u.tbls (fun m' hm=>by
  obtain⟨o',es',ep',ho',r'⟩:=hm
  rw[ho]at ho';cases ho'
  exact⟨_,es',ep',hL,r'⟩) hok I.bare
theorem Inv.call{g':Array GenState}{t':Nat}{d':Drawn}{ch:List Addr}(I:Inv X pins σ H s)(u:Un (frs X.stack) ch H H' s.heap h')(hok:HOk X.prog X.w H' h')(hg:AllBare g')
  (hch:∀ b∈ch,(b∈X.ex∨X.s₀.heap.objs.size<=b)/\b≠X.env.locals/\(∀ x c,X.env.cells.lookup x=some c->c≠b)/\∀ p∈X.pn++pins,p.1≠b) :
  Inv X pins σ H' { s with heap:=h',gens:=g',drawn:=d',toks:=t' }:=by
 obtain⟨m,⟨o,es,ep,ho,r⟩,_⟩:=id I.loc
 obtain⟨sl,hL⟩:=u.any ho I.free fun z=>(hch _ z).2.1 rfl
 exact I.step (ch:=ch) hch (fun b o hL hb hc e n=>u.keep b o e n (fun z=>(JT.mp (I.stkSub b z)).elim hL hb) hc) (fun b o _ _ hc e n=>u.any e n hc) (fun b o hc e n=>u.free b o e n hc) (fun b o hc e=>u.there b o e hc) u.tups u.frzs u.tbls (fun m' hm=>by
  obtain⟨o',es',ep',ho',r'⟩:=hm
  rw[ho]at ho';cases ho'
  exact⟨_,es',ep',hL,r'⟩) hok hg
theorem Inv.turned{t':Nat}{it:Addr}(I:Inv X pins σ H s)(k:∀ b o,b≠it->s.heap.get? b=some o->h'.get? b=some o)(hn:H it=none)(hL:it≠X.env.locals)
  (h1:it∈X.ex∨X.s₀.heap.objs.size<=it) (h2:∀ x c,X.env.cells.lookup x=some c->c≠it) (h3:∀ p∈X.pn++pins,p.1≠it):Inv X pins σ H { s with heap:=h',toks:=t' }:=by
 have nit:∀ b u,H b=some u->b≠it:=fun b u e z=>by rw[z,hn]at e;cases e
 refine I.step (g':=s.gens) (d':=s.drawn) (ch:=[it]) (fun b hb=>?_) (fun b o _ _ hc e _=>k b o (fun z=>hc (by simp[z])) e) (fun b o _ _ hc e _=>⟨o.slots,k b o (fun z=>hc (by simp[z])) e⟩) (fun _ _ _ _ n=>n)
  (fun b o hc e=>⟨o,k b o (fun z=>hc (by simp[z])) e⟩) (fun _ _ e=>e) (fun _ _ _ e=>e) (fun b ps e=>⟨#[],by rw[e];simp⟩) (fun m hm=>?_) (fun b u e=>?_) I.bare
 ·have e:b=it:=by simpa using hb
  subst e
  exact⟨h1,hL,h2,h3⟩
 ·obtain⟨o,es,ep,ho,r⟩:=hm
  exact⟨o,es,ep,k _ o (Ne.symm hL) ho,r⟩
 ·refine(I.hok b u e).stay (fun c v hc q=>k c v ?_ q) (fun _ q=>q) fun _ _ q=>q
  rcases hc with z | z
  ·rw[z];exact nit b u e
  ·exact nit c _ z
theorem Inv.tok(I:Inv X pins σ H s)(t:Nat):Inv X pins σ H { s with toks:=t }:=I.un (h':=s.heap) (t':=t) Un.refl I.hok
theorem Inv.kept{t':Nat}(I:Inv X pins σ H s)(k:∀ b u,s.heap.get? b=some u->h'.get? b=some u):Inv X pins σ H { s with heap:=h',toks:=t' }:=I.un (Un.kept k) (I.hok.kept k)
theorem Inv.laid{a:Addr}{o:HO}{t':Nat}(I:Inv X pins σ H s)(k:∀ b u,s.heap.get? b=some u->h'.get? b=some u)(hp:s.heap.objs.size<=a)(new:bA X.prog X.w (upd H a o) h' a o) :
  Inv X pins σ (upd H a o) { s with heap:=h',toks:=t' }:=I.un (Un.laid k hp (I.hok.fresh hp)) (I.hok.laid k hp new)
theorem Inv.write{x e:Addr}{o:HO}{t':Nat}(I:Inv X pins σ H s)(mu:Mut (H x))(he:e=x∨H e=some (.own x))(k:∀ b u,b≠e->s.heap.get? b=some u->h'.get? b=some u)(heo:∃ u,h'.get? e=some u)
  (new:bA X.prog X.w (upd H x o) h' x o):Inv X pins σ (upd H x o) { s with heap:=h',toks:=t' }:=I.un (Un.write mu he k heo) (I.hok.write mu he k heo new)
theorem Inv.weak{σ':List (Option V)}(I:Inv X pins σ H s)(hl:σ'.length=σ.length)(w:∀ (i:Nat) v,σ'[i]?=some (some v)->σ[i]?=some (some v)):Inv X pins σ' H s :=
 ⟨I.ok,I.os,I.bare,I.base,let ⟨m,hn,hl'⟩:=I.loc;⟨m,hn,fun i x v e1 e2 e3=>hl' i x v e1 (w i v e2) e3⟩,I.cell,I.free,I.freeC,I.pin,I.hok,hl.trans I.len⟩
theorem Inv.pins_of{pins':List (Addr×Obj)}(I:Inv X pins σ H s)(h:∀ p∈pins',s.heap.get? p.1=some p.2/\H p.1=none/\p.1≠X.env.locals/\p.1∉X.fs/\∀ v,p.2.data≠.cell v):Inv X pins' σ H s :=
 ⟨I.ok,I.os,I.bare,I.base,I.loc,I.cell,I.free,I.freeC,fun p hp=>(JV.mp hp).elim (fun z=>I.pin p (Kv _ z)) (h p),I.hok,I.len⟩
theorem A9{N:List Str}(hN:N.Nodup){i j:Nat}{x:Str}(a:N[i]?=some x)(b:N[j]?=some x):i=j:=by
 obtain⟨h1,e1⟩:=JK.mp a
 obtain⟨h2,e2⟩:=JK.mp b
 exact(List.getElem_inj hN).mp (e1.trans e2.symm)
theorem Dp{M:Model}{A:Around}{E:Value->Shared->Prop}{i:Nat}{x:Str}{v:V}{u:Value}{Q:Unit->Shared->Prop}(I:Inv X pins σ H s)(hN:X.N.Nodup)(hi:X.N[i]?=some x)(hx:Loc X.env.scope x)(r:RelV v u)
  (h:∀ s',Inv X pins (σ.set i (some v)) H s'->(∃ a,Heap.SameBut a s.heap s'.heap/\(a=X.env.locals∨X.env.cells.lookup x=some a))->Q () s') (hf:X.fn x=true∨X.env.scope.names.lookup x=some .local:=by first | exact .inl rfl | exact .inr rfl | assumption):wpAny M A (storeName X.env x u) Q E s:=by
 obtain⟨m,hn,hl⟩:=id I.loc
 have hcls:(X.env.scope.kind == .class||(X.env.scope.kind == .module&&X.env.locals != X.env.globals))=false:=by rw[I.ok.kind];rfl
 have hiσ:i<σ.length:=by rw[I.len];exact(JK.mp hi).1
 have cne:=I.cne
 have tracked:∀{a:Addr}{h':Heap},(∃ o,s.heap.get? a=some o/\H a=none)->Heap.SameBut a s.heap h'->HOk X.prog X.w H h':=fun{a h'} ha hs b ob e=>by
  obtain⟨_,_,hfree⟩:=ha
  refine(I.hok b ob e).stay (fun c w' hc q=>(hs.2 c ?_).trans q) (fun _ q=>q) fun _ _ q=>q
  rintro rfl
  rcases hc with rfl | hc
  ·rw[hfree]at e;cases e
  ·rw[hfree]at hc;cases hc
 rcases hx with hk | hk
 ·refine wpAny_storeName_local hk hn (fun h' hn' hs=>?_) hcls
  obtain⟨oL,_,_,hoL,_⟩:=id hn
  refine h _ ⟨I.ok,I.os,I.bare,⟨fun b o e n hb hx=>?_,fun b o e n hb hx=>?_,I.base.free,fun b o e hx=>?_,I.base.tups,I.base.frzs,I.base.tbls⟩,⟨_,hn',fun j y v' e1 e2 e3=>?_⟩,fun y c e=>?_,I.free,I.freeC,fun p hp=>?_,tracked ⟨oL,hoL,I.free⟩ hs,by simpa using I.len⟩ ⟨_,hs,.inl rfl⟩
  ·exact(hs.2 b (Kp (Ky (Heap.lt_size e) I.ok.above))).trans (I.base.keep b o e n hb hx)
  ·obtain⟨sl,e1⟩:=I.base.slot b o e n hb hx
   exact⟨sl,(hs.2 b (Kp (Ky (Heap.lt_size e) I.ok.above))).trans e1⟩
  ·obtain⟨o',e1⟩:=I.base.there b o e hx
   exact⟨o',(hs.2 b (Kp (Ky (Heap.lt_size e) I.ok.above))).trans e1⟩
  ·by_cases hj:j=i
   ·subst hj
    rw[hi]at e1;cases e1
    rw[M5 hiσ]at e2
    cases e2
    exact⟨u,r,.inl ⟨hk,by simp⟩⟩
   ·rw[List.getElem?_set_ne (Ne.symm hj)]at e2
    obtain⟨u',r',q⟩:=hl j y v' e1 e2 e3
    refine⟨u',r',?_⟩
    rcases q with⟨k,e⟩ | ⟨k,c,e,z⟩
    ·refine .inl ⟨k,?_⟩
     have:y≠x:=fun e=>hj (A9 hN e1 (e▸hi))
     simp[this,e]
    ·exact .inr ⟨k,c,e,z.sameBut hs (cne y c e)⟩
  ·obtain⟨w',z⟩:=I.cell y c e
   exact⟨w',z.sameBut hs (cne y c e)⟩
  ·obtain⟨e,n,ne,nf,d⟩:=I.pin p hp
   exact⟨(hs.2 p.1 ne).trans e,n,ne,nf,d⟩
 ·have hfn:X.fn x=true:=by
   rcases hf with z | z
   ·exact z
   ·rw[z]at hk;cases hk
  obtain⟨c,hc⟩:=I.ok.has x (.inl hk)
  obtain⟨w',z⟩:=I.cell x c hc
  refine wpAny_storeName_cell I.ok.kind hk hc z (fun h' hc' hs=>?_)
  obtain⟨oc,hoc,hocd⟩:=id z
  refine h { s with heap:=h' } ⟨I.ok,I.os,I.bare,⟨fun b o e n hb hx=>?_,fun b o e n hb hx=>?_,I.base.free,fun b o e hx=>?_,I.base.tups,I.base.frzs,I.base.tbls⟩,⟨m,hn.sameBut hs (Ne.symm (cne x c hc)),fun j y v' e1 e2 e3=>?_⟩,fun y c' e=>?_,I.free,I.freeC,fun p hp=>?_,tracked ⟨oc,hoc,I.freeC x c hc⟩ hs,by simpa using I.len⟩ ⟨c,hs,.inr hc⟩
  ·exact(hs.2 b (Kp (Ky (Heap.lt_size e) (I.ok.cab x c hfn hc)))).trans (I.base.keep b o e n hb hx)
  ·obtain⟨sl,e1⟩:=I.base.slot b o e n hb hx
   exact⟨sl,(hs.2 b (Kp (Ky (Heap.lt_size e) (I.ok.cab x c hfn hc)))).trans e1⟩
  ·obtain⟨o',e1⟩:=I.base.there b o e hx
   exact⟨o',(hs.2 b (Kp (Ky (Heap.lt_size e) (I.ok.cab x c hfn hc)))).trans e1⟩
  ·by_cases hj:j=i
   ·subst hj
    rw[hi]at e1;cases e1
    rw[M5 hiσ]at e2
    cases e2
    exact⟨u,r,.inr ⟨.inl hk,c,hc,hc'⟩⟩
   ·rw[List.getElem?_set_ne (Ne.symm hj)]at e2
    obtain⟨u',r',q⟩:=hl j y v' e1 e2 e3
    refine⟨u',r',?_⟩
    rcases q with q | ⟨k,c',e,z'⟩
    ·exact .inl q
    ·refine .inr ⟨k,c',e,z'.sameBut hs ?_⟩
     rintro rfl
     exact hj (A9 hN e1 (I.ok.inj _ _ _ e hc▸hi))
  ·by_cases hcc:c'=c
   ·subst hcc;exact⟨_,hc'⟩
   ·obtain⟨w2,z2⟩:=I.cell y c' e
    exact⟨w2,z2.sameBut hs hcc⟩
  ·obtain⟨e,n,ne,nf,d⟩:=I.pin p hp
   refine⟨(hs.2 p.1 ?_).trans e,n,ne,nf,d⟩
   intro q
   rw[q,hoc]at e
   have q':oc=p.2:=JZ e
   exact d w' (by rw[← q'];exact hocd)
theorem rJ{M:Model}{A:Around}{E:Value->Shared->Prop}{i:Nat}{x:Str}{v:V}{u:Value}{Q:Unit->Shared->Prop}(I:Inv X pins σ H s)(hN:X.N.Nodup)(hi:X.N[i]?=some x)(hx:Loc X.env.scope x)(r:RelV v u)
  (h:∀ s',Inv X pins (σ.set i (some v)) H s'->Q () s') (hf:X.fn x=true∨X.env.scope.names.lookup x=some .local:=by first | exact .inl rfl | exact .inr rfl | assumption):wpAny M A (storeName X.env x u) Q E s :=
 Dp I hN hi hx r (fun s' I' _=>h s' I') hf
theorem Inv.call'{s':Shared}{ch:List Addr}(I:Inv X pins σ H s)(ho:s'.os=s.os)(u:Un (frs X.stack) ch H H' s.heap s'.heap)(hok:HOk X.prog X.w H' s'.heap)(hg:AllBare s'.gens)
  (hch:∀ b∈ch,(b∈X.ex∨X.s₀.heap.objs.size<=b)/\b≠X.env.locals/\(∀ x c,X.env.cells.lookup x=some c->c≠b)/\∀ p∈X.pn++pins,p.1≠b):Inv X pins σ H' s':=by
 obtain⟨h',g',d',t',o'⟩:=s'
 have e:o'=s.os:=ho
 subst e
 exact I.call (g':=g') (t':=t') (d':=d') u hok hg hch
end
abbrev XK:=Value->Option Addr->Hp->Prop
abbrev St:=List (Option V)
abbrev VK:=V->Hp->Prop
abbrev TE:=St->Hp->VK->Prop
abbrev TT:=St->Hp->(Bool->Hp->Prop)->Prop
abbrev TA:=St->Hp->(List V->Hp->Prop)->Prop
structure Ends where
 nx:St->Hp->Prop
 rt:VK
 bk:St->Hp->Prop:=fun _ _=>False
 ct:St->Hp->Prop:=fun _ _=>False
abbrev TS:=Ends->St->Hp->Prop
def EP(X:Cx)(pins:List (Addr×Obj))(σ:St)(Q:VK)(u:Value)(s':Shared):Prop:=∃ v H',Inv X pins σ H' s'/\RelV v u/\Q v H'
def TP(X:Cx)(pins:List (Addr×Obj))(σ:St)(Q:Bool->Hp->Prop)(b:Bool)(s':Shared):Prop:=∃ H',Inv X pins σ H' s'/\Q b H'
def AP(X:Cx)(pins:List (Addr×Obj))(σ:St)(Q:List V->Hp->Prop)(us:List Value)(s':Shared):Prop:=∃ vs H',Inv X pins σ H' s'/\Vals vs us/\Q vs H'
def SP(X:Cx)(pins:List (Addr×Obj))(D:Ends)(f:Flow)(s':Shared):Prop :=
 match f with
 |.next=>∃ σ' H',Inv X pins σ' H' s'/\D.nx σ' H'
 |.brk=>∃ σ' H',Inv X pins σ' H' s'/\D.bk σ' H'
 |.cont=>∃ σ' H',Inv X pins σ' H' s'/\D.ct σ' H'
 |.ret u=>∃ v σ' H',Inv X pins σ' H' s'/\RelV v u/\D.rt v H'
def PE(X:Cx)(e:Expr)(t:TE):Prop :=
 ∀(pins:List (Addr×Obj))(s:Shared)(σ:St)(H:Hp)(Q:VK),Inv X pins σ H s->t σ H Q->wpAny (model X.prog X.w) X.A (eval e X.env) (EP X pins σ Q) X.xe s
def PT(X:Cx)(e:Expr)(t:TT):Prop :=
 ∀(pins:List (Addr×Obj))(s:Shared)(σ:St)(H:Hp)(Q:Bool->Hp->Prop),Inv X pins σ H s->t σ H Q->wpAny (model X.prog X.w) X.A (isTrue e X.env (eval e X.env)) (TP X pins σ Q) X.xe s
def PW(X:Cx)(e:Expr)(t:TT):Prop :=
 ∀(whole:Sem Value)(pins:List (Addr×Obj))(s:Shared)(σ:St)(H:Hp)(Q:Bool->Hp->Prop),Inv X pins σ H s->t σ H Q->wpAny (model X.prog X.w) X.A (isTrue e X.env whole) (TP X pins σ Q) X.xe s
theorem PW.pt{X:Cx}{e:Expr}{t:TT}(h:PW X e t):PT X e t:=h _
def PA(X:Cx)(es:List Expr)(t:TA):Prop :=
 ∀(pos:Pos)(pins:List (Addr×Obj))(s:Shared)(σ:St)(H:Hp)(Q:List V->Hp->Prop),Inv X pins σ H s->t σ H Q->wpAny (model X.prog X.w) X.A (spliced (backTo pos (starEach es X.env))) (AP X pins σ Q) X.xe s
def PS(X:Cx)(st:Stmt)(t:TS):Prop :=
 ∀(pins:List (Addr×Obj))(s:Shared)(σ:St)(H:Hp)(D:Ends),Inv X pins σ H s->t D σ H->wpAny (model X.prog X.w) X.A (exec st X.env) (SP X pins D) X.xe s
def PSs(X:Cx)(st:List Stmt)(t:TS):Prop :=
 ∀(pins:List (Addr×Obj))(s:Shared)(σ:St)(H:Hp)(D:Ends),Inv X pins σ H s->t D σ H->wpAny (model X.prog X.w) X.A (execs st X.env) (SP X pins D) X.xe s
theorem thn{α:Type}{t:Sem α}{Q Q':α->Shared->Prop}{M:Model}{A:Around}{E:Value->Shared->Prop}{s:Shared}(h:wpAny M A t Q E s)(hQ:∀ a s,Q a s->Q' a s):wpAny M A t Q' E s:=wpAny_mono h hQ fun _ _ x=>x
end L2
namespace L2
open PySem PySem.Spec PyProof.Rows
section
variable{X:Cx}
def tVar(i:Nat):TE:=fun σ H Q=>∃ v,σ[i]?=some (some v)/\Q v H
def tC(v:V):TE:=fun _ H Q=>Q v H
theorem pe_var{i:Nat}{x:Str}{pos:Pos}(hN:X.N[i]?=some x)(hv:Vis X.env.scope x) (hd:(x == ("__debug__" : Str))=false:=by decide) (hcd:(x == ("__classdict__" : Str))=false:=by decide):PE X (.Name x pos) (tVar i):=by
 intro pins s σ H Q I h
 obtain⟨v,e,h⟩:=h
 obtain⟨m,hn,hl⟩:=I.loc
 obtain⟨u,r,l⟩:=hl i x v hN e hv
 have fin:EP X pins σ Q u s:=⟨v,H,I,r,h⟩
 rcases l with⟨hk,hm⟩ | ⟨hk,c,hc,hcell⟩
 ·exact wpAny_Name (wpAny_loadName_local I.ok.kind hk hn hm fin) hd
 ·rcases hk with hk | hk
  ·exact wpAny_Name (wpAny_loadName_cell I.ok.kind hk hc hcell fin) hd
  ·exact wpAny_Name (wpAny_loadName_free I.ok.kind hk hc hcell fin hcd) hd
theorem ah{i j pos}:PE X (.Constant (.int i) j pos) (tC (.int i)):=fun _ _ _ H _ I h=>wpAny_Constant_int ⟨.int i,H,I.tok _,⟨_,rfl⟩,h⟩
theorem DT{b j pos}:PE X (.Constant (.bool b) j pos) (tC (.bl b)):=fun _ _ _ H _ I h=>Constant_bool ⟨.bl b,H,I,rfl,h⟩
theorem Hr{j pos}:PE X (.Constant .none j pos) (tC .non):=fun _ _ _ H _ I h=>Constant_none ⟨.non,H,I,rfl,h⟩
theorem Ho{x j pos}:PE X (.Constant (.str x) j pos) (tC (.str x)):=fun _ _ _ H _ I h=>Calls.Constant_str ⟨.str x,H,I.tok _,⟨_,rfl⟩,h⟩
def Gl(X:Cx)(x:Str):Prop:=X.env.kindOf x=some .globalImplicit
theorem oS{E:Value->Shared->Prop}{pins:List (Addr×Obj)}{s:Shared}{σ:St}{H:Hp}{x:Str}{u:Value}{pos:Pos}{Q:Value->Shared->Prop}(I:Inv X pins σ H s)(hg:Gl X x)(hm:X.mg x=some u)(h:Q u s)
  (hd:(x == ("__debug__" : Str))=false:=by decide):wpAny (model X.prog X.w) X.A (eval (.Name x pos) X.env) Q E s :=
 Calls.Name_function_global I.ok.kind hg (Calls.loadGlobal_global (by rw[I.ok.glob];exact I.mod.glob.keeps I.bk) hm h) hd
theorem kx{E:Value->Shared->Prop}{pins:List (Addr×Obj)}{s:Shared}{σ:St}{H:Hp}{x:Str}{u:Value}{pos:Pos}{Q:Value->Shared->Prop}(I:Inv X pins σ H s)(hg:Gl X x)(hm:X.mg x=none)(hv:bootBuiltins x=some u)(h:Q u s)
  (hn:x≠"__name__":=by decide) (hd:(x == ("__debug__" : Str))=false:=by decide):wpAny (model X.prog X.w) X.A (eval (.Name x pos) X.env) Q E s:=by
 obtain⟨mb,h1,h2⟩:=I.mod.blt
 exact Calls.Name_function_global I.ok.kind hg (Calls.loadGlobal_builtin (by rw[I.ok.glob];exact I.mod.glob.keeps I.bk) hm (by rw[I.ok.blt];exact h1.keeps I.bk) ((h2 x hn).trans hv) h) hd
theorem IS{x:Str}{v:V}{u:Value}{pos:Pos}(hg:Gl X x)(hm:X.mg x=some u)(r:RelV v u) (hd:(x == ("__debug__" : Str))=false:=by decide):PE X (.Name x pos) (tC v) :=
 fun _ _ _ H _ I h=>oS I hg hm ⟨v,H,I,r,h⟩ hd
theorem sP{x:Str}{v:V}{u:Value}{pos:Pos}(hg:Gl X x)(hm:X.mg x=none)(hv:bootBuiltins x=some u)(r:RelV v u) (hn:x≠"__name__":=by decide) (hd:(x == ("__debug__" : Str))=false:=by decide):PE X (.Name x pos) (tC v) :=
 fun _ _ _ H _ I h=>kx I hg hm hv ⟨v,H,I,r,h⟩ hn hd
variable{a b:Expr}{ta tb:TE}{pos:Pos}
def PC(X:Cx)(op:CmpOp)(a b:Expr)(t:TE):Prop :=
 ∀(pins:List (Addr×Obj))(s:Shared)(σ:St)(H:Hp)(Q:VK),Inv X pins σ H s->t σ H Q ->
  wpAny (model X.prog X.w) X.A (eval a X.env) (fun v s₁=>wpAny (model X.prog X.w) X.A (eval b X.env) (fun u s₂=>wpAny (model X.prog X.w) X.A (compareOp op v u) (EP X pins σ Q) X.xe s₂) X.xe s₁) X.xe s
def tB(t:TE):TT:=fun σ H Q=>t σ H fun x H1=>∃ c,x=.bl c/\Q c H1
theorem Hk{op:CmpOp}{t:TE}(h:PC X op a b t)(h1:behindInMarks op b=false:=by first | exact nobehind _ (by decide) (by decide) | rfl):PT X (.Compare a [op] [b] pos) (tB t):=by
 intro pins s σ H Q I hw
 refine wpAny_isTrue_Compare1 (thn (h pins s σ H _ I hw) fun v s1 h1=>thn h1 fun u s2 h2=>thn h2 fun c s3 ⟨x,H1,I1,r1,q1⟩=>?_) h1
 obtain⟨d,rfl,q⟩:=q1
 cases r1
 exact wpAny_truthy_bool ⟨H1,I1,q⟩
theorem AZ{e:Expr}{t:TE}(h:PE X e t)(he:∀ whole,isTrue e X.env whole=(do let v ← whole;standAt e.pos;holding [v] (truthy v)):=by intro _;rfl):PT X e (tB t):=by
 intro pins s σ H Q I hw
 refine isTrue_plain (thn (h pins s σ H _ I hw) fun v s1 ⟨x,H1,I1,r1,q1⟩=>?_) (he _)
 obtain⟨d,rfl,q⟩:=q1
 cases r1
 exact wpAny_truthy_bool ⟨H1,I1,q⟩
variable{tA tB':TT}{rest:List Expr}
def tOr(t u:TT):TT:=fun σ H Q=>t σ H fun c H1=>if c=true then Q true H1 else u σ H1 Q
def tNot(t:TT):TT:=fun σ H Q=>t σ H fun c H1=>Q (!c) H1
theorem qN(ha:PT X a tA):PW X (.BoolOp .Or [a] pos) tA:=by
 intro wh pins s σ H Q I h
 refine isTrue_or (thn (ha pins s σ H Q I h) fun c s1 e=>?_)
 cases c with
 |false=>exact isTrue_or_nil e
 |true=>exact e
theorem so(ha:PT X a tA)(hb:PW X (.BoolOp .Or (b::rest) pos) tB'):PW X (.BoolOp .Or (a::b::rest) pos) (tOr tA tB'):=by
 intro wh pins s σ H Q I h
 refine isTrue_or (thn (ha pins s σ H _ I h) fun c s1 ⟨H1,I1,q1⟩=>?_)
 cases c with
 |true=>exact⟨H1,I1,q1⟩
 |false=>exact hb wh pins s1 σ H1 Q I1 q1
theorem DH(ha:PT X a tA):PT X (.UnaryOp .Not a pos) (tNot tA):=by
 intro pins s σ H Q I h
 exact isTrue_not (ha pins s σ H (fun c H1=>Q (!c) H1) I h)
def tAndV(ta tb:TE):TE:=fun σ H Q=>ta σ H fun x H1=>∃ c,x=.bl c/\if c=true then tb σ H1 Q else Q (.bl false) H1
def tNotV(ta:TE):TE:=fun σ H Q=>ta σ H fun x H1=>∃ c,x=.bl c/\Q (.bl (!c)) H1
theorem Hq{op}{t:TE}(h:PE X a t):PE X (.BoolOp op [a] pos) t:=fun pins s σ H Q I hw=>BoolOp_one (h pins s σ H Q I hw)
theorem Hu(ha:PE X a ta)(hb:PE X (.BoolOp .And (b::rest) pos) tb):PE X (.BoolOp .And (a::b::rest) pos) (tAndV ta tb):=by
 intro pins s σ H Q I h
 refine BoolOp_and (thn (ha pins s σ H _ I h) fun v s1 ⟨x,H1,I1,r1,q1⟩=>?_)
 obtain⟨c,rfl,q1⟩:=q1
 cases r1
 refine wpAny_truthy_bool ?_
 cases c with
 |true=>exact hb pins s1 σ H1 Q I1 q1
 |false=>exact⟨.bl false,H1,I1,rfl,q1⟩
theorem pe_not(ha:PE X a ta):PE X (.UnaryOp .Not a pos) (tNotV ta):=by
 intro pins s σ H Q I h
 refine UnaryOp_ (thn (ha pins s σ H _ I h) fun v s1 ⟨x,H1,I1,r1,q1⟩=>?_)
 obtain⟨c,rfl,q1⟩:=q1
 cases r1
 exact not_of (wpAny_truthy_bool ⟨.bl (!c),H1,I1,rfl,q1⟩)
def tIf(t:TT)(ta tb:TE):TE:=fun σ H Q=>t σ H fun c H1=>if c=true then ta σ H1 Q else tb σ H1 Q
theorem sM{c:Expr}(hc:PT X c tA)(ha:PE X a ta)(hb:PE X b tb):PE X (.IfExp c a b pos) (tIf tA ta tb):=by
 intro pins s σ H Q I h
 refine wpAny_IfExp (thn (hc pins s σ H _ I h) fun d s1 ⟨H1,I1,q1⟩=>?_)
 cases d with
 |true=>exact ha pins s1 σ H1 Q I1 q1
 |false=>exact hb pins s1 σ H1 Q I1 q1
end
end L2
namespace L2
open PySem PySem.Spec PyProof.Rows
def SqL(K:JN)(H:Hp)(a:Addr)(xs:List V):Prop :=
 Rd H a (.lst xs) ∨
  ∃(o:Obj)(its:Array Value)(n:Nat),K.lookup a=some o/\o.cls=.type "list"/\o.dict=none/\o.data=.seq its n/\its.size<=sizeLine/\Vals xs its.toList
def SqT(K:JN)(H:Hp)(a:Addr)(xs:List V):Prop :=
 Rd H a (.tup xs) ∨
  ∃(o:Obj)(its:Array Value)(n:Nat),K.lookup a=some o/\o.cls=.type "tuple"/\o.data=.seq its n/\its.size<=sizeLine/\Vals xs its.toList
def absV:Value->Option V
 |.none=>some .non
 |.bool b=>some (.bl b)
 |.int i _=>some (.int i)
 |.str x _=>some (.str x)
 |.bytes b _=>some (.byt b)
 |.float b _=>some (.flt b)
 |.ref a=>some (.ref a)
 |.type n=>some (.ty n)
 |_=>none
theorem RelV.abs{x:V}{u:Value}(r:RelV x u):absV u=some x:=by
 cases x with
 |non=>cases r;rfl
 |bl _=>cases r;rfl
 |int _=>obtain⟨t,rfl⟩:=r;rfl
 |str _=>obtain⟨t,rfl⟩:=r;rfl
 |byt _=>obtain⟨t,rfl⟩:=r;rfl
 |flt _=>obtain⟨t,rfl⟩:=r;rfl
 |ref _=>cases r;rfl
 |ty _=>cases r;rfl
theorem RelV.inj{x y:V}{u:Value}(r:RelV x u)(q:RelV y u):x=y:=JZ (r.abs.symm.trans q.abs)
theorem Vals.inj:∀{xs ys:List V}{us:List Value},Vals xs us->Vals ys us->xs=ys
 |_,_,_,.nil,.nil=>rfl
 |_,_,_,.cons r t,.cons r' t'=>by rw[r.inj r',Vals.inj t t']
section
variable{X:Cx}{pins:List (Addr×Obj)}{σ:St}{H:Hp}{s:Shared}{a:Addr}{xs ys:List V}
theorem SqL.of{K:JN}(h:H a=some (.lst xs)):SqL K H a xs:=.inl (.inl h)
theorem SqT.of{K:JN}(h:H a=some (.tup xs)):SqT K H a xs:=.inl (.inl h)
theorem Inv.list(I:Inv X pins σ H s)(h:SqL X.K H a xs):∃ its:List Value,Vals xs its/\PlainL s.heap a its.toArray/\xs.length<=sizeLine:=by
 rcases h with h | ⟨o,its,n,hk,hc,hd,hs,hz,r⟩
 ·obtain⟨z,its,n,r,e⟩:=h.ok I.hok
  exact⟨its,r,⟨_,n,e,rfl,rfl,rfl⟩,z⟩
 ·refine⟨its.toList,r,⟨o,n,I.kIn a o hk,hc,hd,by simpa using hs⟩,?_⟩
  have e:=r.length
  simp only[KZ]at e
  omega
theorem Inv.tuple(I:Inv X pins σ H s)(h:SqT X.K H a xs):∃ its:List Value,Vals xs its/\IsTup s.heap a its.toArray/\xs.length<=sizeLine:=by
 rcases h with h | ⟨o,its,n,hk,hc,hs,hz,r⟩
 ·obtain⟨z,its,r,p⟩:=h.ok I.hok
  exact⟨its,r,p,z⟩
 ·refine⟨its.toList,r,⟨o,I.kIn a o hk,hc,n,by simpa using hs⟩,?_⟩
  have e:=r.length
  simp only[KZ]at e
  omega
theorem Inv.list_inj(I:Inv X pins σ H s)(h:SqL X.K H a xs)(h':SqL X.K H a ys):xs=ys:=by
 obtain⟨its,r,⟨o,n,e,_,_,d⟩,_⟩:=I.list h
 obtain⟨its',r',⟨o',n',e',_,_,d'⟩,_⟩:=I.list h'
 rw[e]at e';cases e'
 rw[d]at d'
 injection d' with d1 _
 have:its=its':=by simpa using congrArg Array.toList d1
 subst this
 exact r.inj r'
end
abbrev Cx.wish(X:Cx)(E:Value->Shared->Prop):Cx:={ X with xe:=E }
abbrev Cx.nox(X:Cx):Cx:=X.wish fun _ _=>False
theorem Cx.Ok.wish{X:Cx}(ok:X.Ok)(E:Value->Shared->Prop):(X.wish E).Ok :=
 ⟨ok.mod,ok.kind,ok.glob,ok.blt,ok.above,ok.inj,ok.has,ok.cab,ok.hd,ok.frames,ok.stk,ok.exf,ok.bs,ok.bsz,ok.noex,ok.exfs,ok.funs,ok.frf⟩
theorem Cx.Ok.unwish{X:Cx}{E:Value->Shared->Prop}(ok:(X.wish E).Ok):X.Ok :=
 ⟨ok.mod,ok.kind,ok.glob,ok.blt,ok.above,ok.inj,ok.has,ok.cab,ok.hd,ok.frames,ok.stk,ok.exf,ok.bs,ok.bsz,ok.noex,ok.exfs,ok.funs,ok.frf⟩
section
variable{X:Cx}{pins:List (Addr×Obj)}{σ:St}{H:Hp}{s:Shared}{E:Value->Shared->Prop}
theorem Inv.wish(I:Inv X pins σ H s)(E:Value->Shared->Prop):Inv (X.wish E) pins σ H s:=⟨I.ok.wish E,I.os,I.bare,I.base,I.loc,I.cell,I.free,I.freeC,I.pin,I.hok,I.len⟩
theorem Inv.unwish(I:Inv (X.wish E) pins σ H s):Inv X pins σ H s:=⟨I.ok.unwish,I.os,I.bare,I.base,I.loc,I.cell,I.free,I.freeC,I.pin,I.hok,I.len⟩
theorem SP.unwish{D:Ends}{f:Flow}{s':Shared}(h:SP (X.wish E) pins D f s'):SP X pins D f s':=by
 cases f with
 |next=>obtain⟨σ',H',I,q⟩:=h;exact⟨σ',H',I.unwish,q⟩
 |brk=>obtain⟨σ',H',I,q⟩:=h;exact⟨σ',H',I.unwish,q⟩
 |cont=>obtain⟨σ',H',I,q⟩:=h;exact⟨σ',H',I.unwish,q⟩
 |ret u=>obtain⟨v,σ',H',I,r,q⟩:=h;exact⟨v,σ',H',I.unwish,r,q⟩
theorem PSs.nox{st:List Stmt}{t:TS}(h:PSs X.nox st t):PSs X st t:=fun pins s σ H D I hw =>
 wpAny_mono (h pins s σ H D (I.wish _) hw) (fun _ _ q=>q.unwish) fun _ _ z=>False.elim z
end
section
variable{X:Cx}{st:Stmt}{rest:List Stmt}{t u:TS}{e:Expr}{te:TE}{pos:Pos}
def tNext:TS:=fun D σ H=>D.nx σ H
def tSeq(t u:TS):TS:=fun D σ H=>t { D with nx:=u D } σ H
theorem bg:PSs X [] tNext:=fun _ _ σ H _ I h=>wpAny_execs_nil ⟨σ,H,I,h⟩
theorem ag(h1:PS X st t)(h2:PSs X rest u):PSs X (st::rest) (tSeq t u):=by
 intro pins s σ H D I h
 refine wpAny_execs_cons (thn (h1 pins s σ H { D with nx:=u D } I h) fun f s1 q=>?_)
 cases f with
 |next =>
  obtain⟨σ',H',I',q⟩:=q
  exact h2 pins s1 σ' H' D I' q
 |ret v=>exact q
 |brk=>exact q
 |cont=>exact q
theorem aq(h1:PS X st t):PSs X [st] t:=by
 intro pins s σ H D I h
 refine wpAny_execs_cons (thn (h1 pins s σ H D I h) fun f s1 q=>?_)
 cases f with
 |next=>exact wpAny_execs_nil q
 |ret v=>exact q
 |brk=>exact q
 |cont=>exact q
theorem Inv.quiet{pins:List (Addr×Obj)}{σ:St}{H:Hp}{s:Shared}(I:Inv X pins σ H s):interactive X.env=false:=by simp[interactive,I.ok.kind]
def tDrop(te:TE):TS:=fun D σ H=>te σ H fun _ H1=>D.nx σ H1
theorem bx(he:PE X e te)(hs:swapsWith e none pos.line X.env=pure false:=by rfl):PS X (.Expr e pos) (tDrop te):=by
 intro pins s σ H D I h
 exact wpAny_Expr_any (thn (he pins s σ H _ I h) fun v s1 ⟨x,H1,I1,r1,q1⟩=>⟨σ,H1,I1,q1⟩) I.quiet hs
def tRet(te:TE):TS:=fun D σ H=>te σ H D.rt
theorem aQ(he:PE X e te):PS X (.Return (some e) pos) (tRet te):=by
 intro pins s σ H D I h
 exact wpAny_Return_some (thn (he pins s σ H _ I h) fun v s1 ⟨x,H1,I1,r1,q1⟩=>⟨x,σ,H1,I1,r1,q1⟩)
def tIfS(c:TT)(t u:TS):TS:=fun D σ H=>c σ H fun b H1=>if b=true then t D σ H1 else u D σ H1
theorem dz{c:Expr}{a b:List Stmt}{tc:TT}(hc:PT X c tc)(ha:PSs X a t)(hb:PSs X b u):PS X (.If c a b pos) (tIfS tc t u):=by
 intro pins s σ H D I h
 refine wpAny_If (thn (hc pins s σ H _ I h) fun d s1 ⟨H1,I1,q1⟩=>?_)
 cases d with
 |true=>exact ha pins s1 σ H1 D I1 q1
 |false=>exact hb pins s1 σ H1 D I1 q1
def tNever:TS:=fun _ _ _=>False
theorem fT:PS X st tNever:=fun _ _ _ _ _ _ h=>h.elim
end
abbrev TG:=V->St->Hp->(St->Hp->Prop)->Prop
abbrev TGs:=List V->St->Hp->(St->Hp->Prop)->Prop
def PG(X:Cx)(target:Expr)(t:TG):Prop :=
 ∀(pins:List (Addr×Obj))(s:Shared)(σ:St)(H:Hp)(v:V)(u:Value)(Q:St->Hp->Prop),Inv X pins σ H s->RelV v u->t v σ H Q ->
  wpAny (model X.prog X.w) X.A (assign target X.env u) (fun _ s'=>∃ σ' H',Inv X pins σ' H' s'/\Q σ' H') X.xe s
def PGs(X:Cx)(ts:List Expr)(t:TGs):Prop :=
 ∀(pins:List (Addr×Obj))(s:Shared)(σ:St)(H:Hp)(vs:List V)(us:List Value)(Q:St->Hp->Prop),Inv X pins σ H s->Vals vs us->t vs σ H Q ->
  wpAny (model X.prog X.w) X.A (assignInOrder ((assignEach ts X.env).map (·.2)) us) (fun _ s'=>∃ σ' H',Inv X pins σ' H' s'/\Q σ' H') X.xe s
abbrev TSet:=V->V->V->Hp->(Hp->Prop)->Prop
def PSet(X:Cx)(t:TSet):Prop :=
 ∀(pins:List (Addr×Obj))(s:Shared)(σ:St)(H:Hp)(o i v:V)(ov iv u:Value)(Q:Hp->Prop),Inv X pins σ H s->RelV o ov->RelV i iv->RelV v u->t o i v H Q ->
  wpAny (model X.prog X.w) X.A (setItem ov iv u) (fun _ s'=>∃ H',Inv X pins σ H' s'/\Q H') X.xe s
section
variable{X:Cx}{pos:Pos}
def EX(i:Nat):TG:=fun v σ H Q=>Q (σ.set i (some v)) H
theorem aP{i:Nat}{x:Str}(hN:X.N.Nodup)(hi:X.N[i]?=some x)(hx:Loc X.env.scope x)(hf:X.fn x=true∨X.env.scope.names.lookup x=some .local:=by first | exact .inl rfl | exact .inr rfl | assumption):PG X (.Name x pos) (EX i):=by
 intro pins s σ H v u Q I r h
 exact wpAny_assign_Name (rJ I hN hi hx r (fun s' I'=>⟨_,H,I',h⟩) hf)
def gNil:TGs:=fun vs σ H Q=>vs = []/\Q σ H
def gCons(t:TG)(u:TGs):TGs:=fun vs σ H Q=>∃ v r,vs=v::r/\t v σ H fun σ' H'=>u r σ' H' Q
theorem lh:PGs X [] gNil:=by
 intro pins s σ H vs us Q I r h
 obtain⟨e,h⟩:=h
 subst e
 cases r
 exact assignInOrder_nil ⟨σ,H,I,h⟩
theorem bP{e:Expr}{es:List Expr}{t:TG}{u:TGs}(h1:PG X e t)(h2:PGs X es u)
  (hs:(assignEach (e::es) X.env).map (·.2)=assign e X.env::(assignEach es X.env).map (·.2):=by rfl):PGs X (e::es) (gCons t u):=by
 intro pins s σ H vs us Q I r h
 obtain⟨v,vr,e1,h⟩:=h
 subst e1
 cases r with
 |cons r rr =>
  rw[hs]
  refine assignInOrder_cons (thn (h1 pins s σ H _ _ _ I r h) fun _ s1 ⟨σ1,H1,I1,q1⟩=>?_)
  exact h2 pins s1 σ1 H1 _ _ Q I1 rr q1
def gTup(K:JN)(n:Nat)(t:TGs):TG:=fun v σ H Q=>∃ a xs,v=.ref a/\SqT K H a xs/\xs.length=n/\t xs σ H Q
theorem qP{es:List Expr}{k:Nat}{t:TGs}{n:Nat}(hc:X.calm=true)(h:PGs X es t)
  (hn:(assignEach es X.env).length=n:=by rfl) (hst:(assignEach es X.env).findIdx? (·.1)=none:=by rfl):PG X (.Tuple es k pos) (gTup X.K n t):=by
 intro pins s σ H v u Q I r hw
 obtain⟨a,xs,e1,hq,hl,hw⟩:=hw
 subst e1
 cases r
 obtain⟨its,rv,ht,hz⟩:=I.tuple hq
 refine assign_Tuple_tuple (I.ok.hd hc) ht (by simp[hn,← hl,rv.length]) hst fun h' hx=>?_
 have I1:Inv X pins σ H { s with heap:=h' }:=I.kept (t':=s.toks) fun b o e=>hx b o (Kp (Heap.lt_size e)) e
 exact h pins _ σ H xs _ Q I1 (by simpa using rv) hw
def gSub(to ti:TE)(t:TSet):TG:=fun v σ H Q=>to σ H fun o H1=>ti σ H1 fun i H2=>t o i v H2 fun H3=>Q σ H3
theorem Hn{o i:Expr}{to ti:TE}{t:TSet}(ho:PE X o to)(hi:PE X i ti)(hs:PSet X t)
  (ha:∀ v,assign (.Subscript o i pos) X.env v=(do
   let ov ← holding [v] (eval o X.env)
   let iv ← holding [v,ov] (eval i X.env)
   standAt pos
   holding [v,ov,iv] (setItem ov iv v)
   release [v,ov,iv] []):=by intro _;rfl):PG X (.Subscript o i pos) (gSub to ti t):=by
 intro pins s σ H v u Q I r h
 rw[ha]
 refine wpAny_bind (wpAny_holding (thn (ho pins s σ H _ I h) fun ov s1 ⟨x,H1,I1,r1,q1⟩=>?_))
 refine wpAny_bind (wpAny_holding (thn (hi pins s1 σ H1 _ I1 q1) fun iv s2 ⟨y,H2,I2,r2,q2⟩=>?_))
 refine wpAny_bind (wpAny_standAt (wpAny_bind (wpAny_holding (thn (hs pins s2 σ H2 x y v ov iv u _ I2 r1 r2 r q2) fun _ s3 ⟨H3,I3,q3⟩=>?_))))
 exact wpAny_release ⟨σ,H3,I3,q3⟩
def tAsg(te:TE)(g:TG):TS:=fun D σ H=>te σ H fun x H1=>g x σ H1 D.nx
theorem Hl{tg e:Expr}{te:TE}{g:TG}(he:PE X e te)(hg:PG X tg g)(hs:swapsWithSole [tg] e pos.line X.env=pure false:=by rfl)(hw:swappedStores [tg] e X.env=pure none:=by rfl)
  (h1:(assignEach [tg] X.env).map (·.2) = [assign tg X.env]:=by rfl):PS X (.Assign [tg] e pos) (tAsg te g):=by
 intro pins s σ H D I h
 refine wpAny_Assign_stores (thn (he pins s σ H _ I h) fun v s1 ⟨x,H1,I1,r1,q1⟩=>?_) hs hw
 rw[h1]
 exact thn (hg pins s1 σ H1 x v _ I1 r1 q1) fun _ s2 q=>q
theorem av{i:Nat}{x:Str}{e:Expr}{te:TE}{pos':Pos}(hN:X.N.Nodup)(hi:X.N[i]?=some x)(hx:Loc X.env.scope x)(he:PE X e te)(hs:swapsWith e (some (.Name x pos')) pos.line X.env=pure false:=by rfl)(hf:X.fn x=true∨X.env.scope.names.lookup x=some .local:=by first | exact .inl rfl | exact .inr rfl | assumption) :
  PS X (.Assign [.Name x pos'] e pos) (tAsg te (EX i)):=by
 intro pins s σ H D I h
 refine wpAny_Assign_Name (thn (he pins s σ H _ I h) fun v s1 ⟨y,H1,I1,r1,q1⟩=>?_) hs
 exact rJ I1 hN hi hx r1 (fun s2 I2=>⟨_,H1,I2,q1⟩) hf
end
section
variable{X:Cx}{pos:Pos}
def He(c:TT)(tb:TS):TS:=fun D σ H=>∃ W:Nat->St->Hp->Prop,(∃ m,W m σ H)/\∀ m σ H,W m σ H ->
 c σ H fun b H1=>if b=true then ∃ N:St->Hp->Prop,(∀ σ' H',N σ' H'->∃ m',m'<m/\W m' σ' H')/\tb { D with nx:=N,ct:=N,bk:=D.nx } σ H1 else D.nx σ H1
theorem sq{c:Expr}{body:List Stmt}{tc:TT}{tb:TS}(hp:PassesOwn (model X.prog X.w) X.A X.env X.xe)(hc:PT X c tc)(hb:PSs X body tb):PS X (.While c body [] pos) (He tc tb):=by
 intro pins s σ H D I h
 obtain⟨W,⟨m0,w0⟩,turn⟩:=h
 refine wpAny_While (codeAny_whileLoop (fun n s'=>∃ σ' H',Inv X pins σ' H' s'/\W n σ' H') ?_ m0 ⟨σ,H,I,w0⟩)
 rintro n s1 ⟨σ1,H1,I1,w1⟩
 refine wpAny_passesOwn hp (thn (hc pins s1 σ1 H1 _ I1 (turn n σ1 H1 w1)) fun b s2 ⟨H2,I2,q2⟩=>?_)
 cases b with
 |true =>
  obtain⟨N,hN,q2⟩:=q2
  rw[if_pos rfl]
  refine wpAny_passesOwn hp (thn (hb pins s2 σ1 H2 _ I2 q2) fun f s3 q3=>?_)
  cases f with
  |next =>
   obtain⟨σ3,H3,I3,n3⟩:=q3
   obtain⟨m',hm,w3⟩:=hN σ3 H3 n3
   exact⟨m',hm,σ3,H3,I3,w3⟩
  |cont =>
   obtain⟨σ3,H3,I3,n3⟩:=q3
   obtain⟨m',hm,w3⟩:=hN σ3 H3 n3
   exact⟨m',hm,σ3,H3,I3,w3⟩
  |brk=>exact q3
  |ret v=>exact q3
 |false =>
  rw[if_neg Ka]
  exact wpAny_execs_nil ⟨σ1,H2,I2,q2⟩
end
structure It where
 go:Nat->Hp->Prop
 yld:Nat->Hp->V->Hp->Prop
 stop:Nat->Hp->Prop
def FpOk(X:Cx)(pins:List (Addr×Obj))(H:Hp)(b:Addr):Prop :=
 H b=none/\b≠X.env.locals/\b∉X.fs/\(b∈X.ex∨X.s₀.heap.objs.size<=b)/\(∀ x c,X.env.cells.lookup x=some c->c≠b)/\∀ p∈X.pn++pins,p.1≠b
theorem Inv.fpOk{X:Cx}{pins:List (Addr×Obj)}{σ:St}{H H':Hp}{s:Shared}{b:Addr}(I:Inv X pins σ H s)(hb:s.heap.objs.size<=b)(hn:H' b=none):FpOk X pins H' b:=by
 refine⟨hn,Lc (Ky I.lt hb),I.nofs hb,.inr (KR I.sz hb),fun x c e z=>?_,fun p hp z=>?_⟩
 ·obtain⟨v,q⟩:=I.cell x c e
  exact absurd (Ky q.lt (by rw[z];exact hb)) (La _)
 ·exact absurd (Ky (Heap.lt_size (I.pin p hp).1) (by rw[z];exact hb)) (La _)
structure Turn(P:Program)(w:World)(K:JN)(tg:Expr)(J:It)(fp:List Addr)(it:Addr)(tn:Nat->Heap->Prop):Prop where
 mem:it∈fp
 obj:∀ i h,tn i h->∀ b∈fp,∃ o,h.get? b=some o/\∀ v,o.data≠.cell v
 keep:∀ i h h',tn i h->(∀ b∈fp,∀ o,h.get? b=some o->h'.get? b=some o)->tn i h'
 item:∀(X:Cx),X.prog=P->X.w=w->X.K=K->X.calm=true->∀(i:Nat)(pins:List (Addr×Obj))(s:Shared)(σ:St)(H:Hp)(E:Value->Shared->Prop),Inv X pins σ H s->(∀ b∈fp,FpOk X pins H b)->tn i s.heap->J.go i H ->
  wpAny (model P w) X.A (pyNext (.ref it)) (fun r s1=>∃ u,r=some u /\
   wpAny (model P w) X.A (letOwnedTupleGo tg (.ref it) u) (fun _ s2=>∃ x H',Inv X pins σ H' s2/\RelV x u/\J.yld i H x H'/\tn (i+1) s2.heap/\∀ b∈fp,H' b=none) E s1) E s
 done:∀(X:Cx),X.prog=P->X.w=w->X.K=K->X.calm=true->∀(i:Nat)(pins:List (Addr×Obj))(s:Shared)(σ:St)(H:Hp)(E:Value->Shared->Prop),Inv X pins σ H s->(∀ b∈fp,FpOk X pins H b)->tn i s.heap->J.stop i H ->
  wpAny (model P w) X.A (pyNext (.ref it)) (fun r s1=>r=none/\Inv X pins σ H s1) E s
 self:∀(A:Around)(i:Nat)(s:Shared)(Q:Value->Shared->Prop)(E:Value->Shared->Prop),tn i s.heap->Q (.ref it) s->wpAny (model P w) A (pyIter (.ref it)) Q E s
abbrev TI:=St->Hp->(It->Hp->Prop)->Prop
def PIE(X:Cx)(pins:List (Addr×Obj))(σ:St)(tg:Expr)(R:It->Hp->Prop)(itv:Value)(s2:Shared):Prop :=
 ∃(it:Addr)(fp:List Addr)(tn:Nat->Heap->Prop)(J:It)(H':Hp),itv=.ref it/\Inv X pins σ H' s2/\Turn X.prog X.w X.K tg J fp it tn/\tn 0 s2.heap/\(∀ b∈fp,FpOk X pins H' b)/\R J H'
def PI(X:Cx)(tg iter:Expr)(wi:TI):Prop :=
 ∀(pins:List (Addr×Obj))(s:Shared)(σ:St)(H:Hp)(R:It->Hp->Prop),Inv X pins σ H s->wi σ H R ->
  wpAny (model X.prog X.w) X.A (eval iter X.env) (fun v s1=>wpAny (model X.prog X.w) X.A (pyIter v) (PIE X pins σ tg R) X.xe s1) X.xe s
theorem Jo{M:Model}{A:Around}{E:Value->Shared->Prop}{s:Shared}{tg:Expr}{it:Addr}{u:Value}{o:Obj}{n:String}{vs:Array Value}{Q:Unit->Shared->Prop}(ho:s.heap.get? it=some o)(hc:o.cls=.type n)(hd:o.data=.fields vs)
  (hn : ["enumerate","zip","dict_itemiterator","dict_reverseitemiterator","odict_iterator","itertools.zip_longest","itertools.pairwise"].contains n=false) (hQ:Q () s):wpAny M A (letOwnedTupleGo tg (.ref it) u) Q E s:=by
 unfold letOwnedTupleGo
 cases tg<;>first
  |exact wpAny_pure hQ
  | (cases u<;>first
    |exact wpAny_pure hQ
    | (refine wpAny_bind (wpAny_load ho ?_)
       rw[hc,hd]
       show wpAny M A (if(["enumerate","zip","dict_itemiterator","dict_reverseitemiterator","odict_iterator","itertools.zip_longest","itertools.pairwise"].contains n&&vs[0]? == some (rawInt _))=true then _ else _) Q E s
       rw[if_neg (by intro h;rw[hn,Mi]at h;cases h)]
       exact wpAny_pure hQ))
def Itl(K:JN)(a:Addr):It :=
 ⟨fun i H=>∃ xs x,SqL K H a xs/\xs[i]?=some x,fun i H x H'=>H'=H/\∀ xs,SqL K H a xs->xs[i]?=some x,fun i H=>∃ xs,SqL K H a xs/\xs.length<=i⟩
def Itr(lo:Int)(n:Nat):It:=⟨fun i _=>i<n,fun i H x H'=>H'=H/\x=.int (lo+i),fun i _=>n<=i⟩
theorem Dh{P:Program}{w:World}{K:JN}{tg:Expr}(a it:Addr):Turn P w K tg (Itl K a) [it] it (fun i h=>h.IsListIter it a i) where
 mem:=by simp
 obj:=fun i h st b hb=>by
  have e:b=it:=by simpa using hb
  subst e
  obtain⟨o,e,c,d⟩:=st
  exact⟨o,e,fun v z=>by rw[d]at z;cases z⟩
 keep:=fun i h h' st k=>st.at fun o e=>k it (by simp) o e
 item:=by
  intro X hP hw hK hc i pins s σ H E I hf st hg
  subst hP hw hK
  obtain⟨xs,x,hq,hx⟩:=hg
  obtain⟨its,rv,p,hz⟩:=I.list hq
  obtain⟨u,hu,ru⟩:=rv.get hx
  obtain⟨f0,f1,f2,f3,f4,f5⟩:=hf it (by simp)
  refine wpAny_pyNext_list_item st p.isList (x:=u) (by simpa using hu) fun h' st' sb=>?_
  have I1:Inv X pins σ H { s with heap:=h' }:=I.turned (t':=s.toks) (fun b o hb e=>(sb.2 b hb).trans e) f0 f1 f3 f4 f5
  obtain⟨o,e,c,d⟩:=id st'
  exact⟨u,rfl,Jo (s:={ s with heap:=h' }) e c d (by decide) ⟨x,H,I1,ru,⟨rfl,fun ys hy=>by rw[I.list_inj hy hq];exact hx⟩,st',fun b hb=>(hf b hb).1⟩⟩
 done:=by
  intro X hP hw hK hc i pins s σ H E I hf st hg
  subst hP hw hK
  obtain⟨xs,hq,hx⟩:=hg
  obtain⟨its,rv,p,hz⟩:=I.list hq
  obtain⟨f0,f1,f2,f3,f4,f5⟩:=hf it (by simp)
  have hl:=rv.length
  exact wpAny_pyNext_list_end (I.ok.hd hc) st p.isList (by simp;omega) fun h' eb=>⟨rfl,I.turned (t':=s.toks) (fun b o hb e=>eb b o hb e) f0 f1 f3 f4 f5⟩
 self:=fun _ _ _ _ _ st h=>wpAny_pyIter_listiter st h
theorem BF{P:Program}{w:World}{K:JN}{tg:Expr}(it:Addr)(lo:Int)(n:Nat):Turn P w K tg (Itr lo n) [it] it (fun i h=>IsRangeIter h it (lo+(i:Nat)*1) ((n:Int)-(i:Nat)) 1) where
 mem:=by simp
 obj:=fun i h st b hb=>by
  have e:b=it:=by simpa using hb
  subst e
  exact⟨_,st,fun v z=>by
   have z':Data.fields _=Data.cell v:=z
   cases z'⟩
 keep:=fun i h h' st k=>k it (by simp) _ st
 item:=by
  intro X hP hw hK hc i pins s σ H E I hf st hg
  subst hP hw hK
  obtain⟨f0,f1,f2,f3,f4,f5⟩:=hf it (by simp)
  have W:=Walks.range (prog:=X.prog) (w:=X.w) (I.ok.hd hc) it lo 1 n
  refine W.item i s _ _ hg st fun v h' tk hv st' kk=>?_
  obtain⟨t,rfl⟩:=hv
  have I1:Inv X pins σ H { s with heap:=h',toks:=tk }:=I.turned (fun b o hb e=>kk b o (by simpa using hb) e) f0 f1 f3 f4 f5
  refine⟨_,rfl,Jo (s:={ s with heap:=h',toks:=tk }) (n:="range_iterator") st' rfl rfl (by decide) ⟨.int (lo+i),H,I1,⟨t,?_⟩,⟨rfl,rfl⟩,st',fun b hb=>(hf b hb).1⟩⟩
  rw[Int.mul_one]
 done:=by
  intro X hP hw hK hc i pins s σ H E I hf st hg
  subst hP hw hK
  obtain⟨f0,f1,f2,f3,f4,f5⟩:=hf it (by simp)
  exact wpAny_pyNext_range_end (I.ok.hd hc) st (by have:n<=i:=hg;omega) fun h' eb=>⟨rfl,I.turned (t':=s.toks) (fun b o hb e=>eb b o hb e) f0 f1 f3 f4 f5⟩
 self:=fun _ _ _ _ _ st h=>wpAny_pyIter_rangeiter st h
end L2
namespace L2
open PySem PySem.Spec PyProof.Rows
section
variable{X:Cx}{tg:Expr}
def iList(K:JN)(tl:TE):TI:=fun σ H R=>tl σ H fun x H1=>∃ a,x=.ref a/\(∃ xs,SqL K H1 a xs)/\R (Itl K a) H1
theorem bD{l:Expr}{tl:TE}(hl:PE X l tl):PI X tg l (iList X.K tl):=by
 intro pins s σ H R I h
 refine thn (hl pins s σ H _ I h) fun v s1 ⟨x,H1,I1,r1,q1⟩=>?_
 obtain⟨a,e,⟨xs,hq⟩,q⟩:=q1
 subst e
 cases r1
 obtain⟨its,rv,p,hz⟩:=I1.list hq
 refine wpAny_pyIter_list p.isList ?_
 refine⟨s1.heap.objs.size,[s1.heap.objs.size],_,_,H1,rfl,I1.kept (t':=s1.toks) fun b o e=>Heap.get?_push_of_some _ e,Dh a _,⟨_,Heap.get?_push_size _ rfl,rfl,rfl⟩,fun b hb=>?_,q⟩
 have e:b=s1.heap.objs.size:=by simpa using hb
 subst e
 exact I1.fpOk (JQ _) (I1.hok.fresh (JQ _))
theorem F8{pins:List (Addr×Obj)}{σ:St}{H:Hp}{s:Shared}{R:It->Hp->Prop}{E:Value->Shared->Prop}{lo hi:Int}{t u v:Tok}{tk:Nat}(I:Inv X pins σ H s)(h1 : -(2^62)<=lo)(h2:lo<2^62)(h3 : -(2^62)<=hi)(h4:hi<2^62)
  (q:R (Itr lo (hi-lo).toNat) H):wpAny (model X.prog X.w) X.A (pyIter (.ref s.heap.objs.size)) (PIE X pins σ tg R) E { s with heap:=s.heap.push { cls:=.type "range",data:=.fields #[.int lo t,.int hi u,.int 1 v] },toks:=tk }:=by
 refine wpAny_pyIter_range (IsRange.new ..) (small_one h1 h2 h3 h4) ?_
 have I1:Inv X pins σ H { s with heap:=s.heap.push { cls:=.type "range",data:=.fields #[.int lo t,.int hi u,.int 1 v] },toks:=tk }:=I.kept fun b o e=>Heap.get?_push_of_some _ e
 refine⟨(s.heap.push { cls:=.type "range",data:=.fields #[.int lo t,.int hi u,.int 1 v] }).objs.size,[(s.heap.push { cls:=.type "range",data:=.fields #[.int lo t,.int hi u,.int 1 v] }).objs.size],_,_,H,rfl,
  I1.kept (t':=tk) fun b o e=>Heap.get?_push_of_some _ e,BF _ lo (hi-lo).toNat,?_,fun b hb=>?_,q⟩
 ·have e1:lo+((0:Nat):Int)*1=lo:=by simp
  have e2:(((hi-lo).toNat:Nat):Int)-((0:Nat):Int)=Builtin.Range.rangeSize lo hi 1:=by rw[rangeSize_one];split<;>omega +splitDisjunctions
  show IsRangeIter _ _ (lo+((0:Nat):Int)*1) ((((hi-lo).toNat:Nat):Int)-((0:Nat):Int)) 1
  rw[e1,e2]
  exact Heap.get?_push_size _ rfl
 ·have e:b=(s.heap.push { cls:=.type "range",data:=.fields #[.int lo t,.int hi u,.int 1 v] }).objs.size:=by simpa using hb
  subst e
  exact I1.fpOk (JQ _) (I1.hok.fresh (JQ _))
def iRng1(ta:TA):TI:=fun σ H R=>ta σ H fun vs H1=>∃ j:Int,vs = [.int j]/\-(2^62)<=j/\j<2^62/\R (Itr 0 j.toNat) H1
theorem bW{a:Expr}{ta:TA}{p pos:Pos} (hg:Gl X "range") (hm:X.mg "range" = none) (ha:PA X [a] ta) (hs:starEach [a] X.env = [(false,eval a X.env)]:=by rfl):PI X tg (.Call (.Name "range" p) [a] [] pos) (iRng1 ta):=by
 intro pins s σ H R I h
 refine Call_ (kx I hg hm boot_range (PyProof.Rows.callWith_type1 (thn (ha pos pins s σ H _ I h) fun us s1 ⟨vs,H1,I1,r1,q1⟩=>?_) hs rfl))
 obtain⟨j,e,q1,q2,q⟩:=q1
 subst e
 cases r1 with
 |cons r rr =>
  cases rr
  obtain⟨t,rfl⟩:=r
  exact call_range_1 (F8 I1 (by omega) (by omega) q1 q2 (by simpa using q))
def tFor(wi:TI)(g:TG)(tb:TS):TS:=fun D σ H=>wi σ H fun J H1=>∃ W:Nat->Nat->St->Hp->Prop,(∃ m,W 0 m σ H1)/\∀ i m σ H,W i m σ H ->
 (J.stop i H/\D.nx σ H)∨(J.go i H/\∃ N:St->Hp->Prop,(∀ σ' H',N σ' H'->∃ m',m'<m/\W (i+1) m' σ' H')/\∀ x H',J.yld i H x H'->g x σ H' fun σ2 H2=>tb { D with nx:=N,ct:=N,bk:=D.nx } σ2 H2)
def qO(fp:List Addr)(h:Heap):List (Addr×Obj):=fp.filterMap fun b=>(h.get? b).map fun o=>(b,o)
theorem cT{fp:List Addr}{h:Heap}{b:Addr}{o:Obj}(hb:b∈fp)(e:h.get? b=some o):(b,o)∈qO fp h:=Nl.mpr ⟨b,hb,by rw[e];rfl⟩
theorem D5{fp:List Addr}{h:Heap}{p:Addr×Obj}(hp:p∈qO fp h):p.1∈fp/\h.get? p.1=some p.2:=by
 obtain⟨b,hb,e⟩:=Nl.mp hp
 cases q:h.get? b with
 |none=>rw[q]at e;cases e
 |some o =>
  rw[q]at e
  have e':(b,o)=p:=JZ e
  subst e'
  exact⟨hb,q⟩
theorem Inv.pinned{pins:List (Addr×Obj)}{σ:St}{H:Hp}{s:Shared}{fp:List Addr}(I:Inv X pins σ H s)(hf:∀ b∈fp,FpOk X pins H b)(ho:∀ b∈fp,∃ o,s.heap.get? b=some o/\∀ v,o.data≠.cell v):Inv X (pins++qO fp s.heap) σ H s :=
 I.pins_of fun p hp=>(JV.mp hp).elim (fun z=>I.pin p (JY _ z)) fun z=>by
  obtain⟨hb,e⟩:=D5 z
  obtain⟨f0,f1,f2,_⟩:=hf p.1 hb
  obtain⟨o,e',d⟩:=ho p.1 hb
  rw[e]at e';cases e'
  exact⟨e,f0,f1,f2,d⟩
theorem Inv.unpinned{pins pl:List (Addr×Obj)}{σ:St}{H:Hp}{s:Shared}(I:Inv X (pins++pl) σ H s):Inv X pins σ H s:=I.pins_of fun p hp=>I.pin p (JY _ (Kv _ hp))
theorem bV{iter:Expr}{body:List Stmt}{wi:TI}{g:TG}{tb:TS}{pos:Pos}(hp:PassesOwn (model X.prog X.w) X.A X.env X.xe)(hc:X.calm=true)(hi:PI X tg iter wi)(hg:PG X tg g)(hb:PSs X body tb)
  (hs:∀ x,foldedSetIterable iter X.env x=pure x:=by intro _;rfl):PS X (.For tg iter body [] pos) (tFor wi g tb):=by
 intro pins s σ H D I h
 refine wpAny_For (thn (hi pins s σ H _ I h) fun v s1 h1=>thn h1 fun itv s2 h2=>?_) hs
 obtain⟨it,fp,tn,J,H2,e,I2,T,st2,f2,W,⟨m0,w0⟩,turn⟩:=h2
 subst e
 have stat:∀{H':Hp},(∀ b∈fp,H' b=none)->∀ b∈fp,FpOk X pins H' b:=fun hn b hb=>⟨hn b hb,(f2 b hb).2⟩
 refine codeAny_forLoop_any (fun n s'=>∃ i σ' H',Inv X pins σ' H' s'/\tn i s'.heap/\(∀ b∈fp,H' b=none)/\W i n σ' H') ?_ m0 ⟨0,σ,H2,I2,st2,fun b hb=>(f2 b hb).1,w0⟩
 rintro n s3 ⟨i,σ3,H3,I3,st3,fr3,w3⟩
 rcases turn i n σ3 H3 w3 with⟨stop,qn⟩ | ⟨go,N,hN,step⟩
 ·refine wpAny_passesOwn hp (thn (T.done X rfl rfl rfl hc i pins s3 σ3 H3 X.xe I3 (stat fr3) st3 stop) fun r s4 ⟨hr,I4⟩=>?_)
  subst hr
  exact wpAny_execs_nil ⟨σ3,H3,I4,qn⟩
 ·refine wpAny_passesOwn hp (thn (T.item X rfl rfl rfl hc i pins s3 σ3 H3 X.xe I3 (stat fr3) st3 go) fun r s4 ⟨u,hr,h4⟩=>?_)
  subst hr
  refine wpAny_passesOwn hp (thn h4 fun _ s5 ⟨x,H5,I5,r5,y5,st5,fr5⟩=>?_)
  have I5':=I5.pinned (stat fr5) (T.obj _ _ st5)
  refine wpAny_passesOwn hp (thn (hg _ s5 σ3 H5 x u _ I5' r5 (step x H5 y5)) fun _ s6 ⟨σ6,H6,I6,q6⟩=>?_)
  refine wpAny_passesOwn hp (thn (hb _ s6 σ6 H6 _ I6 q6) fun f s7 q7=>?_)
  have again:∀{σ7:St}{H7:Hp},Inv X (pins++qO fp s5.heap) σ7 H7 s7->N σ7 H7->∃ m,m<n/\∃ i σ' H',Inv X pins σ' H' s7/\tn i s7.heap/\(∀ b∈fp,H' b=none)/\W i m σ' H':=fun{σ7 H7} I7 n7=>by
   obtain⟨m',hm,w7⟩:=hN σ7 H7 n7
   refine⟨m',hm,i+1,σ7,H7,I7.unpinned,T.keep _ _ _ st5 fun b hb o e=>(I7.pin (b,o) (JY _ (JY _ (cT hb e)))).1,fun b hb=>?_,w7⟩
   obtain⟨o,e,d⟩:=T.obj _ _ st5 b hb
   exact(I7.pin (b,o) (JY _ (JY _ (cT hb e)))).2.1
  cases f with
  |next=>obtain⟨σ7,H7,I7,n7⟩:=q7;exact again I7 n7
  |cont=>obtain⟨σ7,H7,I7,n7⟩:=q7;exact again I7 n7
  |brk=>obtain⟨σ7,H7,I7,q7⟩:=q7;exact⟨σ7,H7,I7.unpinned,q7⟩
  |ret v=>obtain⟨x7,σ7,H7,I7,r7,q7⟩:=q7;exact⟨x7,σ7,H7,I7.unpinned,r7,q7⟩
end
theorem cZ{K:JN}{a:Addr}{xs:List V}{g:TG}{tb:TS}{D:Ends}{σ:St}{H:Hp}(Pv:Nat->St->Hp->Prop)(h0:Pv 0 σ H)(hl:∀ i σ H,i<=xs.length->Pv i σ H->SqL K H a xs)
  (hs:∀ i x σ H,xs[i]?=some x->Pv i σ H->g x σ H fun σ2 H2=>tb { D with nx:=Pv (i+1),ct:=Pv (i+1),bk:=D.nx } σ2 H2) (hd:∀ σ H,Pv xs.length σ H->D.nx σ H) :
  ∃ W:Nat->Nat->St->Hp->Prop,(∃ m,W 0 m σ H)/\∀ i m σ H,W i m σ H ->
   ((Itl K a).stop i H/\D.nx σ H)∨((Itl K a).go i H/\∃ N:St->Hp->Prop,(∀ σ' H',N σ' H'->∃ m',m'<m/\W (i+1) m' σ' H')/\∀ x H',(Itl K a).yld i H x H'->g x σ H' fun σ2 H2=>tb { D with nx:=N,ct:=N,bk:=D.nx } σ2 H2):=by
 refine⟨fun i m σ H=>m=xs.length-i/\i<=xs.length/\Pv i σ H,⟨xs.length,by simp,K4 _,h0⟩,?_⟩
 rintro i m σ H ⟨rfl,hi,p⟩
 have q:=hl i σ H hi p
 by_cases hlt:i<xs.length
 ·refine .inr ⟨⟨xs,xs[i],q,by simp[hlt]⟩,Pv (i+1),fun σ' H' p'=>⟨xs.length-(i+1),by omega,rfl,hlt,p'⟩,fun x H' y=>?_⟩
  obtain⟨e,y⟩:=y
  subst e
  exact hs i x σ _ (y xs q) p
 ·have e:i=xs.length:=by omega
  subst e
  exact .inl ⟨⟨xs,q,JQ _⟩,hd σ H p⟩
theorem de{lo:Int}{n:Nat}{g:TG}{tb:TS}{D:Ends}{σ:St}{H:Hp}(Pv:Nat->St->Hp->Prop)(h0:Pv 0 σ H)
  (hs:∀ i σ H,i<n->Pv i σ H->g (.int (lo+i)) σ H fun σ2 H2=>tb { D with nx:=Pv (i+1),ct:=Pv (i+1),bk:=D.nx } σ2 H2) (hd:∀ σ H,Pv n σ H->D.nx σ H) :
  ∃ W:Nat->Nat->St->Hp->Prop,(∃ m,W 0 m σ H)/\∀ i m σ H,W i m σ H ->
   ((Itr lo n).stop i H/\D.nx σ H)∨((Itr lo n).go i H/\∃ N:St->Hp->Prop,(∀ σ' H',N σ' H'->∃ m',m'<m/\W (i+1) m' σ' H')/\∀ x H',(Itr lo n).yld i H x H'->g x σ H' fun σ2 H2=>tb { D with nx:=N,ct:=N,bk:=D.nx } σ2 H2):=by
 refine⟨fun i m σ H=>m=n-i/\i<=n/\Pv i σ H,⟨n,by simp,K4 _,h0⟩,?_⟩
 rintro i m σ H ⟨rfl,hi,p⟩
 by_cases hlt:i<n
 ·refine .inr ⟨hlt,Pv (i+1),fun σ' H' p'=>⟨n-(i+1),by omega,rfl,hlt,p'⟩,fun x H' y=>?_⟩
  obtain⟨e,y⟩:=y
  subst e y
  exact hs i σ _ hlt p
 ·have e:i=n:=by omega
  subst e
  exact .inl ⟨JQ _,hd σ H p⟩
theorem rD{c:TT}{tb:TS}{D:Ends}{σ:St}{H:Hp}(Pv:St->Hp->Prop)(μ:St->Hp->Nat)(h0:Pv σ H)
  (hs:∀ σ H,Pv σ H->c σ H fun b H1=>if b=true then tb { D with nx:=fun σ' H'=>Pv σ' H'/\μ σ' H'<μ σ H,ct:=fun σ' H'=>Pv σ' H'/\μ σ' H'<μ σ H,bk:=D.nx } σ H1 else D.nx σ H1)
  (mono:∀ σ H Q Q',(∀ b H1,Q b H1->Q' b H1)->c σ H Q->c σ H Q'):He c tb D σ H:=by
 refine⟨fun m σ H=>m=μ σ H/\Pv σ H,⟨_,rfl,h0⟩,?_⟩
 rintro m σ H ⟨rfl,p⟩
 refine mono σ H _ _ (fun b H1 q=>?_) (hs σ H p)
 cases b with
 |true=>exact⟨_,fun σ' H' ⟨p',l⟩=>⟨_,l,rfl,p'⟩,q⟩
 |false=>exact q
end L2
namespace L2
open PySem PySem.Spec PyProof.Rows
abbrev R2:=V->V->Hp->VK->Prop
def OpR(X:Cx)(f:Value->Value->Sem Value)(r:R2):Prop :=
 ∀(pins:List (Addr×Obj))(s:Shared)(σ:St)(H:Hp)(x y:V)(v u:Value)(Q:VK),Inv X pins σ H s->RelV x v->RelV y u->r x y H Q ->
  wpAny (model X.prog X.w) X.A (f v u) (EP X pins σ Q) X.xe s
def UnR(X:Cx)(f:Value->Sem Value)(r:V->Hp->VK->Prop):Prop :=
 ∀(pins:List (Addr×Obj))(s:Shared)(σ:St)(H:Hp)(x:V)(v:Value)(Q:VK),Inv X pins σ H s->RelV x v->r x H Q ->
  wpAny (model X.prog X.w) X.A (f v) (EP X pins σ Q) X.xe s
def mm(X:Cx)(f:Value)(r:List V->Hp->VK->Prop):Prop :=
 ∀(pins:List (Addr×Obj))(s:Shared)(σ:St)(H:Hp)(xs:List V)(us:List Value)(Q:VK),Inv X pins σ H s->Vals xs us->r xs H Q ->
  wpAny (model X.prog X.w) X.A (call f us) (EP X pins σ Q) X.xe s
def tOp(r:R2)(ta tb:TE):TE:=fun σ H Q=>ta σ H fun x H1=>tb σ H1 fun y H2=>r x y H2 Q
def tUn(r:V->Hp->VK->Prop)(ta:TE):TE:=fun σ H Q=>ta σ H fun x H1=>r x H1 Q
def rI(C:Int->Int->Prop)(g:Int->Int->V):R2:=fun x y H Q=>∃ i j,x=.int i/\y=.int j/\C i j/\Q (g i j) H
def rI0(g:Int->Int->V):R2:=fun x y H Q=>∃ i j,x=.int i/\y=.int j/\Q (g i j) H
def rU(g:Int->V):V->Hp->VK->Prop:=fun x H Q=>∃ i,x=.int i/\Q (g i) H
section
variable{X:Cx}{a b c:Expr}{ta tb tc:TE}{pos:Pos}
theorem binT(ha:PE X a ta)(hb:PE X b tb){pins:List (Addr×Obj)}{s:Shared}{σ:St}{H:Hp}{R:V->V->Hp->Prop}(I:Inv X pins σ H s)
  (h:ta σ H fun x H1=>tb σ H1 fun y H2=>R x y H2) {Q:Value->Shared->Prop} {f:Value->Value->Sem Value}
  (hf:∀ v u s2 x y H2,Inv X pins σ H2 s2->RelV x v->RelV y u->R x y H2->wpAny (model X.prog X.w) X.A (f v u) Q X.xe s2) :
  wpAny (model X.prog X.w) X.A (eval a X.env) (fun v s₁=>wpAny (model X.prog X.w) X.A (eval b X.env) (fun u s₂=>wpAny (model X.prog X.w) X.A (f v u) Q X.xe s₂) X.xe s₁) X.xe s:=by
 refine thn (ha pins s σ H _ I h) fun v s1 ⟨x,H1,I1,r1,q1⟩=>?_
 refine thn (hb pins s1 σ H1 _ I1 q1) fun u s2 ⟨y,H2,I2,r2,q2⟩=>?_
 exact hf v u s2 x y H2 I2 r1 r2 q2
theorem ay{op:Operator}{r:R2}(ho:OpR X (binaryOp op) r)(ha:PE X a ta)(hb:PE X b tb):PE X (.BinOp a op b pos) (tOp r ta tb):=by
 intro pins s σ H Q I h
 exact wpAny_BinOp (binT ha hb I h fun v u s2 x y H2 I2 rx ry q=>ho pins s2 σ H2 x y v u Q I2 rx ry q)
theorem pe_un{op:UnaryOp}{r:V->Hp->VK->Prop}(ho:UnR X (unaryOp op) r)(ha:PE X a ta):PE X (.UnaryOp op a pos) (tUn r ta):=by
 intro pins s σ H Q I h
 exact UnaryOp_ (thn (ha pins s σ H _ I h) fun v s1 ⟨x,H1,I1,r1,q1⟩=>ho pins s1 σ H1 x v Q I1 r1 q1)
theorem opI{f:Value->Value->Sem Value}{C:Int->Int->Prop}{g:Int->Int->Int}
  (rule:∀(i j:Int)(t u:Tok)(s:Shared)(Q:Value->Shared->Prop)(E:Value->Shared->Prop),C i j->Q (.int (g i j) s.toks) { s with toks:=s.toks+1 }->wpAny (model X.prog X.w) X.A (f (.int i t) (.int j u)) Q E s) :
  OpR X f (rI C fun i j=>.int (g i j)):=by
 intro pins s σ H x y v u Q I rx ry h
 obtain⟨i,j,rfl,rfl,hc,q⟩:=h
 obtain⟨t,rfl⟩:=rx
 obtain⟨t',rfl⟩:=ry
 exact rule i j t t' s _ _ hc ⟨.int (g i j),H,I.tok _,⟨_,rfl⟩,q⟩
theorem opI0{f:Value->Value->Sem Value}{g:Int->Int->Int}
  (rule:∀(i j:Int)(t u:Tok)(s:Shared)(Q:Value->Shared->Prop)(E:Value->Shared->Prop),Q (.int (g i j) s.toks) { s with toks:=s.toks+1 }->wpAny (model X.prog X.w) X.A (f (.int i t) (.int j u)) Q E s) :
  OpR X f (rI0 fun i j=>.int (g i j)):=by
 intro pins s σ H x y v u Q I rx ry h
 obtain⟨i,j,rfl,rfl,q⟩:=h
 obtain⟨t,rfl⟩:=rx
 obtain⟨t',rfl⟩:=ry
 exact rule i j t t' s _ _ ⟨.int (g i j),H,I.tok _,⟨_,rfl⟩,q⟩
theorem opB0{f:Value->Value->Sem Value}{g:Int->Int->Bool}
  (rule:∀(i j:Int)(t u:Tok)(s:Shared)(Q:Value->Shared->Prop)(E:Value->Shared->Prop),Q (.bool (g i j)) s->wpAny (model X.prog X.w) X.A (f (.int i t) (.int j u)) Q E s) :
  OpR X f (rI0 fun i j=>.bl (g i j)):=by
 intro pins s σ H x y v u Q I rx ry h
 obtain⟨i,j,rfl,rfl,q⟩:=h
 obtain⟨t,rfl⟩:=rx
 obtain⟨t',rfl⟩:=ry
 exact rule i j t t' s _ _ ⟨.bl (g i j),H,I,rfl,q⟩
def CDiv(i j:Int):Prop:=0<j/\j<1073741824
def CPow(i j:Int):Prop:=0<=j/\j<=1000000/\i.natAbs<2^64
def CMul(i j:Int):Prop:=(-(2^64)<i/\i<2^64)∨(-(2^64)<j/\j<2^64)
theorem CMul.ok{i j:Int}(h:CMul i j):IntMulOk i j:=by
 rcases h with⟨h1,h2⟩ | ⟨h1,h2⟩
 ·exact .of_left (intBits_le_64 h1 h2)
 ·exact .of_right (intBits_le_64 h1 h2)
theorem BE(k:Nat):(0:Int)<=2^k:=by
 rw[two_pow_cast]
 exact MN _
theorem bR:OpR X (binaryOp .Add) (rI0 fun i j=>.int (i+j)):=opI0 fun _ _ _ _ _ _ _ q=>add_int q
theorem vA:OpR X (binaryOp .Sub) (rI0 fun i j=>.int (i-j)):=opI0 fun _ _ _ _ _ _ _ q=>sub_int q
theorem fJ:OpR X (binaryOp .Mult) (rI CMul fun i j=>.int (i*j)):=opI fun _ _ _ _ _ _ _ hc q=>mul_int q hc.ok
theorem d6:OpR X (binaryOp .FloorDiv) (rI CDiv fun i j=>.int (i/j)):=opI fun i j _ _ _ _ _ hc q=>by
 have h1:(0:Int)<j:=hc.1
 have h2:j<1073741824:=hc.2
 exact floordiv_int (by omega) (by rw[NG i (by omega)];exact q) (.inl (PyProof.noPylong_small (by omega)))
theorem bQ:OpR X (binaryOp .Mod) (rI (fun _ j=>0<j) fun i j=>.int (i%j)):=opI fun i j _ _ _ _ _ hc q=>by
 have h1:(0:Int)<j:=hc
 exact mod_int' (by omega) (by rw[Int.fmod_eq_emod_of_nonneg i (by omega)];exact q)
theorem op_pow:OpR X (binaryOp .Pow) (rI CPow fun i j=>.int (i^j.toNat)):=opI fun _ _ _ _ _ _ _ hc q=>pow_int_small hc.1 hc.2.1 hc.2.2 q
theorem jk:OpR X (binaryOp .LShift) (rI CPow fun i j=>.int (i*2^j.toNat)):=opI fun _ _ _ _ _ _ _ hc q=>lshift_int_small hc.1 hc.2.1 hc.2.2 q
theorem qQ:OpR X (binaryOp .RShift) (rI (fun _ j=>0<=j) fun i j=>.int (i/2^j.toNat)):=opI fun i j _ _ _ _ _ hc q =>
 rshift_int hc (by rw[NG i (BE _)];exact q)
theorem qR:OpR X (binaryOp .BitAnd) (rI0 fun i j=>.int (Builtin.bitAnd i j)):=opI0 fun _ _ _ _ _ _ _ q=>and_int q
theorem yR:OpR X (binaryOp .BitOr) (rI0 fun i j=>.int (Builtin.bitOr i j)):=opI0 fun _ _ _ _ _ _ _ q=>or_int q
theorem op_xor:OpR X (binaryOp .BitXor) (rI0 fun i j=>.int (Builtin.bitXor i j)):=opI0 fun _ _ _ _ _ _ _ q=>xor_int q
theorem unI{f:Value->Sem Value}{g:Int->Int}
  (rule:∀(i:Int)(t:Tok)(s:Shared)(Q:Value->Shared->Prop)(E:Value->Shared->Prop),Q (.int (g i) s.toks) { s with toks:=s.toks+1 }->wpAny (model X.prog X.w) X.A (f (.int i t)) Q E s) :
  UnR X f (rU fun i=>.int (g i)):=by
 intro pins s σ H x v Q I rx h
 obtain⟨i,rfl,q⟩:=h
 obtain⟨t,rfl⟩:=rx
 exact rule i t s _ _ ⟨.int (g i),H,I.tok _,⟨_,rfl⟩,q⟩
theorem un_neg:UnR X (unaryOp .USub) (rU fun i=>.int (-i)):=unI fun _ _ _ _ _ q=>neg_int q
end
def scal:V->V->Bool
 |.non,.non=>true | .non,.int _=>true | .int _,.non=>true | .non,.bl _=>true | .bl _,.non=>true | .non,.str _=>true | .str _,.non=>true
 |.int _,.int _=>true | .bl _,.bl _=>true | .str _,.str _=>true | .byt _,.byt _=>true
 |.int _,.str _=>true | .str _,.int _=>true | .bl _,.str _=>true | .str _,.bl _=>true
 |_,_=>false
def rEq:R2:=fun x y H Q=>scal x y=true/\Q (.bl (decide (x=y))) H
def rNe:R2:=fun x y H Q=>scal x y=true/\Q (.bl (!decide (x=y))) H
theorem E7{i j:Int}:decide (V.int i=V.int j)=(i == j):=by
 rw[Nd]
 simp
theorem HH{i j:Bool}:decide (V.bl i=V.bl j)=(i == j):=by
 rw[Nd]
 simp
theorem E6{i j:Str}:decide (V.str i=V.str j)=(i == j):=by
 rw[Nd]
 simp
theorem E8{i j:Array UInt8}:decide (V.byt i=V.byt j)=(i.toList == j.toList):=by
 rw[Nd]
 cases i
 cases j
 simp
section
variable{X:Cx}{a b c:Expr}{ta tb tc:TE}{pos:Pos}
theorem aY{pins:List (Addr×Obj)}{σ:St}{H:Hp}{s:Shared}{Q:VK}{k k':Bool}(I:Inv X pins σ H s)(q:Q (.bl k) H)(e:k=k'):EP X pins σ Q (.bool k') s:=by
 subst e
 exact⟨.bl k,H,I,rfl,q⟩
theorem lj:OpR X (compareOp .Eq) rEq:=by
 intro pins s σ H x y v u Q I rx ry h
 obtain⟨hs,q⟩:=h
 cases x with
 |non =>
  cases rx
  cases y with
  |non=>cases ry;exact PySem.EqNone.eq_none_none (aY I q (by simp))
  |bl j=>cases ry;exact PySem.EqNone.eq_none_bool (aY I q (by simp))
  |int j=>obtain⟨t',rfl⟩:=ry;exact PySem.EqNone.eq_none_int (aY I q (by simp))
  |str j=>obtain⟨t',rfl⟩:=ry;exact PySem.EqNone.eq_none_str (aY I q (by simp))
  |_=>exact absurd (show false=true from hs) Ka
 |bl i =>
  cases rx
  cases y with
  |non=>cases ry;exact PySem.EqNone.eq_bool_none (aY I q (by simp))
  |bl j=>cases ry;exact eq_bool (aY I q HH)
  |str j=>obtain⟨t',rfl⟩:=ry;exact PySem.EqMixed.eq_bool_str (aY I q (by simp))
  |_=>exact absurd (show false=true from hs) Ka
 |int i =>
  obtain⟨t,rfl⟩:=rx
  cases y with
  |non=>cases ry;exact PySem.EqNone.eq_int_none (aY I q (by simp))
  |int j=>obtain⟨t',rfl⟩:=ry;exact eq_int (aY I q E7)
  |str j=>obtain⟨t',rfl⟩:=ry;exact PySem.EqMixed.eq_int_str (aY I q (by simp))
  |_=>exact absurd (show false=true from hs) Ka
 |str i =>
  obtain⟨t,rfl⟩:=rx
  cases y with
  |non=>cases ry;exact PySem.EqNone.eq_str_none (aY I q (by simp))
  |bl j=>cases ry;exact PySem.EqMixed.eq_str_bool (aY I q (by simp))
  |int j=>obtain⟨t',rfl⟩:=ry;exact PySem.EqMixed.eq_str_int (aY I q (by simp))
  |str j=>obtain⟨t',rfl⟩:=ry;exact eq_str (aY I q E6)
  |_=>exact absurd (show false=true from hs) Ka
 |byt i =>
  obtain⟨t,rfl⟩:=rx
  cases y with
  |byt j=>obtain⟨t',rfl⟩:=ry;exact PySem.W.eq_bytes (aY I q E8)
  |_=>exact absurd (show false=true from hs) Ka
 |_=>cases y<;>exact absurd (show false=true from hs) Ka
theorem oG:OpR X (compareOp .NotEq) rNe:=by
 intro pins s σ H x y v u Q I rx ry h
 obtain⟨hs,q⟩:=h
 cases x with
 |non =>
  cases rx
  cases y with
  |non=>cases ry;exact PySem.EqNone.ne_none_none (aY I q (by simp))
  |bl j=>cases ry;exact PySem.EqNone.ne_none_bool (aY I q (by simp))
  |int j=>obtain⟨t',rfl⟩:=ry;exact PySem.EqNone.ne_none_int (aY I q (by simp))
  |str j=>obtain⟨t',rfl⟩:=ry;exact PySem.EqNone.ne_none_str (aY I q (by simp))
  |_=>exact absurd (show false=true from hs) Ka
 |bl i =>
  cases rx
  cases y with
  |non=>cases ry;exact PySem.EqNone.ne_bool_none (aY I q (by simp))
  |bl j=>cases ry;exact ne_bool (aY I q (congrArg not HH))
  |str j=>obtain⟨t',rfl⟩:=ry;exact PySem.EqMixed.ne_bool_str (aY I q (by simp))
  |_=>exact absurd (show false=true from hs) Ka
 |int i =>
  obtain⟨t,rfl⟩:=rx
  cases y with
  |non=>cases ry;exact PySem.EqNone.ne_int_none (aY I q (by simp))
  |int j=>obtain⟨t',rfl⟩:=ry;exact ne_int (aY I q (congrArg not E7))
  |str j=>obtain⟨t',rfl⟩:=ry;exact PySem.EqMixed.ne_int_str (aY I q (by simp))
  |_=>exact absurd (show false=true from hs) Ka
 |str i =>
  obtain⟨t,rfl⟩:=rx
  cases y with
  |non=>cases ry;exact PySem.EqNone.ne_str_none (aY I q (by simp))
  |bl j=>cases ry;exact PySem.EqMixed.ne_str_bool (aY I q (by simp))
  |int j=>obtain⟨t',rfl⟩:=ry;exact PySem.EqMixed.ne_str_int (aY I q (by simp))
  |str j=>obtain⟨t',rfl⟩:=ry;exact ne_str (aY I q (congrArg not E6))
  |_=>exact absurd (show false=true from hs) Ka
 |byt i =>
  obtain⟨t,rfl⟩:=rx
  cases y with
  |byt j=>obtain⟨t',rfl⟩:=ry;exact PySem.W.ne_bytes (aY I q (congrArg not E8))
  |_=>exact absurd (show false=true from hs) Ka
 |_=>cases y<;>exact absurd (show false=true from hs) Ka
theorem Gm:OpR X (compareOp .Lt) (rI0 fun i j=>.bl (decide (i<j))):=opB0 fun _ _ _ _ _ _ _ q=>lt_int q
theorem op_le:OpR X (compareOp .LtE) (rI0 fun i j=>.bl (decide (i<=j))):=opB0 fun _ _ _ _ _ _ _ q=>le_int q
theorem op_gt:OpR X (compareOp .Gt) (rI0 fun i j=>.bl (decide (j<i))):=opB0 fun _ _ _ _ _ _ _ q=>gt_int q
theorem op_ge:OpR X (compareOp .GtE) (rI0 fun i j=>.bl (decide (j<=i))):=opB0 fun _ _ _ _ _ _ _ q=>ge_int q
theorem op_isN:OpR X (compareOp .Is) (fun x y H Q=>y=.non/\Q (.bl (decide (x=.non))) H):=by
 intro pins s σ H x y v u Q I rx ry h
 obtain⟨rfl,q⟩:=h
 cases ry
 refine is_none_gen (aY I q ?_)
 cases x<;>first
  | (cases rx;rfl)
  | (obtain⟨t,rfl⟩:=rx;rfl)
theorem aU(b:Expr){op:CmpOp}(h:op≠.In:=by decide)(h2:op≠.NotIn:=by decide):behindInMarks op b=false:=by
 have e1:(op == CmpOp.In)=false:=by cases op<;>first | rfl | exact absurd rfl h
 have e2:(op == CmpOp.NotIn)=false:=by cases op<;>first | rfl | exact absurd rfl h2
 cases b<;>simp[behindInMarks,e1,e2]
theorem DS{op:CmpOp}{r:R2}(ho:OpR X (compareOp op) r)(ha:PE X a ta)(hb:PE X b tb)(hm:behindInMarks op b=false):PE X (.Compare a [op] [b] pos) (tOp r ta tb):=by
 intro pins s σ H Q I h
 exact wpAny_Compare1 (binT ha hb I h fun v u s2 x y H2 I2 rx ry q=>ho pins s2 σ H2 x y v u Q I2 rx ry q) hm
def tTest(t:TE):TT:=fun σ H Q=>t σ H fun x H'=>∃ k,x=.bl k/\Q k H'
theorem aL{op:CmpOp}{r:R2}(ho:OpR X (compareOp op) r)(ha:PE X a ta)(hb:PE X b tb)(hm:behindInMarks op b=false):PT X (.Compare a [op] [b] pos) (tTest (tOp r ta tb)):=by
 intro pins s σ H Q I h
 refine wpAny_isTrue_Compare1 (thn (ha pins s σ H _ I h) fun v s1 ⟨x,H1,I1,r1,q1⟩=>thn (hb pins s1 σ H1 _ I1 q1) fun u s2 ⟨y,H2,I2,r2,q2⟩ =>
  thn (ho pins s2 σ H2 x y v u _ I2 r1 r2 q2) fun c s3 ⟨z,H3,I3,r3,k,e,q3⟩=>?_) hm
 subst e
 cases r3
 exact wpAny_truthy_bool ⟨H3,I3,q3⟩
theorem wa:(sizeLine:Nat)<2^63:=by rw[sizeLine_eq];decide
theorem rE{x:V}{us:List Value}(r:Vals [x] us):∃ u,us = [u]/\RelV x u:=by
 cases r with
 |cons r1 r2=>cases r2;exact⟨_,rfl,r1⟩
theorem vals2{x y:V}{us:List Value}(r:Vals [x,y] us):∃ u w',us = [u,w']/\RelV x u/\RelV y w':=by
 cases r with
 |cons r1 r2 =>
  cases r2 with
  |cons r3 r4=>cases r4;exact⟨_,_,rfl,r1,r3⟩
theorem Fv(hc:X.calm=true):mm X (.builtin "min") (fun xs H Q=>∃ i j,xs = [.int i,.int j]/\Q (.int (if j<i then j else i)) H):=by
 intro pins s σ H xs us Q I r h
 obtain⟨i,j,rfl,q⟩:=h
 obtain⟨u,w',rfl,⟨t,rfl⟩,⟨t',rfl⟩⟩:=vals2 r
 refine min_two_ints (I.ok.hd hc) fun h' tk k=>⟨_,H,I.kept k,?_,q⟩
 by_cases hj:j<i
 ·rw[if_pos hj,if_pos hj];exact⟨_,rfl⟩
 ·rw[if_neg hj,if_neg hj];exact⟨_,rfl⟩
theorem Fx:mm X (.type "int") (fun xs H Q=>(∃ i,xs = [.int i]/\Q (.int i) H)∨∃ k,xs = [.bl k]/\Q (.int (if k then 1 else 0)) H):=by
 intro pins s σ H xs us Q I r h
 rcases h with⟨i,rfl,q⟩ | ⟨k,rfl,q⟩
 ·obtain⟨u,rfl,t,rfl⟩:=rE r
  exact call_int_int ⟨.int i,H,I,⟨_,rfl⟩,q⟩
 ·obtain⟨u,rfl,r1⟩:=rE r
  cases r1
  exact call_int_bool ⟨.int (if k then 1 else 0),H,I.tok _,⟨_,rfl⟩,q⟩
end
end L2
namespace L2
open PySem PySem.Spec PyProof.Rows
structure ObjM(h:Heap)(x dx C:Addr)(mA:Str->Option Value):Prop where
 obj:h.get? x=some (LD C dx)
 ns:h.Ns1 dx mA
 ne:dx≠x
theorem Ep{h:Heap}{dx:Addr}{mA:Str->Option Value}(n:h.Ns1 dx mA):∃ od,h.get? dx=some od/\∀ name,Nf name od=some (mA name):=by
 obtain⟨o,es,ep,ho,hd,hk,_,hm⟩:=n
 refine⟨o,ho,fun name=>?_⟩
 have e:=hm name
 unfold nsFind findBy at e
 rw[← Array.find?_toList]at e
 unfold Nf
 rw[hd]
 dsimp only
 split
 ·rename_i y q
  rw[q]at e
  exact congrArg some e
 ·rename_i q
  rw[q]at e
  have a:es.toList.any (·.refKey)=false:=by
   rw[List.any_eq_false]
   intro y hy
   obtain⟨z,t,hkey⟩:=hk y (Array.mem_toList_iff.mp hy)
   simp[DictEntry.refKey,hkey]
  have a':¬ es.toList.any (·.refKey)=true:=by rw[a];exact Ka
  rw[if_neg a']
  exact congrArg some e
theorem ObjM.look{h:Heap}{x dx C:Addr}{mA:Str->Option Value}(I:ObjM h x dx C mA):∃ od,PySem.W.InstAt h x (LD C dx) C (some od)/\∀ name,Nf name od=some (mA name) :=
 let ⟨od,ho,hl⟩:=Ep I.ns
 ⟨od,⟨I.obj,rfl,rfl,ho⟩,hl⟩
section
variable{prog:Program}{w:World}{A:Around}{E:Value->Shared->Prop}{s:Shared}{K:JN}{x dx C f:Addr}{mA:Str->Option Value}{name:Str}{v:Value}
theorem Jp{expr:Bool}{Q:Value->Shared->Prop}(X:K.In s.heap)(I:ObjM s.heap x dx C mA)(hg:LQ K C name=true)(hh:L0 K C=true)
  (ha:Ks K (.ref C) name=some none) (hv:mA name=some v) (hv':PySem.W.handedIn v=true) (h:Q v { s with toks:=s.toks+1 }) :
  wpAny (model prog w) A (getAttr (.ref x) name expr) Q E s:=by
 obtain⟨od,J,hl⟩:=I.look
 exact PySem.W.get_value X J (Ng hg).1 (PySem.W.findObj_own hh ha rfl (by rw[hl,hv])) hv' h
theorem GX{pl:Sem Bool}{Q:Value×List Value->Shared->Prop}(X:K.In s.heap)(I:ObjM s.heap x dx C mA)(hg:LQ K C name=true)
  (hf:Ks K (.ref C) name=some (some (.ref f))) (ht:LV K (.ref f)=true) (hv:mA name=none) (h:Q (.ref f,[.ref x]) s) :
  wpAny (model prog w) A (getMethod (.ref x) name pl) Q E s:=by
 obtain⟨od,J,hl⟩:=I.look
 exact PySem.W.method_fn X J (Ng hg).1 (Ng hg).2 hf (beq_iff_eq.mp ht) (by show(Nf name od).map (·.isSome)=some false;rw[hl,hv];rfl) h
theorem IC{ns:List Str}{Q:Unit->Shared->Prop}(X:K.In s.heap)(I:ObjM s.heap x dx C mA)
  (hs:Ks K (.ref C) "__setattr__" = some (some (.builtin "object.__setattr__"))) (hp:Mw K C=true) (ht:Nz K C name=some none) (hh:L0 K C=true)
  (hw:PySem.Within mA ns) (hsz:ns.length<=sizeLine)
  (h:∀ h',ObjM h' x dx C (fun y=>if y=name then some v else mA y)->Heap.SameBut dx s.heap h'->Q () { s with heap:=h',toks:=s.toks+2 }) :
  wpAny (model prog w) A (setAttr (.ref x) name v) Q E s:=by
 obtain⟨od,J,hl⟩:=I.look
 refine PySem.W.set_plain X J hs (PySem.W.osa_open (s:={ s with toks:=s.toks+1 }) (r:=none) X J hp ht fun b=>?_)
 obtain⟨cd,hc,hd'⟩:=PySem.W.any_some hh
 have hx:s.heap.get? x=some ⟨.ref C,some dx,.plain,#[]⟩:=I.obj
 refine wpAny_bind (wpAny_pure (wpAny_bind (wpAny_bind (wpAny_loadPart hx (wpAny_bind (PySem.W.Looks.here (s:={ s with toks:=s.toks+1 }) (PySem.W.looks_clsIn X hc) ?_))))))
 rw[hd']
 refine wpAny_pure (a:=some dx) (wpAny_bind (wpAny_pure (wpAny_bind ?_)))
 refine wpAny_nsSet1 (s:={ s with toks:=s.toks+1 }) I.ns fun h' hn2 hs2=>?_
 obtain⟨oD,esD,epD,hoD,hdD,hcD⟩:=hn2.count (PySem.Within.cons name v hw)
 refine wpAny_bind (wpAny_lookBehind hoD (by rw[hdD];exact pastItsLine_dict (KR hcD (by rw[Kt];omega))) ?_)
 exact wpAny_pure (h _ ⟨(hs2.2 _ (Ne.symm I.ne)).trans I.obj,hn2,I.ne⟩ hs2)
theorem GC{R:Result->Shared->Prop}{vs:List Value}{kw:List (Str×Value)}(X:K.In s.heap)(hm:MG K C=true)
  (hi:Ks K (.ref C) "__init__" = some (some (.ref f))) (hf:PySem.W.typeIn K (.ref f)=some (.type "function"))
  (h:codeAny (model prog w) (A.under (.builtin "type.__call__" ⟨.ref C::vs,kw⟩)) (.call (.ref f) ⟨.ref (s.heap.objs.size+1)::vs,kw⟩) (PySem.W.InitBack (s.heap.objs.size+1) R)
   { s with heap:=(s.heap.push Lk).push (LD C s.heap.objs.size) }) :
  codeAny (model prog w) A (.call (.ref C) ⟨vs,kw⟩) R s:=by
 obtain⟨hh,g,d,t,os⟩:=s
 exact PySem.W.make_core (PySem.W.makes_of X hm) (PySem.W.looks_findIn X hi) (fun self=>PySem.W.bind_fn X self hf) (.inl rfl) h
end
def putF(f:Str)(v:V):List (Str×V)->List (Str×V)
 |[]=>[(f,v)]
 | (g,x)::r=>if g=f then(g,v)::r else(g,x)::putF f v r
theorem aw(f g:Str)(v:V):∀ fs:List (Str×V),(putF f v fs).lookup g=if g=f then some v else fs.lookup g
 |[]=>by
  show LW g [(f,v)]=_
  by_cases h:g=f
  ·have hb:(g == f)=true:=beq_iff_eq.mpr h
   simp only[LW,hb,if_pos h]
  ·have hb:(g == f)=false:=beq_eq_false_iff_ne.mpr h
   simp only[LW,hb,if_neg h]
 | (k,x)::r=>by
  have ih:=aw f g v r
  rw[show putF f v ((k,x)::r)=(if k=f then(k,v)::r else(k,x)::putF f v r) from rfl]
  by_cases hk:k=f
  ·rw[if_pos hk]
   by_cases h:g=k
   ·have hb:(g == k)=true:=beq_iff_eq.mpr h
    simp only[LW,hb,if_pos (h.trans hk)]
   ·have hb:(g == k)=false:=beq_eq_false_iff_ne.mpr h
    simp only[LW,hb,if_neg (fun e:g=f=>h (e.trans hk.symm))]
  ·rw[if_neg hk]
   by_cases h:g=k
   ·have hb:(g == k)=true:=beq_iff_eq.mpr h
    simp only[LW,hb,if_neg (fun e:g=f=>hk (h.symm.trans e))]
   ·have hb:(g == k)=false:=beq_eq_false_iff_ne.mpr h
    simp only[LW,hb]
    exact ih
theorem oY(f:Str)(v:V):∀ fs:List (Str×V),f∈(putF f v fs).map (·.1)/\∀ g,g∈fs.map (·.1)->g∈(putF f v fs).map (·.1)
 |[]=>⟨by simp[putF],fun g h=>by simp at h⟩
 | (k,x)::r=>by
  obtain⟨i1,i2⟩:=oY f v r
  rw[show putF f v ((k,x)::r)=(if k=f then(k,v)::r else(k,x)::putF f v r) from rfl]
  by_cases hk:k=f
  ·rw[if_pos hk]
   subst hk
   exact⟨by simp,fun g h=>by simpa using h⟩
  ·rw[if_neg hk]
   refine⟨?_,fun g h=>?_⟩
   ·rw[KA]
    exact J1 _ i1
   ·rw[KA]at h ⊢
    rcases JT.mp h with e | e
    ·exact JT.mpr (.inl e)
    ·exact J1 _ (i2 g e)
theorem oO(f:Str)(v:V):∀ fs:List (Str×V),(putF f v fs).length<=fs.length+1
 |[]=>by simp[putF]
 | (k,x)::r=>by
  have ih:=oO f v r
  rw[show putF f v ((k,x)::r)=(if k=f then(k,v)::r else(k,x)::putF f v r) from rfl]
  by_cases hk:k=f
  ·rw[if_pos hk,Kt,Kt];omega
  ·rw[if_neg hk,Kt,Kt];omega
theorem RelO.some_of{v:V}{o:Option Value}(r:RelO (some v) o):∃ u,o=some u/\RelV v u:=by
 cases o with
 |none=>exact(show False from r).elim
 |some u=>exact⟨u,rfl,r⟩
theorem RelO.none_of{o:Option Value}(r:RelO none o):o=none:=by
 cases o with
 |none=>rfl
 |some u=>exact(show False from r).elim
theorem EV{v:V}{u:Value}(r:RelV v u):PySem.W.handedIn u=true:=by
 cases v with
 |non=>cases (show u=Value.none from r);rfl
 |bl b=>cases (show u=Value.bool b from r);rfl
 |int i=>obtain⟨t,e⟩:=(show ∃ t,u=Value.int i t from r);cases e;rfl
 |str x=>obtain⟨t,e⟩:=(show ∃ t,u=Value.str x t from r);cases e;rfl
 |byt b=>obtain⟨t,e⟩:=(show ∃ t,u=Value.bytes b t from r);cases e;rfl
 |flt b=>obtain⟨t,e⟩:=(show ∃ t,u=Value.float b t from r);cases e;rfl
 |ref a=>cases (show u=Value.ref a from r);rfl
 |ty n=>cases (show u=Value.type n from r);rfl
section
variable{P:Program}{w:World}{H H':Hp}{h h':Heap}{a C dx:Addr}{fs fs':List (Str×V)}
theorem tV(hok:HOk P w H h)(e:H a=some (.ins C dx fs)):∃ mA,ObjM h a dx C mA/\(∀ f,RelO (fs.lookup f) (mA f))/\PySem.Within mA (fs.map (·.1))/\fs.length<=1000/\H dx=some (.own a):=by
 obtain⟨d,z,ne,ob,mA,n,r,q⟩:=(show bA P w H h a (.ins C dx fs) from hok a _ e)
 exact⟨mA,⟨ob,n,ne⟩,r,q,z,d⟩
end
structure Cls(K:JN)(C:Addr):Prop where
 pg:LQ K C Str.empty=true
 hd:L0 K C=true
 po:Mw K C=true
 sa:Ks K (.ref C) "__setattr__" = some (some (.builtin "object.__setattr__"))
theorem Cls.get{K:JN}{C:Addr}(c:Cls K C)(f:Str):LQ K C f=true:=c.pg
def fk(K:JN)(C:Addr)(f:Str):Prop:=Ks K (.ref C) f=some none
theorem fk.taker{K:JN}{C:Addr}{f:Str}(n:fk K C f):Nz K C f=some none:=by
 unfold Nz
 rw[show Ks K (.ref C) f=some none from n]
 rfl
structure Meth(K:JN)(C:Addr)(m:Str)(f:Addr):Prop where
 at_:Ks K (.ref C) m=some (some (.ref f))
 fn:LV K (.ref f)=true
 kp:JX K (.ref f)=true
section
variable{X:Cx}{pins:List (Addr×Obj)}{σ:St}{H:Hp}{s:Shared}{a C dx:Addr}{fs:List (Str×V)}{f:Str}{v:V}{A:Around}{E:Value->Shared->Prop}
theorem Cy{b:Bool}{Q:Value->Shared->Prop}(I:Inv X pins σ H s)(e:H a=some (.ins C dx fs))(c:Cls X.K C)(n:fk X.K C f)(l:fs.lookup f=some v)
  (h:∀ u s',Inv X pins σ H s'->RelV v u->Q u s'):wpAny (model X.prog X.w) A (getAttr (.ref a) f b) Q E s:=by
 obtain⟨mA,O,r,_,_,_⟩:=tV I.hok e
 obtain⟨u,hu,ru⟩:=RelO.some_of (v:=v) (o:=mA f) (by rw[← l];exact r f)
 exact Jp I.kIn O (c.get f) c.hd n hu (EV ru) (h u _ (I.tok _) ru)
theorem qU{m:Str}{g:Addr}{pl:Sem Bool}{Q:Value×List Value->Shared->Prop}(I:Inv X pins σ H s)(e:H a=some (.ins C dx fs))(c:Cls X.K C)(k:Meth X.K C m g)(l:fs.lookup m=none)
  (h:Q (.ref g,[.ref a]) s):wpAny (model X.prog X.w) A (getMethod (.ref a) m pl) Q E s:=by
 obtain⟨mA,O,r,_,_,_⟩:=tV I.hok e
 have hn:mA m=none:=RelO.none_of (by rw[← l];exact r m)
 exact GX I.kIn O (c.get m) k.at_ k.fn hn h
theorem BK{y:V}{u:Value}{Q:Unit->Shared->Prop}(I:Inv X pins σ H s)(e:H a=some (.ins C dx fs))(c:Cls X.K C)(n:fk X.K C f)(hl:fs.length<1000)(ry:RelV y u)
  (h:∀ s',Inv X pins σ (upd H a (.ins C dx (putF f y fs))) s'->Q () s'):wpAny (model X.prog X.w) A (setAttr (.ref a) f u) Q E s:=by
 obtain⟨mA,O,r,wi,_,ho⟩:=tV I.hok e
 have hz:(fs.map (·.1)).length<=sizeLine:=by rw[JS,sizeLine_eq];omega
 refine IC I.kIn O c.sa c.po n.taker c.hd wi hz fun h' O' sb=>h _ ?_
 have hd:∃ o,h'.get? dx=some o:=let ⟨o,_,_,e',_⟩:=O'.ns;⟨o,e'⟩
 refine I.write (x:=a) (e:=dx) (by rw[e];exact True.intro) (.inr ho) (fun b q hb z=>(sb.2 b hb).trans z) hd ?_
 refine⟨by rw[ak O.ne];exact ho,?_,O.ne,O'.obj,_,O'.ns,fun g=>?_,fun g hg=>?_⟩
 ·have:=oO f y fs;omega
 ·show RelO ((putF f y fs).lookup g) (if g=f then some u else mA g)
  rw[aw]
  by_cases q:g=f
  ·rw[if_pos q,if_pos q];exact ry
  ·rw[if_neg q,if_neg q];exact r g
 ·by_cases q:g=f
  ·rw[q];exact(oY f y fs).1
  ·refine(oY f y fs).2 g (wi g fun z=>hg ?_)
   show(if g=f then some u else mA g)=none
   rw[if_neg q];exact z
theorem Inv.made(I:Inv X pins σ H s):Inv X pins σ (upd (upd H s.heap.objs.size (.own (s.heap.objs.size+1))) (s.heap.objs.size+1) (.ins C s.heap.objs.size []))
  { s with heap:=(s.heap.push Lk).push (LD C s.heap.objs.size) }:=by
 have e1:(s.heap.push Lk).get? s.heap.objs.size=some Lk:=Heap.get?_push_size s.heap rfl
 have e2:((s.heap.push Lk).push (LD C s.heap.objs.size)).get? (s.heap.objs.size+1)=some (LD C s.heap.objs.size):=by
  have:=Heap.get?_push_size (s.heap.push Lk) (o:=LD C s.heap.objs.size) rfl
  rwa[Heap.size_push]at this
 have e3:(s.heap.push Lk).Ns s.heap.objs.size (fun _=>none):=⟨Lk,#[],_,e1,rfl,(fun e he=>absurd he (by simp)),fun _=>rfl⟩
 have I1:=I.laid (a:=s.heap.objs.size) (o:=.own (s.heap.objs.size+1)) (h':=s.heap.push Lk) (t':=s.toks) (fun b u q=>Heap.get?_push_of_some _ q) (JQ _) ⟨_,e1⟩
 refine I1.laid (a:=s.heap.objs.size+1) (o:=.ins C s.heap.objs.size []) (t':=s.toks) (fun b u q=>Heap.get?_push_of_some _ q) (Nat.le_of_eq (Heap.size_push _ _)) ?_
 have ne:s.heap.objs.size≠s.heap.objs.size+1:=Kp (Lq _)
 refine⟨by rw[ak ne,ae],K4 _,ne,e2,fun _=>none,(Heap.Ns1.of_empty e3).at fun o q=>Heap.get?_push_of_some _ q,fun _=>True.intro,fun y hy=>absurd rfl hy⟩
theorem JG{prog:Program}{w:World}{env:Env}{e:Expr}{f:Str}{pos:Pos}{s:Shared}{Q:Value->Shared->Prop}(hb:attributeBase e f env (eval e env)=eval e env)
  (h:wpAny (model prog w) A (eval e env) (fun o s₁=>wpAny (model prog w) A (getAttr o f true) Q E s₁) E s):wpAny (model prog w) A (eval (.Attribute e f pos) env) Q E s :=
 Attribute_any_ h (by rw[arm_eval_Attribute,hb])
end
def tFld(K:JN)(ta:TE)(f:Str):TE:=fun σ H Q=>ta σ H fun x H1=>∃ a C dx fs v,x=.ref a/\H1 a=some (.ins C dx fs)/\Cls K C/\fk K C f/\fs.lookup f=some v/\Q v H1
def sFld(K:JN)(ta tv:TE)(f:Str):TS:=fun D σ H=>tv σ H fun y H1=>ta σ H1 fun x H2=>∃ a C dx fs,x=.ref a/\H2 a=some (.ins C dx fs)/\Cls K C/\fk K C f/\fs.length<1000 /\
 D.nx σ (upd H2 a (.ins C dx (putF f y fs)))
section
variable{X:Cx}{o e value:Expr}{f:Str}{pos pos' tpos:Pos}{ta tv:TE}
theorem cy(he:PE X e ta)(hb:attributeBase e f X.env (eval e X.env)=eval e X.env):PE X (.Attribute e f pos) (tFld X.K ta f):=by
 intro pins s σ H Q I h
 refine JG hb (thn (he pins s σ H _ I h) fun u s1 ⟨x,H1,I1,rx,a,C,dx,fs,v,ex,ea,c,n,l,q⟩=>?_)
 subst ex
 obtain rfl:u=Value.ref a:=rx
 exact Cy I1 ea c n l fun u' s2 I2 ru=>⟨v,H1,I2,ru,q⟩
theorem mv(ha:PE X o ta)(hv:PE X value tv)(hs:swapsWith value (some (.Attribute o f pos')) pos.line X.env=pure false):PS X (.Assign [.Attribute o f pos'] value pos) (sFld X.K ta tv f):=by
 intro pins s σ H D I h
 refine plainObj_wpAny_Assign_Attribute (thn (hv pins s σ H _ I h) fun u s1 ⟨y,H1,I1,ry,q⟩=>thn (ha pins s1 σ H1 _ I1 q) fun ov s2 ⟨x,H2,I2,rx,a,C,dx,fs,ex,ea,c,n,l,q2⟩=>?_) hs
 subst ex
 obtain rfl:ov=Value.ref a:=rx
 exact BK I2 ea c n l ry fun s3 I3=>⟨σ,_,I3,q2⟩
end
section
variable{X:Cx}{pins:List (Addr×Obj)}{σ:St}{H:Hp}{s:Shared}{A:Around}{E:Value->Shared->Prop}{Q:Value->Shared->Prop}{c:Value}{b:Bool}
inductive TyOf(K:JN)(H:Hp):V->Value->Prop where
 |non:TyOf K H .non (.type "NoneType")
 |bl (x:Bool):TyOf K H (.bl x) (.type "bool")
 |int (i:Int):TyOf K H (.int i) (.type "int")
 |str (x:Str):TyOf K H (.str x) (.type "str")
 |flt (x:UInt64):TyOf K H (.flt x) (.type "float")
 |lst {a:Addr} {xs:List V} (e:H a=some (.lst xs)):TyOf K H (.ref a) (.type "list")
 |frz {a:Addr} {o:Obj} {xs:List V} (e:H a=some (.frz o (.lst xs))):TyOf K H (.ref a) (.type "list")
 |tup {a:Addr} {xs:List V} (e:H a=some (.tup xs)):TyOf K H (.ref a) (.type "tuple")
 |dK {a:Addr} {kvs:List (Key×V)} (e:H a=some (.dK kvs)):TyOf K H (.ref a) (.type "dict")
 |dT {a:Addr} {kvs:List (List Key×V)} (e:H a=some (.dT kvs)):TyOf K H (.ref a) (.type "dict")
 |ins {a C dx:Addr} {fs:List (Str×V)} (e:H a=some (.ins C dx fs)) (cl:Cls K C) (ha:Ks K (.ref C) "__class__" = some (some (.builtin "object.__class__")))
   (hn:PySem.W.specialIn K (.builtin "object.__class__") "__get__" = some (some (.builtin "getset_descriptor.__get__"))) (htk:PySem.W.takesIn K (.builtin "object.__class__")=some true)
   (hm:MY K C (.type "object")=some true):TyOf K H (.ref a) (.ref C)
theorem EG{x:V}{u t:Value}(I:Inv X pins σ H s)(rx:RelV x u)(ty:TyOf X.K H x t)(e:My X.K t c=some b)(h:∀ tk,Q (.bool b) { s with toks:=tk }) :
  wpAny (model X.prog X.w) A (call (.builtin "isinstance") [u,c]) Q E s:=by
 cases ty with
 |non=>cases (show u=Value.none from rx);exact Lh PySem.W.kitx_none I.kIn True.intro e (fun z=>nomatch z) h
 |bl y=>cases (show u=Value.bool y from rx);exact Lh PySem.W.kitx_bool I.kIn True.intro e (fun z=>nomatch z) h
 |int i=>obtain⟨t,q⟩:=(show ∃ t,u=Value.int i t from rx);cases q;exact Lh PySem.W.kitx_int I.kIn True.intro e (fun z=>nomatch z) h
 |str y=>obtain⟨t,q⟩:=(show ∃ t,u=Value.str y t from rx);cases q;exact Lh PySem.W.kitx_str I.kIn True.intro e (fun z=>nomatch z) h
 |flt y=>obtain⟨t,q⟩:=(show ∃ t,u=Value.float y t from rx);cases q;exact Lh PySem.W.kitx_float I.kIn True.intro e (fun z=>nomatch z) h
 | @lst a xs ea =>
  cases (show u=Value.ref a from rx)
  obtain⟨_,_,n,_,h1⟩:=(show bA X.prog X.w H s.heap a (.lst xs) from I.hok a _ ea)
  exact Lh PySem.W.kitx_list I.kIn ⟨_,h1,rfl⟩ e (fun z=>nomatch z) h
 | @frz a ob xs ea =>
  cases (show u=Value.ref a from rx)
  obtain⟨_,_,_,n,_,h1⟩:=(show bA X.prog X.w H s.heap a (.frz ob (.lst xs)) from I.hok a _ ea)
  exact Lh PySem.W.kitx_list I.kIn ⟨_,h1,rfl⟩ e (fun z=>nomatch z) h
 | @tup a xs ea =>
  cases (show u=Value.ref a from rx)
  obtain⟨_,_,_,p⟩:=(show bA X.prog X.w H s.heap a (.tup xs) from I.hok a _ ea)
  obtain⟨o,h1,h2,_⟩:=p
  exact Lh PySem.W.kitx_tuple I.kIn ⟨o,h1,h2⟩ e (fun z=>nomatch z) h
 | @dK a kvs ea =>
  cases (show u=Value.ref a from rx)
  obtain⟨_,_,vs,_,p⟩:=(show bA X.prog X.w H s.heap a (.dK kvs) from I.hok a _ ea)
  obtain⟨o,es,ep,h1,h2,_⟩:=p
  exact Lh PySem.W.kitx_dict I.kIn ⟨o,h1,h2.1⟩ e (fun z=>nomatch z) h
 | @dT a kvs ea =>
  cases (show u=Value.ref a from rx)
  obtain⟨_,_,xs,_,o,es,ep,h1,h2,_⟩:=(show bA X.prog X.w H s.heap a (.dT kvs) from I.hok a _ ea)
  exact Lh PySem.W.kitx_dict I.kIn ⟨o,h1,h2.1⟩ e (fun z=>nomatch z) h
 | @ins a C dx fs ea cl ha hn htk hm =>
  cases (show u=Value.ref a from rx)
  obtain⟨mA,O,_⟩:=tV I.hok ea
  obtain⟨od,J,_⟩:=O.look
  exact Lh (PySem.W.kitx_own (cl.get _) cl.hd ha hn htk hm) I.kIn J e (fun z=>nomatch z) h
end
end L2
namespace L2
open PySem PySem.Spec PyProof.Rows
structure Room(k:Nat)(A:Around):Prop where
 hd:A.handled=none
 dp:A.depth+3*k+5<recursionLimit
 un:A.units+16*k+200<cLine
theorem Room.mono{j k:Nat}{A:Around}(r:Room k A)(h:j<=k):Room j A:=⟨r.hd,by have:=r.dp;omega,by have:=r.un;omega⟩
theorem Room.deeper{k:Nat}{A:Around}(r:Room (k+1) A)(env:Env):Room k (A.deeper env) :=
 ⟨r.hd,by have:=r.dp;show A.depth+1+3*k+5<_;omega,by have:=r.un;show A.units+3+16*k+200<_;omega⟩
theorem Cc{A:Around}{C:Addr}{us:List Value}{kw:List (Str×Value)}:(A.under (.builtin "type.__call__" ⟨.ref C::us,kw⟩)).depth=A.depth+1:=by
 first | rfl | simp[Around.under,Code.weight,Code.isCreation,Code.isGuard,Code.isCaller,Code.frames,Code.isFrame,guardIds]
theorem Cb{A:Around}{C:Addr}{us:List Value}{kw:List (Str×Value)}:(A.under (.builtin "type.__call__" ⟨.ref C::us,kw⟩)).units=A.units+1:=by
 first | rfl | simp[Around.under,Code.cUnits,Code.frames,Code.isFrame]
theorem Room.make{k:Nat}{A:Around}(r:Room (k+1) A)(C:Addr)(us:List Value)(kw:List (Str×Value)):Room k (A.under (.builtin "type.__call__" ⟨.ref C::us,kw⟩)) :=
 ⟨r.hd,by have:=r.dp;rw[Cc];omega,by have:=r.un;rw[Cb];omega⟩
theorem Room.depth{k:Nat}{A:Around}(r:Room k A):A.depth<recursionLimit:=by have:=r.dp;omega
theorem Room.units{k:Nat}{A:Around}(r:Room k A):A.units+64<cLine:=by have:=r.un;omega
def tNil:TA:=fun _ H Q=>Q [] H
def tCons(ta:TE)(tr:TA):TA:=fun σ H Q=>ta σ H fun x H1=>tr σ H1 fun xs H2=>Q (x::xs) H2
section
variable{X:Cx}{e:Expr}{es:List Expr}{te:TE}{t:TA}{pos:Pos}
theorem aj:PA X [] tNil:=fun _ _ _ _ H Q I h=>Calls.spliced_nil ⟨[],H,I,.nil,h⟩
theorem aa(ha:PE X e te)(hr:PA X es t)(hs:starEach (e::es) X.env=(false,eval e X.env)::starEach es X.env:=by rfl):PA X (e::es) (tCons te t):=by
 intro pos pins s σ H Q I h
 rw[hs]
 show wpAny _ _ (spliced ((false,eval e X.env)::backTo pos (starEach es X.env))) _ _ s
 refine Calls.spliced_cons (thn (ha pins s σ H _ I h) fun u s1 ⟨x,H1,I1,r1,q1⟩=>?_)
 exact thn (hr pos pins s1 σ H1 _ I1 q1) fun us s2 ⟨xs,H2,I2,r2,q2⟩=>⟨x::xs,H2,I2,.cons r1 r2,q2⟩
def tTup(t:TA):TE:=fun σ H Q=>t σ H fun xs H1=>xs.length<=sizeLine/\∀ p,H1 p=none->Q (.ref p) (upd H1 p (.tup xs))
def tLst(t:TA):TE:=fun σ H Q=>t σ H fun xs H1=>xs.length<=sizeLine/\∀ p,H1 p=none->Q (.ref p) (upd H1 p (.lst xs))
theorem gM{x1}(h:PA X es t):PE X (.Tuple es x1 pos) (tTup t):=by
 intro pins s σ H Q I hq
 refine wpAny_Tuple_spliced (thn (h pos pins s σ H _ I hq) fun us s1 ⟨xs,H1,I1,r,z,q⟩=>⟨by rw[← r.length];exact z,?_⟩)
 have hf:H1 s1.heap.objs.size=none:=I1.hok.fresh (JQ _)
 refine⟨.ref s1.heap.objs.size,upd H1 s1.heap.objs.size (.tup xs),I1.laid (t':=s1.toks) (fun b u e=>Heap.get?_push_of_some _ e) (JQ _) ?_,rfl,q _ hf⟩
 exact⟨z,us,r,⟨_,Heap.get?_push_size _ rfl,rfl,_,rfl⟩⟩
theorem d0(h:PA X es t):PE X (.List es pos) (tLst t):=by
 intro pins s σ H Q I hq
 refine wpAny_List_spliced (thn (h pos pins s σ H _ I hq) fun us s1 ⟨xs,H1,I1,r,z,q⟩=>⟨by rw[← r.length];exact z,?_⟩)
 have hf:H1 s1.heap.objs.size=none:=I1.hok.fresh (JQ _)
 refine⟨.ref s1.heap.objs.size,upd H1 s1.heap.objs.size (.lst xs),I1.laid (t':=s1.toks) (fun b u e=>Heap.get?_push_of_some _ e) (JQ _) ?_,rfl,q _ hf⟩
 exact⟨z,us,0,r,Heap.get?_push_size _ rfl⟩
end
abbrev Sp:=List V->Hp->VK->XK->Prop
abbrev CXT:=List Env->Hp->Shared->XK->Value->Shared->Prop
structure Env0(P:Program)(w:World)(K:JN)(mg:Str->Option Value)(base:Heap)(A:Around)(outer:List Env)(s:Shared)(H:Hp):Prop where
 frames:A.frames=some outer
 mod:Mod K mg base
 bs:∀ b o,base.get? b=some o->s.heap.get? b=some o/\H b=none
 bsz:base.objs.size<=s.heap.objs.size
 funs:s.heap.FunFrames base outer
 frf:∀ b∈frs outer,H b=none
 hok:HOk P w H s.heap
 bare:AllBare s.gens
def CE(outer:List Env)(P:Program)(w:World)(H:Hp)(s:Shared)(Q:VK)(u:Value)(s':Shared):Prop :=
 ∃ v H',s'.os=s.os/\AllBare s'.gens/\Un (frs outer) [] H H' s.heap s'.heap/\HOk P w H' s'.heap/\RelV v u/\Q v H'
def CR(CX:CXT)(outer:List Env)(P:Program)(w:World)(H:Hp)(s:Shared)(Q:VK)(E:XK)(r:Result)(s':Shared):Prop :=
 match r with
 |.ok (.ret u)=>CE outer P w H s Q u s'
 |.ok _=>False
 |.error e=>CX outer H s E e s'
structure FnOk(P:Program)(w:World)(K:JN)(mg:Str->Option Value)(base:Heap)(CX:CXT)(k:Nat)(f:Addr)(fd:FuncData)(ps:List Str)(sp:Sp):Prop where
 len:∀ vs H Q E,sp vs H Q E->vs.length=ps.length
 run:∀(A:Around)(outer:List Env)(s:Shared)(H:Hp)(args:Args)(us:List Value)(vs:List V)(Q:VK)(E:XK),Room k A->Env0 P w K mg base A outer s H->BindsTo s fd args (ps.zip us)->Vals vs us->sp vs H Q E ->
  codeAny (model P w) A (.call (.ref f) args) (CR CX outer P w H s Q E) s
theorem Env0.make{P:Program}{w:World}{K:JN}{mg:Str->Option Value}{base:Heap}{A:Around}{outer:List Env}{s:Shared}{H:Hp}(e:Env0 P w K mg base A outer s H)(C:Addr)(us:List Value)(kw:List (Str×Value)) :
  Env0 P w K mg base (A.under (.builtin "type.__call__" ⟨.ref C::us,kw⟩)) outer s H:=⟨by first | exact e.frames | (simpa[Around.under,Code.envs,Code.isFrame,pushEnvs] using e.frames),e.mod,e.bs,e.bsz,e.funs,e.frf,e.hok,e.bare⟩
section
variable{X:Cx}{pins:List (Addr×Obj)}{σ:St}{H:Hp}{s s':Shared}
theorem Inv.env0(I:Inv X pins σ H s):Env0 X.prog X.w X.K X.mg X.base X.A X.stack s H :=
 ⟨I.ok.frames,I.ok.mod,I.bs,KR I.ok.bsz I.sz,I.stack,I.stkFree,I.hok,I.bare⟩
theorem Inv.after{Q:VK}{u:Value}(I:Inv X pins σ H s)(h:CE X.stack X.prog X.w H s Q u s'):EP X pins σ Q u s':=by
 obtain⟨v,H',os,bare,un,hok,r,q⟩:=h
 obtain⟨hh,g,d,t,os'⟩:=s'
 obtain rfl:os'=s.os:=os
 exact⟨v,H',I.call (h':=hh) (g':=g) (d':=d) (t':=t) (ch:=[]) un hok bare (fun b z=>absurd z (by simp)),r,q⟩
end
def tCall(sp:Sp)(dvs:List V)(E:XK)(t:TA):TE:=fun σ H Q=>t σ H fun vs H1=>sp (vs++dvs) H1 Q E
def tMeth(C:Addr)(m:Str)(sp:Sp)(dvs:List V)(E:XK)(ta:TE)(t:TA):TE:=fun σ H Q=>ta σ H fun x H1=>∃ a dx fs,x=.ref a/\H1 a=some (.ins C dx fs)/\fs.lookup m=none /\
 t σ H1 fun vs H2=>sp (x::(vs++dvs)) H2 Q E
def tMake(C:Addr)(sp:Sp)(dvs:List V)(E:XK)(t:TA):TE:=fun σ H Q=>t σ H fun vs H1=>∀ x dx,H1 x=none->H1 dx=none->dx≠x ->
 sp (.ref x::(vs++dvs)) (upd (upd H1 dx (.own x)) x (.ins C dx [])) (fun v H2=>v=.non/\Q (.ref x) H2) E
def iL(K:JN)(fd:FuncData)(ps:List Str)(ds:List Value):Prop :=
 ∀(s:Shared)(us:List Value),K.In s.heap->(us++ds).length=ps.length->BindsTo s fd ⟨us,[]⟩ (ps.zip (us++ds))
theorem iL.all{K:JN}{fd:FuncData}{ps:List Str}(h:∀ us:List Value,us.length=ps.length->bindArgs fd ⟨us,[]⟩=pure (ps.zip us)):iL K fd ps []:=fun s us _ hl=>by
 rw[Mt]at hl ⊢
 exact .of_eq (h us hl)
def mO(CX:CXT)(X:Cx)(E:XK):Prop:=∀(pins:List (Addr×Obj))(σ:St)(H:Hp)(s:Shared)(e:Value)(s':Shared),Inv X pins σ H s->CX X.stack H s E e s'->X.xe e s'
section
variable{X:Cx}{CX:CXT}{k:Nat}{f C:Addr}{fd:FuncData}{ps:List Str}{sp:Sp}{dvs:List V}{ds:List Value}{E:XK}{x m:Str}{p pos apos:Pos}{e o:Expr}{es:List Expr}{ta:TE}{t:TA}
theorem DD{pins:List (Addr×Obj)}{σ:St}{H:Hp}{s:Shared}{Q:VK}{us:List Value}{vs:List V}(F:FnOk X.prog X.w X.K X.mg X.base CX k f fd ps sp)(hr:Room k X.A)(hb:iL X.K fd ps ds)(hd:Vals dvs ds)(hx:mO CX X E)
  (I:Inv X pins σ H s) (r:Vals vs us) (h:sp (vs++dvs) H Q E):wpAny (model X.prog X.w) X.A (call (.ref f) us) (EP X pins σ Q) X.xe s:=by
 have r2:Vals (vs++dvs) (us++ds):=r.append hd
 have hl:(us++ds).length=ps.length:=by rw[← r2.length];exact F.len _ _ _ _ h
 refine wpAny_call (codeAny_mono (F.run X.A X.stack s H ⟨us,[]⟩ (us++ds) (vs++dvs) Q E hr I.env0 (hb s us I.kIn hl) r2 h) fun r s' hq=>?_)
 cases r with
 |error e=>exact hx pins σ H s e s' I hq
 |ok fl =>
  cases fl with
  |ret u=>exact I.after hq
  |next=>exact False.elim hq
  |brk=>exact False.elim hq
  |cont=>exact False.elim hq
theorem aH(F:FnOk X.prog X.w X.K X.mg X.base CX k f fd ps sp)(hr:Room k X.A)(hg:Gl X x)(hm:X.mg x=some (.ref f))(hk:JX X.K (.ref f)=true)(hb:iL X.K fd ps ds)(hd:Vals dvs ds)(hx:mO CX X E)
  (ha:PA X (e::es) t) (hdb:(x == ("__debug__" : Str))=false:=by decide) (he:starEach (e::es) X.env=(false,eval e X.env)::starEach es X.env:=by rfl) (hpl:(backTo pos (starEach es X.env)).any (·.1)=false:=by rfl) :
  PE X (.Call (.Name x p) (e::es) [] pos) (tCall sp dvs E t):=by
 intro pins s σ H Q I h
 refine wpAny_Call_Name_kw (oS I hg hm ?_ hdb)
 refine MK (h₀:=X.base) I.ok.mod.kin hk (thn (ha pos pins s σ H _ I h) fun us s1 ⟨vs,H1,I1,r,q⟩=>⟨I1.kIn,?_⟩) he hpl
 exact DD F hr hb hd hx I1 r q
theorem yP{pl:Sem Bool}(he:PE X o ta)(c:Cls X.K C)(hm:Meth X.K C m f)(F:FnOk X.prog X.w X.K X.mg X.base CX k f fd ps sp)(hr:Room k X.A)(hb:iL X.K fd ps ds)(hd:Vals dvs ds)(hx:mO CX X E)(ha:PA X (e::es) t)
  (hst:starEach (e::es) X.env=(false,eval e X.env)::starEach es X.env:=by rfl) (hpl:(backTo pos (starEach es X.env)).any (·.1)=false:=by rfl)
  (ht:eval (.Call (.Attribute o m apos) (e::es) [] pos) X.env=(do
   let ov ← eval o X.env
   standAt apos.atName
   let (f,first) ← holding [ov] (getMethod ov m pl)
   callWith pos f first (backTo pos (starEach (e::es) X.env)) (backToKw pos (keywordEach [] X.env))):=by rfl) :
  PE X (.Call (.Attribute o m apos) (e::es) [] pos) (tMeth C m sp dvs E ta t):=by
 intro pins s σ H Q I h
 refine PySem.W.methodCall_KW (pl:=pl) (thn (he pins s σ H _ I h) fun u s1 ⟨x,H1,I1,rx,a,dx,fs,ex,ea,l,q⟩=>?_) ht
 subst ex
 obtain rfl:u=Value.ref a:=rx
 refine qU I1 ea c hm l ?_
 refine MK (first:=[.ref a]) (h₀:=X.base) I.ok.mod.kin hm.kp (thn (ha pos pins s1 σ H1 _ I1 q) fun us s2 ⟨vs,H2,I2,r,q2⟩=>⟨I2.kIn,?_⟩) hst hpl
 exact DD (us:=.ref a::us) (vs:=.ref a::vs) F hr hb hd hx I2 (.cons rfl r) q2
theorem Gi{pl:Sem Bool}(he:PE X o ta)(c:Cls X.K C)(hm:Meth X.K C m f)(F:FnOk X.prog X.w X.K X.mg X.base CX k f fd ps sp)(hr:Room k X.A)(hb:iL X.K fd ps ds)(hd:Vals dvs ds)(hx:mO CX X E)
  (ht:eval (.Call (.Attribute o m apos) [] [] pos) X.env=(do
   let ov ← eval o X.env
   standAt apos.atName
   let (f,first) ← holding [ov] (getMethod ov m pl)
   callWith pos f first (backTo pos (starEach [] X.env)) (backToKw pos (keywordEach [] X.env))):=by rfl) :
  PE X (.Call (.Attribute o m apos) [] [] pos) (tMeth C m sp dvs E ta tNil):=by
 intro pins s σ H Q I h
 refine PySem.W.methodCall_KW (pl:=pl) (thn (he pins s σ H _ I h) fun u s1 ⟨x,H1,I1,rx,a,dx,fs,ex,ea,l,q⟩=>?_) ht
 subst ex
 obtain rfl:u=Value.ref a:=rx
 refine qU I1 ea c hm l ?_
 exact PySem.W.callWith_K0 (first:=[.ref a]) I1.kIn hm.kp (DD (us:=[.ref a]) (vs:=[.ref a]) F hr hb hd hx I1 (.cons rfl .nil) q)
structure Mk(K:JN)(C f:Addr):Prop where
 makes:MG K C=true
 init:Ks K (.ref C) "__init__" = some (some (.ref f))
 fn:LV K (.ref f)=true
 kp:JX K (.ref C)=true
theorem F6{pins:List (Addr×Obj)}{σ:St}{H:Hp}{s:Shared}{Q:VK}{us:List Value}{vs:List V}(M:Mk X.K C f)(F:FnOk X.prog X.w X.K X.mg X.base CX k f fd ps sp)(hr:Room (k+1) X.A)(hb:iL X.K fd ps ds)(hd:Vals dvs ds)
  (hx:mO CX X E) (I:Inv X pins σ H s) (r:Vals vs us)
  (h:∀ x dx,H x=none->H dx=none->dx≠x->sp (.ref x::(vs++dvs)) (upd (upd H dx (.own x)) x (.ins C dx [])) (fun v H2=>v=.non/\Q (.ref x) H2) E) :
  wpAny (model X.prog X.w) X.A (call (.ref C) us) (EP X pins σ Q) X.xe s:=by
 have hq:=h (s.heap.objs.size+1) s.heap.objs.size (I.hok.fresh (Mj _)) (I.hok.fresh (JQ _)) (Kp (Lq _))
 have I2:=Inv.made (C:=C) I
 have r2:Vals (V.ref (s.heap.objs.size+1)::(vs++dvs)) (Value.ref (s.heap.objs.size+1)::(us++ds)):=.cons rfl (r.append hd)
 have hl:(Value.ref (s.heap.objs.size+1)::us++ds).length=ps.length:=by
  have e:=r2.length
  rw[F.len _ _ _ _ hq]at e
  exact e.symm
 refine wpAny_call (GC (f:=f) I.kIn M.makes M.init (beq_iff_eq.mp M.fn) (codeAny_mono (F.run _ X.stack _ _ ⟨Value.ref (s.heap.objs.size+1)::us,[]⟩ (Value.ref (s.heap.objs.size+1)::(us++ds)) _ _ E (hr.make C us [])
  (I2.env0.make C us []) (hb _ (Value.ref (s.heap.objs.size+1)::us) I2.kIn hl) r2 hq) fun r s' hq'=>?_))
 cases r with
 |error e=>exact hx pins σ _ _ e s' I2 hq'
 |ok fl =>
  cases fl with
  |ret u =>
   obtain⟨v,H',I3,rv,ev,q3⟩:=I2.after hq'
   subst ev
   exact⟨rv,⟨V.ref (s.heap.objs.size+1),H',I3,rfl,q3⟩⟩
  |next=>exact False.elim hq'
  |brk=>exact False.elim hq'
  |cont=>exact False.elim hq'
theorem yQ(M:Mk X.K C f)(F:FnOk X.prog X.w X.K X.mg X.base CX k f fd ps sp)(hr:Room (k+1) X.A)(hg:Gl X x)(hm:X.mg x=some (.ref C))(hb:iL X.K fd ps ds)(hd:Vals dvs ds)(hx:mO CX X E)
  (ha:PA X (e::es) t) (hdb:(x == ("__debug__" : Str))=false:=by decide) (he:starEach (e::es) X.env=(false,eval e X.env)::starEach es X.env:=by rfl) (hpl:(backTo pos (starEach es X.env)).any (·.1)=false:=by rfl) :
  PE X (.Call (.Name x p) (e::es) [] pos) (tMake C sp dvs E t):=by
 intro pins s σ H Q I h
 refine wpAny_Call_Name_kw (oS I hg hm ?_ hdb)
 refine MK (h₀:=X.base) I.ok.mod.kin M.kp (thn (ha pos pins s σ H _ I h) fun us s1 ⟨vs,H1,I1,r,q⟩=>⟨I1.kIn,?_⟩) he hpl
 exact F6 M F hr hb hd hx I1 r q
end
section
variable{X:Cx}{CX:CXT}{k:Nat}{f C:Addr}{fd:FuncData}{ps ks:List Str}{sp:Sp}{E:XK}{x m:Str}{p pos apos kpos:Pos}{e o:Expr}{es:List Expr}{kws:List Keyword}{te ta:TE}{t tk:TA}{nm:Option Str}
variable{g:List Value->List Value->List Value}{gV:List V->List V->List V}
end
structure aC(N P:List Str)(sc:Scope):Prop where
 kind:sc.kind=.function
 co:sc.isCoroutine=false
 gen:sc.isGenerator=false
 nd:N.Nodup
 pre:N.take P.length=P
 par:∀ x∈P,sc.names.lookup x=some .local∨sc.names.lookup x=some .cell
 nofree:∀ y∈sc.names,y.2≠.free
theorem xn{kindOf:Str->Option NameKind}{x:Str}:∀{binds:List (Str×Value)}{m:Str->Option Value},(∀ v,(x,v)∉binds)->bindL kindOf binds m x=m x
 |[],_,_=>rfl
 | (n,v)::r,m,h=>by
  unfold bindL
  rw[xn fun w hw=>h w (J1 _ hw)]
  split
  ·have:x≠n:=by rintro rfl;exact h v Kh
   simp[this]
  ·rfl
theorem xp{kindOf:Str->Option NameKind}{x:Str}:∀{binds:List (Str×Value)}{m:Str->Option Value},(∀ v,(x,v)∉binds)->bindC kindOf binds m x=m x
 |[],_,_=>rfl
 | (n,v)::r,m,h=>by
  unfold bindC
  rw[xp fun w hw=>h w (J1 _ hw)]
  split
  ·rfl
  ·have:x≠n:=by rintro rfl;exact h v Kh
   simp[this]
theorem xo{kindOf:Str->Option NameKind}{x:Str}{v:Value}:∀{P:List Str}{vs:List Value}{i:Nat}{m:Str->Option Value},P.Nodup->P[i]?=some x->vs[i]?=some v->kindOf x=some .local ->
  bindL kindOf (P.zip vs) m x=some v
 |[],_,_,_,_,h,_,_=>by simp at h
 |_::_,[],_,_,_,_,h,_=>by simp at h
 |p::P,w::vs,0,m,nd,h1,h2,hk=>by
  simp at h1 h2;subst h1;subst h2
  show bindL kindOf ((p,w)::P.zip vs) m p=_
  unfold bindL
  rw[xn fun v hv=>(Kc.mp nd).1 (Nb hv).1,if_pos hk]
  simp
 |p::P,w::vs,i+1,m,nd,h1,h2,hk=>by
  show bindL kindOf ((p,w)::P.zip vs) m x=_
  unfold bindL
  exact xo (i:=i) (Kc.mp nd).2 (by simpa using h1) (by simpa using h2) hk
theorem xq{kindOf:Str->Option NameKind}{x:Str}{v:Value}:∀{P:List Str}{vs:List Value}{i:Nat}{m:Str->Option Value},P.Nodup->P[i]?=some x->vs[i]?=some v->kindOf x≠some .local ->
  bindC kindOf (P.zip vs) m x=some v
 |[],_,_,_,_,h,_,_=>by simp at h
 |_::_,[],_,_,_,_,h,_=>by simp at h
 |p::P,w::vs,0,m,nd,h1,h2,hk=>by
  simp at h1 h2;subst h1;subst h2
  show bindC kindOf ((p,w)::P.zip vs) m p=_
  unfold bindC
  rw[xp fun v hv=>(Kc.mp nd).1 (Nb hv).1,if_neg hk]
  simp
 |p::P,w::vs,i+1,m,nd,h1,h2,hk=>by
  show bindC kindOf ((p,w)::P.zip vs) m x=_
  unfold bindC
  exact xq (i:=i) (Kc.mp nd).2 (by simpa using h1) (by simpa using h2) hk
def qd(N:List Str)(vs:List V):St:=vs.map some++Me (N.length-vs.length) none
def cxOf(CX:CXT)(P:Program)(w:World)(K:JN)(mg:Str->Option Value)(base:Heap)(N:List Str)(qual:Str)(scope:Scope)(f:Addr)(cd:Value)(A:Around)(outer:List Env)(s:Shared)(H:Hp)(E:XK):Cx where
 prog:=P
 w:=w
 K:=K
 mg:=mg
 base:=base
 A:=A.deeper (envOfC qual scope s.heap.objs.size f cd)
 N:=N
 s₀:=s
 H₀:=H
 env:=envOfC qual scope s.heap.objs.size f cd
 outer:=outer
 stack:=envOfC qual scope s.heap.objs.size f cd::outer
 ex:=[]
 calm:=true
 fn:=fun _=>true
 pn:=[]
 xe:=fun e s'=>wpAny (model P w) (A.deeper (envOfC qual scope s.heap.objs.size f cd)) (leaving (envOfC qual scope s.heap.objs.size f cd) e) (fun _ s''=>CX outer H s E e s'') (fun e' s''=>CX outer H s E e' s'') s'
theorem Bz{sc:Scope}{n:Nat}{x:Str}(h:sc.names.lookup x=some .cell):∃ c,(cellsFrom n sc.names []).lookup x=some c:=by
 have q:=PySem.W.cellsFrom_some sc.names n [] (.inl h)
 exact NR.mp q
theorem EH{CX:CXT}{P:Program}{w:World}{K:JN}{mg:Str->Option Value}{base:Heap}{N ps:List Str}{qual:Str}{scope:Scope}{f:Addr}{cd:Value}{A:Around}{outer:List Env}{s s1:Shared}{H:Hp}{E:XK}{us:List Value}{vs:List V}
  (S:aC N ps scope) (hd:A.handled=none) (e0:Env0 P w K mg base A outer s H) (hl:vs.length=ps.length) (r:Vals vs us)
  (x:InCallC s s.heap.objs.size (bindL (envOfC qual scope s.heap.objs.size f cd).kindOf (ps.zip us) fun _=>none) (cellsFrom (s.heap.objs.size+1) scope.names []) (bindC (envOfC qual scope s.heap.objs.size f cd).kindOf (ps.zip us) fun _=>none) s1) :
  Inv (cxOf CX P w K mg base N qual scope f cd A outer s H E) [] (qd N vs) H s1:=by
 have hpl:ps.length<=N.length:=by have:=congrArg List.length S.pre;rw[Ku]at this;omega
 obtain⟨h1,tk,rfl,hk⟩:=x.done
 have noA:∀ b:Addr,b∉(cxOf CX P w K mg base N qual scope f cd A outer s H E).ex:=fun b z=>absurd (show b∈([]:List Addr) from z) (by simp)
 refine⟨⟨e0.mod,S.kind,rfl,rfl,JQ _,fun y z c h1 h2=>?_,fun y hy=>?_,fun y c _ h=>?_,fun _=>hd,Around.frames_deeper e0.frames,.inr ⟨rfl,rfl⟩,fun b z=>absurd z (noA b),e0.bs,e0.bsz,fun b _ _=>noA b,fun b z=>absurd z (noA b),e0.funs,e0.frf⟩,
  rfl,e0.bare,Un.kept hk,⟨_,x.toInCall.ns,fun i y v h1 h2 h3=>?_⟩,fun y c h=>⟨_,x.cell y c h⟩,e0.hok.fresh (JQ _),fun y c h=>?_,fun p hp=>absurd (show p∈([]:List (Addr×Obj)) from hp) (by simp),e0.hok.kept hk,?_⟩
 ·exact name_of_addr x.apart (Le h1) (Le h2)
 ·have hy:scope.names.lookup y=some .cell∨scope.names.lookup y=some .free:=hy
  rcases hy with hy | hy
  ·exact Bz hy
  ·exact absurd rfl (S.nofree _ (Le hy))
 ·exact K2 (x.above y c (Le h))
 ·have hi:i<vs.length:=by
   unfold qd at h2
   by_cases hi:i<vs.length
   ·exact hi
   ·rw[JP (by simpa using hi)]at h2
    rw[LP]at h2
    split at h2<;>cases h2
  have ha:vs[i]?=some v:=by
   unfold qd at h2
   rw[JU (by simpa using hi),JR]at h2
   cases e:vs[i]? with
   |none=>rw[e]at h2;cases h2
   |some a=>rw[e]at h2;cases h2;rfl
  obtain⟨u,hu,rv⟩:=r.get ha
  have hp:ps[i]?=some y:=by
   rw[← S.pre,List.getElem?_take_of_lt (by omega)];exact h1
  have ndP:ps.Nodup:=by rw[← S.pre];exact S.nd.sublist (List.take_sublist _ _)
  refine⟨u,rv,?_⟩
  rcases S.par y (JM hp)with k | k
  ·exact .inl ⟨k,xo ndP hp hu k⟩
  ·obtain⟨c,e⟩:=Bz (n:=s.heap.objs.size+1) k
   refine .inr ⟨.inl k,c,e,?_⟩
   have q:=x.cell y c e
   rw[xq ndP hp hu (by show scope.names.lookup y≠_;rw[k];decide)]at q
   exact q
 ·exact e0.hok.fresh (K2 (x.above y c (Le h)))
 ·unfold qd
  show _=N.length
  rw[JO,JS,List.length_replicate]
  omega
theorem Jq{CX:CXT}{P:Program}{w:World}{K:JN}{mg:Str->Option Value}{base:Heap}{k:Nat}{f:Addr}{name qual:Str}{params:Arguments}{body:List Stmt}{scope:Scope}{dV kV doc pm cdv ct oc:Value}{an od:Option Addr}
  {osl:Array (Option Value)} {N ps:List Str} {sp:Sp} (lk:K.lookup f=some ⟨oc,od,.func (Kd name qual params body scope dV kV doc pm an cdv ct),osl⟩) (hcd:Kb K cdv qual=true) (S:aC N ps scope)
  (len:∀ vs H Q E,sp vs H Q E->vs.length=ps.length)
  (hbody:∀(A:Around)(outer:List Env)(s:Shared)(H:Hp)(vs:List V)(Q:VK)(E:XK),Room k (A.deeper (envOfC qual scope s.heap.objs.size f cdv))->sp vs H Q E ->
   ∃ t,PSs (cxOf CX P w K mg base N qual scope f cdv A outer s H E) body t/\t { nx:=fun _ H'=>Q .non H',rt:=Q } (qd N vs) H) :
  FnOk P w K mg base CX (k+1) f (Kd name qual params body scope dV kV doc pm an cdv ct) ps sp:=by
 refine⟨len,fun A outer s H args us vs Q E hr e0 hb r hsp=>?_⟩
 have hl:=len _ _ _ _ hsp
 have KX:K.In s.heap:=e0.mod.kin.keeps fun b o e=>(e0.bs b o e).1
 have lim:s.heap.NoLimit:=e0.mod.nolimit.keeps fun b o e=>(e0.bs b o e).1
 have hkind:∀ y∈ps.zip us,scope.names.lookup y.1=some .local∨(scope.names.lookup y.1=some .cell/\((cellsFrom (s.heap.objs.size+1) scope.names []).lookup y.1).isSome=true):=fun⟨n,v⟩ hy=>by
  rcases S.par n (Nb hy).1 with q | q
  ·exact .inl q
  ·exact .inr ⟨q,PySem.W.cellsFrom_some _ _ _ (.inl q)⟩
 refine codeAny_call_function hr.depth (KX _ _ lk) rfl S.co S.gen rfl (PySem.W.codeRec_of KX hcd) (hb _ _ _ _ ?_)
 refine wpAny_newFunctionEnv_cells S.kind hkind fun env he s1 x=>?_
 subst he
 refine⟨lim.keeps x.toInCall.keep,codeAny_func ?_⟩
 obtain⟨t,ht,hq⟩:=hbody A outer s H vs Q E (hr.deeper _) hsp
 have I:Inv (cxOf CX P w K mg base N qual scope f cdv A outer s H E) [] (qd N vs) H s1:=EH S hr.hd e0 hl r x
 refine wpAny_mono (ht [] s1 (qd N vs) H _ I hq) (fun fl s' hs=>?_) fun e s' hs=>hs
 have fin:∀{σ':St}{H':Hp}{v:V}{u:Value},Inv (cxOf CX P w K mg base N qual scope f cdv A outer s H E) [] σ' H' s'->RelV v u->Q v H'->CE outer P w H s Q u s' :=
  fun{σ' H' v u} J rv q=>⟨v,H',J.os,J.bare,J.base,J.hok,rv,q⟩
 cases fl with
 |ret u =>
  obtain⟨v,σ',H',J,rv,q⟩:=hs
  exact fin J rv q
 |next =>
  obtain⟨σ',H',J,q⟩:=hs
  exact fin (v:=V.non) (u:=Value.none) J rfl q
 |brk =>
  obtain⟨_,_,_,q⟩:=hs
  exact False.elim q
 |cont =>
  obtain⟨_,_,_,q⟩:=hs
  exact False.elim q
end L2
namespace L2
open PySem PySem.Spec PyProof.Rows
section
variable{X:Cx}{x:Str}{p pos:Pos}{e:Expr}{es:List Expr}{t:TA}{id T:String}{r:List V->Hp->VK->Prop}
def tCB(r:List V->Hp->VK->Prop)(t:TA):TE:=fun σ H Q=>t σ H fun vs H1=>r vs H1 Q
theorem aE(hc:mm X (.builtin id) r)(hg:Gl X x)(hm:X.mg x=none)(hv:bootBuiltins x=some (.builtin id))(ha:PA X (e::es) t) (hn:x≠"__name__":=by decide) (hdb:(x == ("__debug__" : Str))=false:=by decide)
  (he:starEach (e::es) X.env=(false,eval e X.env)::starEach es X.env:=by rfl) (hpl:(backTo pos (starEach es X.env)).any (·.1)=false:=by rfl):PE X (.Call (.Name x p) (e::es) [] pos) (tCB r t):=by
 intro pins s σ H Q I h
 refine wpAny_Call_Name_kw (kx I hg hm hv ?_ hn hdb)
 exact PyProof.Rows.callWith_builtin1 (thn (ha pos pins s σ H _ I h) fun us s1 ⟨vs,H1,I1,r1,q1⟩=>hc pins s1 σ H1 vs us Q I1 r1 q1) he hpl
theorem c9(hc:mm X (.type T) r)(hg:Gl X x)(hm:X.mg x=none)(hv:bootBuiltins x=some (.type T))(ha:PA X (e::es) t) (hn:x≠"__name__":=by decide) (hdb:(x == ("__debug__" : Str))=false:=by decide)
  (he:starEach (e::es) X.env=(false,eval e X.env)::starEach es X.env:=by rfl) (hpl:(backTo pos (starEach es X.env)).any (·.1)=false:=by rfl):PE X (.Call (.Name x p) (e::es) [] pos) (tCB r t):=by
 intro pins s σ H Q I h
 refine wpAny_Call_Name_kw (kx I hg hm hv ?_ hn hdb)
 exact PyProof.Rows.callWith_type1 (thn (ha pos pins s σ H _ I h) fun us s1 ⟨vs,H1,I1,r1,q1⟩=>hc pins s1 σ H1 vs us Q I1 r1 q1) he hpl
end
end L2
namespace HT
open PySem PyProof.Rows
section
open PySem.SeqAt
open PySem.AutoSeq1 (wpAny_loadPart')
open PySem.MeetsSeq PySem.MeetsSeq2 PySem.MeetsSeq3
end
section
variable{prog:Program}{w:World}{A:Around}{E:Value->Shared->Prop}{s:Shared}
def sIx(n d:Nat):Option Int->Nat
 |none=>d
 |some v=>if v<0 then(v+(n:Int)).toNat else min v.toNat n
theorem sIx_none(n d:Nat):sIx n d none=d:=rfl
theorem sIx_nat(n d k:Nat):sIx n d (some (k:Int))=min k n:=by
 show(if(k:Int)<0 then((k:Int)+(n:Int)).toNat else min (k:Int).toNat n)=min k n
 rw[if_neg (by omega),Kq]
end
end HT
namespace L2
open PySem PySem.Spec PyProof.Rows
abbrev TO:=St->Hp->(Option Int->Hp->Prop)->Prop
def PO(X:Cx)(e:Option Expr)(t:TO):Prop :=
 ∀(pins:List (Addr×Obj))(s:Shared)(σ:St)(H:Hp)(Q:Option Int->Hp->Prop),Inv X pins σ H s->t σ H Q ->
  wpAny (model X.prog X.w) X.A (evalPart e X.env) (fun u s'=>∃ o H',Inv X pins σ H' s'/\IsPart u o/\Q o H') X.xe s
def Ii:TO:=fun _ H Q=>Q none H
def tPart(t:TE):TO:=fun σ H Q=>t σ H fun x H1=>∃ i,x=.int i/\Q (some i) H1
section
variable{X:Cx}{e:Expr}{te:TE}{lo hi:Option Expr}{tl th:TO}{pos p2:Pos}
theorem yB:PO X none Ii:=by
 intro pins s σ H Q I h
 rw[evalPart_none]
 exact wpAny_pure ⟨none,H,I,.none,h⟩
theorem yA(h:PE X e te):PO X (some e) (tPart te):=by
 intro pins s σ H Q I hw
 rw[evalPart_some]
 refine thn (h pins s σ H _ I hw) fun u s1 ⟨x,H1,I1,r1,q1⟩=>?_
 obtain⟨i,rfl,q⟩:=q1
 obtain⟨t,rfl⟩:=r1
 exact⟨some i,H1,I1,.int i t,q⟩
def SlR(X:Cx)(r:V->Option Int->Option Int->Hp->VK->Prop):Prop :=
 ∀(pins:List (Addr×Obj))(s:Shared)(σ:St)(H:Hp)(x:V)(v vl vu:Value)(lo hi:Option Int)(sl:Addr)(Q:VK),Inv X pins σ H s->RelV x v->s.heap.IsSliceOf sl vl vu .none->IsPart vl lo->IsPart vu hi->r x lo hi H Q ->
  ∃ T id,typeLookup (.type T) "__getitem__" = pure (some (.builtin id))/\s.TypeIs v T/\wpAny (model X.prog X.w) X.A (getItem v (.ref sl)) (EP X pins σ Q) X.xe s
def tSl(r:V->Option Int->Option Int->Hp->VK->Prop)(te:TE)(tl th:TO):TE:=fun σ H Q=>te σ H fun x H1=>tl σ H1 fun l H2=>th σ H2 fun u H3=>r x l u H3 Q
theorem sL{r:V->Option Int->Option Int->Hp->VK->Prop}(hr:SlR X r)(he:PE X e te)(hl:PO X lo tl)(hu:PO X hi th):PE X (.Subscript e (.Slice lo hi none p2) pos) (tSl r te tl th):=by
 intro pins s σ H Q I h
 refine Subscript_ (thn (he pins s σ H _ I h) fun v s1 ⟨x,H1,I1,r1,q1⟩=>?_)
 refine wpAny_Slice (thn (hl pins s1 σ H1 _ I1 q1) fun vl s2 ⟨l,H2,I2,pl,q2⟩=>thn (hu pins s2 σ H2 _ I2 q2) fun vu s3 ⟨u,H3,I3,pu,q3⟩=>?_)
 rw[evalPart_none]
 refine wpAny_pure ?_
 have I4:Inv X pins σ H3 { s3 with heap:=s3.heap.push { cls:=.type "slice",data:=.fields #[vl,vu,.none] } }:=I3.kept (t':=s3.toks) fun b ob q=>Heap.get?_push_of_some _ q
 obtain⟨T,id,hT,ht,hg⟩:=hr pins { s3 with heap:=s3.heap.push { cls:=.type "slice",data:=.fields #[vl,vu,.none] } } σ H3 x v vl vu l u s3.heap.objs.size Q I4 r1 (Heap.IsSliceOf.new ..) pl pu q3
 show wpAny (model X.prog X.w) X.A (subscriptTail e (.Slice lo hi none p2) v (.ref s3.heap.objs.size)) (EP X pins σ Q) X.xe { s3 with heap:=s3.heap.push { cls:=.type "slice",data:=.fields #[vl,vu,.none] } }
 exact tail_any (ops:=[.ref s3.heap.objs.size,v]) ht hT hg (by with_unfolding_all rfl)
def cutV(xs:List V)(lo hi:Option Int):List V:=(xs.drop (HT.sIx xs.length 0 lo)).take (HT.sIx xs.length xs.length hi-HT.sIx xs.length 0 lo)
theorem Ae(xs:List V)(lo hi:Option Int):(cutV xs lo hi).length<=xs.length:=by
 unfold cutV
 rw[Ku,KL]
 omega
end
end L2
namespace L2
open PySem PySem.Spec PyProof.Rows
def ixN(n:Nat)(i:Int):Option Nat:=if 0<=i then(if i<n then some i.toNat else none) else if -(n:Int)<=i then some (i+n).toNat else none
def atI{α:Type}(xs:List α)(i:Int):Option α:=(ixN xs.length i).bind fun j=>xs[j]?
theorem EB{n:Nat}{i:Int}{j:Nat}(h:ixN n i=some j):seqIndex? i n=some j/\j<n/\-(n:Int)<=i/\i<n:=by
 unfold ixN at h
 by_cases h0:0<=i
 ·rw[if_pos h0]at h
  by_cases h1:i<n
  ·rw[if_pos h1]at h
   have e:i.toNat=j:=JZ h
   exact⟨by rw[seqIndex_of h0 h1,e],by omega,by omega,h1⟩
  ·rw[if_neg h1]at h;cases h
 ·rw[if_neg h0]at h
  by_cases h1 : -(n:Int)<=i
  ·rw[if_pos h1]at h
   have e:(i+n).toNat=j:=JZ h
   exact⟨by rw[seqIndex_neg (by omega) h1,e],by omega,h1,by omega⟩
  ·rw[if_neg h1]at h;cases h
theorem FE{α:Type}{xs:List α}{i:Int}{v:α}(h:atI xs i=some v):∃ j,seqIndex? i xs.length=some j/\xs[j]?=some v/\j<xs.length/\-(xs.length:Int)<=i/\i<xs.length:=by
 unfold atI at h
 cases e:ixN xs.length i with
 |none=>rw[e]at h;cases h
 |some j =>
  rw[e]at h
  obtain⟨h1,h2,h3,h4⟩:=EB e
  exact⟨j,h1,h,h2,h3,h4⟩
theorem aM{α:Type}{xs:List α}{j:Nat}{v:α}(h:xs[j]?=some v):atI xs (j:Int)=some v:=by
 have hj:j<xs.length:=(JK.mp h).1
 have e:ixN xs.length (j:Int)=some j:=by
  unfold ixN
  rw[if_pos (by omega),if_pos (by omega)];simp
 unfold atI;rw[e];exact h
def JI(b:Expr):Prop:=∀ o i,subscripted b false o i=operate [o,i] (getItem o i)
def IxR(X:Cx)(r:R2):Prop :=
 ∀(value slice:Expr)(pins:List (Addr×Obj))(s:Shared)(σ:St)(H:Hp)(x y:V)(v u:Value)(Q:VK),Inv X pins σ H s->RelV x v->RelV y u->r x y H Q ->
  subscripted slice false v u=operate [v,u] (getItem v u)->wpAny (model X.prog X.w) X.A (subscriptTail value slice v u) (EP X pins σ Q) X.xe s
def MtR(X:Cx)(id:String)(r:V->List V->Hp->VK->Prop):Prop :=
 ∀(pins:List (Addr×Obj))(s:Shared)(σ:St)(H:Hp)(x:V)(xs:List V)(v:Value)(us:List Value)(Q:VK),Inv X pins σ H s->RelV x v->Vals xs us->r x xs H Q ->
  wpAny (model X.prog X.w) X.A (call (.builtin id) (v::us)) (EP X pins σ Q) X.xe s
section
variable{X:Cx}{a b:Expr}{ta tb:TE}{pos:Pos}
theorem aD{r:R2}(hr:IxR X r)(ha:PE X a ta)(hb:PE X b tb)(hs:JI b):PE X (.Subscript a b pos) (tOp r ta tb):=by
 intro pins s σ H Q I h
 exact Subscript_ (binT ha hb I h fun v u s2 x y H2 I2 rx ry q=>hr a b pins s2 σ H2 x y v u Q I2 rx ry q (hs _ _))
def rIxL(K:JN):R2:=fun x y H Q=>∃ p xs i v,x=.ref p/\y=.int i/\SqL K H p xs/\atI xs i=some v/\Q v H
def rIxT(K:JN):R2:=fun x y H Q=>∃ p xs i v,x=.ref p/\y=.int i/\SqT K H p xs/\atI xs i=some v/\Q v H
theorem aN:IxR X (rIxL X.K):=by
 intro value slice pins s σ H x y v u Q I rx ry h hs
 obtain⟨p,xs,i,z,rfl,rfl,hq,he,q⟩:=h
 cases rx
 obtain⟨t,rfl⟩:=ry
 obtain⟨its,r,pl,hz⟩:=I.list hq
 obtain⟨j,h1,h2,h3,h4,h5⟩:=FE he
 obtain⟨w,ew,rw'⟩:=r.get h2
 have hl:=r.length
 have hn:=wa
 have fin:EP X pins σ Q w s:=⟨z,H,I,rw',q⟩
 by_cases h0:0<=i
 ·have hj:i.toNat=j:=by
   rw[seqIndex_of h0 h5]at h1
   exact JZ h1
  exact item_listR pl.isList h0 (by omega) (by rw[hj];simpa using ew) fin hs
 ·have hj:(i+(its.toArray.size:Int)).toNat=j:=by
   rw[seqIndex_neg (by omega) h4]at h1
   rw[Ko,← hl]
   exact JZ h1
  exact subscriptTail_builtinR (x:=w) pl.isList.typeIs slot_list_getitem.lookup
   (wpAny_getItem_list_neg (Q:=fun r s'=>r=w/\EP X pins σ Q r s') pl.isList (by omega) (by rw[Ko]<;>omega) (by omega) (by rw[hj];simpa using ew) ⟨rfl,fin⟩) hs
theorem aJ:IxR X (rIxT X.K):=by
 intro value slice pins s σ H x y v u Q I rx ry h hs
 obtain⟨p,xs,i,z,rfl,rfl,hq,he,q⟩:=h
 cases rx
 obtain⟨t,rfl⟩:=ry
 obtain⟨its,r,pl,hz⟩:=I.tuple hq
 obtain⟨j,h1,h2,h3,h4,h5⟩:=FE he
 obtain⟨w,ew,rw'⟩:=r.get h2
 have hl:=r.length
 have hn:=wa
 have fin:EP X pins σ Q w s:=⟨z,H,I,rw',q⟩
 exact subscriptTail_builtinR (x:=w) pl.typeIs slot_tuple_getitem.lookup
  (getItem_tuple (j:=j) (Q:=fun r s'=>r=w/\EP X pins σ Q r s') pl (by omega) (by omega) (by rw[Ko,← hl];exact h1) (by simpa using ew) ⟨rfl,fin⟩) hs
theorem B9(its:List Value)(n j:Nat)(u:Value):Obj.mapSeq (·.setIfInBounds j u) { cls:=.type "list",data:=.seq its.toArray n }={ cls:=.type "list",data:=.seq (its.set j u).toArray n }:=by
 simp[Obj.mapSeq]
theorem Inv.lst{pins:List (Addr×Obj)}{σ:St}{H:Hp}{s:Shared}{p:Addr}{xs:List V}(I:Inv X pins σ H s)(h:H p=some (.lst xs)) :
  ∃(its:List Value)(n:Nat),Vals xs its/\s.heap.get? p=some { cls:=.type "list",data:=.seq its.toArray n }/\xs.length<=sizeLine:=by
 obtain⟨z,its,n,r,e⟩:=I.hok p _ h
 exact⟨its,n,r,e,z⟩
theorem Inv.lstUpd{pins:List (Addr×Obj)}{σ:St}{H:Hp}{s:Shared}{p:Addr}{xs ys:List V}{its its':List Value}{n n':Nat}{f:Obj->Obj}(I:Inv X pins σ H s)(h:H p=some (.lst xs))
  (ho:s.heap.get? p=some { cls:=.type "list",data:=.seq its.toArray n }) (hf:f { cls:=.type "list",data:=.seq its.toArray n }={ cls:=.type "list",data:=.seq its'.toArray n' }) (r:Vals ys its') (hz:ys.length<=sizeLine) (t:Nat) :
  Inv X pins σ (upd H p (.lst ys)) { s with heap:=s.heap.update p f,toks:=t }:=by
 have e:(s.heap.update p f).get? p=some { cls:=.type "list",data:=.seq its'.toArray n' }:=by
  rw[Heap.get?_update_self f ho (by rw[hf]<;>rfl),hf]
 refine I.write (x:=p) (e:=p) (by rw[h];trivial) (.inl rfl) (fun b u hb q=>(Heap.get?_update_other _ _ (Ne.symm hb)).trans q) ⟨_,e⟩ ?_
 exact⟨hz,its',n',r,e⟩
def rSetL:V->V->V->Hp->(Hp->Prop)->Prop:=fun o i v H Q=>∃ p xs k j,o=.ref p/\i=.int k/\H p=some (.lst xs)/\ixN xs.length k=some j/\Q (upd H p (.lst (xs.set j v)))
theorem AY:PSet X rSetL:=by
 intro pins s σ H o i v ov iv u Q I ro ri rv h
 obtain⟨p,xs,k,j,rfl,rfl,hp,hj,q⟩:=h
 cases ro
 obtain⟨t,rfl⟩:=ri
 obtain⟨its,n,r,ho,hz⟩:=I.lst hp
 obtain⟨h1,h2,h3,h4⟩:=EB hj
 have hl:=r.length
 have hn:=wa
 have I':Inv X pins σ (upd H p (.lst (xs.set j v))) { s with heap:=s.heap.update p (Obj.mapSeq (·.setIfInBounds j u)) } :=
  I.lstUpd hp ho (B9 its n j u) (r.set rv j) (by rw[KQ];exact hz) s.toks
 by_cases h0:0<=k
 ·have hk:k.toNat=j:=by
   rw[seqIndex_of h0 h4]at h1
   exact JZ h1
  exact PySem.W.ki_setAt ho h0 (by omega) (by rw[Ko,← hl];exact h4) (by rw[hk];exact⟨_,I',q⟩)
 ·have hk:(k+(its.toArray.size:Int)).toNat=j:=by
   rw[seqIndex_neg (by omega) h3]at h1
   rw[Ko,← hl]
   exact JZ h1
  exact PySem.W.ki_setBack ho (by omega) (by rw[Ko,← hl];exact h3) (by omega) (by rw[hk];exact⟨_,I',q⟩)
theorem uR(lo hi:Option Int)(n:Nat):(sliceBounds lo hi none n).1=((HT.sIx n 0 lo:Nat):Int)/\(sliceBounds lo hi none n).2.1=((HT.sIx n n hi:Nat):Int)/\(sliceBounds lo hi none n).2.2=1:=by
 refine⟨?_,?_,rfl⟩
 ·cases lo with
  |none=>simp[sliceBounds,HT.sIx]
  |some i =>
   simp only[sliceBounds,HT.sIx,Option.getD_none,show(1:Int) > 0 by decide,if_true]
   by_cases h:i<0
   ·simp only[h,if_true]<;>omega
   ·simp only[h,if_false]<;>omega
 ·cases hi with
  |none=>simp[sliceBounds,HT.sIx]
  |some i =>
   simp only[sliceBounds,HT.sIx,Option.getD_none,show(1:Int) > 0 by decide,if_true]
   by_cases h:i<0
   ·simp only[h,if_true]<;>omega
   ·simp only[h,if_false]<;>omega
theorem rV(its:List Value)(lo hi:Option Int):slicePick its.toArray lo hi none=((its.drop (HT.sIx its.length 0 lo)).take (HT.sIx its.length its.length hi-HT.sIx its.length 0 lo)).toArray:=by
 obtain⟨h1,h2,h3⟩:=uR lo hi its.toArray.size
 unfold slicePick
 rw[h1,h2,h3]
 simp only[sliceRange_one,pick_run,Ko]<;>rfl
def rSlL(K:JN):V->Option Int->Option Int->Hp->VK->Prop:=fun x lo hi H Q=>∃ a xs,x=.ref a/\SqL K H a xs/\∀ p,H p=none->Q (.ref p) (upd H p (.lst (cutV xs lo hi)))
theorem yh:SlR X (rSlL X.K):=by
 intro pins s σ H x v vl vu lo hi sl Q I rx hs pl pu h
 obtain⟨a,xs,rfl,hx,q⟩:=h
 cases rx
 obtain⟨its,r,ht,hz⟩:=I.list hx
 have hlen:=r.length
 refine⟨"list",_,slot_list_getitem.lookup,ht.isList.typeIs,?_⟩
 refine wpAny_getItem_list_slice ht.isList hs pl pu .none (by simp) ?_ (by rw[Ko]<;>omega)
 rw[rV,← hlen]
 refine⟨.ref s.heap.objs.size,_,I.laid (t':=s.toks) (o:=.lst (cutV xs lo hi)) (fun b ob q=>Heap.get?_push_of_some _ q) (JQ _) ?_,rfl,q _ (I.hok.fresh (JQ _))⟩
 exact⟨KR (Ae xs lo hi) hz,_,0,(r.drop (HT.sIx xs.length 0 lo)).take (HT.sIx xs.length xs.length hi-HT.sIx xs.length 0 lo),Heap.get?_push_size _ rfl⟩
theorem ax:mm X (.builtin "len") (fun xs H Q=>∃ p ys,xs = [.ref p]/\(SqL X.K H p ys∨SqT X.K H p ys)/\Q (.int ys.length) H):=by
 intro pins s σ H xs us Q I r h
 obtain⟨p,ys,rfl,hq,q⟩:=h
 obtain⟨u,rfl,rx⟩:=rE r
 cases rx
 have hn:=wa
 rcases hq with hq | hq
 ·obtain⟨its,r',pl,hz⟩:=I.list hq
  have hlen:=r'.length
  exact Calls.call_len_list pl.isList (by simp only[Ko]<;>omega) ⟨.int ys.length,H,I.tok _,⟨s.toks+1,by rw[Ko,hlen]⟩,q⟩
 ·obtain⟨its,r',pl,hz⟩:=I.tuple hq
  have hlen:=r'.length
  exact len_tuple pl (by simp only[Ko]<;>omega) ⟨.int ys.length,H,I.tok _,⟨s.toks+1,by rw[Ko,hlen]⟩,q⟩
theorem cv:mm X (.type "list") (fun xs H Q=>∃ p ys,xs = [.ref p]/\(SqL X.K H p ys∨SqT X.K H p ys)/\∀ l,H l=none->Q (.ref l) (upd H l (.lst ys))):=by
 intro pins s σ H xs us Q I r h
 obtain⟨p,ys,rfl,hq,q⟩:=h
 obtain⟨u,rfl,rx⟩:=rE r
 cases rx
 have fin:∀(its:List Value),Vals ys its->ys.length<=sizeLine->∀(h':Heap)(c':Nat),(∀ b o',s.heap.get? b=some o'->h'.get? b=some o') ->
   h'.get? s.heap.objs.size=some { cls:=.type "list",dict:=none,data:=.seq its.toArray c',slots:=#[] }->EP X pins σ Q (.ref s.heap.objs.size) { s with heap:=h' }:=fun its r' hz h' c' kp e =>
  ⟨.ref s.heap.objs.size,_,I.laid (t':=s.toks) kp (JQ _) (show bA X.prog X.w _ h' _ (.lst ys) from⟨hz,its,c',r',e⟩),rfl,q _ (I.hok.fresh (JQ _))⟩
 rcases hq with hq | hq
 ·obtain⟨its,r',pl,hz⟩:=I.list hq
  have hlen:=r'.length
  obtain⟨o,ho,hc,n,hd⟩:=pl.isList
  exact call_list_seq p (.inl rfl) ho hc hd (fun h' c' kp e=>fin its r' hz h' c' kp e) (by simp only[Ko]<;>omega)
 ·obtain⟨its,r',pl,hz⟩:=I.tuple hq
  have hlen:=r'.length
  obtain⟨o,ho,hc,n,hd⟩:=pl
  exact call_list_seq p (.inr rfl) ho hc hd (fun h' c' kp e=>fin its r' hz h' c' kp e) (by simp only[Ko]<;>omega)
def tyV(K:JN)(T:String)(x:V)(H:Hp):Prop:=match x with
 |.str _=>T = "str"
 |.int _=>T = "int"
 |.ref p=>(T = "list"/\∃ xs,SqL K H p xs)∨(T = "tuple"/\∃ o,K.lookup p=some o/\o.cls=.type "tuple"/\o.dict=none) ∨
   (T = "dict"/\((∃ kvs,H p=some (.dK kvs))∨∃ kvs,H p=some (.dT kvs)))∨(T = "set"/\∃ S n,H p=some (.set S n))
 |_=>False
theorem Hd{pins:List (Addr×Obj)}{σ:St}{H:Hp}{s:Shared}{T:String}{x:V}{v:Value}(I:Inv X pins σ H s)(r:RelV x v)(ty:tyV X.K T x H) :
  s.TypeIs v T/\∀ a,v=.ref a->∃ ob,s.heap.get? a=some ob/\ob.dict=none:=by
 cases x with
 |str z =>
  obtain⟨t,rfl⟩:=r
  cases (show T = "str" from ty)
  exact⟨typeIs_str s z t,fun _ e=>nomatch e⟩
 |int i =>
  obtain⟨t,rfl⟩:=r
  cases (show T = "int" from ty)
  exact⟨typeIs_int s i t,fun _ e=>nomatch e⟩
 |ref p =>
  cases r
  rcases ty with⟨rfl,xs,hq⟩ | ⟨rfl,o,hk,hc,hd⟩ | ⟨rfl,hk⟩ | ⟨rfl,S,n,hk⟩
  ·obtain⟨its,_,pl,_⟩:=I.list hq
   refine⟨pl.isList.typeIs,fun a e=>?_⟩
   cases e
   obtain⟨o,n,e,c,hd,_⟩:=pl
   exact⟨o,e,hd⟩
  ·refine⟨⟨o,I.kIn p o hk,hc⟩,fun a e=>?_⟩
   cases e
   exact⟨o,I.kIn _ o hk,hd⟩
  ·have z:∃ o,s.heap.get? p=some o/\o.ExactDict:=by
    rcases hk with⟨kvs,hk⟩ | ⟨kvs,hk⟩
    ·obtain⟨_,_,_,_,o,_,_,e,ex,_⟩:=I.hok p _ hk
     exact⟨o,e,ex⟩
    ·obtain⟨_,_,_,_,o,_,_,e,ex,_⟩:=I.hok p _ hk
     exact⟨o,e,ex⟩
   obtain⟨o,e,ex⟩:=z
   refine⟨⟨o,e,ex.1⟩,fun a e2=>?_⟩
   cases e2
   exact⟨o,e,ex.2.1⟩
  ·obtain⟨o,_,_,_,e,ex,_⟩:=I.hok p _ hk
   refine⟨⟨o,e,ex.1⟩,fun a e2=>?_⟩
   cases e2
   exact⟨o,e,ex.2.1⟩
 |_=>exact False.elim ty
def tBM0(K:JN)(T:String)(r:V->List V->Hp->VK->Prop)(to:TE):TE:=fun σ H Q=>to σ H fun x H1=>tyV K T x H1/\r x [] H1 Q
def tBM(K:JN)(T:String)(r:V->List V->Hp->VK->Prop)(to:TE)(t:TA):TE:=fun σ H Q=>to σ H fun x H1=>tyV K T x H1/\t σ H1 fun xs H2=>r x xs H2 Q
variable{o e:Expr}{es:List Expr}{to:TE}{t:TA}{name:Str}{apos cpos:Pos}{T id:String}{r:V->List V->Hp->VK->Prop}
theorem Ht(pa:PlainAttrs T)(slot:Slot T name id) (hty:typeOf (.builtin id)=pure (.type "method_descriptor")) (hm:MtR X id r) (ho:PE X o to)
  (hbase:attributeBase o name X.env (eval o X.env)=eval o X.env:=by rfl) (hline:(apos.endLine == cpos.line)=true:=by rfl):PE X (.Call (.Attribute o name apos) [] [] cpos) (tBM0 X.K T r to):=by
 intro pins s σ H Q I h
 refine wpAny_Call_method0_late hbase hline (thn (ho pins s σ H _ I h) fun v s1 ⟨x,H1,I1,r1,ty,q1⟩=>?_)
 obtain⟨h1,h2⟩:=Hd I1 r1 ty
 exact⟨T,id,pa,slot,hty,h1,h2,Calls.callWith_builtin rfl (PySem.evalArgs_none (hm pins s1 σ H1 x [] v [] Q I1 r1 .nil q1))⟩
theorem fH(pa:PlainAttrs T)(slot:Slot T name id) (hty:typeOf (.builtin id)=pure (.type "method_descriptor")) (hm:MtR X id r) (ho:PE X o to) (ha:PA X (e::es) t)
  (hbase:attributeBase o name X.env (eval o X.env)=eval o X.env:=by rfl)
  (hfew:((backTo cpos (starEach (e::es) X.env)).all (fun x=>!x.1)&&(backToKw cpos (keywordEach [] X.env)).all (fun x=>x.1.isSome)
   && decide ((e::es).length+([]:List Keyword).length+(if([]:List Keyword).isEmpty then 0 else 1)<30))=true:=by rfl)
  (hline:(apos.endLine == cpos.line)=true:=by rfl) (hs:starEach (e::es) X.env=(false,eval e X.env)::starEach es X.env:=by rfl) (hplain:(backTo cpos (starEach es X.env)).any (·.1)=false:=by rfl) :
  PE X (.Call (.Attribute o name apos) (e::es) [] cpos) (tBM X.K T r to t):=by
 intro pins s σ H Q I h
 refine wpAny_Call_method_late hbase hfew hline rfl (thn (ho pins s σ H _ I h) fun v s1 ⟨x,H1,I1,r1,ty,q1⟩=>?_)
 obtain⟨h1,h2⟩:=Hd I1 r1 ty
 refine⟨T,id,pa,slot,hty,h1,h2,?_⟩
 have hA:=ha cpos pins s1 σ H1 _ I1 q1
 rw[hs]at hA ⊢
 refine Calls.callWith_builtin (by show(false||(backTo cpos (starEach es X.env)).any (·.1))=false;rw[hplain]<;>rfl) (Calls.evalArgs_plain ?_)
 exact thn hA fun us s2 ⟨vs,H2,I2,r2,q2⟩=>hm pins s2 σ H2 x vs v us Q I2 r1 r2 q2
end
end L2
namespace L2
open PySem PySem.Spec PyProof.Rows
def MtM(X:Cx)(id:String)(r:V->List V->Hp->VK->Prop):Prop :=
 ∀(pins:List (Addr×Obj))(s:Shared)(σ:St)(H:Hp)(x:V)(xs:List V)(v:Value)(us:List Value)(Q:VK),Inv X pins σ H s->RelV x v->Vals xs us->r x xs H Q ->
  wpAny (model X.prog X.w) X.A (call (.builtin id) (v::us)) (EP X pins σ Q) X.xe s
theorem Vals.one:∀{x:V}{us:List Value},Vals [x] us->∃ u,us = [u]/\RelV x u
 |_,_,.cons r .nil=>⟨_,rfl,r⟩
theorem Vals.two:∀{x y:V}{us:List Value},Vals [x,y] us->∃ u v,us = [u,v]/\RelV x u/\RelV y v
 |_,_,_,.cons r (.cons q .nil)=>⟨_,_,rfl,r,q⟩
theorem Vals.zero:∀{us:List Value},Vals [] us->us = []
 |_,.nil=>rfl
section
variable{X:Cx}{pins:List (Addr×Obj)}{σ:St}{H:Hp}{s:Shared}{l b:Addr}{xs ys zs:List V}
theorem Inv.lset{its its':List Value}{n:Nat}{f:Array Value->Array Value}{t':Nat}(I:Inv X pins σ H s)(hH:H l=some (.lst xs))
  (e:s.heap.get? l=some { cls:=.type "list",data:=.seq its.toArray n }) (hf:f its.toArray=its'.toArray) (hv:Vals ys its') (hz:ys.length<=sizeLine) :
  Inv X pins σ (upd H l (.lst ys)) { s with heap:=s.heap.update l (Obj.mapSeq f),toks:=t' }:=by
 have q:=PySem.IsL.update e f
 rw[hf]at q
 refine I.write (x:=l) (e:=l) (by rw[hH];exact trivial) (.inl rfl) (fun b' u hb hu=>(Heap.get?_update_other s.heap (Obj.mapSeq f) (Ne.symm hb)).trans hu) ⟨_,q⟩ ?_
 exact⟨hz,its',_,hv,q⟩
theorem Inv.lnew{its:List Value}{t':Nat}(I:Inv X pins σ H s)(hv:Vals ys its)(hz:ys.length<=sizeLine) :
  Inv X pins σ (upd H s.heap.objs.size (.lst ys)) { s with heap:=s.heap.push { cls:=.type "list",data:=.seq its.toArray },toks:=t' } :=
 I.laid (fun _ _ q=>Heap.get?_push_of_some _ q) (JQ _) ⟨hz,its,0,hv,Heap.get?_push_size _ rfl⟩
theorem Inv.fresh(I:Inv X pins σ H s):H s.heap.objs.size=none:=I.hok.fresh (JQ _)
theorem Inv.lstM(I:Inv X pins σ H s)(hH:H l=some (.lst xs)):xs.length<=sizeLine/\∃(its:List Value)(n:Nat),Vals xs its/\xs.length=its.length/\s.heap.get? l=some { cls:=.type "list",data:=.seq its.toArray n }:=by
 obtain⟨z,its,n,r,e⟩:=I.hok l _ hH
 exact⟨z,its,n,r,r.length,e⟩
end
section
variable{X:Cx}
def IF:V->List V->Hp->VK->Prop:=fun x vs H Q=>∃ l xs y,x=.ref l/\vs = [y]/\H l=some (.lst xs)/\xs.length<sizeLine/\Q .non (upd H l (.lst (xs++[y])))
theorem bz:MtM X "list.append" IF:=by
 intro pins s σ H x vs v us Q I rx rv h
 obtain⟨l,xs,y,rfl,rfl,hH,hz,q⟩:=h
 cases rx
 obtain⟨u,rfl,ru⟩:=rv.one
 obtain⟨z,its,n,r,hl,e⟩:=I.lstM hH
 refine call_meets F.slot_list_append ⟨_,e,rfl⟩ F.entry_list_append (F.args_list_append_2 _ _) (PySem.list_append l its.toArray n u (by rw[Ko];omega)) ⟨e,?_⟩
 refine⟨.non,_,I.lset (its':=its++[u]) hH e (by simp) (r.append (.cons ru .nil)) ?_,rfl,q⟩
 rw[JO,JW]
 omega
def rCat:R2:=fun x y H Q=>∃ l b xs zs,x=.ref l/\y=.ref b/\H l=some (.lst xs)/\H b=some (.lst zs)/\xs.length+zs.length<=sizeLine/\∀ p,H p=none->Q (.ref p) (upd H p (.lst (xs++zs)))
theorem op_cat:OpR X (binaryOp .Add) rCat:=by
 intro pins s σ H x y v u Q I rx ry h
 obtain⟨l,b,xs,zs,rfl,rfl,hH,hB,hz,q⟩:=h
 cases rx
 cases ry
 obtain⟨z,its,n,r,hl,e⟩:=I.lstM hH
 obtain⟨z2,its2,n2,r2,hl2,e2⟩:=I.lstM hB
 refine PySem.P.add_list e e2 ?_ (by rw[Ko,Ko];omega)
 have ea:its.toArray++its2.toArray=(its++its2).toArray:=by simp
 rw[ea]
 exact⟨.ref _,_,I.lnew (t':=s.toks) (r.append r2) (by rw[JO];omega),rfl,q _ I.fresh⟩
end
section
variable{prog:Program}{w:World}{A:Around}{E:Value->Shared->Prop}{s:Shared}
end
section
variable{X:Cx}
end
end L2
namespace Att
open PySem PySem.W PySem.Calls PyProof.Rows
theorem o4{P:Params}{h:Heap}:∀(ns:List Int)(vs:List Value),WellAll P h vs (ns.map WData.int)->IntsAre vs ns:=by
 intro ns
 induction ns with
 |nil =>
  intro vs w
  rw[Nt]at w
  cases w
  exact .nil
 |cons n ns ih =>
  intro vs w
  rw[KA]at w
  cases w with
  |cons a b =>
   cases a
   exact .cons _ _ (ih _ b)
theorem DA{l:OpenLaw}{n:Nat}(hn:l.most=some n){P:Params}{h:Heap}{args:List WData}{vals:List Value}
  (hpre:l.row.toRowW.claim.pre args=true) (hwl:WellAll P h vals args) :
  ∃ a vs ns,vals = [Value.ref a]/\args = [WData.list (ns.map WData.int)]/\h.get? a=some { cls:=.type "list",data:=.seq vs.toArray }/\IntsAre vs ns/\ns.length<=n:=by
 have hsh:WShape.hasAll [] args [.list .int]=true:=(pre_splitW hpre).1
 have hc:l.pre.holds [] { args:=args }=true:=(pre_splitW hpre).2
 obtain⟨d,r,rfl,h1,h2⟩:=hasAllW_cons hsh
 obtain rfl:=hasAllW_nil h2
 obtain⟨xs,rfl,h3⟩:=hasW_list h1
 obtain⟨ns,rfl⟩:=items_int h3
 have hlen:ns.length<=n:=by
  unfold OpenLaw.pre at hc
  have h4:(WTm.not (.lt (.lit (.int (n:Int))) (.len (.arg 0)))).holds [] { args:=[.list (ns.map .int)] }=true:=by
   have h4:=(holds_andW hc).1
   rw[hn]at h4
   exact h4
  have h5:=condW_of h4 (w_not (w_lt w_lit (w_len_list (w_arg rfl))))
  rw[JS]at h5
  refine Nat.le_of_not_lt fun q=>?_
  have q':(n:Int)<((ns.length:Nat):Int):=by omega
  first
   | (rw[decide_eq_true q']at h5;exact absurd h5 (by decide))
   | (simp at h5;omega)
 cases hwl with
 |cons w1 w2 =>
  cases w2
  cases w1 with
  |list ho hall=>exact⟨_,_,ns,rfl,rfl,ho,o4 ns _ hall,hlen⟩
theorem DJ(l:OpenLaw)(args:List WData):l.row.toRowW.claim.post args (.bool true) args=true :=
 postW_of (r:=l.row.toRowW) (X:=(true == true))
  (show WShape.has [] (.bool true) .bool=true by first | rfl | decide | simp[WShape.has,WShape.arms,WShape.armsAll])
  (show(WTm.eq .res (.lit (.bool true))).value [] { args:=args,res:=some (.bool true),after:=args }=some (.bool (true == true)) from w_eq_bool (w_res rfl) w_lit) rfl
theorem attach_call{l:OpenLaw}{n:Nat}{q:Program}{loose:List Str}{XP:(Str->Option Value)->Heap->Prop}{YP:World->Heap->Prop}{d:DefRec}
  (hn:l.most=some n) (hdf:d.params.defaults = [])
  (call:∀(w:World)(s₀ s₁:Shared)(mg mb:Str->Option Value)(fa:Addr)(o:Obj)(pm cd doc:Value)(a:Addr)(vs:List Value)(ns:List Int),
   Ground q loose [] XP w s₀ mg mb s₁.heap->YP w s₁.heap ->
   s₁.heap.get? fa=some o->o.data=.func (docDef d.name d.params d.body d.scope pm cd doc)->s₁.heap.CodeRec cd d.name->mg d.name=some (.ref fa) ->
   s₁.heap.get? a=some { cls:=.type "list",data:=.seq vs.toArray }->IntsAre vs ns->ns.length<=n->s₁.gens=#[] ->
   codeAny (model l.prog w) callerA (.call (.ref fa) ⟨[.ref a],[]⟩) (fun r s'=>r=.ok (.ret (.bool true))/\OldK s₁.heap s'.heap/\s'.os=s₁.os/\AllBare s'.gens) s₁) :
  WalkO q loose XP YP l.row.toRowW d [] (fun f vs=>PySem.call f vs):=by
 intro w s₀ s₁ mg mb G Y fa o pm cd doc dV kV ho hd hcd hD hmg hg args vals as hpre hlay hrd hwl hlo
 obtain rfl:dV=.none:=Dflts.none hD hdf
 obtain rfl:kV=.none:=Dflts.noKw hD
 obtain⟨a,vs,ns,rfl,rfl,hobj,hints,hlen⟩:=DA hn hpre hwl
 refine enter_call (codeAny_mono (call w s₀ s₁ mg mb fa o pm cd doc a vs ns G Y ho (fd_plain hd) hcd hmg hobj hints hlen hg) fun r s' hq=>?_)
 obtain⟨rfl,h2,h3,h4⟩:=hq
 exact⟨.inl ⟨.bool true,.bool true,[],rfl,fun _=>rfl,.bool true,DJ l _,fun _=>⟨Nq,fun _ hm=>(nomatch hm)⟩⟩,h2,h3,h4⟩
section
variable{prog:Program}{w:World}{A:Around}{E:Value->Shared->Prop}{s:Shared}{K:Frag}
end
end Att
namespace L2
open PySem PySem.Spec PyProof.Rows
theorem uM:∀{vs:List Value}{ns:List Int},IntsAre vs ns->Vals (ns.map V.int) vs
 |_,_,.nil=>.nil
 |_,_,.cons n t h=>.cons ⟨t,rfl⟩ (uM h)
def Only(H:Hp):Prop:=∀ b,H b=none∨∃ o xs,H b=some (.frz o (.lst xs))
theorem GQ{P:Program}{w:World}{K:JN}{mg mb:Str->Option Value}{CX:CXT}{k:Nat}{fa a:Addr}{fd:FuncData}{x:Str}{sp:Sp}{s₁:Shared}{vs:List Value}{ns:List Int}
  (KX:K.In s₁.heap) (hns:s₁.heap.Ns mainGlobals mg) (hb:s₁.heap.Ns builtinsNs mb) (hbb:∀ x:Str,x≠"__name__"->mb x=bootBuiltins x) (hlim:s₁.heap.NoLimit) (hg:s₁.gens=#[])
  (ha:s₁.heap.get? a=some { cls:=.type "list",data:=.seq vs.toArray }) (hi:IntsAre vs ns) (hl:ns.length<=sizeLine) (hr:Room k callerA)
  (F:∀ base:Heap,K.In base->base.Ns mainGlobals mg->FnOk P w K mg base CX k fa fd [x] sp) (hbind:∀(s:Shared)(u:Value),BindsTo s fd ⟨[u],[]⟩ [(x,u)])
  (hsp:∀ H:Hp,Only H->SqL K H a (ns.map V.int)->sp [.ref a] H (fun v _=>v=.bl true) fun _ _ _=>False)
  (hCX:∀ H e s',CX [] H s₁ (fun _ _ _=>False) e s'->False) :
  codeAny (model P w) callerA (.call (.ref fa) ⟨[.ref a],[]⟩) (fun r s'=>r=.ok (.ret (.bool true))/\OldK s₁.heap s'.heap/\s'.os=s₁.os/\AllBare s'.gens) s₁:=by
 have rv:=uM hi
 have lenV:=hi.length
 have core:∀ H:Hp,Only H->SqL K H a (ns.map V.int)->HOk P w H s₁.heap->(∀ b,H b≠none->b=a)->(H a≠none->K.lookup a=none) ->
   codeAny (model P w) callerA (.call (.ref fa) ⟨[.ref a],[]⟩) (fun r s'=>r=.ok (.ret (.bool true))/\OldK s₁.heap s'.heap/\s'.os=s₁.os/\AllBare s'.gens) s₁:=by
  intro H hO hS hok hA hK
  have base_of:∀{b:Addr}{o:Obj},s₁.heap.get? b=some o->H b=none->(hidT s₁.heap H).get? b=some o:=fun e n=>GW e n
  have noA:∀{b:Addr}{o:Obj}{es:Array DictEntry}{ep:Nat},s₁.heap.get? b=some o->o.data=.dict es ep->H b=none:=fun{b o es ep} e d=>by
   cases q:H b with
   |none=>rfl
   |some u =>
    have e':b=a:=hA b (by rw[q];simp)
    subst e'
    rw[ha]at e;cases e
    have d':Data.seq vs.toArray _=Data.dict es ep:=d
    cases d'
  have nsK:∀{b:Addr}{m:Str->Option Value},s₁.heap.Ns b m->(hidT s₁.heap H).Ns b m:=fun{b m} ⟨o,es,ep,e,d,r⟩=>⟨o,es,ep,base_of e (noA e d),d,r⟩
  have hKb:K.In (hidT s₁.heap H):=fun b o e=>base_of (KX b o e) (by
   cases q:H b with
   |none=>rfl
   |some u =>
    have e':b=a:=hA b (by rw[q];simp)
    subst e'
    rw[hK (by rw[q];simp)]at e;cases e)
  have hM:Mod K mg (hidT s₁.heap H):=⟨hKb,nsK hns,⟨mb,nsK hb,hbb⟩,let ⟨mc,h1,h2⟩:=hlim;⟨mc,nsK h1,h2⟩⟩
  have e0:Env0 P w K mg (hidT s₁.heap H) callerA [] s₁ H:=⟨rfl,hM,fun b o e=>I9 e,Nat.le_of_eq (ET _ _),trivial,fun b hb=>absurd (show b∈([]:List Addr) from hb) (by simp),hok,.of_eq hg⟩
  refine codeAny_mono ((F _ hKb (nsK hns)).run callerA [] s₁ H ⟨[.ref a],[]⟩ [.ref a] [.ref a] _ _ hr e0 (hbind s₁ (.ref a)) (.cons rfl .nil) (hsp H hO hS)) fun r s' h=>?_
  cases r with
  |error e=>exact(hCX H e s' h).elim
  |ok fl =>
   cases fl with
   |next=>exact False.elim h
   |brk=>exact False.elim h
   |cont=>exact False.elim h
   |ret u =>
    obtain⟨v,H',os,bare,un,hok',r',q⟩:=h
    have q':v=.bl true:=q
    subst q'
    obtain rfl:u=Value.bool true:=r'
    refine⟨rfl,OldK.of_keep fun b o e=>?_,os,bare⟩
    cases q:H b with
    |none=>exact un.keep b o e q (by intro z;exact absurd (show b∈([]:List Addr) from z) (by simp)) (by simp)
    |some u =>
     rcases hO b with z | ⟨ob,xs,z⟩
     ·rw[q]at z;cases z
     ·have z2:=un.frzs b ob _ z
      obtain⟨e1,_⟩:=hok b _ z
      obtain⟨e2,_⟩:=hok' b _ z2
      rw[e]at e1;cases e1
      exact e2
 cases hk:K.lookup a with
 |some o =>
  have e:=KX a o hk
  rw[ha]at e
  cases e
  refine core (fun _=>none) (fun _=>.inl rfl) (.inr ⟨_,vs.toArray,_,hk,rfl,rfl,rfl,by rw[Ko,lenV];exact hl,by simpa using rv⟩) (fun b u z=>by have z':(none:Option HO)=some u:=z;cases z') (fun b z=>absurd rfl z) fun z=>absurd rfl z
 |none =>
  refine core (fun b=>if b=a then some (.frz { cls:=.type "list",data:=.seq vs.toArray } (.lst (ns.map V.int))) else none) (fun b=>?_) (.inl (.inr ⟨{ cls:=.type "list",data:=.seq vs.toArray },if_pos rfl⟩)) (fun b u z=>?_) (fun b z=>?_) fun _=>hk
  ·by_cases hb:b=a
   ·exact .inr ⟨_,_,if_pos hb⟩
   ·exact .inl (if_neg hb)
  ·by_cases hb:b=a
   ·have z':=(if_pos hb).symm.trans z
    cases z'
    subst hb
    exact⟨ha,by rw[JS];exact hl,vs,_,rv,ha⟩
   ·have z':=(if_neg hb).symm.trans z
    cases z'
  ·by_cases hb:b=a
   ·exact hb
   ·exact absurd (if_neg hb) z
end L2
namespace L2
open PySem PySem.Spec PyProof.Rows
theorem walk_of{l:NA}{n k:Nat}{q:Program}{loose:List Str}{XP:(Str->Option Value)->Heap->Prop}{YP:World->Heap->Prop}{d:DefRec}{K:Params->JN}{CX:World->CXT}{sp:World->Sp}{x:Str}
  (hn:l.most=some n) (hn2:n<=sizeLine) (hdf:d.params.defaults = []) (hr:Room k callerA)
  (hY:∀(w:World)(h:Heap),YP w h->(K w.params).In h)
  (F:∀(w:World)(mg:Str->Option Value)(fa:Addr)(h:Heap),(K w.params).In h->h.Ns mainGlobals mg->mg d.name=some (.ref fa) ->
   ∃ fd:FuncData,(∀(s:Shared)(u:Value),BindsTo s fd ⟨[u],[]⟩ [(x,u)]) /\
    ∀ base:Heap,(K w.params).In base->base.Ns mainGlobals mg->FnOk l.prog w (K w.params) mg base (CX w) k fa fd [x] (sp w))
  (hsp:∀(w:World)(H:Hp)(a:Addr)(ns:List Int),ns.length<=n->Only H->SqL (K w.params) H a (ns.map V.int)->sp w [.ref a] H (fun v _=>v=.bl true) fun _ _ _=>False)
  (hCX:∀(w:World)(H:Hp)(s:Shared)(e:Value)(s':Shared),CX w [] H s (fun _ _ _=>False) e s'->False) :
  PySem.W.WalkO q loose XP YP l.row.toRowW d [] (fun f vs=>PySem.call f vs):=by
 refine Att.attach_call hn hdf fun w s₀ s₁ mg mb fa o pm cd doc a vs ns G Y ho hd hcd hmg hobj hints hlen hg=>?_
 have KX:=hY w _ Y
 obtain⟨fd,hb,hF⟩:=F w mg fa _ KX G.T.g hmg
 exact GQ KX G.T.g G.T.b G.T.builtins G.T.nolimit hg hobj hints (KR hlen hn2) hr hF hb (fun H hO hS=>hsp w H a ns hlen hO hS) fun H e s'=>hCX w H s₁ e s'
end L2
namespace L2
open PySem PySem.Spec PyProof.Rows
def lI(s:Stmt)(j:Nat):Stmt:=match s with
 |.ClassDef _ _ _ body _ _ _ _ _ _ _=>body.getD j (.Pass ⟨0,0,0,0⟩)
 |_=>.Pass ⟨0,0,0,0⟩
def aA(s:Stmt):Arguments:=match s with
 |.FunctionDef _ a _ _ _ _ _ _ _ _=>a
 |_=>{ posonlyargs:=[],args:=[],vararg:=none,kwonlyargs:=[],kw_defaults:=[],kwarg:=none,defaults:=[] }
def az(s:Stmt):List Stmt:=match s with
 |.FunctionDef _ _ b _ _ _ _ _ _ _=>b
 |_=>[]
def ai(s:Stmt):Scope:=match s with
 |.FunctionDef _ _ _ _ _ _ sc _ _ _=>sc
 |_=>{ kind:=.function,names:=[],isGenerator:=false,isCoroutine:=false }
abbrev CX0:CXT:=fun _ _ _ _ _ _=>False
abbrev E0:XK:=fun _ _ _=>False
theorem a9{X:Cx}:mO CX0 X E0:=fun _ _ _ _ _ _ _ h=>h.elim
structure Fun(K:JN)(x qual:Str)(st:Stmt)(f:Addr)(fd:FuncData):Prop where
 ex:∃(oc:Value)(od:Option Addr)(kV doc pm:Value)(an:Option Addr)(cdv ct:Value)(osl:Array (Option Value)),
  fd=Kd x qual (aA st) (az st) (ai st) .none kV doc pm an cdv ct/\K.lookup f=some ⟨oc,od,.func fd,osl⟩/\Kb K cdv qual=true
 kp:JX K (.ref f)=true
section
variable{P:Program}{w:World}{K:JN}{mg:Str->Option Value}{base:Heap}
theorem Fun.ok{x qual:Str}{st:Stmt}{f:Addr}{fd:FuncData}{N ps:List Str}{k:Nat}{sp:Sp}(F:Fun K x qual st f fd)(S:aC N ps (ai st))(len:∀ vs H Q E,sp vs H Q E->vs.length=ps.length)
  (hbody:∀(cdv:Value)(A:Around)(outer:List Env)(s:Shared)(H:Hp)(vs:List V)(Q:VK)(E:XK),Room k (A.deeper (envOfC qual (ai st) s.heap.objs.size f cdv))->sp vs H Q E ->
   ∃ t,PSs (cxOf CX0 P w K mg base N qual (ai st) f cdv A outer s H E).nox (az st) t/\t { nx:=fun _ H'=>Q .non H',rt:=Q } (qd N vs) H):FnOk P w K mg base CX0 (k+1) f fd ps sp:=by
 obtain⟨oc,od,kV,doc,pm,an,cdv,ct,osl,rfl,lk,hcd⟩:=F.ex
 refine Jq lk hcd S len fun A outer s H vs Q E hr hsp=>?_
 obtain⟨t,h,q⟩:=hbody cdv A outer s H vs Q E hr hsp
 exact⟨t,h.nox,q⟩
theorem Fun.binds{x qual:Str}{st:Stmt}{f:Addr}{fd:FuncData}{ps:List Str}(F:Fun K x qual st f fd)
  (h:∀(kV doc pm:Value)(an:Option Addr)(cdv ct:Value)(us:List Value),us.length=ps.length->bindArgs (Kd x qual (aA st) (az st) (ai st) .none kV doc pm an cdv ct) ⟨us,[]⟩=pure (ps.zip us)):iL K fd ps []:=by
 obtain⟨oc,od,kV,doc,pm,an,cdv,ct,osl,rfl,lk,hcd⟩:=F.ex
 exact .all (h kV doc pm an cdv ct)
theorem aT{x qual:Str}{st:Stmt}{f:Addr}{oc:Value}{od an:Option Addr}{osl:Array (Option Value)}{kV doc pm cdv ct:Value}(l:K.lookup f=some ⟨oc,od,.func (Kd x qual (aA st) (az st) (ai st) .none kV doc pm an cdv ct),osl⟩)
  (c:Kb K cdv qual=true) (k:JX K (.ref f)=true):Fun K x qual st f (Kd x qual (aA st) (az st) (ai st) .none kV doc pm an cdv ct):=⟨⟨oc,od,kV,doc,pm,an,cdv,ct,osl,rfl,l,c⟩,k⟩
end
theorem Cv{A:Around}{k:Nat}(hr:Room k A):A.units+1<cLine:=Nat.lt_of_le_of_lt (Nat.add_le_add_left (by decide:1<=64) _) hr.units
theorem au{n:Nat}(h:n<=1000):n<sizeLine:=Nat.lt_of_le_of_lt h (by decide)
section
variable{X:Cx}
theorem pv(i:Nat){x:Str}{pos:Pos}(hN:X.N[i]?=some x:=by rfl)(hv:Vis X.env.scope x:=by first | exact Or.inl rfl | exact Or.inr (Or.inl rfl) | exact Or.inr (Or.inr rfl)) (hd:(x == ("__debug__" : Str))=false:=by decide)
  (hcd:(x == ("__classdict__" : Str))=false:=by decide):PE X (.Name x pos) (tVar i):=pe_var hN hv hd hcd
end
theorem iteF{A B:Prop}(h:B):if false=true then A else B:=by
 rw[if_neg Ka]
 exact h
theorem iteT{A B:Prop}(h:A):if true=true then A else B:=by
 rw[if_pos rfl]
 exact h
theorem ite2{c A B:Prop} [Decidable c] (h1:c->A) (h2:¬ c->B):if c then A else B:=by
 by_cases h:c
 ·rw[if_pos h]
  exact h1 h
 ·rw[if_neg h]
  exact h2 h
theorem EE{c A B:Prop} [Decidable c] (hc:c) (h:B):if(!decide c)=true then A else B:=by
 rw[decide_eq_true hc]
 exact iteF h
def Same(H H':Hp):Prop:=∀ b o,H b=some o->H' b=some o
theorem Same.trans{H H1 H2:Hp}(a:Same H H1)(b:Same H1 H2):Same H H2:=fun c o h=>b c o (a c o h)
theorem Same.seq{K:JN}{H H':Hp}{a:Addr}{xs:List V}(e:Same H H')(h:SqL K H a xs):SqL K H' a xs:=by
 rcases h with(h | ⟨o,h⟩) | h
 ·exact .inl (.inl (e _ _ h))
 ·exact .inl (.inr ⟨o,e _ _ h⟩)
 ·exact .inr h
end L2
set_option maxRecDepth 100000
set_option maxHeartbeats 4000000
namespace L2
open PySem PySem.Spec PyProof.Rows
end L2
namespace L2
open PySem PySem.Spec PyProof.Rows
section
variable(P:Program)(w:World)
end
section
variable{P:Program}{w:World}{H H':Hp}{h h':Heap}{a:Addr}{o:HO}
end
section
variable{P:Program}{w:World}{H:Hp}{h h':Heap}{x e:Addr}{o':HO}
end
section
variable{fs fs' ex ex':List Addr}{H H1 H2:Hp}{h h1 h2 h':Heap}{a x e:Addr}{o:HO}
end
end L2
namespace L2
open PySem PySem.Spec PyProof.Rows
section
variable{X:Cx}{pins:List (Addr×Obj)}{σ:List (Option V)}{H H':Hp}{s:Shared}{h':Heap}
end
end L2
namespace L2
open PySem PySem.Spec PyProof.Rows
section
variable{X:Cx}
variable{a b:Expr}{ta tb:TE}{pos:Pos}
variable{tA tB':TT}{rest:List Expr}
end
end L2
namespace L2
open PySem PySem.Spec PyProof.Rows
section
variable{X:Cx}{pins:List (Addr×Obj)}{σ:St}{H:Hp}{s:Shared}{a:Addr}{xs ys:List V}
end
section
variable{X:Cx}{pins:List (Addr×Obj)}{σ:St}{H:Hp}{s:Shared}{E:Value->Shared->Prop}
end
section
variable{X:Cx}{st:Stmt}{rest:List Stmt}{t u:TS}{e:Expr}{te:TE}{pos:Pos}
end
section
variable{X:Cx}{pos:Pos}
end
section
variable{X:Cx}{pos:Pos}
end
end L2
namespace L2
open PySem PySem.Spec PyProof.Rows
section
variable{X:Cx}{tg:Expr}
end
end L2
namespace L2
open PySem PySem.Spec PyProof.Rows
section
variable{X:Cx}{a b c:Expr}{ta tb tc:TE}{pos:Pos}
end
section
variable{X:Cx}{a b c:Expr}{ta tb tc:TE}{pos:Pos}
end
end L2
namespace L2
open PySem PySem.Spec PyProof.Rows
section
variable{prog:Program}{w:World}{A:Around}{E:Value->Shared->Prop}{s:Shared}{K:JN}{x dx C f:Addr}{mA:Str->Option Value}{name:Str}{v:Value}
end
section
variable{P:Program}{w:World}{H H':Hp}{h h':Heap}{a C dx:Addr}{fs fs':List (Str×V)}
end
section
variable{X:Cx}{pins:List (Addr×Obj)}{σ:St}{H:Hp}{s:Shared}{a C dx:Addr}{fs:List (Str×V)}{f:Str}{v:V}{A:Around}{E:Value->Shared->Prop}
end
section
variable{X:Cx}{o e value:Expr}{f:Str}{pos pos' tpos:Pos}{ta tv:TE}
end
section
variable{X:Cx}{pins:List (Addr×Obj)}{σ:St}{H:Hp}{s:Shared}{A:Around}{E:Value->Shared->Prop}{Q:Value->Shared->Prop}{c:Value}{b:Bool}
end
end L2
namespace L2
open PySem PySem.Spec PyProof.Rows
section
variable{X:Cx}{e:Expr}{es:List Expr}{te:TE}{t:TA}{pos:Pos}
end
section
variable{X:Cx}{pins:List (Addr×Obj)}{σ:St}{H:Hp}{s s':Shared}
end
section
variable{X:Cx}{CX:CXT}{k:Nat}{f C:Addr}{fd:FuncData}{ps:List Str}{sp:Sp}{dvs:List V}{ds:List Value}{E:XK}{x m:Str}{p pos apos:Pos}{e o:Expr}{es:List Expr}{ta:TE}{t:TA}
end
section
variable{X:Cx}{CX:CXT}{k:Nat}{f C:Addr}{fd:FuncData}{ps ks:List Str}{sp:Sp}{E:XK}{x m:Str}{p pos apos kpos:Pos}{e o:Expr}{es:List Expr}{kws:List Keyword}{te ta:TE}{t tk:TA}{nm:Option Str}
variable{g:List Value->List Value->List Value}{gV:List V->List V->List V}
end
end L2
namespace L2
open PySem PySem.Spec PyProof.Rows
section
variable{X:Cx}{x:Str}{p pos:Pos}{e:Expr}{es:List Expr}{t:TA}{id T:String}{r:List V->Hp->VK->Prop}
end
end L2
namespace L2
open PySem PySem.Spec PyProof.Rows
section
variable{κ:Type} [DecidableEq κ]
def valV(kvs:List (κ×V))(k:κ):Option V:=(kvs.find? fun kv=>decide (kv.1=k)).map (·.2)
def putK(kvs:List (κ×V))(k:κ)(v:V):List (κ×V) :=
 if(kvs.any fun kv=>decide (kv.1=k))=true then kvs.map (fun kv=>if kv.1=k then(kv.1,v) else kv) else kvs++[(k,v)]
theorem bL{p:κ×V}{r:List (κ×V)}{k:κ}(e:p.1=k):valV (p::r) k=some p.2:=by simp[valV,Ms,e]
theorem bM{p:κ×V}{r:List (κ×V)}{k:κ}(e:¬ p.1=k):valV (p::r) k=valV r k:=by simp[valV,Ms,e]
theorem iN(k:κ):∀ kvs:List (κ×V),(kvs.any fun kv=>decide (kv.1=k))=(valV kvs k).isSome
 |[]=>rfl
 |p::r=>by
  rw[M1]
  by_cases e:p.1=k
  ·simp only[bL e,decide_eq_true e,Bool.true_or,Option.isSome_some]
  ·rw[bM e,decide_eq_false e,Bool.false_or];exact iN k r
theorem AQ(k j:κ)(y:V):∀ kvs:List (κ×V),valV (kvs.map fun kv=>if kv.1=k then(kv.1,y) else kv) j=(valV kvs j).map fun x=>if j=k then y else x
 |[]=>rfl
 |p::r=>by
  have ih:=AQ k j y r
  rw[KA]
  by_cases h:p.1=k
  ·rw[if_pos h]
   by_cases e:p.1=j
   ·rw[bL (p:=(p.1,y)) e,bL e,M8,if_pos (e.symm.trans h)]
   ·rw[bM (p:=(p.1,y)) e,bM e,ih]
  ·rw[if_neg h]
   by_cases e:p.1=j
   ·rw[bL (p:=p) e,bL e,M8,if_neg (fun z=>h (e.trans z))]
   ·rw[bM (p:=p) e,bM e,ih]
theorem uN(k j:κ)(y:V):∀ kvs:List (κ×V),valV kvs k=none->valV (kvs++[(k,y)]) j=if j=k then some y else valV kvs j
 |[],_=>by
  by_cases e:k=j
  ·rw[if_pos e.symm];exact bL (p:=(k,y)) e
  ·rw[if_neg (fun z=>e z.symm)];exact bM (p:=(k,y)) e
 |p::r,hn=>by
  rw[List.cons_append]
  have hk:¬ p.1=k:=fun z=>by rw[bL z]at hn;cases hn
  rw[bM hk]at hn
  have ih:=uN k j y r hn
  by_cases e:p.1=j
  ·rw[bL e,bL e,if_neg (fun z=>hk (e.trans z))]
  ·rw[bM e,bM e,ih]
theorem rF(kvs:List (κ×V))(k j:κ)(y:V):valV (putK kvs k y) j=if j=k then some y else valV kvs j:=by
 unfold putK
 by_cases a:(kvs.any fun kv=>decide (kv.1=k))=true
 ·rw[if_pos a,AQ]
  rw[iN]at a
  by_cases e:j=k
  ·obtain⟨x,hx⟩:=NR.mp a
   rw[if_pos e,e,hx,M8,if_pos rfl]
  ·rw[if_neg e]
   cases valV kvs j with
   |none=>rfl
   |some x=>rw[M8,if_neg e]
 ·rw[if_neg a]
  refine uN k j y kvs ?_
  rw[iN]at a
  cases q:valV kvs k with
  |none=>rfl
  |some x=>rw[q]at a;exact(a rfl).elim
theorem cW(kvs:List (κ×V))(k:κ)(v:V):(putK kvs k v).length<=kvs.length+1:=by
 unfold putK
 split
 ·rw[JS];omega
 ·rw[JO,Kt,LX];omega
theorem nR{kvs:List (κ×V)}{k:κ}(v:V)(h:valV kvs k=none):putK kvs k v=kvs++[(k,v)]:=by
 unfold putK
 rw[iN,h]
 exact if_neg (by decide)
theorem RelO.isSome_eq{o:Option V}{u:Option Value}(r:RelO o u):o.isSome=u.isSome:=by
 cases o with
 |none=>cases u with
  |none=>rfl
  |some _=>exact(show False from r).elim
 |some _=>cases u with
  |none=>exact(show False from r).elim
  |some _=>rfl
theorem RelO.getD{o:Option V}{u:Option Value}{d:V}{d':Value}(r:RelO o u)(rd:RelV d d'):RelV (o.getD d) (u.getD d'):=by
 cases o with
 |none=>cases u with
  |none=>exact rd
  |some _=>exact(show False from r).elim
 |some _=>cases u with
  |none=>exact(show False from r).elim
  |some _=>exact r
theorem KV.val{kvs:List (κ×V)}{vs:List (κ×Value)}(r:KV kvs vs)(k:κ):RelO (valV kvs k) (valueAt vs k):=by
 unfold KV at r
 induction r with
 |nil=>exact True.intro
 | @cons p q ps qs h t ih =>
  obtain⟨h1,h2⟩:=h
  by_cases e:p.1=k
  ·have e':q.1=k:=h1.symm.trans e
   have b:valueAt (q::qs) k=some q.2:=by simp[valueAt,Ms,e']
   rw[bL e,b];exact h2
  ·have e':¬ q.1=k:=fun z=>e (h1.trans z)
   have b:valueAt (q::qs) k=valueAt qs k:=by simp[valueAt,Ms,e']
   rw[bM e,b];exact ih
theorem KV.any{kvs:List (κ×V)}{vs:List (κ×Value)}(r:KV kvs vs)(k:κ):(kvs.any fun kv=>decide (kv.1=k))=vs.any fun kv=>decide (kv.1=k):=by
 unfold KV at r
 induction r with
 |nil=>rfl
 |cons h t ih=>rw[M1,M1,ih,h.1]
theorem KV.repl{kvs:List (κ×V)}{vs:List (κ×Value)}(r:KV kvs vs)(k:κ){y:V}{u:Value}(ry:RelV y u) :
  KV (kvs.map fun kv=>if kv.1=k then(kv.1,y) else kv) (vs.map fun kv=>if kv.1=k then(kv.1,u) else kv):=by
 unfold KV at r ⊢
 induction r with
 |nil=>exact .nil
 | @cons p q ps qs h t ih =>
  rw[KA,KA]
  refine .cons ?_ ih
  obtain⟨h1,h2⟩:=h
  by_cases e:p.1=k
  ·rw[if_pos e,if_pos (h1.symm.trans e)];exact⟨h1,ry⟩
  ·rw[if_neg e,if_neg (fun z=>e (h1.trans z))];exact⟨h1,h2⟩
theorem KV.put{kvs:List (κ×V)}{vs:List (κ×Value)}(r:KV kvs vs)(k:κ){y:V}{u:Value}(ry:RelV y u):KV (putK kvs k y) (stored vs k u):=by
 unfold putK stored
 rw[r.any k]
 by_cases e:(vs.any fun kv=>decide (kv.1=k))=true
 ·rw[if_pos e,if_pos e];exact r.repl k ry
 ·rw[if_neg e,if_neg e];exact Paired.snoc r ⟨rfl,ry⟩
theorem KV.length{kvs:List (κ×V)}{vs:List (κ×Value)}(r:KV kvs vs):kvs.length=vs.length:=Paired.length r
end
theorem zO{P:Program}{w:World}{k:Key}{u:Value}(r:RelV (kV k) u):(bI P w).is k u=true:=by
 cases k with
 |inl i=>obtain⟨t,e⟩:=(show ∃ t,u=Value.int i t from r);subst e;exact zt P w i t
 |inr x=>obtain⟨t,e⟩:=(show ∃ t,u=Value.str x t from r);subst e;exact zr P w x t
theorem wA{P:Program}{w:World}:∀{ks:List Key}{us:List Value},Vals (ks.map kV) us->ItemsAre (bI P w) ks us
 |[],_,r=>by rw[Nt]at r;cases r;exact .nil
 |k::ks,_,r=>by
  rw[KA]at r
  cases r with
  |cons h t=>exact .cons (zO h) (wA t)
abbrev KT(H:Hp):List (List Key×V)->List (List Key×Addr×Value)->Prop:=Paired fun p q=>p.1=q.1/\H q.2.1=some (.tup (p.1.map kV))/\RelV p.2 q.2.2
theorem KT.val{H:Hp}{kvs:List (List Key×V)}{xs:List (List Key×Addr×Value)}(r:KT H kvs xs)(k:List Key):RelO (valV kvs k) ((atKey xs k).map (·.2)):=by
 induction r with
 |nil=>exact True.intro
 | @cons p q ps qs h t ih =>
  obtain⟨h1,_,h2⟩:=h
  by_cases e:p.1=k
  ·have e':q.1=k:=h1.symm.trans e
   have b:atKey (q::qs) k=some q.2:=by simp[atKey,Ms,e']
   rw[bL e,b];exact h2
  ·have e':¬ q.1=k:=fun z=>e (h1.trans z)
   have b:atKey (q::qs) k=atKey qs k:=by simp[atKey,Ms,e']
   rw[bM e,b];exact ih
theorem KT.repl{H:Hp}{kvs:List (List Key×V)}{xs:List (List Key×Addr×Value)}(r:KT H kvs xs)(k:List Key){y:V}{u:Value}(ry:RelV y u) :
  KT H (kvs.map fun kv=>if kv.1=k then(kv.1,y) else kv) (xs.map (putAt k u)):=by
 induction r with
 |nil=>exact .nil
 | @cons p q ps qs h t ih =>
  rw[KA,KA]
  refine .cons ?_ ih
  obtain⟨h1,h2,h3⟩:=h
  unfold putAt
  by_cases e:p.1=k
  ·rw[if_pos e,if_pos (h1.symm.trans e)];exact⟨h1,h2,ry⟩
  ·rw[if_neg e,if_neg (fun z=>e (h1.trans z))];exact⟨h1,h2,h3⟩
theorem KT.put{H:Hp}{kvs:List (List Key×V)}{xs:List (List Key×Addr×Value)}(r:KT H kvs xs)(k:List Key){b:Addr}{y:V}{u:Value}(hb:H b=some (.tup (k.map kV)))(ry:RelV y u) :
  KT H (putK kvs k y) (storedH xs k b u):=by
 have e:(kvs.any fun kv=>decide (kv.1=k))=(atKey xs k).isSome:=by
  rw[iN,(r.val k).isSome_eq,Option.isSome_map]
 unfold putK storedH
 rw[e]
 by_cases q:(atKey xs k).isSome=true
 ·rw[if_pos q,if_pos q];exact r.repl k ry
 ·rw[if_neg q,if_neg q];exact Paired.snoc r ⟨rfl,hb,ry⟩
theorem KT.keeps{H H':Hp}{kvs:List (List Key×V)}{xs:List (List Key×Addr×Value)}(r:KT H kvs xs)(ht:∀ b ys,H b=some (.tup ys)->H' b=some (.tup ys)):KT H' kvs xs :=
 Paired.mapP r fun _ _ z=>⟨z.1,ht _ _ z.2.1,z.2.2⟩
section
variable{P:Program}{w:World}{H:Hp}{h:Heap}{a:Addr}
theorem rd_of{u:HO}(ok:HOk P w H h)(e:Rd H a u):bA P w H h a u:=e.ok ok
theorem zX{kvs:List (Key×V)}(ok:HOk P w H h)(e:Rd H a (.dK kvs)):kvs.length<=sizeLine/\(a == sysModules)=false/\∃ vs,KV kvs vs/\h.DictOf (bI P w) a vs :=
 show bA P w H h a (.dK kvs) from rd_of ok e
theorem Jz{kvs:List (Key×V)}(ok:HOk P w H h)(e:H a=some (.dK kvs)):kvs.length<=sizeLine/\(a == sysModules)=false/\∃ vs,KV kvs vs/\h.DictOf (bI P w) a vs:=zX ok (.inl e)
theorem wd{ks:List Key}(ok:HOk P w H h)(e:H a=some (.tup (ks.map kV))):(tupleKind (bI P w)).is h ks a:=by
 obtain⟨_,its,r,o,h1,h2,n,h3⟩:=(show bA P w H h a (.tup (ks.map kV)) from ok a _ e)
 exact⟨o,its.toArray,n,h1,h2,h3,by simpa using wA r⟩
theorem Cz{kvs:List (List Key×V)}(ok:HOk P w H h)(e:Rd H a (.dT kvs)):kvs.length<=sizeLine/\(a == sysModules)=false /\
  ∃ xs,KT H kvs xs/\h.DictOfH (tupleKind (bI P w)) a xs:=by
 obtain⟨z,y,xs,r,o,es,ep,h1,h2,h3,h4,h5⟩:=(show bA P w H h a (.dT kvs) from rd_of ok e)
 refine⟨z,y,xs,r,o,es,ep,h1,h2,h3,h4,fun x hx=>?_,h5⟩
 have all:∀{l:List (List Key×V)}{m:List (List Key×Addr×Value)},KT H l m->∀ x∈m,(tupleKind (bI P w)).is h x.1 x.2.1:=by
  intro l m q
  induction q with
  |nil=>intro x hx;exact nomatch hx
  | @cons p q ps qs hq t ih =>
   intro x hx
   rcases JT.mp hx with e | hx
   ·subst e
    exact wd ok (by rw[← hq.1];exact hq.2.1)
   ·exact ih x hx
 exact all r x hx
theorem dt_of{kvs:List (List Key×V)}(ok:HOk P w H h)(e:H a=some (.dT kvs)):kvs.length<=sizeLine/\(a == sysModules)=false /\
  ∃ xs,KT H kvs xs/\h.DictOfH (tupleKind (bI P w)) a xs:=Cz ok (.inl e)
end
def DGet(H:Hp)(a:Addr)(y:V)(r:Option V):Prop :=
 (∃ kvs k,Rd H a (.dK kvs)/\y=kV k/\r=valV kvs k)∨∃ kvs k b,Rd H a (.dT kvs)/\y=.ref b/\H b=some (.tup (k.map kV))/\r=valV kvs k
def DPut(H:Hp)(a:Addr)(y v:V)(H':Hp):Prop :=
 (∃ kvs k,H a=some (.dK kvs)/\y=kV k/\kvs.length<sizeLine/\H'=upd H a (.dK (putK kvs k v))) ∨
 ∃ kvs k b,H a=some (.dT kvs)/\y=.ref b/\H b=some (.tup (k.map kV))/\kvs.length<sizeLine/\H'=upd H a (.dT (putK kvs k v))
theorem DGet.k{H:Hp}{a:Addr}{kvs:List (Key×V)}{k:Key}(e:H a=some (.dK kvs)):DGet H a (kV k) (valV kvs k):=.inl ⟨kvs,k,.inl e,rfl,rfl⟩
theorem DPut.k{H:Hp}{a:Addr}{kvs:List (Key×V)}{k:Key}{v:V}(e:H a=some (.dK kvs))(hl:kvs.length<sizeLine):DPut H a (kV k) v (upd H a (.dK (putK kvs k v))):=.inl ⟨kvs,k,e,rfl,hl,rfl⟩
section
variable{X:Cx}{pins:List (Addr×Obj)}{σ:St}{H:Hp}{s:Shared}{a:Addr}{y v:V}{u r:Value}{o:Option V}{A:Around}{E:Value->Shared->Prop}
theorem Inv.big(I:Inv X pins σ H s):sysModules<s.heap.objs.size:=by
 have h:mainGlobals<s.heap.objs.size:=(I.mod.glob.keeps I.bk).lt
 exact Nat.lt_trans (by decide) h
theorem Fd{Q:Value->Shared->Prop}(hu:A.units+1<cLine)(I:Inv X pins σ H s)(g:DGet H a y (some v))(ry:RelV y u)(h:∀ w' s',Inv X pins σ H s'->RelV v w'->Q w' s') :
  wpAny (model X.prog X.w) A (getItem (.ref a) u) Q E s:=by
 rcases g with⟨kvs,k,e,ey,l⟩ | ⟨kvs,k,b,e,ey,eb,l⟩
 ·subst ey
  obtain⟨z,hd,vs,rel,dd⟩:=zX I.hok e
  obtain⟨w',hw,rw'⟩:=RelO.some_of (v:=v) (o:=valueAt vs k) (by rw[l];exact rel.val k)
  exact wpAny_getItem_of (zO ry) dd.mapOf hw (h w' _ (I.tok _) rw')
 ·subst ey
  cases (show u=Value.ref b from ry)
  obtain⟨z,hd,xs,rel,dd⟩:=Cz I.hok e
  obtain⟨w',hw,rw'⟩:=RelO.some_of (v:=v) (o:=(atKey xs k).map (·.2)) (by rw[l];exact rel.val k)
  obtain⟨p,hp,hp2⟩:=Kl.mp hw
  refine wpAny_getItem_heap (tupleKind_room_in1 hu) (wd I.hok eb) dd hp ?_
  rw[hp2]
  exact h w' _ (I.tok _) rw'
theorem JB{Q:Value->Shared->Prop}(hu:A.units+1<cLine)(I:Inv X pins σ H s)(g:DGet H a y o)(ry:RelV y u)(h:∀ s',Inv X pins σ H s'->Q (.bool (!o.isSome)) s') :
  wpAny (model X.prog X.w) A (compareOp .NotIn u (.ref a)) Q E s:=by
 rcases g with⟨kvs,k,e,ey,l⟩ | ⟨kvs,k,b,e,ey,eb,l⟩
 ·subst ey
  obtain⟨z,hd,vs,rel,dd⟩:=zX I.hok e
  refine wpAny_notIn_of (zO ry) hd dd.mapOf ?_
  rw[← (rel.val k).isSome_eq,← l]
  exact h _ (I.tok _)
 ·subst ey
  cases (show u=Value.ref b from ry)
  obtain⟨z,hd,xs,rel,dd⟩:=Cz I.hok e
  refine wpAny_notIn_heap (tupleKind_room_in1 hu) (wd I.hok eb) hd dd ?_
  have q:=(rel.val k).isSome_eq
  rw[Option.isSome_map]at q
  rw[← q,← l]
  exact h _ (I.tok _)
theorem ui{h':Heap}{t':Nat}{ob:HO}(I:Inv X pins σ H s)(mu:Mut (H a))(hs:Heap.SameBut a s.heap h')(he:∃ q,h'.get? a=some q)(new:bA X.prog X.w (upd H a ob) h' a ob) :
  Inv X pins σ (upd H a ob) { s with heap:=h',toks:=t' } :=
 I.write (x:=a) (e:=a) mu (.inl rfl) (fun b q hb z=>(hs.2 b hb).trans z) he new
theorem E5{P:Program}{w:World}{H':Hp}{h':Heap}{kvs:List (Key×V)}{vs:List (Key×Value)}(z:kvs.length<=sizeLine)(hd:(a == sysModules)=false)(rel:KV kvs vs)(dd:h'.DictOf (bI P w) a vs) :
  bA P w H' h' a (.dK kvs):=⟨z,hd,vs,rel,dd⟩
theorem Fc{H':Hp}{Q:Unit->Shared->Prop}(hu:A.units+1<cLine)(I:Inv X pins σ H s)(g:DPut H a y v H')(ry:RelV y u)(rv:RelV v r)(h:∀ s',Inv X pins σ H' s'->Q () s') :
  wpAny (model X.prog X.w) A (setItem (.ref a) u r) Q E s:=by
 rcases g with⟨kvs,k,e,ey,l,eH⟩ | ⟨kvs,k,b,e,ey,eb,l,eH⟩
 ·subst ey eH
  obtain⟨z,hd,vs,rel,dd⟩:=Jz I.hok e
  have hz:vs.length<=sizeLine:=by rw[← rel.length];exact z
  have hl:(putK kvs k v).length<=sizeLine:=by have:=cW kvs k v;omega
  refine wpAny_setItem_pairs (hsz:=hz) (zO ry) dd fun h' dd' hs=>h _ ?_
  have he:∃ q,h'.get? a=some q:=let ⟨q,_,_,hq,_⟩:=dd';⟨q,hq⟩
  exact ui I (by rw[e];exact True.intro) hs he (E5 hl hd (rel.put k rv) dd')
 ·subst ey eH
  cases (show u=Value.ref b from ry)
  obtain⟨z,hd,xs,rel,dd⟩:=dt_of I.hok e
  have hz:xs.length<=sizeLine:=by rw[← Paired.length rel];exact z
  have hl:(putK kvs k v).length<=sizeLine:=by have:=cW kvs k v;omega
  refine wpAny_setItem_heap (hsz:=hz) (tupleKind_room_in1 hu) (wd I.hok eb) dd fun h' dd' hs=>h _ ?_
  obtain⟨q,es,ep,hq,h2,h3,h4,_,h5⟩:=dd'
  refine ui I (by rw[e];exact True.intro) hs ⟨q,hq⟩ ⟨hl,hd,_,(rel.put k eb rv).keeps fun c ys ec=>?_,q,es,ep,hq,h2,h3,h4,h5⟩
  rw[ak (B6 ec e (fun z=>nomatch z))]
  exact ec
end
section
variable{X:Cx}{pins:List (Addr×Obj)}{σ:St}{H:Hp}{s:Shared}{a:Addr}{kvs:List (Key×V)}{k:Key}{u:Value}{A:Around}{E:Value->Shared->Prop}
theorem d_len{Q:Value->Shared->Prop}(I:Inv X pins σ H s)(e:Rd H a (.dK kvs))(h:∀ t s',Inv X pins σ H s'->Q (.int kvs.length t) s'):wpAny (model X.prog X.w) A (call (.builtin "len") [.ref a]) Q E s:=by
 obtain⟨z,hd,vs,rel,dd⟩:=zX I.hok e
 refine call_len_dict hd dd (by rw[← rel.length];rw[sizeLine_eq]at z;omega) ?_
 rw[← rel.length]
 exact h _ _ (I.tok _)
end
def NoSl(i:Expr):Prop:=∀ ov iv,subscripted i false ov iv=operate [ov,iv] (getItem ov iv)
theorem Io{prog:Program}{w:World}{A:Around}{E:Value->Shared->Prop}{s:Shared}{env:Env}{value slice:Expr}{pos:Pos}{T id:String}{Q:Value->Shared->Prop}
  (hl:typeLookup (.type T) "__getitem__" = pure (some (.builtin id))) (hs:NoSl slice)
  (h:wpAny (model prog w) A (eval value env) (fun o s₁=>wpAny (model prog w) A (eval slice env) (fun i s₂=>s₂.TypeIs o T/\wpAny (model prog w) A (getItem o i) Q E s₂) E s₁) E s) :
  wpAny (model prog w) A (eval (.Subscript value slice pos) env) Q E s:=by
 refine Subscript_ (wpAny_mono h (fun o s₁ h₁=>wpAny_mono h₁ (fun i s₂ h₂=>?_) fun _ _ x=>x) fun _ _ x=>x)
 obtain⟨hT,h₂⟩:=h₂
 unfold subscriptTail
 refine wpAny_bind ?_
 rw[getitemInPython_of_ne hT.not_modules]
 refine wpAny_bind (wpAny_specialOf hT hl ?_)
 have fin:wpAny (model prog w) A (subscripted slice false o i) (fun r s₃=>wpAny (model prog w) A (letTemporaryGo value o r >>= fun _=>pure r) Q E s₃) E s₂:=by
  rw[hs o i]
  exact wpAny_operating (wpAny_mono h₂ (fun r s₃ h₃=>wpAny_bind (wpAny_letTemporaryGo (wpAny_pure h₃))) fun _ _ x=>x)
 first
  |exact wpAny_pure (wpAny_bind fin)
  |exact wpAny_bind (wpAny_pure (wpAny_bind fin))
  |exact wpAny_bind fin
theorem zY{X:Cx}{pins:List (Addr×Obj)}{σ:St}{H:Hp}{s:Shared}{a:Addr}{y:V}{o:Option V}(I:Inv X pins σ H s)(g:DGet H a y o):s.TypeIs (.ref a) "dict":=by
 rcases g with⟨kvs,k,e,_,_⟩ | ⟨kvs,k,b,e,_,_,_⟩
 ·obtain⟨_,_,vs,_,dd⟩:=zX I.hok e
  exact dd.typeIs
 ·obtain⟨_,_,xs,_,dd⟩:=Cz I.hok e
  exact dd.typeIs
def tDGet(td ty:TE):TE:=fun σ H Q=>td σ H fun x H1=>ty σ H1 fun y H2=>∃ a v,x=.ref a/\DGet H2 a y (some v)/\Q v H2
def Ik(ty td:TE):TE:=fun σ H Q=>ty σ H fun y H1=>td σ H1 fun x H2=>∃ a o,x=.ref a/\DGet H2 a y o/\Q (.bl (!o.isSome)) H2
def sDPut(td ty tv:TE):TS:=fun D σ H=>tv σ H fun v H1=>td σ H1 fun x H2=>ty σ H2 fun y H3=>∃ a H4,x=.ref a/\DPut H3 a y v H4/\D.nx σ H4
section
variable{X:Cx}{o i e value:Expr}{pos pos' tpos:Pos}{td ty tv:TE}
theorem sO(hu:X.A.units+1<cLine)(ho:PE X o td)(hi:PE X i ty)(hs:NoSl i):PE X (.Subscript o i pos) (tDGet td ty):=by
 intro pins s σ H Q I h
 refine Io PySem.F.slot_dict_getitem.lookup hs (thn (ho pins s σ H _ I h) fun u s1 ⟨x,H1,I1,rx,q1⟩=>thn (hi pins s1 σ H1 _ I1 q1) fun iv s2 ⟨y,H2,I2,ry,a,v,ex,g,q2⟩=>?_)
 subst ex
 obtain rfl:u=Value.ref a:=rx
 exact⟨zY I2 g,Fd hu I2 g ry fun w' s3 I3 rw'=>⟨v,H2,I3,rw',q2⟩⟩
theorem vz(hu:X.A.units+1<cLine)(hi:PE X i ty)(ho:PE X o td):PC X .NotIn i o (Ik ty td):=by
 intro pins s σ H Q I h
 refine thn (hi pins s σ H _ I h) fun iv s1 ⟨y,H1,I1,ry,q1⟩=>thn (ho pins s1 σ H1 _ I1 q1) fun u s2 ⟨x,H2,I2,rx,a,ov,ex,g,q2⟩=>?_
 subst ex
 obtain rfl:u=Value.ref a:=rx
 exact JB hu I2 g ry fun s3 I3=>⟨.bl (!ov.isSome),H2,I3,rfl,q2⟩
theorem sr(hu:X.A.units+1<cLine)(ho:PE X o td)(hi:PE X i ty)(hv:PE X value tv)(hs:swapsWith value (some (.Subscript o i pos')) pos.line X.env=pure false) :
  PS X (.Assign [.Subscript o i pos'] value pos) (sDPut td ty tv):=by
 intro pins s σ H D I h
 refine wpAny_Assign_Subscript (thn (hv pins s σ H _ I h) fun r s1 ⟨v,H1,I1,rv,q1⟩=>thn (ho pins s1 σ H1 _ I1 q1) fun u s2 ⟨x,H2,I2,rx,q2⟩=>thn (hi pins s2 σ H2 _ I2 q2) fun iv s3 ⟨y,H3,I3,ry,a,H4,ex,g,q3⟩=>?_) hs
 subst ex
 obtain rfl:u=Value.ref a:=rx
 exact Fc hu I3 g ry rv fun s4 I4=>⟨σ,H4,I4,q3⟩
end
theorem Bv{P:Program}{w:World}{H:Hp}(h:Heap)(hb:sysModules<h.objs.size):bA P w H (h.push { cls:=.type "dict",data:=.dict #[] }) h.objs.size (.dK []) :=
 ⟨K4 _,beq_eq_false_iff_ne.mpr (Ne.symm (Kp hb)),[],.nil,Heap.DictOf.new h⟩
def tDNewK:TE:=fun _ H Q=>∀ p,H p=none->Q (.ref p) (upd H p (.dK []))
section
variable{X:Cx}{pos:Pos}
theorem ko:PE X (.Dict [] [] pos) tDNewK:=fun pins s σ H Q I h =>
 wpAny_Dict_empty ⟨.ref s.heap.objs.size,_,I.laid (a:=s.heap.objs.size) (o:=.dK []) (t':=s.toks) (fun _ _ q=>Heap.get?_push_of_some _ q) (JQ _) (Bv s.heap I.big),rfl,h _ (I.hok.fresh (JQ _))⟩
end
def Dk:List (TE×TE)->St->Hp->(List (V×V)->Hp->Prop)->Prop
 |[],_,H,Q=>Q [] H
 | (tk,tv)::r,σ,H,Q=>tk σ H fun x H1=>tv σ H1 fun y H2=>Dk r σ H2 fun ps H3=>Q ((x,y)::ps) H3
abbrev VV:List (V×V)->List (Value×Value)->Prop:=Paired fun p q=>RelV p.1 q.1/\RelV p.2 q.2
def PPs(X:Cx)(pos:Pos)(keys:List (Option Expr))(values:List Expr)(trs:List (TE×TE)):Prop :=
 ∀(pins:List (Addr×Obj))(s:Shared)(σ:St)(H:Hp)(Q:List (V×V)->Hp->Prop),Inv X pins σ H s->Dk trs σ H Q ->
  wpAny (model X.prog X.w) X.A (evalPairs (pairTrees keys values X.env pos)) (fun vs s'=>∃ ps H',Inv X pins σ H' s'/\VV ps vs/\Q ps H') X.xe s
theorem IK{X:Cx}{pos:Pos}:PPs X pos [] [] []:=fun pins s σ H Q I h=>pairTrees_nil_walk ⟨[],H,I,.nil,h⟩
theorem Gd{X:Cx}{pos:Pos}{k v:Expr}{ks:List (Option Expr)}{vs:List Expr}{tk tv:TE}{trs:List (TE×TE)}(hk:PE X k tk)(hv:PE X v tv)(hr:PPs X pos ks vs trs) :
  PPs X pos (some k::ks) (v::vs) ((tk,tv)::trs):=fun pins s σ H Q I h =>
 pairTrees_cons_walk (thn (hk pins s σ H _ I h) fun u s1 ⟨x,H1,I1,rx,q1⟩=>thn (hv pins s1 σ H1 _ I1 q1) fun w2 s2 ⟨y,H2,I2,ry,q2⟩ =>
  thn (hr pins s2 σ H2 _ I2 q2) fun ws s3 ⟨ps,H3,I3,rel,q3⟩=>⟨(x,y)::ps,H3,I3,.cons ⟨rx,ry⟩ rel,q3⟩)
def oK(kvs more:List (Key×V)):List (Key×V):=more.foldl (fun acc kv=>putK acc kv.1 kv.2) kvs
theorem KV.merge:∀{more:List (Key×V)}{rs:List (Key×Value)}{kvs:List (Key×V)}{vs:List (Key×Value)},KV more rs->KV kvs vs->KV (oK kvs more) (merged vs rs):=by
 intro more rs kvs vs r
 unfold KV at r
 induction r generalizing kvs vs with
 |nil=>intro q;exact q
 | @cons p q ps qs h t ih =>
  intro r0
  have e:KV (putK kvs p.1 p.2) (stored vs q.1 q.2):=by
   have:=r0.put p.1 h.2
   rw[← h.1];exact this
  exact ih e
theorem kr:∀(more kvs:List (Key×V)),(oK kvs more).length<=kvs.length+more.length
 |[],kvs=>by show kvs.length<=kvs.length+0;omega
 |p::r,kvs=>by
  have h1:=kr r (putK kvs p.1 p.2)
  have h2:=cW kvs p.1 p.2
  show(oK (putK kvs p.1 p.2) r).length<=_
  rw[Kt];omega
theorem qZ{P:Program}{w:World}:∀{kvs:List (Key×V)}{ws:List (Value×Value)},VV (kvs.map fun kv=>(kV kv.1,kv.2)) ws->∃ rs,Carries (bI P w) ws rs/\KV kvs rs
 |[],_,r=>by rw[Nt]at r;cases r;exact⟨[],True.intro,.nil⟩
 |p::kvs,_,r=>by
  rw[KA]at r
  cases r with
  | @cons a b as bs h t =>
   obtain⟨rs,c,q⟩:=qZ (P:=P) (w:=w) t
   obtain⟨b1,b2⟩:=b
   exact⟨(p.1,b2)::rs,⟨zO h.1,rfl,c⟩,.cons ⟨rfl,h.2⟩ q⟩
def qc(trs:List (TE×TE)):TE:=fun σ H Q=>∀ p,H p=none->Dk trs σ (upd H p (.dK [])) fun ps H2=>H2 p=some (.dK [])/\∃ kvs:List (Key×V),ps=kvs.map (fun kv=>(kV kv.1,kv.2))/\kvs.length<=15/\Q (.ref p) (upd H2 p (.dK (oK [] kvs)))
theorem IT{X:Cx}{pos:Pos}{keys:List (Option Expr)}{values:List Expr}{trs:List (TE×TE)}(h:PPs X pos keys values trs)(hall:keys.all (·.isSome)=true)(hl:keys.length=values.length)(h0:keys≠[])
  (h15:keys.length<=15):PE X (.Dict keys values pos) (qc trs):=by
 intro pins s σ H Q I q
 have hn:=I.hok.fresh (JQ s.heap.objs.size)
 have I1:=I.laid (a:=s.heap.objs.size) (o:=.dK []) (h':=s.heap.push { cls:=.type "dict",data:=.dict #[] }) (t':=s.toks) (fun _ _ q=>Heap.get?_push_of_some _ q) (JQ _) (Bv s.heap I.big)
 refine wpAny_Dict_walk (knd:=bI X.prog X.w) hall hl h0 h15 (thn (h pins _ σ _ _ I1 (q _ hn)) fun ws s2 ⟨ps,H2,I2,rel,e,kvs,ep,lk,q2⟩=>?_)
 subst ep
 obtain⟨rs,c,rk⟩:=qZ (P:=X.prog) (w:=X.w) rel
 obtain⟨z,hd,vs0,r0,dd⟩:=Jz I2.hok e
 cases r0
 refine⟨rs,c,dd,fun h' dd' hs=>⟨.ref s.heap.objs.size,_,?_,rfl,q2⟩⟩
 have hz:(oK [] kvs).length<=sizeLine:=by
  have h1:=kr kvs []
  rw[LX]at h1
  rw[sizeLine_eq];omega
 have he:∃ q,h'.get? s.heap.objs.size=some q:=let ⟨q,_,_,hq,_⟩:=dd';⟨q,hq⟩
 exact ui I2 (by rw[e];exact True.intro) hs he (E5 hz hd (rk.merge .nil) dd')
structure M2(X:Cx)(o:Expr)(m:Str)(apos:Pos)(e f:Expr)(cpos:Pos):Prop where
 base:attributeBase o m X.env (eval o X.env)=eval o X.env
 few:((backTo cpos (starEach [e,f] X.env)).all (fun x=>!x.1)&&(backToKw cpos (keywordEach [] X.env)).all (fun x=>x.1.isSome)
  && decide (([e,f]:List Expr).length+([]:List Keyword).length+(if([]:List Keyword).isEmpty then 0 else 1)<30))=true
 line:(apos.endLine == cpos.line)=true
 trees:backTo cpos (starEach [e,f] X.env) = [(false,eval e X.env),(false,eval f X.env)]
def IsD(H:Hp)(a:Addr):Prop:=(∃ kvs,Rd H a (.dK kvs))∨∃ kvs,Rd H a (.dT kvs)
theorem HE{X:Cx}{pins:List (Addr×Obj)}{σ:St}{H:Hp}{s:Shared}{a:Addr}(I:Inv X pins σ H s)(d:IsD H a) :
  s.TypeIs (.ref a) "dict"/\(∀ b,Value.ref a=.ref b->∃ ob,s.heap.get? b=some ob/\ob.dict=none)/\(a == sysModules)=false:=by
 rcases d with⟨kvs,e⟩ | ⟨kvs,e⟩
 ·obtain⟨_,hd,vs,_,dd⟩:=zX I.hok e
  refine⟨dd.typeIs,fun b q=>?_,hd⟩
  cases q
  obtain⟨ob,_,_,h1,h2,_⟩:=dd
  exact⟨ob,h1,h2.2.1⟩
 ·obtain⟨_,hd,xs,_,dd⟩:=Cz I.hok e
  refine⟨dd.typeIs,fun b q=>?_,hd⟩
  cases q
  obtain⟨ob,_,_,h1,h2,_⟩:=dd
  exact⟨ob,h1,h2.2.1⟩
section
variable{X:Cx}{pins:List (Addr×Obj)}{σ:St}{H:Hp}{s:Shared}{a:Addr}{y d:V}{u r:Value}{o:Option V}{A:Around}{E:Value->Shared->Prop}
theorem d_get2{Q:Value->Shared->Prop}(hu:A.units+1<cLine)(I:Inv X pins σ H s)(g:DGet H a y o)(ry:RelV y u)(rd:RelV d r)(h:∀ w' s',Inv X pins σ H s'->RelV (o.getD d) w'->Q w' s') :
  wpAny (model X.prog X.w) A (call (.builtin "dict.get") [.ref a,u,r]) Q E s:=by
 rcases g with⟨kvs,k,e,ey,l⟩ | ⟨kvs,k,b,e,ey,eb,l⟩
 ·subst ey
  obtain⟨z,hd,vs,rel,dd⟩:=zX I.hok e
  refine call_meetsIn M7 dd.typeIs PySem.F.entry_dict_get (NU _ _ _) (meets_dict_get_default (bI X.prog X.w) a (zO ry) hd r) ⟨_,dd.mapOf,h _ _ (I.tok _) ?_⟩
  rw[l]
  exact(rel.val k).getD rd
 ·subst ey
  cases (show u=Value.ref b from ry)
  obtain⟨z,hd,xs,rel,dd⟩:=Cz I.hok e
  refine call_meetsIn M7 dd.typeIs PySem.F.entry_dict_get (NU _ _ _) (meetsH_dict_get_default (tupleKind (bI X.prog X.w)) a b hd r) ⟨tupleKind_room_in1 hu,k,xs,wd I.hok eb,dd,h _ _ (I.tok _) ?_⟩
  rw[l]
  exact(rel.val k).getD rd
end
def tDGet2(td ty tx:TE):TE:=fun σ H Q=>td σ H fun x H1=>∃ a,x=.ref a/\IsD H1 a/\ty σ H1 fun y H2=>tx σ H2 fun z H3=>∃ o,DGet H3 a y o/\Q (o.getD z) H3
section
variable{X:Cx}{o e f:Expr}{apos cpos:Pos}{td ty tx:TE}
theorem A5(hu:X.A.units+1<cLine)(ho:PE X o td)(he:PE X e ty)(hf:PE X f tx) (m:M2 X o "get" apos e f cpos):PE X (.Call (.Attribute o "get" apos) [e,f] [] cpos) (tDGet2 td ty tx):=by
 intro pins s σ H Q I h
 refine wpAny_Call_method m.base m.few m.line LN M7 PySem.F.type_dict_get (thn (ho pins s σ H _ I h) fun u s1 ⟨x,H1,I1,rx,a,ex,d,q1⟩=>?_)
 subst ex
 obtain rfl:u=Value.ref a:=rx
 obtain⟨t1,t2,_⟩:=HE I1 d
 refine⟨t1,t2,?_⟩
 rw[m.trees]
 refine Calls.callWith_builtin rfl (Calls.evalArgs_plain (Calls.spliced_cons (thn (he pins s1 σ H1 _ I1 q1) fun iv s2 ⟨y,H2,I2,ry,q2⟩ =>
  Calls.spliced_cons (thn (hf pins s2 σ H2 _ I2 q2) fun fv s3 ⟨z,H3,I3,rz,ov,g,q3⟩=>Calls.spliced_nil ?_))))
 exact d_get2 hu I3 g ry rz fun w' s4 I4 rw'=>⟨_,H3,I4,rw',q3⟩
end
section
variable{X:Cx}{pins:List (Addr×Obj)}{σ:St}{H:Hp}{s:Shared}{a:Addr}{kvs:List (Key×V)}{A:Around}{E:Value->Shared->Prop}
end
section
variable{X:Cx}{pins:List (Addr×Obj)}{σ:St}{H:Hp}{s:Shared}{a:Addr}{y:V}{u:Value}{A:Around}{E:Value->Shared->Prop}
end
end L2
namespace Att
open PySem PySem.W PySem.Calls PyProof.Rows
section
variable{prog:Program}{w:World}{A:Around}{E:Value->Shared->Prop}{s:Shared}{K:Frag}
end
end Att
namespace L2
open PySem PySem.Spec PyProof.Rows
end L2
namespace L2
open PySem PySem.Spec PyProof.Rows
end L2
namespace L2
open PySem PySem.Spec PyProof.Rows
section
variable{P:Program}{w:World}{K:JN}{mg:Str->Option Value}{base:Heap}
end
section
variable{X:Cx}
theorem Fw:mm X (.builtin "len") (fun xs H Q=>∃ a kvs,xs = [V.ref a]/\H a=some (.dK kvs)/\Q (.int kvs.length) H):=by
 intro pins s σ H xs us Q I r h
 obtain⟨a,kvs,rfl,ha,q⟩:=h
 obtain⟨u,rfl,ru⟩:=rE r
 cases ru
 exact d_len I (.inl ha) fun t s' I'=>⟨.int kvs.length,H,I',⟨t,rfl⟩,q⟩
end
section
variable{κ:Type} [DecidableEq κ]
theorem FP{kvs:List (κ×V)}{k:κ}(h:valV kvs k=none):¬ k∈kvs.map (·.1):=by
 intro m
 obtain⟨p,hp,e⟩:=Ke.mp m
 have q:(kvs.any fun kv=>decide (kv.1=k))=true:=LR.mpr ⟨p,hp,decide_eq_true e⟩
 rw[iN,h]at q
 exact absurd q (by simp)
end
end L2
namespace L2
open PySem PySem.Spec PyProof.Rows
def clOf(env:Env)(fr:List (Str×Nat)):List (Str×Addr):=fr.map fun p=>(p.1,(env.cells.lookup p.1).getD 0)
def frOf(fr:List (Str×Nat))(σ:St):St:=fr.map fun p=>(σ[p.2]?).join
def du(X:Cx)(scope:Scope)(fr:List (Str×Nat))(x:Str)(C:Addr)(ex:List Addr)(s:Shared)(H:Hp):Cx where
 prog:=X.prog
 w:=X.w
 K:=X.K
 mg:=X.mg
 base:=X.base
 A:=X.A
 N:=x::fr.map (·.1)
 s₀:=s
 H₀:=H
 env:=compEnvC scope (clOf X.env fr) C X.env
 outer:=X.stack
 stack:=X.stack
 ex:=ex
 fn:=fun _=>false
 calm:=X.calm
 pn:=[]
 xe:=fun _ _=>False
structure bX(X:Cx)(scope:Scope)(fr:List (Str×Nat))(x:Str):Prop where
 clos:closureFor scope X.env=pure (clOf X.env fr)
 cell:∀ y∈scope.names,y.2≠.cell
 kind:scope.kind=.function
 names:∀ y∈scope.names,y.2=.local->scope.names.lookup y.1=some .local
 xl:scope.names.lookup x=some .local
 nd:(x::fr.map (·.1)).Nodup
 slot:∀ p∈fr,X.N[p.2]?=some p.1/\X.env.kindOf p.1=some .cell
 has:∀ y∈(relabel scope X.env).names,(y.2=.cell∨y.2=.free)->y.1∈fr.map (·.1)
 frk:∀ p∈fr,(relabel scope X.env).names.lookup p.1=some .cell
theorem bX.plain{X:Cx}{scope:Scope}{x:Str}(clos:closureFor scope X.env=pure [])(cell:∀ y∈scope.names,y.2≠.cell)(kind:scope.kind=.function)(names:∀ y∈scope.names,y.2=.local->scope.names.lookup y.1=some .local)
  (hx:scope.names.lookup x=some .local) (nf:∀ y∈scope.names,y.2≠.free):bX X scope [] x where
 clos:=clos
 cell:=cell
 kind:=kind
 names:=names
 xl:=hx
 nd:=by simp
 slot:=fun p hp=>nomatch hp
 has:=fun y hy hk=>by
  obtain⟨⟨n,k⟩,hz,e⟩:=Ke.mp (show y∈scope.names.map _ from hy)
  have h1:=nf _ hz
  have h2:=cell _ hz
  dsimp only at e h1 h2
  have hf:(k == NameKind.free)=false:=by simpa using h1
  rw[hf]at e
  simp only[Mi,K1,if_false]at e
  subst e
  exact(hk.elim h2 h1).elim
 frk:=fun p hp=>nomatch hp
theorem bX.one{X:Cx}{scope:Scope}{x y:Str}{j:Nat}(clos:closureFor scope X.env=pure (clOf X.env [(y,j)]))(cell:∀ y∈scope.names,y.2≠.cell)(kind:scope.kind=.function)(names:∀ y∈scope.names,y.2=.local->scope.names.lookup y.1=some .local)
  (hx:scope.names.lookup x=some .local) (nd:([x,y]:List Str).Nodup) (hN:X.N[j]?=some y) (hk:X.env.kindOf y=some .cell) (nf:∀ z∈scope.names,z.2=.free->z.1=y) (hr:(relabel scope X.env).names.lookup y=some .cell):bX X scope [(y,j)] x where
 clos:=clos
 cell:=cell
 kind:=kind
 names:=names
 xl:=hx
 nd:=nd
 slot:=fun p hp=>by
  have e:p=(y,j):=by simpa using hp
  subst e
  exact⟨hN,hk⟩
 has:=fun z hz hk=>by
  obtain⟨⟨n,k⟩,hm,e⟩:=Ke.mp (show z∈scope.names.map _ from hz)
  have h2:=cell _ hm
  dsimp only at e h2
  have hn:z.1=n:=by rw[← e];split<;>rfl
  have hf:k=.free:=by
   by_cases q:k=.free
   ·exact q
   ·have hb:(k == NameKind.free)=false:=by simpa using q
    rw[hb]at e
    simp only[Mi,K1,if_false]at e
    subst e
    exact(hk.elim h2 q).elim
  have:=nf _ hm hf
  rw[hn]
  simp[← this]
 frk:=fun p hp=>by
  have e:p=(y,j):=by simpa using hp
  subst e
  exact hr
theorem ft{env:Env}:∀{fr:List (Str×Nat)}{y:Str}{c:Addr},(clOf env fr).lookup y=some c->y∈fr.map (·.1)/\c=(env.cells.lookup y).getD 0
 |[],_,_,h=>by cases h
 |p::r,y,c,h=>by
  unfold clOf at h
  rw[KA,List.lookup_cons]at h
  cases e:y == p.1 with
  |true =>
   rw[e]at h
   have ey:y=p.1:=eq_of_beq e
   cases h
   exact⟨by rw[ey];exact Kh,by rw[ey]⟩
  |false =>
   rw[e]at h
   obtain⟨a,b⟩:=ft (env:=env) (fr:=r) h
   exact⟨J1 _ a,b⟩
theorem bJ{env:Env}:∀{fr:List (Str×Nat)}{y:Str},y∈fr.map (·.1)->(clOf env fr).lookup y=some ((env.cells.lookup y).getD 0)
 |[],_,h=>by cases h
 |p::r,y,h=>by
  unfold clOf
  rw[KA,List.lookup_cons]
  cases e:y == p.1 with
  |true =>
   have ey:y=p.1:=eq_of_beq e
   rw[ey]
  |false =>
   have ny:y≠p.1:=fun z=>by rw[z]at e;simp at e
   rcases JT.mp h with z | z
   ·exact absurd z ny
   ·exact bJ (env:=env) (fr:=r) z
section
variable{X:Cx}{pins:List (Addr×Obj)}{σ:St}{H:Hp}{s:Shared}{scope:Scope}{fr:List (Str×Nat)}{x:Str}
theorem bX.cells(O:bX X scope fr x)(I:Inv X pins σ H s){y:Str}{c:Addr}(h:(clOf X.env fr).lookup y=some c):X.env.cells.lookup y=some c:=by
 obtain⟨hm,e⟩:=ft h
 obtain⟨p,hp,ep⟩:=Ke.mp hm
 have k:=(O.slot p hp).2
 rw[ep]at k
 obtain⟨c',e'⟩:=I.ok.has y (.inl k)
 rw[e']at e
 rw[e',e]
 rfl
theorem GU{fp:List Addr}(O:bX X scope fr x)(I:Inv X pins σ H s)(hf:∀ b∈fp,FpOk X pins H b)(hfs:∀ b∈fp,b<s.heap.objs.size){g h':Heap}{tk:Nat}(hg:g=s.heap.push (LCg.lst []))
  (hk:∀ b o,g.get? b=some o->h'.get? b=some o) (hC:h'.Ns g.objs.size fun _=>none) :
  Inv (du X scope fr x g.objs.size (s.heap.objs.size::fp) { s with heap:=g } H) (X.pn++pins++[(s.heap.objs.size,LCg.lst [])]) (none::frOf fr σ) H { s with heap:=h',toks:=tk }:=by
 have hsz:g.objs.size=s.heap.objs.size+1:=by rw[hg,Heap.size_push]
 have kp:∀ b o,s.heap.get? b=some o->g.get? b=some o:=fun b o e=>by rw[hg];exact Heap.get?_push_of_some _ e
 have hk0:∀ b o,s.heap.get? b=some o->h'.get? b=some o:=fun b o e=>hk b o (kp b o e)
 have hDo:h'.get? s.heap.objs.size=some (LCg.lst []):=hk _ _ (by rw[hg];exact Heap.get?_push_size _ rfl)
 have neC:∀ b,b<s.heap.objs.size->b≠g.objs.size:=fun b e=>by rw[hsz];exact Kp (Lw e)
 have hDC:s.heap.objs.size≠g.objs.size:=by rw[hsz];exact Kp (Lq _)
 have hfr:H g.objs.size=none:=I.hok.fresh (by rw[hsz];exact Mj _)
 have hfD:H s.heap.objs.size=none:=I.hok.fresh (JQ _)
 have cne:∀ y c,X.env.cells.lookup y=some c->c<s.heap.objs.size:=fun y c e=>by
  obtain⟨v,q⟩:=I.cell y c e
  exact q.lt
 have nst:∀ b,b≠X.env.locals->b∉X.fs->b∉frs X.stack:=fun b h1 h2 z=>(JT.mp (I.stkSub b z)).elim h1 h2
 have nstD:s.heap.objs.size∉frs X.stack:=nst _ (Lc I.lt) (I.nofs (JQ _))
 refine⟨⟨I.ok.mod,O.kind,I.ok.glob,I.ok.blt,JQ _,?_,?_,fun _ _ z _=>(by cases z),I.ok.hd,I.ok.frames,.inl rfl,?_,?_,?_,?_,?_,?_,I.stkFree⟩,rfl,I.bare,Un.kept hk,?_,?_,hfr,?_,?_,I.hok.kept hk0,?_⟩
 ·intro y z c h1 h2
  exact I.ok.inj y z c (O.cells I h1) (O.cells I h2)
 ·intro y hy
  have hm:y∈fr.map (·.1):=by
   rcases hy with hy | hy
   ·exact O.has (y,_) (Le hy) (.inl rfl)
   ·exact O.has (y,_) (Le hy) (.inr rfl)
  exact⟨_,bJ hm⟩
 ·intro b hb
  rcases JT.mp hb with rfl | hb
  ·exact⟨hDC,fun y c e=>Kp (cne y c (O.cells I e))⟩
  ·exact⟨neC b (hfs b hb),fun y c e=>(hf b hb).2.2.2.2.1 y c (O.cells I e)⟩
 ·intro b o e
  exact⟨kp b o (I.bs b o e).1,(I.bs b o e).2⟩
 ·show X.base.objs.size<=g.objs.size
  rw[hsz]
  exact Ma (KR I.ok.bsz I.sz)
 ·intro b o e hb
  rcases JT.mp hb with z | hb
  ·have:=Heap.lt_size (I.bs b o e).1
   rw[z]at this
   exact La _ this
  ·rcases(hf b hb).2.2.2.1 with z | z
   ·exact I.ok.noex b o e z
   ·exact absurd (Ky (Heap.lt_size (I.ok.bs b o e).1) z) (La _)
 ·intro b hb
  rcases JT.mp hb with z | hb
  ·rw[z];exact nstD
  ·exact nst b (hf b hb).2.1 (hf b hb).2.2.1
 ·exact(I.kept (h':=g) (t':=s.toks) kp).stack
 ·refine⟨_,hC,fun i y v e1 e2 e3=>?_⟩
  cases i with
  |zero=>cases e2
  |succ k =>
   have e1':(fr.map (·.1))[k]?=some y:=e1
   have e2':(frOf fr σ)[k]?=some (some v):=e2
   unfold frOf at e2'
   rw[JR]at e1' e2'
   cases q:fr[k]? with
   |none=>rw[q]at e1';cases e1'
   |some p =>
    rw[q]at e1' e2'
    have ey:p.1=y:=JZ e1'
    have ev:(σ[p.2]?).join=some v:=JZ e2'
    have hp:p∈fr:=JM q
    obtain⟨hN,hK⟩:=O.slot p hp
    have hkk:=O.frk p hp
    rw[ey]at hN hK hkk
    have ev':σ[p.2]?=some (some v):=by
     cases q2:σ[p.2]? with
     |none=>rw[q2]at ev;cases ev
     |some w=>rw[q2]at ev;exact congrArg some ev
    obtain⟨m,hn,hl⟩:=I.loc
    obtain⟨u,r,l⟩:=hl p.2 y v hN ev' (.inr (.inl hK))
    refine⟨u,r,?_⟩
    rcases l with⟨k1,_⟩ | ⟨_,c,ec,z⟩
    ·rw[hK]at k1;cases k1
    ·have hm:y∈fr.map (·.1):=by rw[← ey];exact Ke.mpr ⟨p,hp,rfl⟩
     have el:=bJ (env:=X.env) hm
     rw[ec]at el
     exact .inr ⟨.inl hkk,c,el,by obtain⟨o,ho,hd⟩:=z;exact⟨o,hk0 _ _ ho,hd⟩⟩
 ·intro y c e
  obtain⟨v,o,ho,hd⟩:=I.cell y c (O.cells I e)
  exact⟨v,o,hk0 _ _ ho,hd⟩
 ·intro y c e
  exact I.freeC y c (O.cells I e)
 ·intro p hp
  rcases JV.mp hp with hp | hp
  ·cases hp
  ·rcases JV.mp hp with hp | hp
   ·obtain⟨e,n,ne,nf,d⟩:=I.pin p hp
    exact⟨hk0 _ _ e,n,neC _ (Heap.lt_size e),nst _ ne nf,d⟩
   ·have ep:p=(s.heap.objs.size,LCg.lst []):=by simpa using hp
    subst ep
    exact⟨hDo,hfD,hDC,nstD,fun v z=>by cases z⟩
 ·show(none::frOf fr σ).length=(x::fr.map (·.1)).length
  unfold frOf
  simp
theorem wB{fp:List Addr}{g:Heap}{s':Shared}{H':Hp}{σ':St}{ys:List V}{us:List Value}(I:Inv X pins σ H s)(hf:∀ b∈fp,FpOk X pins H b)(hg:g=s.heap.push (LCg.lst []))
  (J:Inv (du X scope fr x g.objs.size (s.heap.objs.size::fp) { s with heap:=g } H) (X.pn++pins++[(s.heap.objs.size,LCg.lst us)]) σ' H' s') (hv:Vals ys us) (hl:ys.length<=sizeLine) :
  Inv X pins σ (upd H' s.heap.objs.size (.lst ys)) s'/\H' s.heap.objs.size=none/\FpOk X pins (upd H' s.heap.objs.size (.lst ys)) g.objs.size/\∃ m,s'.heap.Ns g.objs.size m:=by
 have hsz:g.objs.size=s.heap.objs.size+1:=by rw[hg,Heap.size_push]
 have kp:∀ b o,s.heap.get? b=some o->g.get? b=some o:=fun b o e=>by rw[hg];exact Heap.get?_push_of_some _ e
 obtain⟨eD,nD,_,_,_⟩:=J.pin (s.heap.objs.size,LCg.lst us) (by simp)
 have hDC:g.objs.size≠s.heap.objs.size:=by rw[hsz];exact Lc (Lq _)
 have nD':∀ b u,H' b=some u->b≠s.heap.objs.size:=fun b u e z=>by rw[z]at e;rw[e]at nD;cases nD
 have hx:∀ b o,s.heap.get? b=some o->b∉fp->b∉s.heap.objs.size::fp:=fun b o e hb z=>by
  rcases JT.mp z with z | z
  ·have:=Heap.lt_size e
   rw[z]at this
   exact La _ this
  ·exact hb z
 have bU:Un (frs X.stack) (s.heap.objs.size::fp) H H' g s'.heap:=J.base
 have ltD:∀ b o,s.heap.get? b=some o->b≠s.heap.objs.size:=fun b o e=>Kp (Heap.lt_size e)
 have un:Un (frs X.stack) fp H (upd H' s.heap.objs.size (.lst ys)) s.heap s'.heap:=by
  refine⟨fun b o e n hb he=>bU.keep b o (kp b o e) n hb (hx b o e he),fun b o e n hb he=>bU.slot b o (kp b o e) n hb (hx b o e he),fun b o e n he=>?_,fun b o e he=>bU.there b o (kp b o e) (hx b o e he),fun b xs e=>?_,fun b o u e=>?_,fun b ps e=>?_⟩
  ·rw[ak (ltD b o e)];exact bU.free b o (kp b o e) n (hx b o e he)
  ·have q:=bU.tups b xs e
   rw[ak (nD' b _ q)];exact q
  ·have q:=bU.frzs b o u e
   rw[ak (nD' b _ q)];exact q
  ·obtain⟨more,q⟩:=bU.tbls b ps e
   exact⟨more,by rw[ak (nD' b _ q)];exact q⟩
 have hok:HOk X.prog X.w (upd H' s.heap.objs.size (.lst ys)) s'.heap:=fun b u e=>by
  by_cases hb:b=s.heap.objs.size
  ·rw[hb,ae]at e
   cases e
   rw[hb]
   exact⟨hl,us,us.length,hv,eD⟩
  ·rw[ak hb]at e
   exact(J.hok b u e).stay (fun c v _ q=>q) (fun c q=>by rw[ak (nD' c _ q)];exact q) fun c xs q=>by rw[ak (nD' c _ q)];exact q
 have os:s'.os=s.os:=J.os
 refine⟨I.call' os un hok J.bare fun b hb=>⟨(hf b hb).2.2.2.1,(hf b hb).2.1,(hf b hb).2.2.2.2⟩,nD,?_,?_⟩
 ·refine I.fpOk (H':=upd H' s.heap.objs.size (.lst ys)) (b:=g.objs.size) (by rw[hsz];exact Mj _) ?_
  rw[ak hDC]
  exact J.free
 ·obtain⟨m,hn,_⟩:=J.loc
  exact⟨m,hn⟩
end
def qJ(te:TE)(fv:St)(J:It)(H1:Hp)(QQ:List V->Hp->Prop):Prop :=
 ∃ W:Nat->Nat->List V->Hp->Prop,(∃ m,W 0 m [] H1)/\∀ i m ys H,W i m ys H->ys.length<=sizeLine /\
  ((J.stop i H/\QQ ys H)∨(J.go i H/\∃ N:V->Hp->Prop,(∀ y H2,N y H2->∃ m',m'<m/\W (i+1) m' (ys++[y]) H2)/\∀ x H',J.yld i H x H'->te (some x::fv) H' N))
section
variable{X:Cx}{scope:Scope}{fr:List (Str×Nat)}{x:Str}{elt iter:Expr}{px pos:Pos}{te:TE}{wi:TI}
theorem xg{pins:List (Addr×Obj)}{σ:St}{H:Hp}{s:Shared}{E:Value->Shared->Prop}{it:Addr}{fp:List Addr}{tn:Nat->Heap->Prop}{J:It}{RR:Value->Addr->Result->Shared->Prop}{QQ:List V->Hp->Prop}(hc:X.calm=true)(O:bX X scope fr x)
  (he:∀ C ex s H,PE (du X scope fr x C ex s H) elt te) (I:Inv X pins σ H s) (T:Turn X.prog X.w X.K (.Name x px) J fp it tn) (st:tn 0 s.heap) (hf:∀ b∈fp,FpOk X pins H b) (hq:qJ te (frOf fr σ) J H QQ)
  (fin:∀ D C H4 ys s4 m,Inv X pins σ (upd H4 D (.lst ys)) s4->H4 D=none->FpOk X pins (upd H4 D (.lst ys)) C->s4.heap.Ns C m->QQ ys H4->RR (.ref D) C (.ok .next) s4) :
  wpAny (model X.prog X.w) X.A (newList []) (fun acc s₃=>wpAny (model X.prog X.w) X.A (newFunctionEnv scope X.env.globals (clOf X.env fr) [] X.env.qual none .none (some X.env)) (fun cenv s₄ =>
   codeAny (model X.prog X.w) X.A (.compStart (.ListComp elt [⟨.Name x px,iter,[],0⟩] scope pos) 0 (.ref it) acc { cenv with scope:=relabel scope X.env }) (RR acc cenv.locals) s₄) E s₃) E s:=by
 obtain⟨W,⟨m0,w0⟩,turn⟩:=hq
 have hfs:∀ b∈fp,b<s.heap.objs.size:=fun b hb=>by
  obtain⟨o,e,_⟩:=T.obj 0 s.heap st b hb
  exact Heap.lt_size e
 refine wpAny_newObj_type (wpAny_newFunctionEnv O.cell (by intro y hy;simp at hy) (fun h₁ hns₁ hsb₁=>?_) O.kind)
 dsimp only at hns₁ hsb₁ ⊢
 generalize hH2:s.heap.push { cls:=.type "list",dict:=none,data:=.seq ([]:List Value).toArray }=g at hns₁ hsb₁ ⊢
 have hg:g=s.heap.push (LCg.lst []):=hH2.symm
 have hsz:g.objs.size=s.heap.objs.size+1:=by rw[hg,Heap.size_push]
 have hk:∀ b o,g.get? b=some o->h₁.get? b=some o:=fun b o e=>hsb₁.extBut b o (Kp (Heap.lt_size e)) (Heap.get?_push_of_some _ e)
 have kp:∀ b o,s.heap.get? b=some o->h₁.get? b=some o:=fun b o e=>hk b o (by rw[hg];exact Heap.get?_push_of_some _ e)
 have J0:=GU (h':=h₁) (tk:=s.toks+([]:List (Str×Value)).length) O I hf hfs hg hk hns₁
 have stat:∀{H':Hp}{us:List Value},(∀ b∈fp,H' b=none)->∀ b∈fp,FpOk (du X scope fr x g.objs.size (s.heap.objs.size::fp) { s with heap:=g } H) (X.pn++pins++[(s.heap.objs.size,LCg.lst us)]) H' b:=fun{H' us} hn b hb=>by
  obtain⟨_,f1,f2,f3,f4,f5⟩:=hf b hb
  refine⟨hn b hb,?_,fun z=>(JT.mp (I.stkSub b z)).elim f1 f2,.inl (J1 _ hb),fun y c e=>f4 y c (O.cells I e),fun p hp=>?_⟩
  ·show b≠g.objs.size
   rw[hsz];exact Kp (Lw (hfs b hb))
  ·rcases JV.mp hp with hp | hp
   ·cases hp
   ·rcases JV.mp hp with hp | hp
    ·exact f5 p hp
    ·have ep:p=(s.heap.objs.size,LCg.lst us):=by simpa using hp
     rw[ep]
     exact Lc (hfs b hb)
 have loop:codeAny (model X.prog X.w) X.A (.compLoop (.ListComp elt [⟨.Name x px,iter,[],0⟩] scope pos) 0 (.ref it) (.ref s.heap.objs.size) (compEnvC scope (clOf X.env fr) g.objs.size X.env))
   (RR (.ref s.heap.objs.size) g.objs.size) { s with heap:=h₁,toks:=s.toks+([]:List (Str×Value)).length }:=by
  refine codeAny_compLoop_tests (fun n s'=>∃ i ys us H',Inv (du X scope fr x g.objs.size (s.heap.objs.size::fp) { s with heap:=g } H) (X.pn++pins++[(s.heap.objs.size,LCg.lst us)]) (none::frOf fr σ) H' s'/\Vals ys us/\tn i s'.heap/\(∀ b∈fp,H' b=none)/\W i n ys H') ?_ m0
   ⟨0,[],[],H,J0,.nil,T.keep 0 s.heap h₁ st fun b _ o e=>kp b o e,fun b hb=>(hf b hb).1,w0⟩
  rintro n s3 ⟨i,ys,us,H3,J3,hv,st3,fr3,w3⟩
  obtain⟨hlen,hh⟩:=turn i n ys H3 w3
  have none_err:∀{α:Type}{t:Sem α}{Q:α->Shared->Prop}{E':Value->Shared->Prop}{s:Shared},wpAny (model X.prog X.w) X.A t Q (fun _ _=>False) s->wpAny (model X.prog X.w) X.A t Q E' s:=fun h=>wpAny_mono h (fun _ _ q=>q) fun _ _ z=>z.elim
  rcases hh with⟨stop,qn⟩ | ⟨go,N,hN,step⟩
  ·refine none_err (thn (T.done (du X scope fr x g.objs.size (s.heap.objs.size::fp) { s with heap:=g } H) rfl rfl rfl hc i _ s3 _ H3 _ J3 (stat fr3) st3 stop) fun r s4 ⟨hr,J4⟩=>?_)
   subst hr
   obtain⟨I4,nD,fC,m,hn⟩:=wB I hf hg J4 hv hlen
   exact fin _ _ H3 ys s4 m I4 nD fC hn qn
  ·refine none_err (thn (T.item (du X scope fr x g.objs.size (s.heap.objs.size::fp) { s with heap:=g } H) rfl rfl rfl hc i _ s3 _ H3 _ J3 (stat fr3) st3 go) fun r s4 ⟨u,hr,h4⟩=>?_)
   subst hr
   have h4':=wpAny_bind (f:=fun _=>assign (.Name x px) (compEnvC scope (clOf X.env fr) g.objs.size X.env) u) (thn h4 (Q':=fun _ s5=>wpAny (model X.prog X.w) X.A (assign (.Name x px) (compEnvC scope (clOf X.env fr) g.objs.size X.env) u) (fun _ s6=>∃(σ6:St)(H6:Hp)(v:V)(s5':Shared)(H5:Hp),Inv (du X scope fr x g.objs.size (s.heap.objs.size::fp) { s with heap:=g } H) (X.pn++pins++[(s.heap.objs.size,LCg.lst us)]++qO fp s5'.heap) σ6 H6 s6/\σ6=some v::frOf fr σ/\H6=H5/\J.yld i H3 v H5/\tn (i+1) s5'.heap) (fun _ _=>False) s5) fun _ s5 ⟨v,H5,J5,r5,y5,st5,fr5⟩=>by
    have J5':=J5.pinned (stat fr5) (T.obj _ _ st5)
    have hNd:(du X scope fr x g.objs.size (s.heap.objs.size::fp) { s with heap:=g } H).N.Nodup:=O.nd
    have hxl:(du X scope fr x g.objs.size (s.heap.objs.size::fp) { s with heap:=g } H).env.scope.names.lookup x=some .local:=lookup_relabel_local O.xl
    exact thn (aP (X:=du X scope fr x g.objs.size (s.heap.objs.size::fp) { s with heap:=g } H) (i:=0) hNd rfl (.inl hxl) (.inr hxl) _ s5 _ H5 v u (fun σ6 H6=>σ6=some v::frOf fr σ/\H6=H5) J5' r5 ⟨rfl,rfl⟩) fun _ s6 ⟨σ6,H6,J6,e6,e7⟩=>⟨σ6,H6,v,s5,H5,J6,e6,e7,y5,st5⟩)
   refine none_err (thn h4' fun _ s6 ⟨σ6,H6,v,s5,H5,J6,e6,e7,y5,st5⟩=>?_)
   subst e6 e7
   refine wpAny_tests_nil ?_
   rw[if_pos rfl]
   refine none_err (thn (he _ _ _ _ _ s6 _ H6 _ J6 (step v H6 y5)) fun u7 s7 ⟨v7,H7,J7,r7,q7⟩=>?_)
   obtain⟨m',hm,w7⟩:=hN v7 H7 q7
   obtain⟨eD,nD,dC,dF,dd⟩:=J7.pin (s.heap.objs.size,LCg.lst us) (JY _ (Kv _ (JY _ (by simp))))
   have hvl:=hv.length
   refine append_at (hsz:=by show us.toArray.size<=sizeLine;rw[Ko,← hvl];exact hlen) eD fun h8 hs8 hD8=>?_
   have pinD:∀ p∈X.pn++pins,p.1≠s.heap.objs.size:=fun p hp z=>by
    have:=Heap.lt_size (I.pin p hp).1
    rw[z]at this
    exact La _ this
   have J7a:Inv (du X scope fr x g.objs.size (s.heap.objs.size::fp) { s with heap:=g } H) (X.pn++pins) _ H7 s7:=J7.pins_of fun p hp=>J7.pin p (JY _ (Kv _ (Kv _ hp)))
   have J8:Inv (du X scope fr x g.objs.size (s.heap.objs.size::fp) { s with heap:=g } H) (X.pn++pins) _ H7 { s7 with heap:=h8 }:=J7a.turned (t':=s7.toks) (fun b o hb e=>(hs8.2 b hb).trans e) nD dC (.inl Kh) (fun y c e z=>by
    obtain⟨w',q⟩:=I.cell y c (O.cells I e)
    have:=q.lt
    rw[z]at this
    exact La _ this) (fun p hp=>(JV.mp hp).elim (fun z=>by cases z) (pinD p))
   have J9:Inv (du X scope fr x g.objs.size (s.heap.objs.size::fp) { s with heap:=g } H) (X.pn++pins++[(s.heap.objs.size,LCg.lst (us++[u7]))]) _ H7 { s7 with heap:=h8 }:=J8.pins_of fun p hp=>by
    rcases JV.mp hp with hp | hp
    ·exact J8.pin p (JY _ hp)
    ·have ep:p=(s.heap.objs.size,LCg.lst (us++[u7])):=by simpa using hp
     subst ep
     exact⟨hD8.trans (congrArg some (LCg.lst_snoc us u7)),nD,dC,dF,fun v z=>by cases z⟩
   have J10:=J9.weak (σ':=none::frOf fr σ) rfl fun i v e=>by
    cases i with
    |zero=>cases e
    |succ k=>exact e
   have pinF:∀ b∈fp,∀ o,s5.heap.get? b=some o->s7.heap.get? b=some o/\H7 b=none:=fun b hb o e=>by
    obtain⟨q1,q2,_⟩:=J7.pin (b,o) (JY _ (JY _ (cT hb e)))
    exact⟨q1,q2⟩
   refine⟨m',hm,i+1,ys++[v7],us++[u7],H7,J10,hv.append (.cons r7 .nil),T.keep _ _ _ st5 fun b hb o e=>(hs8.2 b (Kp (hfs b hb))).trans (pinF b hb o e).1,fun b hb=>?_,w7⟩
   obtain⟨o,e,_⟩:=T.obj _ _ st5 b hb
   exact(pinF b hb o e).2
 exact codeAny_compStart_list loop (T.self X.A 0 _ _ _ (T.keep 0 s.heap h₁ st fun b _ o e=>kp b o e) loop)
def tComp(wi:TI)(te:TE)(fr:List (Str×Nat)):TE:=fun σ H Q=>wi σ H fun J H1=>qJ te (frOf fr σ) J H1 fun ys H2=>∀ D,H2 D=none->Q (.ref D) (upd H2 D (.lst ys))
theorem gU(hc:X.calm=true)(O:bX X scope fr x)(hi:PI X (.Name x px) iter wi)(he:∀ C ex s H,PE (du X scope fr x C ex s H) elt te)(hs:∀ x,foldedSetIterable iter X.env x=pure x:=by intro _;rfl) :
  PE X (.ListComp elt [⟨.Name x px,iter,[],0⟩] scope pos) (tComp wi te fr):=by
 intro pins s σ H Q I h
 rw[eval_ListComp]
 refine wpAny_comprehension_free (use:=none) rfl hs O.clos O.kind O.names (thn (hi pins s σ H _ I h) fun xv s1 h1=>thn h1 fun itv s2 h2=>?_)
 obtain⟨it,fp,tn,J,H2,e,I2,T,st2,f2,q2⟩:=h2
 subst e
 refine xg (RR:=fun acc C=>compPost (model X.prog X.w) X.A X.xe none (EP X pins σ Q) acc C) hc O he I2 T st2 f2 q2 ?_
 intro D C H4 ys s4 m I4 nD fC hn q4
 refine⟨m,hn,fun h' hs'=>?_⟩
 obtain⟨g0,g1,g2,g3,g4,g5⟩:=fC
 exact⟨.ref D,_,I4.turned (t':=s4.toks) (fun b o hb e=>(hs'.2 b hb).trans e) g0 g1 g3 g4 g5,rfl,q4 D nD⟩
def FW(i:Nat)(wi:TI)(te:TE)(fr:List (Str×Nat)):TS:=fun D σ H=>wi σ H fun J H1=>qJ te (frOf fr σ) J H1 fun ys H2=>∀ a,H2 a=none->D.nx (σ.set i (some (.ref a))) (upd H2 a (.lst ys))
theorem k9{i:Nat}{y:Str}{py spos:Pos}(hc:X.calm=true)(hN:X.N.Nodup)(hi':X.N[i]?=some y)(hy:X.env.scope.names.lookup y=some .local)(O:bX X scope fr x)(hi:PI X (.Name x px) iter wi)(he:∀ C ex s H,PE (du X scope fr x C ex s H) elt te)
  (hsw:swapsWith (.ListComp elt [⟨.Name x px,iter,[],0⟩] scope pos) (some (.Name y py)) spos.line X.env=pure true:=by rfl) (hs:∀ x,foldedSetIterable iter X.env x=pure x:=by intro _;rfl) :
  PS X (.Assign [.Name y py] (.ListComp elt [⟨.Name x px,iter,[],0⟩] scope pos) spos) (FW i wi te fr):=by
 intro pins s σ H D I h
 rw[exec_Assign_Name_used _ _ _ _ hsw]
 refine wpAny_bind (wpAny_standAt (wpAny_bind ?_))
 show wpAny _ X.A (do let _ ← comprehension (.ListComp elt [⟨.Name x px,iter,[],0⟩] scope pos) scope X.env _ (newList []) false (eval iter X.env) (some (assign (.Name y py) X.env))) _ _ s
 refine wpAny_bind (thn (wpAny_comprehension_free (use:=some (assign (.Name y py) X.env)) (Q:=fun _ s'=>SP X pins D .next s') rfl hs O.clos O.kind O.names (thn (hi pins s σ H _ I h) fun xv s1 h1=>thn h1 fun itv s2 h2=>?_)) fun _ s' hq=>wpAny_pure (wpAny_pure hq))
 obtain⟨it,fp,tn,J,H2,e,I2,T,st2,f2,q2⟩:=h2
 subst e
 refine xg (RR:=fun acc C=>compPost (model X.prog X.w) X.A X.xe (some (assign (.Name y py) X.env)) (fun _ s'=>SP X pins D .next s') acc C) hc O he I2 T st2 f2 q2 ?_
 intro a C H4 ys s4 m I4 nD fC hn q4
 obtain⟨g0,g1,g2,g3,g4,g5⟩:=fC
 obtain⟨oC,eC,hoC⟩:=LCg.ns_obj hn
 have I5:Inv X (pins++[(C,oC)]) σ (upd H4 a (.lst ys)) s4:=I4.pins_of fun p hp=>by
  rcases JV.mp hp with hp | hp
  ·exact I4.pin p (JY _ hp)
  ·have ep:p=(C,oC):=by simpa using hp
   subst ep
   obtain⟨es,epp,hd,_⟩:=hoC
   exact⟨eC,g0,g1,g2,fun v z=>by rw[hd]at z;cases z⟩
 show wpAny _ X.A (assign (.Name y py) X.env (.ref a)) _ _ _
 refine wpAny_assign_Name (rJ I5 hN hi' (.inl hy) (v:=.ref a) rfl (fun s6 I6=>?_) (.inr hy))
 obtain⟨e6,_⟩:=I6.pin (C,oC) (JY _ (JY _ (by simp)))
 refine⟨m,hoC.ns e6,fun h' hs'=>?_⟩
 exact⟨_,_,I6.unpinned.turned (t':=s6.toks) (fun b o hb e=>(hs'.2 b hb).trans e) g0 g1 g3 g4 g5,q4 a nD⟩
end
theorem df{K:JN}{a:Addr}{xs:List V}{te:TE}{fv:St}{H1:Hp}{QQ:List V->Hp->Prop}(Pv:Nat->List V->Hp->Prop)(hz:xs.length<=sizeLine)(h0:Pv 0 [] H1)(hl:∀ i ys H,i<=xs.length->Pv i ys H->SqL K H a xs)
  (hs:∀ i x ys H,xs[i]?=some x->Pv i ys H->te (some x::fv) H fun y H2=>Pv (i+1) (ys++[y]) H2) (hd:∀ ys H,ys.length=xs.length->Pv xs.length ys H->QQ ys H)
  : qJ te fv (Itl K a) H1 QQ:=by
 refine⟨fun i m ys H=>m=xs.length-i/\i<=xs.length/\ys.length=i/\Pv i ys H,⟨xs.length,by simp,K4 _,rfl,h0⟩,?_⟩
 rintro i m ys H ⟨rfl,hi,hy,p⟩
 have q:=hl i ys H hi p
 refine⟨by omega,?_⟩
 by_cases hlt:i<xs.length
 ·refine .inr ⟨⟨xs,xs[i],q,by simp[hlt]⟩,fun y H2=>Pv (i+1) (ys++[y]) H2,fun y H2 p2=>⟨xs.length-(i+1),by omega,rfl,hlt,by rw[JO,hy];rfl,p2⟩,fun x H' y=>?_⟩
  obtain⟨e,y⟩:=y
  subst e
  exact hs i x ys _ (y xs q) p
 ·have e:i=xs.length:=by omega
  subst e
  exact .inl ⟨⟨xs,q,JQ _⟩,hd ys H hy p⟩
theorem qV{lo:Int}{n:Nat}{te:TE}{fv:St}{H1:Hp}{QQ:List V->Hp->Prop}(Pv:Nat->List V->Hp->Prop)(hz:n<=sizeLine)(h0:Pv 0 [] H1)
  (hs:∀ i ys H,i<n->Pv i ys H->te (some (.int (lo+i))::fv) H fun y H2=>Pv (i+1) (ys++[y]) H2) (hd:∀ ys H,ys.length=n->Pv n ys H->QQ ys H)
  : qJ te fv (Itr lo n) H1 QQ:=by
 refine⟨fun i m ys H=>m=n-i/\i<=n/\ys.length=i/\Pv i ys H,⟨n,by simp,K4 _,rfl,h0⟩,?_⟩
 rintro i m ys H ⟨rfl,hi,hy,p⟩
 refine⟨by omega,?_⟩
 by_cases hlt:i<n
 ·refine .inr ⟨hlt,fun y H2=>Pv (i+1) (ys++[y]) H2,fun y H2 p2=>⟨n-(i+1),by omega,rfl,hlt,by rw[JO,hy];rfl,p2⟩,fun x H' y=>?_⟩
  obtain⟨e,y⟩:=y
  subst e y
  exact hs i ys _ hlt p
 ·have e:i=n:=by omega
  subst e
  exact .inl ⟨JQ _,hd ys H hy p⟩
end L2
namespace L2
open PySem PySem.Spec PyProof.Rows
theorem HL:bootBuiltins "int" = some (.type "int"):=by decide +kernel
theorem JF:bootBuiltins "bool" = some (.type "bool"):=by decide +kernel
theorem gG:bootBuiltins "list" = some (.type "list"):=by decide +kernel
theorem G6:bootBuiltins "tuple" = some (.type "tuple"):=by decide +kernel
theorem bG:bootBuiltins "len" = some (.builtin "len"):=by decide +kernel
theorem G7:bootBuiltins "range" = some (.type "range"):=by decide +kernel
theorem dH:bootBuiltins "isinstance" = some (.builtin "isinstance"):=by decide +kernel
theorem pI:bootBuiltins "sorted" = some (.builtin "sorted"):=by decide +kernel
theorem xm:bootBuiltins "enumerate" = some (.type "enumerate"):=by decide +kernel
structure Cal(P:Program)(w:World)(K:JN)(mg:Str->Option Value)(base:Heap)(k:Nat)(x:Str)(ps:List Str)(sp:Sp)(f:Addr)(fd:FuncData):Prop where
 ok:FnOk P w K mg base CX0 k f fd ps sp
 bn:iL K fd ps []
 mg:mg x=some (.ref f)
 kp:JX K (.ref f)=true
structure Mak(P:Program)(w:World)(K:JN)(mg:Str->Option Value)(base:Heap)(k:Nat)(x:Str)(ps:List Str)(sp:Sp)(C f:Addr)(fd:FuncData):Prop where
 mkc:Mk K C f
 ok:FnOk P w K mg base CX0 k f fd ps sp
 bn:iL K fd ps []
 mg:mg x=some (.ref C)
structure Met(P:Program)(w:World)(K:JN)(mg:Str->Option Value)(base:Heap)(k:Nat)(C:Addr)(m:Str)(ps:List Str)(sp:Sp)(f:Addr)(fd:FuncData):Prop where
 me:Meth K C m f
 ok:FnOk P w K mg base CX0 k f fd ps sp
 bn:iL K fd ps []
theorem yz{X:Cx}{sts:List Stmt}{t t2:TS}(h:PSs X sts t)(i:∀ D σ H,t2 D σ H->t D σ H):PSs X sts t2:=fun pins s σ H D I q=>h pins s σ H D I (i D σ H q)
section
variable{X:Cx}
def rIsi(K:JN):List V->Hp->VK->Prop:=fun xs H Q=>∃ x c t b u,xs = [x,c]/\TyOf K H x t/\((∃ n,c=.ty n/\u=Value.type n)∨∃ a,c=.ref a/\u=Value.ref a)/\My K t u=some b/\Q (.bl b) H
theorem oj:mm X (.builtin "isinstance") (rIsi X.K):=by
 intro pins s σ H xs us Q I r h
 obtain⟨x,c,t,b,u,rfl,ty,hu,e,q⟩:=h
 obtain⟨v1,v2,rfl,r1,r2⟩:=vals2 r
 have e2:v2=u:=by
  rcases hu with⟨n,rfl,rfl⟩ | ⟨a,rfl,rfl⟩
  ·exact r2
  ·exact r2
 subst e2
 exact EG I r1 ty e fun tk=>⟨.bl b,H,I.tok tk,rfl,q⟩
theorem kit_ii(K:JN):My K (.type "int") (.type "int")=some true:=by with_unfolding_all rfl
theorem kit_ib(K:JN):My K (.type "int") (.type "bool")=some false:=by with_unfolding_all rfl
theorem kit_ll(K:JN):My K (.type "list") (.type "list")=some true:=by with_unfolding_all rfl
theorem kit_tt(K:JN):My K (.type "tuple") (.type "tuple")=some true:=by with_unfolding_all rfl
end
inductive RdD(K:JN)(H:Hp):V->PyData->Prop where
 |non:RdD K H .non .none
 |bl (b:Bool):RdD K H (.bl b) (.bool b)
 |int (i:Int):RdD K H (.int i) (.int i)
 |lst {a:Addr} {xs:List V} {ds:List PyData} (h:SqL K H a xs) (hl:xs.length=ds.length) (r:∀(i:Nat)(x:V)(d:PyData),xs[i]?=some x->ds[i]?=some d->RdD K H x d):RdD K H (.ref a) (.list ds)
 |tup {a:Addr} {xs:List V} {ds:List PyData} (h:SqT K H a xs) (hl:xs.length=ds.length) (r:∀(i:Nat)(x:V)(d:PyData),xs[i]?=some x->ds[i]?=some d->RdD K H x d):RdD K H (.ref a) (.tuple ds)
theorem js{h:Heap}:∀{xs:List V}{us:List Value}{ds:List PyData},Vals xs us->xs.length=ds.length->(∀(i:Nat) x d,xs[i]?=some x->ds[i]?=some d->∀ u,RelV x u->∃ as,Reads h u d as)->∃ as,ReadsAll h us ds as
 |_,_,[],.nil,_,_=>⟨_,.nil⟩
 |_,_,_::_,.nil,e,_=>by cases e
 |_,_,[],.cons _ _,e,_=>by cases e
 |_,_,d::ds,.cons r rr,e,k=>by
  obtain⟨a1,q1⟩:=k 0 _ d rfl rfl _ r
  obtain⟨a2,q2⟩:=js rr (Nat.succ.inj e) fun i x d' e1 e2=>k (i+1) x d' e1 e2
  exact⟨_,.cons q1 q2⟩
section
variable{X:Cx}
theorem RdD.reads{pins:List (Addr×Obj)}{σ:St}{H:Hp}{s:Shared}(I:Inv X pins σ H s){x:V}{d:PyData}(r:RdD X.K H x d):∀ u,RelV x u->∃ as,Reads s.heap u d as:=by
 induction r with
 |non=>intro u hu;cases hu;exact⟨_,.none⟩
 |bl b=>intro u hu;cases hu;exact⟨_,.bool b⟩
 |int i=>intro u hu;obtain⟨t,rfl⟩:=hu;exact⟨_,.int i t⟩
 |lst h hl r ih =>
  intro u hu
  cases hu
  obtain⟨its,rv,p,_⟩:=I.list h
  obtain⟨as,q⟩:=js (h:=s.heap) rv hl ih
  obtain⟨o,n,e,c,_,d⟩:=p
  exact⟨_,.list e c d (by simpa using q)⟩
 |tup h hl r ih =>
  intro u hu
  cases hu
  obtain⟨its,rv,p,_⟩:=I.tuple h
  obtain⟨as,q⟩:=js (h:=s.heap) rv hl ih
  obtain⟨o,e,c,n,d⟩:=p
  exact⟨_,.tuple e c d (by simpa using q)⟩
def rSame(b:Bool)(K:JN):R2:=fun x y H Q=>∃ d,RdD K H x d/\RdD K H y d/\SeqAt.shaped d=true/\Q (.bl b) H
theorem Hv(hu:X.A.units+64<cLine):OpR X (compareOp .NotEq) (rSame false X.K):=by
 intro pins s σ H x y v u Q I rx ry h
 obtain⟨d,r1,r2,hs,q⟩:=h
 obtain⟨as,q1⟩:=r1.reads I v rx
 obtain⟨bs,q2⟩:=r2.reads I u ry
 refine ne_dataH q1 q2 hs hs hu ?_
 rw[SeqAt.eqv_refl d (SeqAt.canLay_of_shaped hs)]
 exact⟨.bl false,H,I,rfl,q⟩
end
def Itr3(lo c:Int)(n:Nat):It:=⟨fun i _=>i<n,fun i H x H'=>H'=H/\x=.int (lo+i*c),fun i _=>n<=i⟩
theorem x4{P:Program}{w:World}{K:JN}{tg:Expr}(it:Addr)(lo c:Int)(n:Nat):Turn P w K tg (Itr3 lo c n) [it] it (fun i h=>IsRangeIter h it (lo+(i:Nat)*c) ((n:Int)-(i:Nat)) c) where
 mem:=by simp
 obj:=fun i h st b hb=>by
  have e:b=it:=by simpa using hb
  subst e
  exact⟨_,st,fun v z=>by
   have z':Data.fields _=Data.cell v:=z
   cases z'⟩
 keep:=fun i h h' st k=>k it (by simp) _ st
 item:=by
  intro X hP hw hK hc i pins s σ H E I hf st hg
  subst hP hw hK
  obtain⟨f0,f1,f2,f3,f4,f5⟩:=hf it (by simp)
  have W:=Walks.range (prog:=X.prog) (w:=X.w) (I.ok.hd hc) it lo c n
  refine W.item i s _ _ hg st fun v h' tk hv st' kk=>?_
  obtain⟨t,rfl⟩:=hv
  have I1:Inv X pins σ H { s with heap:=h',toks:=tk }:=I.turned (fun b o hb e=>kk b o (by simpa using hb) e) f0 f1 f3 f4 f5
  exact⟨_,rfl,Jo (s:={ s with heap:=h',toks:=tk }) (n:="range_iterator") st' rfl rfl (by decide) ⟨.int (lo+i*c),H,I1,⟨t,rfl⟩,⟨rfl,rfl⟩,st',fun b hb=>(hf b hb).1⟩⟩
 done:=by
  intro X hP hw hK hc i pins s σ H E I hf st hg
  subst hP hw hK
  obtain⟨f0,f1,f2,f3,f4,f5⟩:=hf it (by simp)
  exact wpAny_pyNext_range_end (I.ok.hd hc) st (by have:n<=i:=hg;omega) fun h' eb=>⟨rfl,I.turned (t':=s.toks) (fun b o hb e=>eb b o hb e) f0 f1 f3 f4 f5⟩
 self:=fun _ _ _ _ _ st h=>wpAny_pyIter_rangeiter st h
section
variable{X:Cx}{tg:Expr}
end
end L2
namespace L2
open PySem PySem.Spec PyProof.Rows
section
variable{P:Program}{w:World}{H:Hp}{h:Heap}{a:Addr}{o:HO}
theorem bA.get(x:bA P w H h a o):∃ ob,h.get? a=some ob:=by
 cases o with
 |lst xs=>obtain⟨_,_,_,_,e⟩:=x;exact⟨_,e⟩
 |tup xs=>obtain⟨_,_,_,ob,e,_⟩:=x;exact⟨_,e⟩
 |dK kvs=>obtain⟨_,_,_,_,o,_,_,e,_⟩:=x;exact⟨_,e⟩
 |dT kvs=>obtain⟨_,_,_,_,o,_,_,e,_⟩:=x;exact⟨_,e⟩
 |set S n=>obtain⟨o,_,_,_,e,_⟩:=x;exact⟨_,e⟩
 |ins C dx fs=>obtain⟨_,_,_,e,_⟩:=x;exact⟨_,e⟩
 |own y=>exact x
 |xd fs=>obtain⟨_,⟨_,_,_,e,_⟩,_⟩:=x;exact⟨_,e⟩
 |rng lo hi=>obtain⟨_,_,_,e⟩:=x;exact⟨_,e⟩
 |frz ob u=>exact⟨_,x.1⟩
 |tbl ps=>exact⟨_,(show h.get? a=some _ from x)⟩
 |met f y=>exact⟨_,(show h.get? a=some _ from x)⟩
 |ext φ=>exact x.2.1
theorem HOk.none_of(x:HOk P w H h)(e:h.get? a=none):H a=none:=by
 cases q:H a with
 |none=>rfl
 |some u =>
  obtain⟨ob,z⟩:=(x a u q).get
  rw[e]at z
  cases z
end
structure XOk(X:Cx)(pins:List (Addr×Obj))(H:Hp)(b:Addr):Prop where
 old:X.s₀.heap.get? b=none
 trk:H b=none
 nl:b≠X.env.locals
 nc:∀ x c,X.env.cells.lookup x=some c->c≠b
 np:∀ p∈X.pn++pins,p.1≠b
section
variable{X:Cx}{pins:List (Addr×Obj)}{σ:St}{H H':Hp}{s s':Shared}{b:Addr}
theorem Inv.xok(I:Inv X pins σ H s)(hx:X.ex = [])(e:s.heap.get? b=none)(n:H' b=none):XOk X pins H' b:=by
 refine⟨?_,n,fun z=>?_,fun x c q z=>?_,fun p hp z=>?_⟩
 ·cases q:X.s₀.heap.get? b with
  |none=>rfl
  |some o =>
   obtain⟨o',e'⟩:=I.base.there b o q (by rw[hx];simp)
   rw[e]at e'
   cases e'
 ·obtain⟨m,⟨o,_,_,ho,_⟩,_⟩:=I.loc
  rw[z,ho]at e
  cases e
 ·obtain⟨v,o,ho,_⟩:=I.cell x c q
  rw[z,e]at ho
  cases ho
 ·have:=(I.pin p hp).1
  rw[z,e]at this
  cases this
theorem Inv.xstep{h':Heap}{ch:List Addr}(I:Inv X pins σ H s)(hch:∀ b∈ch,XOk X pins H b)
  (keep:∀ b o,s.heap.get? b=some o->b∉ch->b∉frs X.stack->h'.get? b=some o)
  (slot:∀ b o,s.heap.get? b=some o->b∉ch->b∈frs X.stack->∃ sl,h'.get? b=some { o with slots:=sl }):Inv X pins σ H { s with heap:=h' }:=by
 have any:∀ b o,s.heap.get? b=some o->b∉ch->∃ sl,h'.get? b=some { o with slots:=sl }:=fun b o e hc=>by
  by_cases hb:b∈frs X.stack
  ·exact slot b o e hc hb
  ·exact⟨o.slots,keep b o e hc hb⟩
 have fsub:∀ b,b∈frs X.stack->b≠X.env.locals->b∈X.fs:=fun b hb n=>(JT.mp (I.stkSub b hb)).elim (fun z=>absurd z n) fun z=>z
 have neL:∀ b o,X.s₀.heap.get? b=some o->b≠X.env.locals:=fun b o e=>Kp (Ky (Heap.lt_size e) I.ok.above)
 have neC:∀ b o,X.s₀.heap.get? b=some o->b∉ch:=fun b o e hb=>by
  have:=(hch b hb).old
  rw[e]at this
  cases this
 have cellK:∀ x c,X.env.cells.lookup x=some c->∀ v,s.heap.IsCell c v->h'.IsCell c v:=fun x c e v ⟨o,ho,hd⟩=>by
  obtain⟨sl,q⟩:=any c o ho fun z=>(hch c z).nc x c e rfl
  exact⟨_,q,hd⟩
 refine⟨I.ok,I.os,I.bare,⟨fun b o e n hb hx=>?_,fun b o e n hb hx=>?_,I.base.free,fun b o e hx=>?_,I.base.tups,I.base.frzs,I.base.tbls⟩,?_,fun x c e=>?_,I.free,I.freeC,fun p hp=>?_,fun b u e=>?_,I.len⟩
 ·exact keep b o (I.base.keep b o e n hb hx) (neC b o e) fun z=>hb (fsub b z (neL b o e))
 ·obtain⟨sl,e1⟩:=I.base.slot b o e n hb hx
  obtain⟨sl',e2⟩:=any b _ e1 (neC b o e)
  exact⟨sl',e2⟩
 ·obtain⟨o',e1⟩:=I.base.there b o e hx
  obtain⟨sl,e2⟩:=any b _ e1 (neC b o e)
  exact⟨_,e2⟩
 ·obtain⟨m,⟨o,es,ep,ho,r⟩,hl⟩:=I.loc
  obtain⟨sl,e2⟩:=any _ o ho fun z=>(hch _ z).nl rfl
  refine⟨m,⟨_,es,ep,e2,r⟩,fun i x v e1 e2 e3=>?_⟩
  obtain⟨u,r,l⟩:=hl i x v e1 e2 e3
  refine⟨u,r,?_⟩
  rcases l with l | ⟨k,c,e,z⟩
  ·exact .inl l
  ·exact .inr ⟨k,c,e,cellK x c e _ z⟩
 ·obtain⟨v,z⟩:=I.cell x c e
  exact⟨v,cellK x c e v z⟩
 ·obtain⟨e,n,ne,nf,d⟩:=I.pin p hp
  exact⟨keep p.1 p.2 e (fun z=>(hch p.1 z).np p hp rfl) fun z=>nf (fsub p.1 z ne),n,ne,nf,d⟩
 ·have nof:∀ c u',H c=some u'->c∉ch/\c∉frs X.stack:=fun c u' q=>⟨fun z=>(by rw[(hch c z).trk]at q;exact nomatch q),fun z=>(by rw[I.stkFree c z]at q;exact nomatch q)⟩
  refine(I.hok b u e).stay (fun c v hc q=>?_) (fun _ q=>q) fun _ _ q=>q
  rcases hc with z | z
  ·rw[z]at q ⊢
   exact keep b v q (nof b u e).1 (nof b u e).2
  ·exact keep c v q (nof c _ z).1 (nof c _ z).2
end
def Trc(h:Heap)(x:Addr)(C:Value)(T:Addr):Prop :=
 ∃ oe vs a0 oT ts,h.get? x=some oe/\oe.cls=C/\vs[0]?=some a0/\oe.data=.fields vs/\vs[1]?=some (.ref T)/\T≠x/\h.get? T=some oT/\oT.data=.fields ts/\ts[3]?=some .none
def Xnw(h:Heap)(x:Addr)(C:Value):Prop:=∃ oe vs a0,h.get? x=some oe/\oe.cls=C/\oe.data=.fields vs/\vs[0]?=some a0/\vs[1]?=some .none
def XA(X:Cx)(pins:List (Addr×Obj))(H:Hp)(s:Shared)(x:Addr)(C:Value):Prop:=XOk X pins H x/\(Xnw s.heap x C∨∃ T,XOk X pins H T/\Trc s.heap x C T)
def CXr(P:Program)(w:World):CXT:=fun outer H s E e s'=>∃(x:Addr)(C:Value)(T:Addr)(H':Hp),e=.ref x/\s'.os=s.os/\AllBare s'.gens/\Un (frs outer) [] H H' s.heap s'.heap/\HOk P w H' s'.heap /\
 s.heap.get? x=none/\s.heap.get? T=none/\H' x=none/\H' T=none/\Trc s'.heap x C T/\E C none H'
section
variable{X:Cx}{pins:List (Addr×Obj)}{σ:St}{H:Hp}{s:Shared}{x:Addr}{C:Value}{E:Value->Shared->Prop}
abbrev hidX(X:Cx)(h:Heap)(ch:List Addr):Heap:=PySem.W.hideAll h (ch++frs X.stack)
theorem Inv.hidF(I:Inv X pins σ H s)(ch:List Addr):s.heap.FunFrames (hidX X s.heap ch) X.stack :=
 PySem.W.funFrames_hide I.stack fun env he a hf=>JY _ (Nl.mpr ⟨env,he,hf⟩)
theorem HF(ch:List Addr)(h:Heap):(hidX X h ch).StaysIn h:=fun _ _ e=>PySem.W.of_hideAll _ e
theorem tW{ch:List Addr}{h:Heap}{b:Addr}(hb:b∈ch):(hidX X h ch).get? b=none:=PySem.W.hideAll_none _ (Kv _ hb)
theorem Inv.left{h':Heap}{ch:List Addr}{a0:Value}(I:Inv X pins σ H s)(hx:X.ex = [])(hch:∀ b∈ch,XOk X pins H b)(k:(hidX X s.heap ch).StaysIn h')(t:h'.TracedW (hidX X s.heap ch) x C a0)(u:s.heap.UpToSlots h') :
  Inv X pins σ H { s with heap:=h' }/\∃ T,XOk X pins H T/\Trc h' x C T:=by
 have fr:∀ b o,s.heap.get? b=some o->b∈frs X.stack->∃ sl,h'.get? b=some { o with slots:=sl }:=fun b o e hb=>by
  obtain⟨_,o',ho,hd⟩:=I.stack.mem hb
  rw[e]at ho
  cases ho
  exact u b o e hd
 refine⟨I.xstep hch (fun b o e n1 n2=>k b o (Nh _ e fun z=>(JV.mp z).elim n1 n2)) fun b o e _ hb=>fr b o e hb,?_⟩
 obtain⟨oe,vs,T,oT,ts,he,⟨hcls,h0⟩,hd,h1,hnT,hTe,hT,hdT,h3⟩:=t
 refine⟨T,?_,oe,vs,a0,oT,ts,he,hcls,h0,hd,h1,hTe,hT,hdT,h3⟩
 cases q:s.heap.get? T with
 |none=>exact I.xok hx q (I.hok.none_of q)
 |some o =>
  by_cases z:T∈ch
  ·exact hch T z
  ·by_cases z2:T∈frs X.stack
   ·obtain⟨_,o',ho,hd'⟩:=I.stack.mem z2
    obtain⟨sl,e⟩:=fr T o q z2
    rw[hT]at e
    cases e
    rw[q]at ho
    cases ho
    exact absurd hdT (hd' ts)
   ·have:=Nh (ch++frs X.stack) q fun z3=>(JV.mp z3).elim z z2
    rw[hnT]at this
    cases this
theorem Inv.leave{Q:Unit->Shared->Prop}(I:Inv X pins σ H s)(hx:X.ex = [])(hst:X.stack=X.env::X.outer)(hfr:X.env.frame=some X.env.locals)(xa:XA X pins H s x C)
  (h:∀ h' T,Inv X pins σ H { s with heap:=h' }->XOk X pins H x->XOk X pins H T->Trc h' x C T->Q () { s with heap:=h' }):wpAny (model X.prog X.w) X.A (leaving X.env (.ref x)) Q E s:=by
 obtain⟨x1,x2⟩:=xa
 have frm:X.A.frames=some (X.env::X.outer):=by rw[← hst];exact I.ok.frames
 rcases x2 with⟨oe,vs,a0,he,hc,hd,h0,h1⟩ | ⟨T,xT,oe,vs,a0,oT,ts,he,hc,h0,hd,h1,hTe,hT,hdT,h3⟩
 ·have hch:∀ b∈[x],XOk X pins H b:=fun b hb=>by
   have e:b=x:=by simpa using hb
   rw[e]
   exact x1
  refine wpAny_leaving_firstW (base:=hidX X s.heap [x]) frm (hst▸I.hidF [x]) hfr he (HF _ _) (tW (by simp)) hd h1 h0 fun h' L=>?_
  obtain⟨k1,_,k3,k4⟩:=L
  obtain⟨I',T,xT,tr⟩:=I.left hx hch k1 k3 k4
  rw[hc]at tr
  exact h h' T I' x1 xT tr
 ·have hch:∀ b∈[x,T],XOk X pins H b:=fun b hb=>by
   rcases JT.mp hb with e | hb
   ·rw[e]
    exact x1
   ·have e:b=T:=by simpa using hb
    rw[e]
    exact xT
  refine wpAny_leaving_nextW (base:=hidX X s.heap [x,T]) frm (hst▸I.hidF [x,T]) hfr ⟨oe,vs,T,oT,ts,he,⟨hc,h0⟩,hd,h1,tW (by simp),hTe,hT,hdT,h3⟩ (HF _ _) (tW (by simp)) fun h' L=>?_
  obtain⟨k1,_,k3,k4⟩:=L
  obtain⟨I',T',xT',tr⟩:=I.left hx hch k1 k3 k4
  exact h h' T' I' x1 xT' tr
end
abbrev WK:=Value->St->Hp->Prop
def Wsh(X:Cx)(W:WK):Prop:=∀(pins:List (Addr×Obj))(σ:St)(H:Hp)(s:Shared)(x:Addr)(C:Value),Inv X pins σ H s->XA X pins H s x C->W C σ H->X.xe (.ref x) s
theorem mq{P:Program}{w:World}{K:JN}{mg:Str->Option Value}{base:Heap}{N:List Str}{qual:Str}{scope:Scope}{f:Addr}{cd:Value}{A:Around}{outer:List Env}{s₀:Shared}{H₀:Hp}{E:XK} :
  Wsh (cxOf (CXr P w) P w K mg base N qual scope f cd A outer s₀ H₀ E) (fun C _ H=>E C none H):=fun pins σ H s x C I xa hE=>by
 show wpAny (model P w) (A.deeper (envOfC qual scope s₀.heap.objs.size f cd)) (leaving (envOfC qual scope s₀.heap.objs.size f cd) (.ref x)) _ _ s
 refine Inv.leave I rfl rfl rfl xa fun h' T I' x1 xT tr=>?_
 exact⟨x,C,T,H,rfl,I'.os,I'.bare,I'.base,I'.hok,x1.old,xT.old,x1.trk,xT.trk,tr,hE⟩
theorem pass0r{P:Program}{w:World}{X:Cx}:mO (CXr P w) X E0:=fun _ _ _ _ _ _ _ ⟨_,_,_,_,_,_,_,_,_,_,_,_,_,_,z⟩=>z.elim
section
variable{X:Cx}{k:Nat}{f C:Addr}{fd:FuncData}{ps:List Str}{sp:Sp}{dvs:List V}{ds:List Value}{W:WK}{x m:Str}{p pos apos:Pos}{e o:Expr}{es:List Expr}{ta:TE}{t:TA}
theorem Wsh.of{pins:List (Addr×Obj)}{σ:St}{H:Hp}{s s':Shared}{v:Value}(ws:Wsh X W)(hx:X.ex = [])(I:Inv X pins σ H s)(h:CXr X.prog X.w X.stack H s (fun C _ H'=>W C σ H') v s'):X.xe v s':=by
 obtain⟨x,C,T,H',rfl,os,bare,un,hok,nx,nT,tx,tT,tr,q⟩:=h
 have I':Inv X pins σ H' s':=I.call' os un hok bare fun b z=>absurd z (by simp)
 exact ws pins σ H' s' x C I' ⟨I.xok hx nx tx,.inr ⟨T,I.xok hx nT tT,tr⟩⟩ q
theorem ID{pins:List (Addr×Obj)}{σ:St}{H:Hp}{s:Shared}{Q:VK}{us:List Value}{vs:List V}(F:FnOk X.prog X.w X.K X.mg X.base (CXr X.prog X.w) k f fd ps sp)(hr:Room k X.A)(hb:iL X.K fd ps ds)(hd:Vals dvs ds)(ws:Wsh X W)(hx:X.ex = [])
  (I:Inv X pins σ H s) (r:Vals vs us) (h:sp (vs++dvs) H Q (fun C _ H'=>W C σ H')):wpAny (model X.prog X.w) X.A (call (.ref f) us) (EP X pins σ Q) X.xe s:=by
 have r2:Vals (vs++dvs) (us++ds):=r.append hd
 have hl:(us++ds).length=ps.length:=by rw[← r2.length];exact F.len _ _ _ _ h
 refine wpAny_call (codeAny_mono (F.run X.A X.stack s H ⟨us,[]⟩ (us++ds) (vs++dvs) Q _ hr I.env0 (hb s us I.kIn hl) r2 h) fun r s' hq=>?_)
 cases r with
 |error e=>exact ws.of hx I hq
 |ok fl =>
  cases fl with
  |ret u=>exact I.after hq
  |next=>exact False.elim hq
  |brk=>exact False.elim hq
  |cont=>exact False.elim hq
def tCallX(sp:Sp)(dvs:List V)(W:WK)(t:TA):TE:=fun σ H Q=>t σ H fun vs H1=>sp (vs++dvs) H1 Q fun C _ H'=>W C σ H'
theorem iU(F:FnOk X.prog X.w X.K X.mg X.base (CXr X.prog X.w) k f fd ps sp)(hr:Room k X.A)(hg:Gl X x)(hm:X.mg x=some (.ref f))(hk:JX X.K (.ref f)=true)(hb:iL X.K fd ps ds)(hd:Vals dvs ds)(ws:Wsh X W)(hx:X.ex = [])
  (ha:PA X (e::es) t) (hdb:(x == ("__debug__" : Str))=false:=by decide) (he:starEach (e::es) X.env=(false,eval e X.env)::starEach es X.env:=by rfl) (hpl:(backTo pos (starEach es X.env)).any (·.1)=false:=by rfl) :
  PE X (.Call (.Name x p) (e::es) [] pos) (tCallX sp dvs W t):=by
 intro pins s σ H Q I h
 refine wpAny_Call_Name_kw (oS I hg hm ?_ hdb)
 refine MK (h₀:=X.base) I.ok.mod.kin hk (thn (ha pos pins s σ H _ I h) fun us s1 ⟨vs,H1,I1,r,q⟩=>⟨I1.kIn,?_⟩) he hpl
 exact ID F hr hb hd ws hx I1 r q
end
end L2
namespace L2
open PySem PySem.Spec PyProof.Rows
structure CalX(P:Program)(w:World)(K:JN)(mg:Str->Option Value)(base:Heap)(k:Nat)(x:Str)(ps:List Str)(sp:Sp)(f:Addr)(fd:FuncData):Prop where
 ok:FnOk P w K mg base (CXr P w) k f fd ps sp
 bn:iL K fd ps []
 mg:mg x=some (.ref f)
 kp:JX K (.ref f)=true
theorem Fun.okX{P:Program}{w:World}{K:JN}{mg:Str->Option Value}{base:Heap}{x qual:Str}{st:Stmt}{f:Addr}{fd:FuncData}{N ps:List Str}{k:Nat}{sp:Sp}(F:Fun K x qual st f fd)(S:aC N ps (ai st))(len:∀ vs H Q E,sp vs H Q E->vs.length=ps.length)
  (hbody:∀(cdv:Value)(A:Around)(outer:List Env)(s:Shared)(H:Hp)(vs:List V)(Q:VK)(E:XK),Room k (A.deeper (envOfC qual (ai st) s.heap.objs.size f cdv))->sp vs H Q E ->
   ∃ t,PSs (cxOf (CXr P w) P w K mg base N qual (ai st) f cdv A outer s H E) (az st) t/\t { nx:=fun _ H'=>Q .non H',rt:=Q } (qd N vs) H):FnOk P w K mg base (CXr P w) (k+1) f fd ps sp:=by
 obtain⟨oc,od,kV,doc,pm,an,cdv,ct,osl,rfl,lk,hcd⟩:=F.ex
 exact Jq lk hcd S len fun A outer s H vs Q E hr hsp=>hbody cdv A outer s H vs Q E hr hsp
abbrev veM:List Value:=[.type "ValueError",.type "Exception",.type "BaseException",.type "object"]
abbrev ExC(K:JN)(C:Addr):Prop:=MZ K C veM "ValueError.__new__" = true
theorem Jx{K:JN}{C:Addr}{h:Heap}(e:ExC K C)(X:K.In h):∃ bm N nm qn bs hdct sn sub ab col dd k0 k1 k2 k3 k5 mN,h.get? C=some (excClassObj nm qn C N bs bm hdct sn sub ab col dd k0 k1 k2 k3 k5 "ValueError.__new__")/\h.Ns N mN/\mN "__init__" = none/\OwnTail h veM bm/\∀ B b,MY K C B=some b->(Value.ref C::bm).contains B=b:=by
 have z:=e
 unfold ExC MZ at z
 split at z
 ·rename_i ddx cdx slx hobj
  split at z
  ·rename_i Cx bmx y0 y1 y2 y3 nx y5 hmro hslots
   have zz:=z
   simp only[Bool.and_eq_true,beq_iff_eq,Mx]at zz
   obtain⟨⟨⟨⟨⟨eC,eN⟩,edel⟩,etail⟩,ens⟩,einit⟩:=zz
   subst eC
   subst eN
   obtain⟨l⟩:=slx
   have hl:l = [y0,y1,y2,y3,some (.builtin "ValueError.__new__"),y5]:=hslots
   subst hl
   obtain⟨nm,bs,mro,ns,qn,hd,sn,sub,ab,col,del⟩:=cdx
   have hmro':mro=.ref Cx::bmx:=hmro
   have hdel':del=false:=edel
   subst hmro' hdel'
   refine⟨bmx,ns,nm,qn,bs,hd,sn,sub,ab,col,ddx,y0,y1,y2,y3,y5,_,X _ _ hobj,.of_isNs (PySem.W.isNs_of_in X ens),PySem.W.nsMap_none_of_in X ens einit,PySem.W.tail_of_in X etail,fun B b hB=>?_⟩
   unfold MY PySem.W.clsIn at hB
   rw[hobj]at hB
   simpa using hB
  ·cases z
 ·cases z
def Hf(C:Addr)(W:WK)(t:TA):TS:=fun _ σ H=>t σ H fun vs H1=>vs.length<=sizeLine/\W (.ref C) σ H1
theorem vh{X:Cx}{x:Str}{C:Addr}{e:Expr}{es:List Expr}{t:TA}{W:WK}{np cpos pos:Pos}(ec:ExC X.K C)(hm:X.mg x=some (.ref C))(hg:Gl X x)(ws:Wsh X W)(hx:X.ex = [])(hc:X.calm=true)(ha:PA X (e::es) t)
  (he:starEach (e::es) X.env=(false,eval e X.env)::starEach es X.env:=by rfl) (hpl:(backTo cpos (starEach es X.env)).any (·.1)=false:=by rfl) (hdb:(x == ("__debug__" : Str))=false:=by decide) :
  PS X (.Raise (some (.Call (.Name x np) (e::es) [] cpos)) none pos) (Hf C W t):=by
 intro pins s σ H D I h
 obtain⟨tl,N,nm,qn,bs,hdct,sn,sub,ab,col,dd,k0,k1,k2,k3,k5,mN,hC,hN,hni,T,_⟩:=Jx ec I.ok.mod.kin
 have hpl2:(backTo cpos (starEach (e::es) X.env)).any (·.1)=false:=by
  rw[he]
  show(false||(backTo cpos (starEach es X.env)).any (·.1))=false
  rw[hpl];rfl
 refine wpAny_Raise_call_subT (C:=C) (nm:=nm) (q:=qn) (N:=N) (bs:=bs) (bm:=tl) (hdct:=hdct) (sn:=sn) (sub:=sub) (ab:=ab) (col:=col) (dd:=dd) (k0:=k0) (k1:=k1) (k2:=k2) (k3:=k3) (k5:=k5) PySem.F.excBase_ValueError (mN:=mN) (T.hasType PySem.F.excBase_ValueError.hasBase) (I.ok.hd hc) hpl2 hni (oS I hg hm ⟨rfl,?_⟩ hdb)
 have z:=ha cpos pins s σ H _ I h
 rw[he]at z ⊢
 refine Calls.evalArgs_plain (wpAny_mono z (fun us s2 zz=>?_) fun _ _ y=>y)
 obtain⟨vs,H1,I2,r,hz,q⟩:=zz
 refine⟨rfl,by rw[← r.length];exact hz,I2.bk _ _ hC,hN.keeps I2.bk,T.keeps I2.bk,fun h' e' hme=>?_⟩
 obtain⟨t0,ht0,_,_⟩:=hme.there
 have I3:Inv X pins σ H1 { s2 with heap:=h' }:=I2.kept (t':=s2.toks) hme.keeps
 exact ws pins σ H1 _ e' (.ref C) I3 ⟨I2.xok hx hme.new (I2.hok.none_of hme.new),.inl ⟨_,_,_,ht0,rfl,rfl,rfl,rfl⟩⟩ q
section
variable{X:Cx}{pins:List (Addr×Obj)}{σ:St}{H:Hp}{s:Shared}{x:Addr}{C:Value}
end
section
variable{M:Model}{A:Around}{E:Value->Shared->Prop}{h:Heap}{g:Array GenState}{d:Drawn}{t:Nat}{os:OsState}
end
section
variable{X:Cx}{pins pins':List (Addr×Obj)}{σ:St}{H:Hp}{s:Shared}{E:Value->Shared->Prop}{b:Addr}
end
section
variable{X:Cx}{k:Nat}{f:Addr}{fd:FuncData}{ps:List Str}{sp:Sp}{dvs:List V}{ds:List Value}{W:WK}{x:Str}{p pos:Pos}{e:Expr}{es:List Expr}{t:TA}
end
end L2
namespace L2
open PySem PySem.Spec PyProof.Rows
end L2
namespace L2
open PySem PySem.Spec PyProof.Rows
section
variable{prog:Program}{w:World}{A:Around}{E:Value->Shared->Prop}{s:Shared}
end
end L2
namespace L2
open PySem PySem.Spec PyProof.Rows
section
variable{prog:Program}{w:World}{A:Around}{E:Value->Shared->Prop}{s:Shared}
end
section
variable{X:Cx}
theorem Inv.track{pins:List (Addr×Obj)}{σ:St}{H:Hp}{s:Shared}{a:Addr}{o:HO}(I:Inv X pins σ H s)(f:FpOk X pins H a)(new:bA X.prog X.w (upd H a o) s.heap a o):Inv X pins σ (upd H a o) s:=by
 obtain⟨f0,f1,f2,f3,f4,f5⟩:=f
 have ne:∀ b u,H b=some u->b≠a:=fun b u e=>ar e f0
 refine I.step (g':=s.gens) (t':=s.toks) (d':=s.drawn) (h':=s.heap) (ch:=[a]) (fun b hb=>?_) (fun b o _ _ _ e _=>e) (fun b o _ _ _ e _=>⟨o.slots,e⟩) (fun b o hc e n=>?_) (fun b o _ e=>⟨o,e⟩) (fun b xs e=>by rw[ak (ne b _ e)];exact e) (fun b o u e=>by rw[ak (ne b _ e)];exact e)
  (fun b ps e=>⟨#[],by rw[ak (ne b _ e),e];simp⟩) (fun m hm=>hm) (fun b u e=>?_) I.bare
 ·have eb:b=a:=by simpa using hb
  rw[eb]
  exact⟨f3,f1,f4,f5⟩
 ·rw[ak (fun z=>hc (by simp[z]))]
  exact n
 ·by_cases hb:b=a
  ·rw[hb,ae]at e
   cases e
   rw[hb]
   exact new
  ·rw[ak hb]at e
   exact(I.hok b u e).stay (fun c v _ q=>q) (fun c q=>by rw[ak (ne c _ q)];exact q) fun c xs q=>by rw[ak (ne c _ q)];exact q
end
end L2
namespace L2
open PySem PySem.Spec PyProof.Rows
section
variable{X:Cx}
end
end L2
namespace L2
open PySem PySem.Spec PyProof.Rows
theorem Inv.turnedL{X:Cx}{pins:List (Addr×Obj)}{σ:St}{H:Hp}{s:Shared}{h':Heap}{t':Nat}{fp:List Addr}(I:Inv X pins σ H s)(k:∀ b o,b∉fp->s.heap.get? b=some o->h'.get? b=some o)(hf:∀ b∈fp,FpOk X pins H b):Inv X pins σ H { s with heap:=h',toks:=t' }:=by
 have nit:∀ b u,H b=some u->b∉fp:=fun b u e z=>by rw[(hf b z).1]at e;cases e
 refine I.step (g':=s.gens) (d':=s.drawn) (ch:=fp) (fun b hb=>?_) (fun b o _ _ hc e _=>k b o hc e) (fun b o _ _ hc e _=>⟨o.slots,k b o hc e⟩) (fun _ _ _ _ n=>n)
  (fun b o hc e=>⟨o,k b o hc e⟩) (fun _ _ e=>e) (fun _ _ _ e=>e) (fun b ps e=>⟨#[],by rw[e];simp⟩) (fun m hm=>?_) (fun b u e=>?_) I.bare
 ·obtain⟨f0,f1,f2,f3,f4,f5⟩:=hf b hb
  exact⟨f3,f1,f4,f5⟩
 ·obtain⟨o,es,ep,ho,r⟩:=hm
  exact⟨o,es,ep,k _ o (fun z=>(hf _ z).2.1 rfl) ho,r⟩
 ·refine(I.hok b u e).stay (fun c v hc q=>k c v ?_ q) (fun _ q=>q) fun _ _ q=>q
  rcases hc with z | z
  ·rw[z];exact nit b u e
  ·exact nit c _ z
def Ite(K:JN)(a:Addr):It :=
 ⟨fun i H=>∃ xs x,SqL K H a xs/\xs[i]?=some x,fun i H v H'=>∃ T x,H T=none/\v=.ref T/\H'=upd H T (.tup [.int (i:Int),x])/\∀ xs,SqL K H a xs->xs[i]?=some x,fun i H=>∃ xs,SqL K H a xs/\xs.length<=i⟩
theorem Di{P:Program}{w:World}{K:JN}{es:List Expr}{k:Nat}{pos:Pos}(a e it:Addr)(hei:e≠it):Turn P w K (.Tuple es k pos) (Ite K a) [e,it] e (fun i h=>(∃ old,IsEnum h e it ((i:Nat):Int) old)/\h.IsListIter it a i) where
 mem:=by simp
 obj:=fun i h st b hb=>by
  obtain⟨⟨old,he⟩,o,e2,c,d⟩:=st
  rcases JT.mp hb with rfl | hb
  ·exact⟨_,he,fun v z=>by
    have z':Data.fields _=Data.cell v:=z
    cases z'⟩
  ·have e3:b=it:=by simpa using hb
   subst e3
   exact⟨o,e2,fun v z=>by rw[d]at z;cases z⟩
 keep:=fun i h h' st kk=>by
  obtain⟨⟨old,he⟩,hit⟩:=st
  exact⟨⟨old,kk e (by simp) _ he⟩,hit.at fun o q=>kk it (by simp) o q⟩
 item:=by
  intro X hP hw hK hc i pins s σ H E I hf st hg
  subst hP hw hK
  obtain⟨xs,x,hq,hx⟩:=hg
  obtain⟨its,rv,p,hz⟩:=I.list hq
  obtain⟨u,hu,ru⟩:=rv.get hx
  obtain⟨⟨old,he⟩,hit⟩:=st
  refine wpAny_pyNext_enum_item he hit p.isList (x:=u) (by simpa using hu) hei fun h' ho hit' hT hsz hk=>?_
  refine⟨_,rfl,?_⟩
  refine wpAny_letOwnedTupleGo_enum ho fun h2 he2 hs2=>?_
  have hs2':Heap.SameBut e h' h2:=hs2
  have hel:e<s.heap.objs.size:=Heap.lt_size he
  have hil:it<s.heap.objs.size:=by obtain⟨_,q,_⟩:=hit;exact Heap.lt_size q
  have hfr:H s.heap.objs.size=none:=I.hok.fresh (JQ _)
  have I0:Inv X pins σ (upd H s.heap.objs.size (.tup [.int (i:Int),x])) { s with heap:=s.heap.push { cls:=.type "tuple",data:=.seq #[.int (i:Int) s.toks,u] },toks:=s.toks+1 } :=
   I.laid (t':=s.toks+1) (fun b u e=>Heap.get?_push_of_some _ e) (JQ _) ⟨by show 2<=sizeLine;decide,[.int (i:Int) s.toks,u],.cons ⟨_,rfl⟩ (.cons ru .nil),⟨_,Heap.get?_push_size _ rfl,rfl,_,rfl⟩⟩
  have hfb:∀ b∈[e,it],b<s.heap.objs.size:=fun b hb=>by
   rcases JT.mp hb with rfl | hb
   ·exact hel
   ·have e3:b=it:=by simpa using hb
    rw[e3];exact hil
  have hn:∀ b∈[e,it],upd H s.heap.objs.size (.tup [.int (i:Int),x]) b=none:=fun b hb=>by
   rw[ak (Kp (hfb b hb))]
   exact(hf b hb).1
  have I2:Inv X pins σ (upd H s.heap.objs.size (.tup [.int (i:Int),x])) { s with heap:=h2,toks:=s.toks+1 }:=Inv.turnedL (s:={ s with heap:=s.heap.push { cls:=.type "tuple",data:=.seq #[.int (i:Int) s.toks,u] },toks:=s.toks+1 }) (h':=h2) I0 (t':=s.toks+1) (fp:=[e,it]) (fun b o hb q=>by
   have nb:b≠e:=fun z=>hb (by simp[z])
   have nb2:b≠it:=fun z=>hb (by simp[z])
   refine(hs2'.2 b nb).trans ?_
   rcases Heap.get?_push_cases q with⟨z1,z2⟩ | q
   ·rw[z1,z2];exact hT
   ·exact hk b o nb nb2 q) fun b hb=>⟨hn b hb,(hf b hb).2⟩
  refine⟨.ref s.heap.objs.size,_,I2,rfl,⟨s.heap.objs.size,x,hfr,rfl,rfl,fun ys hy=>by rw[I.list_inj hy hq];exact hx⟩,?_,hn⟩
  refine⟨⟨u,?_⟩,hit'.at fun o q=>(hs2'.2 it (Ne.symm hei)).trans q⟩
  have e4:(((i+1:Nat):Nat):Int)=(i:Int)+1:=by omega
  rw[e4]
  exact he2
 done:=by
  intro X hP hw hK hc i pins s σ H E I hf st hg
  subst hP hw hK
  obtain⟨xs,hq,hx⟩:=hg
  obtain⟨its,rv,p,hz⟩:=I.list hq
  obtain⟨⟨old,he⟩,hit⟩:=st
  have hl:=rv.length
  obtain⟨f0,f1,f2,f3,f4,f5⟩:=hf it (by simp)
  exact wpAny_pyNext_enum_end (I.ok.hd hc) he hit p.isList (by simp;omega) fun h' eb=>⟨rfl,I.turned (t':=s.toks) (fun b o hb e=>eb b o hb e) f0 f1 f3 f4 f5⟩
 self:=fun _ _ _ _ _ st h=>by
  obtain⟨⟨old,he⟩,_⟩:=st
  exact wpAny_pyIter_enum he h
section
variable{X:Cx}
def iEnum(K:JN)(ta:TA):TI:=fun σ H R=>ta σ H fun vs H1=>∃ a,vs = [.ref a]/\(∃ xs,SqL K H1 a xs)/\R (Ite K a) H1
theorem DP{l:Expr}{ta:TA}{es:List Expr}{k:Nat}{tp p pos:Pos} (hg:Gl X "enumerate") (hm:X.mg "enumerate" = none) (ha:PA X [l] ta) (hs:starEach [l] X.env = [(false,eval l X.env)]:=by rfl) :
  PI X (.Tuple es k tp) (.Call (.Name "enumerate" p) [l] [] pos) (iEnum X.K ta):=by
 intro pins s σ H R I h
 refine Call_ (kx I hg hm xm (PyProof.Rows.callWith_type1 (thn (ha pos pins s σ H _ I h) fun us s1 ⟨vs,H1,I1,r1,q1⟩=>?_) hs rfl))
 obtain⟨a,e,⟨xs,hq⟩,q⟩:=q1
 subst e
 obtain⟨u,rfl,ru⟩:=rE r1
 cases ru
 obtain⟨its,rv,p,hz⟩:=I1.list hq
 refine call_enumerate_list p.isList fun h' he hit hsz hk=>?_
 refine wpAny_pyIter_enum he ?_
 refine⟨s1.heap.objs.size+1,[s1.heap.objs.size+1,s1.heap.objs.size],_,_,H1,rfl,I1.kept (t':=s1.toks) hk,Di a _ _ (Nat.succ_ne_self _),⟨⟨_,he⟩,hit⟩,fun b hb=>?_,q⟩
 have hb':s1.heap.objs.size<=b:=by
  rcases JT.mp hb with rfl | hb
  ·exact Mj _
  ·have e3:b=s1.heap.objs.size:=by simpa using hb
   rw[e3];exact JQ _
 exact I1.fpOk hb' (I1.hok.fresh hb')
end
theorem Bp{K:JN}{a:Addr}{xs:List V}{g:TG}{tb:TS}{D:Ends}{σ:St}{H:Hp}(Pv:Nat->St->Hp->Prop)(h0:Pv 0 σ H)(hl:∀ i σ H,i<=xs.length->Pv i σ H->SqL K H a xs)
  (hs:∀ i x σ H T,xs[i]?=some x->Pv i σ H->H T=none->g (.ref T) σ (upd H T (.tup [.int (i:Int),x])) fun σ2 H2=>tb { D with nx:=Pv (i+1),ct:=Pv (i+1),bk:=D.nx } σ2 H2) (hd:∀ σ H,Pv xs.length σ H->D.nx σ H) :
  ∃ W:Nat->Nat->St->Hp->Prop,(∃ m,W 0 m σ H)/\∀ i m σ H,W i m σ H ->
   ((Ite K a).stop i H/\D.nx σ H)∨((Ite K a).go i H/\∃ N:St->Hp->Prop,(∀ σ' H',N σ' H'->∃ m',m'<m/\W (i+1) m' σ' H')/\∀ x H',(Ite K a).yld i H x H'->g x σ H' fun σ2 H2=>tb { D with nx:=N,ct:=N,bk:=D.nx } σ2 H2):=by
 refine⟨fun i m σ H=>m=xs.length-i/\i<=xs.length/\Pv i σ H,⟨xs.length,by simp,K4 _,h0⟩,?_⟩
 rintro i m σ H ⟨rfl,hi,p⟩
 have q:=hl i σ H hi p
 by_cases hlt:i<xs.length
 ·refine .inr ⟨⟨xs,xs[i],q,by simp[hlt]⟩,Pv (i+1),fun σ' H' p'=>⟨xs.length-(i+1),by omega,rfl,hlt,p'⟩,fun v H' y=>?_⟩
  obtain⟨T,x,hT,rfl,rfl,y⟩:=y
  exact hs i x σ _ T (y xs q) p hT
 ·have e:i=xs.length:=by omega
  subst e
  exact .inl ⟨⟨xs,q,JQ _⟩,hd σ H p⟩
end L2
namespace L2
open PySem PySem.Spec PyProof.Rows
section
variable{X:Cx}
end
theorem EC{n j:Nat}(h:j<n):ixN n (j:Int)=some j:=by
 unfold ixN
 rw[if_pos (by omega),if_pos (by omega)]
 rfl
end L2
namespace L2
open PySem PySem.Spec PyProof.Rows
theorem iu:∀{ds:List PyData},(∀ d∈ds,d.canLay0=true)->PyData.canLayAll0 ds=true
 |[],_=>by simp[PyData.canLayAll0]
 |d::ds,h=>by
  rw[PyData.canLayAll0,h d (by simp),iu fun x hx=>h x (by simp[hx])]
  rfl
theorem jM{n:Nat}:∀{ds:List PyData},(∀ d∈ds,d.depth<=n)->PyData.depthAll ds<=n
 |[],_=>by simp[PyData.depthAll]
 |d::ds,h=>by
  have h1:=h d (by simp)
  have h2:=jM (ds:=ds) fun x hx=>h x (J1 _ hx)
  rw[PyData.depthAll]
  omega
theorem oB{ds:List PyData}(h:∀ d∈ds,d.canLay0=true/\d.depth<=10):SeqAt.shaped (.list ds)=true:=by
 have h1:=iu fun d hd=>(h d hd).1
 have h2:=jM fun d hd=>(h d hd).2
 have h3:PyData.depth (.list ds)<=64:=by simp only[PyData.depth];omega
 show(PyData.canLay0 (.list ds)&&decide (PyData.depth (.list ds)<=64))=true
 rw[Bool.and_eq_true]
 exact⟨by simp only[PyData.canLay0];exact h1,decide_eq_true h3⟩
end L2
namespace L2
open PySem PySem.Spec PyProof.Rows
def cxG(X:Cx)(scope:Scope)(fr:List (Str×Nat))(xs:List Str)(C:Addr)(ex:List Addr)(s:Shared)(H:Hp):Cx where
 prog:=X.prog
 w:=X.w
 K:=X.K
 mg:=X.mg
 base:=X.base
 A:=X.A
 N:=xs++fr.map (·.1)
 s₀:=s
 H₀:=H
 env:=compEnvC scope (clOf X.env fr) C X.env
 outer:=X.stack
 stack:=X.stack
 ex:=ex
 fn:=fun _=>false
 calm:=X.calm
 pn:=[]
 xe:=fun _ _=>False
structure xQ(X:Cx)(scope:Scope)(fr:List (Str×Nat))(xs:List Str):Prop where
 clos:closureFor scope X.env=pure (clOf X.env fr)
 cell:∀ y∈scope.names,y.2≠.cell
 kind:scope.kind=.function
 names:∀ y∈scope.names,y.2=.local->scope.names.lookup y.1=some .local
 slot:∀ p∈fr,X.N[p.2]?=some p.1/\X.env.kindOf p.1=some .cell
 has:∀ y∈(relabel scope X.env).names,(y.2=.cell∨y.2=.free)->y.1∈fr.map (·.1)
 frk:∀ p∈fr,(relabel scope X.env).names.lookup p.1=some .cell
theorem xQ.of{X:Cx}{scope:Scope}{fr:List (Str×Nat)}{xs:List Str}(clos:closureFor scope X.env=pure (clOf X.env fr))(cell:∀ y∈scope.names,y.2≠.cell)(kind:scope.kind=.function)(names:∀ y∈scope.names,y.2=.local->scope.names.lookup y.1=some .local)
  (slot:∀ p∈fr,X.N[p.2]?=some p.1/\X.env.kindOf p.1=some .cell) (nf:∀ z∈scope.names,z.2=.free->z.1∈fr.map (·.1)) (frk:∀ p∈fr,(relabel scope X.env).names.lookup p.1=some .cell):xQ X scope fr xs where
 clos:=clos
 cell:=cell
 kind:=kind
 names:=names
 slot:=slot
 has:=fun z hz hk=>by
  obtain⟨⟨n,k⟩,hm,e⟩:=Ke.mp (show z∈scope.names.map _ from hz)
  have h2:=cell _ hm
  dsimp only at e h2
  have hn:z.1=n:=by rw[← e];split<;>rfl
  have hf:k=.free:=by
   by_cases q:k=.free
   ·exact q
   ·have hb:(k == NameKind.free)=false:=by simpa using q
    rw[hb]at e
    simp only[Mi,K1,if_false]at e
    subst e
    exact(hk.elim h2 q).elim
  have:=nf _ hm hf
  rw[hn]
  exact this
 frk:=frk
abbrev nons(xs:List Str):St:=Me xs.length none
section
variable{X:Cx}{pins:List (Addr×Obj)}{σ:St}{H:Hp}{s:Shared}{scope:Scope}{fr:List (Str×Nat)}{xs:List Str}
theorem xQ.cells(O:xQ X scope fr xs)(I:Inv X pins σ H s){y:Str}{c:Addr}(h:(clOf X.env fr).lookup y=some c):X.env.cells.lookup y=some c:=by
 obtain⟨hm,e⟩:=ft h
 obtain⟨p,hp,ep⟩:=Ke.mp hm
 have k:=(O.slot p hp).2
 rw[ep]at k
 obtain⟨c',e'⟩:=I.ok.has y (.inl k)
 rw[e']at e
 rw[e',e]
 rfl
theorem EI{fp:List Addr}(O:xQ X scope fr xs)(I:Inv X pins σ H s)(hf:∀ b∈fp,FpOk X pins H b)(hfs:∀ b∈fp,b<s.heap.objs.size){g h':Heap}{tk:Nat}(hg:g=s.heap.push (LCg.lst []))
  (hk:∀ b o,g.get? b=some o->h'.get? b=some o) (hC:h'.Ns g.objs.size fun _=>none) :
  Inv (cxG X scope fr xs g.objs.size (s.heap.objs.size::fp) { s with heap:=g } H) (X.pn++pins++[(s.heap.objs.size,LCg.lst [])]) (nons xs++frOf fr σ) H { s with heap:=h',toks:=tk }:=by
 have hsz:g.objs.size=s.heap.objs.size+1:=by rw[hg,Heap.size_push]
 have kp:∀ b o,s.heap.get? b=some o->g.get? b=some o:=fun b o e=>by rw[hg];exact Heap.get?_push_of_some _ e
 have hk0:∀ b o,s.heap.get? b=some o->h'.get? b=some o:=fun b o e=>hk b o (kp b o e)
 have hDo:h'.get? s.heap.objs.size=some (LCg.lst []):=hk _ _ (by rw[hg];exact Heap.get?_push_size _ rfl)
 have neC:∀ b,b<s.heap.objs.size->b≠g.objs.size:=fun b e=>by rw[hsz];exact Kp (Lw e)
 have hDC:s.heap.objs.size≠g.objs.size:=by rw[hsz];exact Kp (Lq _)
 have hfr:H g.objs.size=none:=I.hok.fresh (by rw[hsz];exact Mj _)
 have hfD:H s.heap.objs.size=none:=I.hok.fresh (JQ _)
 have cne:∀ y c,X.env.cells.lookup y=some c->c<s.heap.objs.size:=fun y c e=>by
  obtain⟨v,q⟩:=I.cell y c e
  exact q.lt
 have nst:∀ b,b≠X.env.locals->b∉X.fs->b∉frs X.stack:=fun b h1 h2 z=>(JT.mp (I.stkSub b z)).elim h1 h2
 have nstD:s.heap.objs.size∉frs X.stack:=nst _ (Lc I.lt) (I.nofs (JQ _))
 refine⟨⟨I.ok.mod,O.kind,I.ok.glob,I.ok.blt,JQ _,?_,?_,fun _ _ z _=>(by cases z),I.ok.hd,I.ok.frames,.inl rfl,?_,?_,?_,?_,?_,?_,I.stkFree⟩,rfl,I.bare,Un.kept hk,?_,?_,hfr,?_,?_,I.hok.kept hk0,?_⟩
 ·intro y z c h1 h2
  exact I.ok.inj y z c (O.cells I h1) (O.cells I h2)
 ·intro y hy
  have hm:y∈fr.map (·.1):=by
   rcases hy with hy | hy
   ·exact O.has (y,_) (Le hy) (.inl rfl)
   ·exact O.has (y,_) (Le hy) (.inr rfl)
  exact⟨_,bJ hm⟩
 ·intro b hb
  rcases JT.mp hb with rfl | hb
  ·exact⟨hDC,fun y c e=>Kp (cne y c (O.cells I e))⟩
  ·exact⟨neC b (hfs b hb),fun y c e=>(hf b hb).2.2.2.2.1 y c (O.cells I e)⟩
 ·intro b o e
  exact⟨kp b o (I.bs b o e).1,(I.bs b o e).2⟩
 ·show X.base.objs.size<=g.objs.size
  rw[hsz]
  exact Ma (KR I.ok.bsz I.sz)
 ·intro b o e hb
  rcases JT.mp hb with z | hb
  ·have:=Heap.lt_size (I.bs b o e).1
   rw[z]at this
   exact La _ this
  ·rcases(hf b hb).2.2.2.1 with z | z
   ·exact I.ok.noex b o e z
   ·exact absurd (Ky (Heap.lt_size (I.ok.bs b o e).1) z) (La _)
 ·intro b hb
  rcases JT.mp hb with z | hb
  ·rw[z];exact nstD
  ·exact nst b (hf b hb).2.1 (hf b hb).2.2.1
 ·exact(I.kept (h':=g) (t':=s.toks) kp).stack
 ·refine⟨_,hC,fun i y v e1 e2 e3=>?_⟩
  have e1a:(xs++fr.map (·.1))[i]?=some y:=e1
  by_cases hi:i<xs.length
  ·rw[JU (by simpa using hi)]at e2
   rw[LP,if_pos hi]at e2
   cases e2
  ·have e1':(fr.map (·.1))[i-xs.length]?=some y:=by
    rw[JP (by omega)]at e1a
    exact e1a
   have e2':(frOf fr σ)[i-xs.length]?=some (some v):=by
    rw[JP (by simp;omega)]at e2
    simpa using e2
   generalize i-xs.length=k at e1' e2'
   unfold frOf at e2'
   rw[JR]at e1' e2'
   cases q:fr[k]? with
   |none=>rw[q]at e1';cases e1'
   |some p =>
    rw[q]at e1' e2'
    have ey:p.1=y:=JZ e1'
    have ev:(σ[p.2]?).join=some v:=JZ e2'
    have hp:p∈fr:=JM q
    obtain⟨hN,hK⟩:=O.slot p hp
    have hkk:=O.frk p hp
    rw[ey]at hN hK hkk
    have ev':σ[p.2]?=some (some v):=by
     cases q2:σ[p.2]? with
     |none=>rw[q2]at ev;cases ev
     |some w=>rw[q2]at ev;exact congrArg some ev
    obtain⟨m,hn,hl⟩:=I.loc
    obtain⟨u,r,l⟩:=hl p.2 y v hN ev' (.inr (.inl hK))
    refine⟨u,r,?_⟩
    rcases l with⟨k1,_⟩ | ⟨_,c,ec,z⟩
    ·rw[hK]at k1;cases k1
    ·have hm:y∈fr.map (·.1):=by rw[← ey];exact Ke.mpr ⟨p,hp,rfl⟩
     have el:=bJ (env:=X.env) hm
     rw[ec]at el
     exact .inr ⟨.inl hkk,c,el,by obtain⟨o,ho,hd⟩:=z;exact⟨o,hk0 _ _ ho,hd⟩⟩
 ·intro y c e
  obtain⟨v,o,ho,hd⟩:=I.cell y c (O.cells I e)
  exact⟨v,o,hk0 _ _ ho,hd⟩
 ·intro y c e
  exact I.freeC y c (O.cells I e)
 ·intro p hp
  rcases JV.mp hp with hp | hp
  ·cases hp
  ·rcases JV.mp hp with hp | hp
   ·obtain⟨e,n,ne,nf,d⟩:=I.pin p hp
    exact⟨hk0 _ _ e,n,neC _ (Heap.lt_size e),nst _ ne nf,d⟩
   ·have ep:p=(s.heap.objs.size,LCg.lst []):=by simpa using hp
    subst ep
    exact⟨hDo,hfD,hDC,nstD,fun v z=>by cases z⟩
 ·show(nons xs++frOf fr σ).length=(xs++fr.map (·.1)).length
  unfold frOf
  simp
theorem tU{fp:List Addr}{g:Heap}{s':Shared}{H':Hp}{σ':St}{ys:List V}{us:List Value}(I:Inv X pins σ H s)(hf:∀ b∈fp,FpOk X pins H b)(hg:g=s.heap.push (LCg.lst []))
  (J:Inv (cxG X scope fr xs g.objs.size (s.heap.objs.size::fp) { s with heap:=g } H) (X.pn++pins++[(s.heap.objs.size,LCg.lst us)]) σ' H' s') (hv:Vals ys us) (hl:ys.length<=sizeLine) :
  Inv X pins σ (upd H' s.heap.objs.size (.lst ys)) s'/\H' s.heap.objs.size=none/\FpOk X pins (upd H' s.heap.objs.size (.lst ys)) g.objs.size/\∃ m,s'.heap.Ns g.objs.size m:=by
 have hsz:g.objs.size=s.heap.objs.size+1:=by rw[hg,Heap.size_push]
 have kp:∀ b o,s.heap.get? b=some o->g.get? b=some o:=fun b o e=>by rw[hg];exact Heap.get?_push_of_some _ e
 obtain⟨eD,nD,_,_,_⟩:=J.pin (s.heap.objs.size,LCg.lst us) (by simp)
 have hDC:g.objs.size≠s.heap.objs.size:=by rw[hsz];exact Lc (Lq _)
 have nD':∀ b u,H' b=some u->b≠s.heap.objs.size:=fun b u e z=>by rw[z]at e;rw[e]at nD;cases nD
 have hx:∀ b o,s.heap.get? b=some o->b∉fp->b∉s.heap.objs.size::fp:=fun b o e hb z=>by
  rcases JT.mp z with z | z
  ·have:=Heap.lt_size e
   rw[z]at this
   exact La _ this
  ·exact hb z
 have bU:Un (frs X.stack) (s.heap.objs.size::fp) H H' g s'.heap:=J.base
 have ltD:∀ b o,s.heap.get? b=some o->b≠s.heap.objs.size:=fun b o e=>Kp (Heap.lt_size e)
 have un:Un (frs X.stack) fp H (upd H' s.heap.objs.size (.lst ys)) s.heap s'.heap:=by
  refine⟨fun b o e n hb he=>bU.keep b o (kp b o e) n hb (hx b o e he),fun b o e n hb he=>bU.slot b o (kp b o e) n hb (hx b o e he),fun b o e n he=>?_,fun b o e he=>bU.there b o (kp b o e) (hx b o e he),fun b xs e=>?_,fun b o u e=>?_,fun b ps e=>?_⟩
  ·rw[ak (ltD b o e)];exact bU.free b o (kp b o e) n (hx b o e he)
  ·have q:=bU.tups b xs e
   rw[ak (nD' b _ q)];exact q
  ·have q:=bU.frzs b o u e
   rw[ak (nD' b _ q)];exact q
  ·obtain⟨more,q⟩:=bU.tbls b ps e
   exact⟨more,by rw[ak (nD' b _ q)];exact q⟩
 have hok:HOk X.prog X.w (upd H' s.heap.objs.size (.lst ys)) s'.heap:=fun b u e=>by
  by_cases hb:b=s.heap.objs.size
  ·rw[hb,ae]at e
   cases e
   rw[hb]
   exact⟨hl,us,us.length,hv,eD⟩
  ·rw[ak hb]at e
   exact(J.hok b u e).stay (fun c v _ q=>q) (fun c q=>by rw[ak (nD' c _ q)];exact q) fun c xs q=>by rw[ak (nD' c _ q)];exact q
 have os:s'.os=s.os:=J.os
 refine⟨I.call' os un hok J.bare fun b hb=>⟨(hf b hb).2.2.2.1,(hf b hb).2.1,(hf b hb).2.2.2.2⟩,nD,?_,?_⟩
 ·refine I.fpOk (H':=upd H' s.heap.objs.size (.lst ys)) (b:=g.objs.size) (by rw[hsz];exact Mj _) ?_
  rw[ak hDC]
  exact J.free
 ·obtain⟨m,hn,_⟩:=J.loc
  exact⟨m,hn⟩
end
def PTs(X:Cx)(ifs:List Expr)(t:TT):Prop :=
 ∀(pins:List (Addr×Obj))(s:Shared)(σ:St)(H:Hp)(Q:Bool->Hp->Prop),Inv X pins σ H s->t σ H Q ->
  wpAny (model X.prog X.w) X.A (forIn ifs true fun c r=>if r=true then do let ok ← isTrue c X.env (eval c X.env);pure (ForInStep.yield ok) else pure (ForInStep.yield r)) (fun b s'=>∃ H',Inv X pins σ H' s'/\Q b H') X.xe s
theorem IG{X:Cx}{c:Expr}{t:TT}(h:PT X c t):PTs X [c] t:=fun pins s σ H Q I q=>wpAny_tests_one (h pins s σ H Q I q)
section
variable{prog:Program}{w:World}{A:Around}{s:Shared}
theorem Fq{elt target iter:Expr}{ifs:List Expr}{scope:Scope}{pos:Pos}{it acc:Value}{env:Env}{R:Result->Shared->Prop}(I:Nat->Shared->Prop)
  (turn:∀ n s,I n s->wpAny (model prog w) A (pyNext it) (fun r s₁=>match r with
   |none=>R (.ok .next) s₁
   |some v=>wpAny (model prog w) A (letOwnedTupleGo target it v) (fun _ s₀=>wpAny (model prog w) A (assign target env v) (fun _ s₂ =>
     wpAny (model prog w) A (forIn ifs true fun c r=>if r=true then do let ok ← isTrue c env (eval c env);pure (ForInStep.yield ok) else pure (ForInStep.yield r)) (fun ok s₃=>if ok=true then wpAny (model prog w) A (eval elt env) (fun x s₄ =>
      wpAny (model prog w) A (call (.builtin "list.append") [acc,x]) (fun _ s₅=>∃ m,m<n/\I m s₅) (notedBy (model prog w) A env fun e s'=>R (.error e) s') s₄) (notedBy (model prog w) A env fun e s'=>R (.error e) s') s₃
      else ∃ m,m<n/\I m s₃) (notedBy (model prog w) A env fun e s'=>R (.error e) s') s₂)
     (notedBy (model prog w) A env fun e s'=>R (.error e) s') s₀) (notedBy (model prog w) A env fun e s'=>R (.error e) s') s₁) (notedBy (model prog w) A env fun e s'=>R (.error e) s') s)
  (n:Nat) (h:I n s):codeAny (model prog w) A (.compLoop (.ListComp elt [⟨target,iter,ifs,0⟩] scope pos) 0 it acc env) R s:=by
 refine codeAny_loop rfl I (fun n s hI=>?_) n h
 show wpAny _ A ((compTurn (.ListComp elt [⟨target,iter,ifs,0⟩] scope pos) 0 it acc env).onRaise (fun x=>do noteFrame x env;theTreesLotGoes x)) _ _ s
 refine wpAny_noted ?_
 rw[compTurn_list]
 refine wpAny_bind (wpAny_standAt (wpAny_bind (wpAny_mono (turn n s hI) (fun r s₁ h₁=>?_) fun _ _ h'=>h')))
 cases r with
 |none=>exact wpAny_pure h₁
 |some v =>
  refine wpAny_bind (wpAny_mono h₁ (fun _ s₀ h₀'=>?_) fun _ _ h'=>h')
  refine wpAny_bind (wpAny_mono h₀' (fun _ s₂ h₂=>?_) fun _ _ h'=>h')
  refine wpAny_bind (wpAny_mono h₂ (fun okb s₃ h₃=>?_) fun _ _ h'=>h')
  cases okb with
  |false=>exact wpAny_pure ⟨rfl,h₃⟩
  |true=>exact wpAny_bind (wpAny_bind (wpAny_mono h₃ (fun x s₄ h₄=>wpAny_bind (wpAny_mono h₄ (fun _ s₅ h₅=>wpAny_pure (wpAny_pure ⟨rfl,h₅⟩)) fun _ _ h'=>h')) fun _ _ h'=>h'))
end
def Dl(g:TG)(tt:TT)(te:TE)(n:Nat)(fv:St)(J:It)(H1:Hp)(QQ:List V->Hp->Prop):Prop :=
 ∃ W:Nat->Nat->List V->Hp->Prop,(∃ m,W 0 m [] H1)/\∀ i m ys H,W i m ys H->ys.length<=sizeLine /\
  ((J.stop i H/\QQ ys H)∨(J.go i H/\∃ N:List V->Hp->Prop,(∀ zs H2,N zs H2->∃ m',m'<m/\W (i+1) m' zs H2) /\
   ∀ x H',J.yld i H x H'->g x (Me n none++fv) H' fun σ2 H2=>σ2.drop n=fv/\tt σ2 H2 fun b H3=>if b=true then te σ2 H3 (fun y H4=>N (ys++[y]) H4) else N ys H3))
section
variable{X:Cx}{scope:Scope}{fr:List (Str×Nat)}{xs:List Str}{elt iter tg:Expr}{ifs:List Expr}{pos:Pos}{te:TE}{tt:TT}{tgt:TG}{wi:TI}
theorem CI{pins:List (Addr×Obj)}{σ:St}{H:Hp}{s:Shared}{E:Value->Shared->Prop}{it:Addr}{fp:List Addr}{tn:Nat->Heap->Prop}{J:It}{RR:Value->Addr->Result->Shared->Prop}{QQ:List V->Hp->Prop}(hc:X.calm=true)(O:xQ X scope fr xs)
  (hg0:∀ C ex s H,PG (cxG X scope fr xs C ex s H) tg tgt) (ht:∀ C ex s H,PTs (cxG X scope fr xs C ex s H) ifs tt) (he:∀ C ex s H,PE (cxG X scope fr xs C ex s H) elt te) (I:Inv X pins σ H s) (T:Turn X.prog X.w X.K tg J fp it tn) (st:tn 0 s.heap) (hf:∀ b∈fp,FpOk X pins H b) (hq:Dl tgt tt te xs.length (frOf fr σ) J H QQ)
  (fin:∀ D C H4 ys s4 m,Inv X pins σ (upd H4 D (.lst ys)) s4->H4 D=none->FpOk X pins (upd H4 D (.lst ys)) C->s4.heap.Ns C m->QQ ys H4->RR (.ref D) C (.ok .next) s4) :
  wpAny (model X.prog X.w) X.A (newList []) (fun acc s₃=>wpAny (model X.prog X.w) X.A (newFunctionEnv scope X.env.globals (clOf X.env fr) [] X.env.qual none .none (some X.env)) (fun cenv s₄ =>
   codeAny (model X.prog X.w) X.A (.compStart (.ListComp elt [⟨tg,iter,ifs,0⟩] scope pos) 0 (.ref it) acc { cenv with scope:=relabel scope X.env }) (RR acc cenv.locals) s₄) E s₃) E s:=by
 obtain⟨W,⟨m0,w0⟩,turn⟩:=hq
 have hfs:∀ b∈fp,b<s.heap.objs.size:=fun b hb=>by
  obtain⟨o,e,_⟩:=T.obj 0 s.heap st b hb
  exact Heap.lt_size e
 refine wpAny_newObj_type (wpAny_newFunctionEnv O.cell (by intro y hy;simp at hy) (fun h₁ hns₁ hsb₁=>?_) O.kind)
 dsimp only at hns₁ hsb₁ ⊢
 generalize hH2:s.heap.push { cls:=.type "list",dict:=none,data:=.seq ([]:List Value).toArray }=g at hns₁ hsb₁ ⊢
 have hg:g=s.heap.push (LCg.lst []):=hH2.symm
 have hsz:g.objs.size=s.heap.objs.size+1:=by rw[hg,Heap.size_push]
 have hk:∀ b o,g.get? b=some o->h₁.get? b=some o:=fun b o e=>hsb₁.extBut b o (Kp (Heap.lt_size e)) (Heap.get?_push_of_some _ e)
 have kp:∀ b o,s.heap.get? b=some o->h₁.get? b=some o:=fun b o e=>hk b o (by rw[hg];exact Heap.get?_push_of_some _ e)
 have J0:=EI (h':=h₁) (tk:=s.toks+([]:List (Str×Value)).length) O I hf hfs hg hk hns₁
 have stat:∀{H':Hp}{us:List Value},(∀ b∈fp,H' b=none)->∀ b∈fp,FpOk (cxG X scope fr xs g.objs.size (s.heap.objs.size::fp) { s with heap:=g } H) (X.pn++pins++[(s.heap.objs.size,LCg.lst us)]) H' b:=fun{H' us} hn b hb=>by
  obtain⟨_,f1,f2,f3,f4,f5⟩:=hf b hb
  refine⟨hn b hb,?_,fun z=>(JT.mp (I.stkSub b z)).elim f1 f2,.inl (J1 _ hb),fun y c e=>f4 y c (O.cells I e),fun p hp=>?_⟩
  ·show b≠g.objs.size
   rw[hsz];exact Kp (Lw (hfs b hb))
  ·rcases JV.mp hp with hp | hp
   ·cases hp
   ·rcases JV.mp hp with hp | hp
    ·exact f5 p hp
    ·have ep:p=(s.heap.objs.size,LCg.lst us):=by simpa using hp
     rw[ep]
     exact Lc (hfs b hb)
 have loop:codeAny (model X.prog X.w) X.A (.compLoop (.ListComp elt [⟨tg,iter,ifs,0⟩] scope pos) 0 (.ref it) (.ref s.heap.objs.size) (compEnvC scope (clOf X.env fr) g.objs.size X.env))
   (RR (.ref s.heap.objs.size) g.objs.size) { s with heap:=h₁,toks:=s.toks+([]:List (Str×Value)).length }:=by
  refine Fq (fun n s'=>∃ i ys us H',Inv (cxG X scope fr xs g.objs.size (s.heap.objs.size::fp) { s with heap:=g } H) (X.pn++pins++[(s.heap.objs.size,LCg.lst us)]) (nons xs++frOf fr σ) H' s'/\Vals ys us/\tn i s'.heap/\(∀ b∈fp,H' b=none)/\W i n ys H') ?_ m0
   ⟨0,[],[],H,J0,.nil,T.keep 0 s.heap h₁ st fun b _ o e=>kp b o e,fun b hb=>(hf b hb).1,w0⟩
  rintro n s3 ⟨i,ys,us,H3,J3,hv,st3,fr3,w3⟩
  obtain⟨hlen,hh⟩:=turn i n ys H3 w3
  have none_err:∀{α:Type}{t:Sem α}{Q:α->Shared->Prop}{E':Value->Shared->Prop}{s:Shared},wpAny (model X.prog X.w) X.A t Q (fun _ _=>False) s->wpAny (model X.prog X.w) X.A t Q E' s:=fun h=>wpAny_mono h (fun _ _ q=>q) fun _ _ z=>z.elim
  have weakN:∀{σ6:St},σ6.length=(nons xs++frOf fr σ).length->σ6.drop xs.length=frOf fr σ->∀(i:Nat) v,(nons xs++frOf fr σ)[i]?=some (some v)->σ6[i]?=some (some v):=fun{σ6} hl6 e6 i v e=>by
   by_cases hi:i<xs.length
   ·rw[JU (by simpa using hi),LP,if_pos hi]at e
    cases e
   ·rw[JP (by simp;omega),← e6,LS]at e
    have:xs.length+(i-(nons xs).length)=i:=by simp;omega
    rw[this]at e
    exact e
  rcases hh with⟨stop,qn⟩ | ⟨go,N,hN,step⟩
  ·refine none_err (thn (T.done (cxG X scope fr xs g.objs.size (s.heap.objs.size::fp) { s with heap:=g } H) rfl rfl rfl hc i _ s3 _ H3 _ J3 (stat fr3) st3 stop) fun r s4 ⟨hr,J4⟩=>?_)
   subst hr
   obtain⟨I4,nD,fC,m,hn⟩:=tU I hf hg J4 hv hlen
   exact fin _ _ H3 ys s4 m I4 nD fC hn qn
  ·refine none_err (thn (T.item (cxG X scope fr xs g.objs.size (s.heap.objs.size::fp) { s with heap:=g } H) rfl rfl rfl hc i _ s3 _ H3 _ J3 (stat fr3) st3 go) fun r s4 ⟨u,hr,h4⟩=>?_)
   subst hr
   refine none_err (thn h4 fun _ s5 ⟨v,H5,J5,r5,y5,st5,fr5⟩=>?_)
   have J5':=J5.pinned (stat fr5) (T.obj _ _ st5)
   refine none_err (thn (hg0 _ _ _ _ _ s5 _ H5 v u _ J5' r5 (step v H5 y5)) fun _ s6 ⟨σ6,H6,J6,e6,q6⟩=>?_)
   refine none_err (thn (ht _ _ _ _ _ s6 σ6 H6 _ J6 q6) fun b s6' ⟨H6',J6',q6'⟩=>?_)
   have hl6:σ6.length=(nons xs++frOf fr σ).length:=J6.len.trans J3.len.symm
   cases b with
   |false =>
    rw[if_neg Ka]at q6' ⊢
    obtain⟨m',hm,w7⟩:=hN ys H6' q6'
    have pinF:∀ b∈fp,∀ o,s5.heap.get? b=some o->s6'.heap.get? b=some o/\H6' b=none:=fun b hb o e=>by
     obtain⟨q1,q2,_⟩:=J6'.pin (b,o) (JY _ (JY _ (cT hb e)))
     exact⟨q1,q2⟩
    refine⟨m',hm,i+1,ys,us,H6',J6'.unpinned.weak (σ':=nons xs++frOf fr σ) hl6.symm (weakN hl6 e6),hv,T.keep _ _ _ st5 fun b hb o e=>(pinF b hb o e).1,fun b hb=>?_,w7⟩
    obtain⟨o,e,_⟩:=T.obj _ _ st5 b hb
    exact(pinF b hb o e).2
   |true =>
    rw[if_pos rfl]at q6' ⊢
    refine none_err (thn (he _ _ _ _ _ s6' _ H6' _ J6' q6') fun u7 s7 ⟨v7,H7,J7,r7,q7⟩=>?_)
    obtain⟨m',hm,w7⟩:=hN _ H7 q7
    obtain⟨eD,nD,dC,dF,dd⟩:=J7.pin (s.heap.objs.size,LCg.lst us) (JY _ (Kv _ (JY _ (by simp))))
    have hvl:=hv.length
    refine append_at (hsz:=by show us.toArray.size<=sizeLine;rw[Ko,← hvl];exact hlen) eD fun h8 hs8 hD8=>?_
    have pinD:∀ p∈X.pn++pins,p.1≠s.heap.objs.size:=fun p hp z=>by
     have:=Heap.lt_size (I.pin p hp).1
     rw[z]at this
     exact La _ this
    have J7a:Inv (cxG X scope fr xs g.objs.size (s.heap.objs.size::fp) { s with heap:=g } H) (X.pn++pins) _ H7 s7:=J7.pins_of fun p hp=>J7.pin p (JY _ (Kv _ (Kv _ hp)))
    have J8:Inv (cxG X scope fr xs g.objs.size (s.heap.objs.size::fp) { s with heap:=g } H) (X.pn++pins) _ H7 { s7 with heap:=h8 }:=J7a.turned (t':=s7.toks) (fun b o hb e=>(hs8.2 b hb).trans e) nD dC (.inl Kh) (fun y c e z=>by
     obtain⟨w',q⟩:=I.cell y c (O.cells I e)
     have:=q.lt
     rw[z]at this
     exact La _ this) (fun p hp=>(JV.mp hp).elim (fun z=>by cases z) (pinD p))
    have J9:Inv (cxG X scope fr xs g.objs.size (s.heap.objs.size::fp) { s with heap:=g } H) (X.pn++pins++[(s.heap.objs.size,LCg.lst (us++[u7]))]) _ H7 { s7 with heap:=h8 }:=J8.pins_of fun p hp=>by
     rcases JV.mp hp with hp | hp
     ·exact J8.pin p (JY _ hp)
     ·have ep:p=(s.heap.objs.size,LCg.lst (us++[u7])):=by simpa using hp
      subst ep
      exact⟨hD8.trans (congrArg some (LCg.lst_snoc us u7)),nD,dC,dF,fun v z=>by cases z⟩
    have J10:=J9.weak (σ':=nons xs++frOf fr σ) hl6.symm (weakN hl6 e6)
    have pinF:∀ b∈fp,∀ o,s5.heap.get? b=some o->s7.heap.get? b=some o/\H7 b=none:=fun b hb o e=>by
     obtain⟨q1,q2,_⟩:=J7.pin (b,o) (JY _ (JY _ (cT hb e)))
     exact⟨q1,q2⟩
    refine⟨m',hm,i+1,ys++[v7],us++[u7],H7,J10,hv.append (.cons r7 .nil),T.keep _ _ _ st5 fun b hb o e=>(hs8.2 b (Kp (hfs b hb))).trans (pinF b hb o e).1,fun b hb=>?_,w7⟩
    obtain⟨o,e,_⟩:=T.obj _ _ st5 b hb
    exact(pinF b hb o e).2
 exact codeAny_compStart_list loop (T.self X.A 0 _ _ _ (T.keep 0 s.heap h₁ st fun b _ o e=>kp b o e) loop)
def tCompE(wi:TI)(g:TG)(tt:TT)(te:TE)(n:Nat)(fr:List (Str×Nat)):TE:=fun σ H Q=>wi σ H fun J H1=>Dl g tt te n (frOf fr σ) J H1 fun ys H2=>∀ D,H2 D=none->Q (.ref D) (upd H2 D (.lst ys))
theorem Gk(hc:X.calm=true)(O:xQ X scope fr xs)(hi:PI X tg iter wi)(hg0:∀ C ex s H,PG (cxG X scope fr xs C ex s H) tg tgt)(ht:∀ C ex s H,PTs (cxG X scope fr xs C ex s H) ifs tt)(he:∀ C ex s H,PE (cxG X scope fr xs C ex s H) elt te)(hs:∀ x,foldedSetIterable iter X.env x=pure x:=by intro _;rfl) :
  PE X (.ListComp elt [⟨tg,iter,ifs,0⟩] scope pos) (tCompE wi tgt tt te xs.length fr):=by
 intro pins s σ H Q I h
 rw[eval_ListComp]
 refine wpAny_comprehension_free (use:=none) rfl hs O.clos O.kind O.names (thn (hi pins s σ H _ I h) fun xv s1 h1=>thn h1 fun itv s2 h2=>?_)
 obtain⟨it,fp,tn,J,H2,e,I2,T,st2,f2,q2⟩:=h2
 subst e
 refine CI (RR:=fun acc C=>compPost (model X.prog X.w) X.A X.xe none (EP X pins σ Q) acc C) hc O hg0 ht he I2 T st2 f2 q2 ?_
 intro D C H4 ys s4 m I4 nD fC hn q4
 refine⟨m,hn,fun h' hs'=>?_⟩
 obtain⟨g0,g1,g2,g3,g4,g5⟩:=fC
 exact⟨.ref D,_,I4.turned (t':=s4.toks) (fun b o hb e=>(hs'.2 b hb).trans e) g0 g1 g3 g4 g5,rfl,q4 D nD⟩
end
theorem CJ{K:JN}{a:Addr}{xs:List V}{g:TG}{tt:TT}{te:TE}{n:Nat}{fv:St}{H1:Hp}{QQ:List V->Hp->Prop}(Pv:Nat->List V->Hp->Prop)(hz:xs.length<=sizeLine)(h0:Pv 0 [] H1)(hl:∀ i ys H,i<=xs.length->Pv i ys H->SqL K H a xs)
  (hs:∀ i x ys H,xs[i]?=some x->Pv i ys H->g x (Me n none++fv) H fun σ2 H2=>σ2.drop n=fv/\tt σ2 H2 fun b H3=>if b=true then te σ2 H3 (fun y H4=>Pv (i+1) (ys++[y]) H4) else Pv (i+1) ys H3) (hd:∀ ys H,Pv xs.length ys H->QQ ys H) (hy:∀ i ys H,Pv i ys H->ys.length<=i)
  : Dl g tt te n fv (Itl K a) H1 QQ:=by
 refine⟨fun i m ys H=>m=xs.length-i/\i<=xs.length/\Pv i ys H,⟨xs.length,by simp,K4 _,h0⟩,?_⟩
 rintro i m ys H ⟨rfl,hi,p⟩
 have q:=hl i ys H hi p
 have hyl:=hy i ys H p
 refine⟨by omega,?_⟩
 by_cases hlt:i<xs.length
 ·refine .inr ⟨⟨xs,xs[i],q,by simp[hlt]⟩,fun zs H2=>Pv (i+1) zs H2,fun zs H2 p2=>⟨xs.length-(i+1),by omega,rfl,hlt,p2⟩,fun x H' y=>?_⟩
  obtain⟨e,y⟩:=y
  subst e
  exact hs i x ys _ (y xs q) p
 ·have e:i=xs.length:=by omega
  subst e
  exact .inl ⟨⟨xs,q,JQ _⟩,hd ys H p⟩
end L2
namespace L2
open PySem PySem.Spec PyProof.Rows
section
variable{X:Cx}{K:JN}{pos:Pos}
theorem nZ(h:X.K=K):IxR X (rIxL K):=h▸aN
theorem ED(h:X.K=K):IxR X (rIxT K):=h▸aJ
theorem q9(h:X.K=K):mm X (.type "list") (fun xs H Q=>∃ p ys,xs = [.ref p]/\(SqL K H p ys∨SqT K H p ys)/\∀ l,H l=none->Q (.ref l) (upd H l (.lst ys))):=h▸cv
theorem sN{e:Expr}{f:Str}{ta:TE}(h:X.K=K)(he:PE X e ta)(hb:attributeBase e f X.env (eval e X.env)=eval e X.env):PE X (.Attribute e f pos) (tFld K ta f):=h▸cy he hb
end
end L2
namespace L2
open PySem PySem.Spec PyProof.Rows
section
variable{X:Cx}
def IE:V->List V->Hp->VK->Prop:=fun x vs H Q=>∃ l xs k y,x=.ref l/\vs = [.int k,y]/\H l=some (.lst xs)/\0<=k/\k<=xs.length/\xs.length<sizeLine/\Q .non (upd H l (.lst (xs.take k.toNat++y::xs.drop k.toNat)))
theorem oJ:MtM X "list.insert" IE:=by
 intro pins s σ H x vs v us Q I rx rv h
 obtain⟨l,xs,k,y,rfl,rfl,hH,h0,hk,hz,q⟩:=h
 cases rx
 obtain⟨u1,u2,rfl,r1,r2⟩:=rv.two
 obtain⟨t,rfl⟩:=r1
 obtain⟨z,its,n,r,hl,e⟩:=I.lstM hH
 have hn:=wa
 have hfit:¬ (!Builtin.List.listFitsIndex k)=true:=by
  rw[fitsIndex_both (by omega) (by omega)]
  exact Ka
 refine call_meets F.slot_list_insert ⟨_,e,rfl⟩ F.entry_list_insert (F.args_list_insert_3 _ _ _) (AutoListH.list_insert_list_int_val_1 l its.toArray n k t u2 hfit (by rw[Ko];omega)) ⟨e,?_⟩
 refine⟨.non,_,I.lset (its':=its.take k.toNat++u2::its.drop k.toNat) hH e ?_ ((r.take _).append (.cons r2 (r.drop _))) ?_,rfl,q⟩
 ·dsimp only
  rw[if_neg (by omega),Ko,Lx (by omega)]
  simp
  exact Kz (by rw[KL];omega)
 ·rw[JO,Kt,Ku,KL]
  omega
theorem n8:∀{ns:List Int}{us:List Value},Vals (ns.map V.int) us->IntsAre us ns
 |[],_,.nil=>.nil
 |n::ns,_,.cons r rr=>by
  obtain⟨t,rfl⟩:=r
  exact .cons n t (n8 rr)
theorem BA(hc:X.calm=true):mm X (.builtin "sum") (fun xs H Q=>∃(p:Addr)(ns:List Int),xs = [.ref p]/\SqL X.K H p (ns.map V.int)/\Q (.int ns.sum) H):=by
 intro pins s σ H xs us Q I r h
 obtain⟨p,ns,rfl,hq,q⟩:=h
 obtain⟨u,rfl,ru⟩:=rE r
 cases ru
 obtain⟨its,rv,pl,hz⟩:=I.list hq
 have hi:=n8 rv
 obtain⟨zs,e⟩:=hi.allInts.items
 have hns:(numsOf its)=ns:=hi.numsOf
 have hl:s.heap.IsList p (intItems zs):=by rw[← e];exact pl.isList
 refine sum_intListG (I.ok.hd hc) hl fun h' tk t' hk=>⟨.int ns.sum,H,I.kept (t':=tk) hk,⟨t',?_⟩,q⟩
 have h2:numsOf (intItems zs).toList=ns:=by rw[← e];exact hns
 rw[nums_intItems]at h2
 rw[preSum_eq,Kz (by simp),← h2]
end
end L2
namespace L2
open PySem PySem.Spec PyProof.Rows
theorem ou:∀{ps:List Nat},(∀ p∈ps,p<1000)->PyData.weightAll ((ps.map fun(p:Nat)=>((p:Nat):Int)).map PyData.int)<=12*ps.length
 |[],_=>by simp[PyData.weightAll]
 |p::ps,h=>by
  have ih:=ou (ps:=ps) fun x hx=>h x (J1 _ hx)
  have hp:=h p (by simp)
  have hw:PyData.weight (.int (p:Int))<=11:=by
   rw[PyData.weight]
   split
   ·exact K4 _
   ·rename_i z
    have z':p≠0:=fun e=>z (by rw[e];rfl)
    have e:((p:Int)).natAbs=p:=rfl
    rw[e]
    have:=(Nat.log2_lt z').mpr (show p<2^10 by omega)
    omega
  rw[KA,KA,PyData.weightAll,Kt]
  omega
theorem GO{ps:List Nat}(h:∀ p∈ps,p<1000)(hl:ps.length<=1000):PyData.layable0 (.list ((ps.map fun(p:Nat)=>((p:Nat):Int)).map PyData.int))=true:=by
 have h1:=PySem.W.shaped_ints (ps.map fun(p:Nat)=>((p:Nat):Int))
 have h2:=ou h
 have h3:PyData.weight (.list ((ps.map fun(p:Nat)=>((p:Nat):Int)).map PyData.int))<=2^20:=by
  rw[PyData.weight];omega +splitDisjunctions
 unfold PyData.layable0
 unfold SeqAt.shaped at h1
 rw[h1,decide_eq_true h3]
 rfl
section
variable{X:Cx}
def rIndex(K:JN):V->List V->Hp->VK->Prop:=fun x vs H Q=>∃(l:Addr)(ps:List Nat)(k:Nat),x=.ref l/\vs = [.int (k:Int)]/\SqL K H l (ps.map fun(p:Nat)=>V.int (p:Int))/\(∀ p∈ps,p<1000)/\ps.length<=1000/\k∈ps/\Q (.int ((ps.idxOf k:Nat):Int)) H
theorem GV{ps:List Nat}{k:Nat}:(ps.map fun(p:Nat)=>((p:Nat):Int)).idxOf (k:Int)=ps.idxOf k:=by
 induction ps with
 |nil=>rfl
 |cons p ps ih =>
  rw[KA,List.idxOf_cons,List.idxOf_cons,ih]
  have e:(((p:Nat):Int) == (k:Int))=(p == k):=by
   by_cases h:p=k
   ·subst h;simp
   ·have h2:¬ (p:Int)=(k:Int):=fun z=>h (by omega)
    rw[beq_eq_false_iff_ne.mpr h,beq_eq_false_iff_ne.mpr h2]
  rw[e]
theorem nU:MtM X "list.index" (rIndex X.K):=by
 intro pins s σ H x vs v us Q I rx rv h
 obtain⟨l,ps,k,rfl,rfl,hq,hs,hl,hk,q⟩:=h
 cases rx
 obtain⟨u,rfl,ru⟩:=rv.one
 obtain⟨t,rfl⟩:=ru
 have e:(ps.map fun(p:Nat)=>V.int (p:Int))=(ps.map fun(p:Nat)=>((p:Nat):Int)).map V.int:=by rw[LK];rfl
 rw[e]at hq
 obtain⟨its,r,pl,hz⟩:=I.list hq
 refine index_list_ints pl.isList (n8 r) (GO hs hl) (Ke.mpr ⟨k,hk,rfl⟩) ?_
 rw[GV]
 exact⟨.int _,H,I.tok _,⟨_,rfl⟩,q⟩
end
end L2
namespace L2
open PySem PySem.Spec PyProof.Rows
theorem Dc:∀{us:List Value}{ns:List Int},IntsAre us ns->Vals (ns.map V.int) us
 |_,_,.nil=>.nil
 |_,_,.cons _ t r=>.cons ⟨t,rfl⟩ (Dc r)
section
variable{X:Cx}
def DG(K:JN):List V->Hp->VK->Prop:=fun xs H Q=>∃(p:Addr)(ns:List Int),xs = [.ref p]/\SqL K H p (ns.map V.int)/\ns.length<64/\∀(l:Addr)(out:List Int),H l=none->out.Perm ns->out.Pairwise (·<=·)->Q (.ref l) (upd H l (.lst (out.map V.int)))
theorem pE:mm X (.builtin "sorted") (DG X.K):=by
 intro pins s σ H xs us Q I r h
 obtain⟨p,ns,rfl,hq,h64,q⟩:=h
 obtain⟨u,rfl,ru⟩:=rE r
 cases ru
 obtain⟨its,rv,pl,hz⟩:=I.list hq
 have hi:=n8 rv
 have hl:=rv.length
 rw[JS]at hl
 refine sorted_ints pl.isList hi (by omega) fun out ns' a1 a2 a3=>?_
 obtain⟨e,he⟩:=sortedAll_at s.heap its out
 refine⟨.ref (s.heap.objs.size+1),_,I.laid (t':=s.toks) (fun _ _=>sortedAll_old) (Mj _) (show bA X.prog X.w _ _ _ (.lst (ns'.map V.int)) from⟨?_,out.toList,e,Dc a1,?_⟩),rfl,q _ ns' (I.hok.fresh (Mj _)) a2 a3⟩
 ·rw[JS,a2.length_eq]
  exact K2 (au (by omega))
 ·exact he
theorem xk{K:JN}(h:X.K=K):mm X (.builtin "sorted") (DG K):=h▸pE
end
theorem Ap{lo c:Int}{n:Nat}{te:TE}{fv:St}{H1:Hp}{QQ:List V->Hp->Prop}(Pv:Nat->List V->Hp->Prop)(hz:n<=sizeLine)(h0:Pv 0 [] H1)
  (hs:∀ i ys H,i<n->Pv i ys H->te (some (.int (lo+i*c))::fv) H fun y H2=>Pv (i+1) (ys++[y]) H2) (hd:∀ ys H,ys.length=n->Pv n ys H->QQ ys H)
  : qJ te fv (Itr3 lo c n) H1 QQ:=by
 refine⟨fun i m ys H=>m=n-i/\i<=n/\ys.length=i/\Pv i ys H,⟨n,by simp,K4 _,rfl,h0⟩,?_⟩
 rintro i m ys H ⟨rfl,hi,hy,p⟩
 refine⟨by omega,?_⟩
 by_cases hlt:i<n
 ·refine .inr ⟨hlt,fun y H2=>Pv (i+1) (ys++[y]) H2,fun y H2 p2=>⟨n-(i+1),by omega,rfl,hlt,by rw[JO,hy];rfl,p2⟩,fun x H' y=>?_⟩
  obtain⟨e,y⟩:=y
  subst e y
  exact hs i ys _ hlt p
 ·have e:i=n:=by omega
  subst e
  exact .inl ⟨JQ _,hd ys H hy p⟩
end L2
namespace L2
open PySem PySem.Spec PyProof.Rows
section
variable{X:Cx}{tg:Expr}
def iRngL(ta:TA):TI:=fun σ H R=>ta σ H fun vs H1=>∃(lo m c:Int)(n:Nat),vs = [.int lo,.int m,.int c]/\0<=lo/\lo<1000/\-1000<m/\m<2^61/\(0<c/\c<1000)/\Builtin.Range.rangeSize lo m c=(n:Int)/\R (Itr3 lo c n) H1
theorem F4{lo m c:Int}(h0:0<=lo)(h00:lo<1000)(h1 : -1000<m)(h2:m<2^61)(h3:0<c/\c<1000):Builtin.Range.small lo m c=true:=by
 obtain⟨h3,h4⟩:=h3
 have hs:0<=Builtin.Range.rangeSize lo m c/\Builtin.Range.rangeSize lo m c<=2^61:=by
  unfold Builtin.Range.rangeSize
  rw[if_pos h3]
  by_cases h:lo<m
  ·rw[if_pos h]
   have q1:0<=(m-lo-1)/c:=Int.ediv_nonneg (by omega) (by omega)
   have q2:(m-lo-1)/c<=(m-lo-1):=Int.ediv_le_self _ (by omega)
   omega
  ·rw[if_neg h];omega
 unfold Builtin.Range.small Builtin.Range.rangeFitsLong
 simp only[gt_iff_lt,h3,if_true]
 simp
 omega
theorem DN{a b c:Expr}{ta:TA}{p pos:Pos} (hg:Gl X "range") (hm:X.mg "range" = none) (ha:PA X [a,b,c] ta) (hs:starEach [a,b,c] X.env=(false,eval a X.env)::starEach [b,c] X.env:=by rfl) (hs2:(backTo pos (starEach [b,c] X.env)).any (·.1)=false:=by rfl) :
  PI X tg (.Call (.Name "range" p) [a,b,c] [] pos) (iRngL ta):=by
 intro pins s σ H R I h
 refine Call_ (kx I hg hm G7 (PyProof.Rows.callWith_type1 (thn (ha pos pins s σ H _ I h) fun us s1 ⟨vs,H1,I1,r1,q1⟩=>?_) hs hs2))
 obtain⟨lo,m,c,n,e,h0,h00,h1,h2,h3,hn,q⟩:=q1
 subst e
 cases r1 with
 |cons r rr =>
  cases rr with
  |cons r' rr =>
   cases rr with
   |cons r'' rr =>
    cases rr
    obtain⟨t,rfl⟩:=r
    obtain⟨t',rfl⟩:=r'
    obtain⟨t'',rfl⟩:=r''
    refine call_range_3 (by have:=h3.1;omega) ?_ (Or.inl (PyProof.noPylong_small (by have:=h3.1;have:=h3.2;omega)))
    refine wpAny_pyIter_range (IsRange.new ..) (F4 h0 h00 h1 h2 h3) ?_
    have I2:Inv X pins σ H1 { s1 with heap:=s1.heap.push { cls:=.type "range",data:=.fields #[.int lo t,.int m t',.int c t''] },toks:=s1.toks }:=I1.kept fun b o e=>Heap.get?_push_of_some _ e
    refine⟨(s1.heap.push { cls:=.type "range",data:=.fields #[.int lo t,.int m t',.int c t''] }).objs.size,[(s1.heap.push { cls:=.type "range",data:=.fields #[.int lo t,.int m t',.int c t''] }).objs.size],_,_,H1,rfl,
     I2.kept (t':=s1.toks) fun b o e=>Heap.get?_push_of_some _ e,x4 _ lo c n,?_,fun b hb=>?_,q⟩
    ·have e1:lo+((0:Nat):Int)*c=lo:=by simp
     have e2:((n:Nat):Int)-((0:Nat):Int)=Builtin.Range.rangeSize lo m c:=by rw[hn];simp
     show IsRangeIter _ _ (lo+((0:Nat):Int)*c) ((n:Int)-((0:Nat):Int)) c
     rw[e1,e2]
     exact Heap.get?_push_size _ rfl
    ·have e:b=(s1.heap.push { cls:=.type "range",data:=.fields #[.int lo t,.int m t',.int c t''] }).objs.size:=by simpa using hb
     subst e
     exact I2.fpOk (JQ _) (I2.hok.fresh (JQ _))
end
end L2
namespace L2
open PySem PySem.Spec PyProof.Rows
section
variable{X:Cx}
end
end L2
namespace L2
open PySem PySem.Spec PyProof.Rows
theorem HK:bootBuiltins "sum" = some (.builtin "sum"):=by decide +kernel
theorem bt_zip:bootBuiltins "zip" = some (.type "zip"):=by decide +kernel
theorem aV(x y:Nat)(h:¬ x=y):@Ne Addr x y:=h
section
variable{X:Cx}
end
section
variable{X:Cx}
end
end L2
namespace L2
open PySem PySem.Spec PyProof.Rows
def LsAt{α:Type}(R:Hp->V->α->Prop)(H:Hp)(ys:List V)(xs:List α):Prop:=ys.length=xs.length/\∀(i:Nat)(x:α),xs[i]?=some x->∃ y,ys[i]?=some y/\R H y x
theorem LsAt.get{α:Type}{R:Hp->V->α->Prop}{H:Hp}{ys:List V}{xs:List α}{i:Nat}{y:V}(h:LsAt R H ys xs)(e:ys[i]?=some y):∃ x,xs[i]?=some x/\R H y x:=by
 have hi:i<xs.length:=by rw[← h.1];exact(JK.mp e).1
 obtain⟨z,a,b⟩:=h.2 i _ (JL hi)
 rw[e]at a
 cases a
 exact⟨_,JL hi,b⟩
end L2
namespace L2
open PySem PySem.Spec PyProof.Rows
theorem Df:∀{ys:List V}{us:List Value},ys.length=us.length->(∀(i:Nat)(y:V)(u:Value),ys[i]?=some y->us[i]?=some u->RelV y u)->Vals ys us
 |[],[],_,_=>.nil
 |[],_::_,e,_=>by cases e
 |_::_,[],e,_=>by cases e
 |y::ys,u::us,e,h=>.cons (h 0 y u rfl rfl) (Df (Nat.succ.inj e) fun i y u a b=>h (i+1) y u a b)
section
variable{X:Cx}
theorem vy{e:Expr}{te:TE}{p p2 pos pos2:Pos}(hc:X.calm=true) (hg:Gl X "list") (hm:X.mg "list" = none) (hg2:Gl X "range") (hm2:X.mg "range" = none) (he:PE X e te)
  (h1:starEach [.Call (.Name "range" p2) [e] [] pos2] X.env = [(false,eval (.Call (.Name "range" p2) [e] [] pos2) X.env)]:=by rfl) (h2:starEach [e] X.env=(false,eval e X.env)::starEach [] X.env:=by rfl) :
  PE X (.Call (.Name "list" p) [.Call (.Name "range" p2) [e] [] pos2] [] pos) (fun σ H Q=>te σ H fun x H1=>∃ n:Nat,x=.int (n:Int)/\n<=1000/\∀ q,H1 q=none->Q (.ref q) (upd H1 q (.lst ((KJ n).map fun(i:Nat)=>V.int ((i:Nat):Int))))):=by
 intro pins s σ H Q I h
 refine wpAny_Call_Name_kw (kx I hg hm gG ?_)
 refine PyProof.Rows.callWith_type1 ?_ h1 rfl
 rw[h1]
 refine Calls.spliced_cons ?_
 refine wpAny_Call_Name_kw (kx I hg2 hm2 boot_range ?_)
 refine PyProof.Rows.callWith_type1 ?_ h2 rfl
 rw[h2]
 refine Calls.spliced_cons (thn (he pins s σ H _ I h) fun u s1 ⟨x,H1,I1,r1,q1⟩=>?_)
 obtain⟨n,rfl,hn,q⟩:=q1
 obtain⟨t,rfl⟩:=r1
 refine Calls.spliced_nil ?_
 refine call_range_1 ?_
 refine Calls.spliced_nil ?_
 have I2:Inv X pins σ H1 { s1 with heap:=s1.heap.push { cls:=.type "range",data:=.fields #[.int 0 s1.toks,.int (n:Int) t,.int 1 (s1.toks+1)] },toks:=s1.toks+1+1 }:=I1.kept fun b o e=>Heap.get?_push_of_some _ e
 refine call_list_range (n:=n) (I.ok.hd hc) (IsRange.new ..) (small_one (by omega) (by omega) (by omega) (by omega)) (by rw[rangeSize_one];split<;>omega) (by omega) fun h' tk acc' c' hk hS hacc=>?_
 have I3:Inv X pins σ H1 { s1 with heap:=h',toks:=tk }:=I2.kept (t':=tk) fun b o e=>hk b o e
 have fS:=I2.fpOk (H':=H1) (JQ _) (I2.hok.fresh (JQ _))
 have hz:((KJ n).map fun(i:Nat)=>V.int ((i:Nat):Int)).length<=sizeLine:=by
  rw[JS,Lg]
  exact KR hn (by decide)
 have hv:Vals ((KJ n).map fun(i:Nat)=>V.int ((i:Nat):Int)) acc'.toList:=by
  refine Df (by rw[JS,Lg,KZ,hacc.1]) fun i y u a b=>?_
  rw[Lo]at b
  obtain⟨tk',e⟩:=hacc.2 i u b
  rw[JR]at a
  obtain⟨j,a1,a2⟩:=Kl.mp a
  have hi:i<n:=by
   have:=(JK.mp a1).1
   rwa[Lg]at this
  rw[Mm hi]at a1
  cases a1
  subst a2
  subst e
  exact⟨tk',by rw[Lb,Int.mul_one]⟩
 have I4:=I3.track (o:=.lst ((KJ n).map fun(i:Nat)=>V.int ((i:Nat):Int))) fS ⟨hz,acc'.toList,c',hv,by rw[Array.toArray_toList];exact hS⟩
 exact⟨.ref _,_,I4,rfl,q _ fS.1⟩
theorem op_neG(hu:X.A.units+64<cLine):OpR X (compareOp .NotEq) (fun x y H Q=>∃ d1 d2,RdD X.K H x d1/\RdD X.K H y d2/\SeqAt.shaped d1=true/\SeqAt.shaped d2=true/\Q (.bl (!PyData.eqv d1 d2)) H):=by
 intro pins s σ H x y v u Q I rx ry h
 obtain⟨d1,d2,r1,r2,h1,h2,q⟩:=h
 obtain⟨as,q1⟩:=r1.reads I v rx
 obtain⟨bs,q2⟩:=r2.reads I u ry
 exact ne_dataH q1 q2 h1 h2 hu ⟨.bl _,H,I,rfl,q⟩
theorem o6:∀(a b:List Int),PyData.eqvAll (a.map PyData.int) (b.map PyData.int)=decide (a=b)
 |[],[]=>by simp[PyData.eqvAll]
 |[],y::b=>by simp[PyData.eqvAll]
 |x::a,[]=>by simp[PyData.eqvAll]
 |x::a,y::b=>by
  rw[KA,KA]
  simp only[PyData.eqvAll,PyData.eqv,o6 a b]
  by_cases h:x=y
  ·by_cases h2:a=b
   ·simp[h,h2]
   ·simp[h,h2]
  ·simp[h]
theorem GZ(a b:List Int):PyData.eqv (.list (a.map PyData.int)) (.list (b.map PyData.int))=decide (a=b):=by
 rw[← o6]
 simp only[PyData.eqv]
end
theorem ka{α:Type}{M:Model}{A:Around}{s:Shared}{t:Sem α}{Q:α->Shared->Prop}{E:Value->Shared->Prop}(h:wpAny M A t Q (fun _ _=>False) s):wpAny M A t Q E s:=wpAny_mono h (fun _ _ q=>q) fun _ _ z=>False.elim z
section
variable{X:Cx}{tg:Expr}
theorem DI{iter:Expr}{body:List Stmt}{wi:TI}{g:TG}{tb:TS}{pos:Pos}(hc:X.calm=true)(hi:PI X tg iter wi)(hg:PG X.nox tg g)(hb:PSs X.nox body tb)
  (hs:∀ x,foldedSetIterable iter X.env x=pure x:=by intro _;rfl):PS X (.For tg iter body [] pos) (tFor wi g tb):=by
 intro pins s σ H D I h
 refine wpAny_For (thn (hi pins s σ H _ I h) fun v s1 h1=>thn h1 fun itv s2 h2=>?_) hs
 obtain⟨it,fp,tn,J,H2,e,I2,T,st2,f2,W,⟨m0,w0⟩,turn⟩:=h2
 subst e
 have stat:∀{H':Hp},(∀ b∈fp,H' b=none)->∀ b∈fp,FpOk X pins H' b:=fun hn b hb=>⟨hn b hb,(f2 b hb).2⟩
 refine codeAny_forLoop_any (fun n s'=>∃ i σ' H',Inv X pins σ' H' s'/\tn i s'.heap/\(∀ b∈fp,H' b=none)/\W i n σ' H') ?_ m0 ⟨0,σ,H2,I2,st2,fun b hb=>(f2 b hb).1,w0⟩
 rintro n s3 ⟨i,σ3,H3,I3,st3,fr3,w3⟩
 rcases turn i n σ3 H3 w3 with⟨stop,qn⟩ | ⟨go,N,hN,step⟩
 ·refine ka (thn (T.done X rfl rfl rfl hc i pins s3 σ3 H3 (fun _ _=>False) I3 (stat fr3) st3 stop) fun r s4 ⟨hr,I4⟩=>?_)
  subst hr
  exact wpAny_execs_nil ⟨σ3,H3,I4,qn⟩
 ·refine ka (thn (T.item X rfl rfl rfl hc i pins s3 σ3 H3 (fun _ _=>False) I3 (stat fr3) st3 go) fun r s4 ⟨u,hr,h4⟩=>?_)
  subst hr
  refine ka (thn h4 fun _ s5 ⟨x,H5,I5,r5,y5,st5,fr5⟩=>?_)
  have I5':=I5.pinned (stat fr5) (T.obj _ _ st5)
  refine ka (thn (hg _ s5 σ3 H5 x u _ (I5'.wish _) r5 (step x H5 y5)) fun _ s6 ⟨σ6,H6,I6,q6⟩=>?_)
  refine ka (thn (hb _ s6 σ6 H6 _ I6 q6) fun f s7 q7=>?_)
  replace q7:=SP.unwish q7
  have again:∀{σ7:St}{H7:Hp},Inv X (pins++qO fp s5.heap) σ7 H7 s7->N σ7 H7->∃ m,m<n/\∃ i σ' H',Inv X pins σ' H' s7/\tn i s7.heap/\(∀ b∈fp,H' b=none)/\W i m σ' H':=fun{σ7 H7} I7 n7=>by
   obtain⟨m',hm,w7⟩:=hN σ7 H7 n7
   refine⟨m',hm,i+1,σ7,H7,I7.unpinned,T.keep _ _ _ st5 fun b hb o e=>(I7.pin (b,o) (JY _ (JY _ (cT hb e)))).1,fun b hb=>?_,w7⟩
   obtain⟨o,e,d⟩:=T.obj _ _ st5 b hb
   exact(I7.pin (b,o) (JY _ (JY _ (cT hb e)))).2.1
  cases f with
  |next=>obtain⟨σ7,H7,I7,n7⟩:=q7;exact again I7 n7
  |cont=>obtain⟨σ7,H7,I7,n7⟩:=q7;exact again I7 n7
  |brk=>obtain⟨σ7,H7,I7,q7⟩:=q7;exact⟨σ7,H7,I7.unpinned,q7⟩
  |ret v=>obtain⟨x7,σ7,H7,I7,r7,q7⟩:=q7;exact⟨x7,σ7,H7,I7.unpinned,r7,q7⟩
end
structure FunD(K:JN)(x qual:Str)(st:Stmt)(f:Addr)(fd:FuncData)(items:Array Value):Prop where
 ex:∃(oc:Value)(od:Option Addr)(d:Addr)(kV doc pm:Value)(an:Option Addr)(cdv ct:Value)(osl:Array (Option Value)),
  fd=Kd x qual (aA st) (az st) (ai st) (.ref d) kV doc pm an cdv ct/\K.lookup f=some ⟨oc,od,.func fd,osl⟩/\Kb K cdv qual=true/\∃ o n,K.lookup d=some o/\o.data=.seq items n
 kp:JX K (.ref f)=true
section
variable{P:Program}{w:World}{K:JN}{mg:Str->Option Value}{base:Heap}
theorem FunD.okX{x qual:Str}{st:Stmt}{f:Addr}{fd:FuncData}{items:Array Value}{N ps:List Str}{k:Nat}{sp:Sp}(F:FunD K x qual st f fd items)(S:aC N ps (ai st))(len:∀ vs H Q E,sp vs H Q E->vs.length=ps.length)
  (hbody:∀(cdv:Value)(A:Around)(outer:List Env)(s:Shared)(H:Hp)(vs:List V)(Q:VK)(E:XK),Room k (A.deeper (envOfC qual (ai st) s.heap.objs.size f cdv))->sp vs H Q E ->
   ∃ t,PSs (cxOf (CXr P w) P w K mg base N qual (ai st) f cdv A outer s H E) (az st) t/\t { nx:=fun _ H'=>Q .non H',rt:=Q } (qd N vs) H):FnOk P w K mg base (CXr P w) (k+1) f fd ps sp:=by
 obtain⟨oc,od,d,kV,doc,pm,an,cdv,ct,osl,rfl,lk,hcd,_⟩:=F.ex
 exact Jq lk hcd S len fun A outer s H vs Q E hr hsp=>hbody cdv A outer s H vs Q E hr hsp
theorem FunD.binds{x qual:Str}{st:Stmt}{f:Addr}{fd:FuncData}{items:Array Value}{ps:List Str}{ds:List Value}(F:FunD K x qual st f fd items)
  (h:∀(dV kV doc pm:Value)(an:Option Addr)(cdv ct:Value)(us:List Value),(us++ds).length=ps.length->∃ k,bindArgs (Kd x qual (aA st) (az st) (ai st) dV kV doc pm an cdv ct) ⟨us,[]⟩=seqItems? dV >>= k/\k (some items)=pure (ps.zip (us++ds))):iL K fd ps ds:=by
 obtain⟨oc,od,d,kV,doc,pm,an,cdv,ct,osl,rfl,lk,hcd,o,n,ho,hs⟩:=F.ex
 intro s us X hl
 obtain⟨k,h1,h2⟩:=h (.ref d) kV doc pm an cdv ct us hl
 exact BindsTo.of_defaults rfl (X _ _ ho) hs h1 h2
theorem EY{x qual:Str}{st:Stmt}{f d:Addr}{oc:Value}{od an:Option Addr}{osl:Array (Option Value)}{kV doc pm cdv ct:Value}{items:Array Value}{o:Obj}{n:Nat}(l:K.lookup f=some ⟨oc,od,.func (Kd x qual (aA st) (az st) (ai st) (.ref d) kV doc pm an cdv ct),osl⟩)
  (c:Kb K cdv qual=true) (k:JX K (.ref f)=true) (ld:K.lookup d=some o) (hs:o.data=.seq items n):FunD K x qual st f (Kd x qual (aA st) (az st) (ai st) (.ref d) kV doc pm an cdv ct) items:=⟨⟨oc,od,d,kV,doc,pm,an,cdv,ct,osl,rfl,l,c,o,n,ld,hs⟩,k⟩
end
end L2
namespace PyProof.Rows
open PySem
local macro_rules | `(tactic| walk_at "gallop") => do
 let n:=Lean.mkIdent (Lean.mkPrivateNameCore `PySem.Builtin.List.W1All `PySem.Builtin.gallop)
 `(tactic| delta $n)
local macro_rules | `(tactic| walk_at "st") => `(tactic| try dsimp -zeta -zetaHave only)
local macro_rules | `(tactic| walk_at "l4") => `(tactic| (extract_lets -underBinder +onlyGivenNames a b; subst a b))
variable{prog:Program}{w:World}{A:Around}{E:Value->Shared->Prop}{s:Shared}
end PyProof.Rows
namespace PyProof.Rows
open PySem
local macro_rules | `(tactic| walk_at "setG") => do
 let n:=Lean.mkIdent (Lean.mkPrivateNameCore `PySem.Builtin.List.W1All `PySem.Builtin.setMinGallop)
 `(tactic| delta $n)
local macro_rules | `(tactic| walk_at "mergeLo") => do
 let n:=Lean.mkIdent (Lean.mkPrivateNameCore `PySem.Builtin.List.W1All `PySem.Builtin.mergeLo)
 `(tactic| delta $n)
local macro_rules | `(tactic| walk_at "st") => `(tactic| try dsimp -zeta -zetaHave only)
local macro_rules | `(tactic| walk_at "l3") => `(tactic| (extract_lets -underBinder +onlyGivenNames a b c; subst a b c))
local macro_rules | `(tactic| walk_at "l11") => `(tactic| (extract_lets -underBinder +onlyGivenNames a b c d e f g h i j k; subst a b c d e f g h i j k; dsimp -zeta -zetaHave only))
variable{prog:Program}{w:World}{A:Around}{E:Value->Shared->Prop}{s:Shared}
end PyProof.Rows
namespace PyProof.Rows
open PySem
local macro_rules | `(tactic| walk_at "mergeHi") => do
 let n:=Lean.mkIdent (Lean.mkPrivateNameCore `PySem.Builtin.List.W1All `PySem.Builtin.mergeHi)
 `(tactic| delta $n)
local macro_rules | `(tactic| walk_at "st") => `(tactic| try dsimp -zeta -zetaHave only)
local macro_rules | `(tactic| walk_at "l3") => `(tactic| (extract_lets -underBinder +onlyGivenNames a b c; subst a b c))
local macro_rules | `(tactic| walk_at "l11") => `(tactic| (extract_lets -underBinder +onlyGivenNames a b c d e f g h i j k; subst a b c d e f g h i j k; dsimp -zeta -zetaHave only))
variable{prog:Program}{w:World}{A:Around}{E:Value->Shared->Prop}{s:Shared}
end PyProof.Rows
namespace PyProof.Rows
open PySem
local macro_rules | `(tactic| walk_at "countRun") => do
 let n:=Lean.mkIdent (Lean.mkPrivateNameCore `PySem.Builtin.List.W1All `PySem.Builtin.countRun)
 `(tactic| delta $n)
local macro_rules | `(tactic| walk_at "binarySort") => do
 let n:=Lean.mkIdent (Lean.mkPrivateNameCore `PySem.Builtin.List.W1All `PySem.Builtin.binarySort)
 `(tactic| delta $n)
local macro_rules | `(tactic| walk_at "st") => `(tactic| try dsimp -zeta -zetaHave only)
local macro_rules | `(tactic| walk_at "l3") => `(tactic| (extract_lets -underBinder +onlyGivenNames a b c; subst a b c))
local macro_rules | `(tactic| walk_at "l11") => `(tactic| (extract_lets -underBinder +onlyGivenNames a b c d e f g h i j k; subst a b c d e f g h i j k; dsimp -zeta -zetaHave only))
local macro_rules | `(tactic| walk_at "l1") => `(tactic| (extract_lets -underBinder +onlyGivenNames a; subst a; try dsimp -zeta -zetaHave only))
local macro_rules | `(tactic| walk_at "l2") => `(tactic| (extract_lets -underBinder +onlyGivenNames a b; subst a b; try dsimp -zeta -zetaHave only))
local macro_rules | `(tactic| walk_at "l4") => `(tactic| (extract_lets -underBinder +onlyGivenNames a b c d; subst a b c d; try dsimp -zeta -zetaHave only))
variable{prog:Program}{w:World}{A:Around}{E:Value->Shared->Prop}{s:Shared}
end PyProof.Rows
namespace PyProof.Rows
open PySem
local macro_rules | `(tactic| walk_at "mergeAt") => do
 let n:=Lean.mkIdent (Lean.mkPrivateNameCore `PySem.Builtin.List.W1All `PySem.Builtin.mergeAt)
 `(tactic| delta $n)
local macro_rules | `(tactic| walk_at "st") => `(tactic| try dsimp -zeta -zetaHave only)
local macro_rules | `(tactic| walk_at "l3") => `(tactic| (extract_lets -underBinder +onlyGivenNames a b c; subst a b c))
local macro_rules | `(tactic| walk_at "l11") => `(tactic| (extract_lets -underBinder +onlyGivenNames a b c d e f g h i j k; subst a b c d e f g h i j k; dsimp -zeta -zetaHave only))
local macro_rules | `(tactic| walk_at "l1") => `(tactic| (extract_lets -underBinder +onlyGivenNames a; subst a; try dsimp -zeta -zetaHave only))
local macro_rules | `(tactic| walk_at "l2") => `(tactic| (extract_lets -underBinder +onlyGivenNames a b; subst a b; try dsimp -zeta -zetaHave only))
local macro_rules | `(tactic| walk_at "l4") => `(tactic| (extract_lets -underBinder +onlyGivenNames a b c d; subst a b c d; try dsimp -zeta -zetaHave only))
variable{prog:Program}{w:World}{A:Around}{E:Value->Shared->Prop}{s:Shared}
end PyProof.Rows
namespace PyProof.Rows
open PySem
local macro_rules | `(tactic| walk_at "sortRuns") => do
 let n:=Lean.mkIdent (Lean.mkPrivateNameCore `PySem.Builtin.List.W1All `PySem.Builtin.sortRuns)
 `(tactic| delta $n)
local macro_rules | `(tactic| walk_at "st") => `(tactic| try dsimp -zeta -zetaHave only)
local macro_rules | `(tactic| walk_at "l3") => `(tactic| (extract_lets -underBinder +onlyGivenNames a b c; subst a b c))
local macro_rules | `(tactic| walk_at "l11") => `(tactic| (extract_lets -underBinder +onlyGivenNames a b c d e f g h i j k; subst a b c d e f g h i j k; dsimp -zeta -zetaHave only))
local macro_rules | `(tactic| walk_at "l1") => `(tactic| (extract_lets -underBinder +onlyGivenNames a; subst a; try dsimp -zeta -zetaHave only))
local macro_rules | `(tactic| walk_at "l2") => `(tactic| (extract_lets -underBinder +onlyGivenNames a b; subst a b; try dsimp -zeta -zetaHave only))
local macro_rules | `(tactic| walk_at "l4") => `(tactic| (extract_lets -underBinder +onlyGivenNames a b c d; subst a b c d; try dsimp -zeta -zetaHave only))
variable{prog:Program}{w:World}{A:Around}{E:Value->Shared->Prop}{s:Shared}
end PyProof.Rows
namespace PyProof.Rows
open PySem
variable{prog:Program}{w:World}{A:Around}{E:Value->Shared->Prop}{s:Shared}
end PyProof.Rows
namespace L2
open PySem PySem.Spec PyProof.Rows
section
variable{X:Cx}
end
end L2
namespace L2
open PySem PySem.Spec PyProof.Rows
section
variable{X:Cx}
end
end L2
namespace L2
open PySem PySem.Spec PyProof.Rows
section
variable{prog:Program}{w:World}{A:Around}{E:Value->Shared->Prop}{s:Shared}{z TI TO i1 i2 l1 l2:Addr}{f0:Value}{f1:Bool}
end
section
variable{X:Cx}
end
end L2
namespace L2
open PySem PySem.Spec PyProof.Rows
section
variable{X:Cx}
end
end L2
namespace L2
open PySem PySem.Spec PyProof.Rows
section
variable{prog:Program}{w:World}{A:Around}{E:Value->Shared->Prop}{s:Shared}{d:Addr}
def Ent(h:Heap)(d:Addr)(es:Array DictEntry)(ep:Nat):Prop:=∃ o,h.get? d=some o/\o.ExactDict/\o.data=.dict es ep
theorem Ent.ty{es:Array DictEntry}{ep:Nat}(x:Ent s.heap d es ep):s.TypeIs (.ref d) "dict":=by
 obtain⟨o,h1,h2,_⟩:=x
 exact⟨o,h1,h2.1⟩
theorem Bu(hd:(d == sysModules)=false):MeetsIn prog w (Builtin.«dict.items» ⟨[.ref d],[]⟩) (fun _ R s=>(∃ es ep,Ent s.heap d es ep)/\R (.ok (.ret (.ref s.heap.objs.size))) { s with heap:=s.heap.push { cls:=.type "dict_items",data:=.fields #[.ref d] } }) :=
 .of_wp fun A R s ⟨⟨es,ep,hm⟩,h⟩=>by
  unfold Builtin.«dict.items» Builtin.Dict.noArgs
  refine wpAny_bind (wpAny_bind (wpAny_notOrdered_dict hm.ty ?_))
  show wpAny _ _ (pure d) _ _ s
  refine wpAny_pure ?_
  show wpAny _ _ (Builtin.Dict.showsAll d >>= _) _ _ s
  unfold Builtin.Dict.showsAll
  rw[if_neg (by simp[hd])]
  exact wpAny_bind (wpAny_pure (wpAny_bind (wpAny_newObj_type (wpAny_pure ⟨_,rfl,h⟩))))
theorem t9{v:Addr}{es:Array DictEntry}{ep:Nat}{Q:Value->Shared->Prop}(hv:s.heap.IsItemsView v d)(hm:Ent s.heap d es ep)
  (hQ:Q (.ref s.heap.objs.size) { s with heap:=s.heap.push { cls:=.type "dict_itemiterator",data:=.fields #[.none,.bool false,.ref d,.int 0 0,.int es.size 0,.int ep 0,.none,.none] } }) :
  wpAny (model prog w) A (pyIter (.ref v)) Q E s:=by
 obtain⟨ov,h1,h2,h3⟩:=id hv
 obtain⟨o,e1,e2,e3⟩:=hm
 refine wpAny_pyIter_slot hv.typeIs F.slot_dict_items_iter (wpAny_call_entry F.slot_dict_items_iter hv.typeIs F.entry_dict_items_iter ?_ (F.args_dict_items_iter_1 _))
 show wpAny _ _ (Builtin.«dict_items.__iter__» _) _ _ s
 unfold Builtin.«dict_items.__iter__» Builtin.Dict_items.dictOf Builtin.Dict_items.newIterator
 refine wpAny_bind (wpAny_pure (wpAny_bind (wpAny_bind (wpAny_field h1 h3 (x:=.ref d) rfl (wpAny_pure (wpAny_bind (wpAny_bind (wpAny_dictEntries e1 e3 (wpAny_bind (wpAny_dictEpoch e1 e3 ?_))))))))))
 simp only[show Builtin.Dict_items.ownsTuple "dict_itemiterator" = true by decide,if_true]
 refine wpAny_newObj_type (wpAny_pure ⟨_,rfl,"dict_itemiterator",_,⟨_,Heap.get?_push_size _ rfl,rfl⟩,F.slot_dict_itemiterator_next.lookup,?_⟩)
  (by simp only[sizeOk,Builtin.Dict_items.ownedTupleFields,Ko,JO,Kt,LX,sizeLine_eq];omega)
 simpa[rawInt,Builtin.Dict_items.ownedTupleFields] using hQ
theorem o7{it:Addr}{i ep:Nat}{es:Array DictEntry}{ok ov:Value}{Q:Option Value->Shared->Prop}(hit:IsItemIter s.heap it d i es.size ep ok ov)(hm:Ent s.heap d es ep)(hh:A.handled=none)
  (hI:∀ e,es[i]?=some e->∀ h',IsItemIterOut h' it d (i+1) es.size ep e.key e.val s.heap.objs.size->h'.get? s.heap.objs.size=some { cls:=.type "tuple",data:=.seq #[e.key,e.val] }->(∀ b o,b≠it->s.heap.get? b=some o->h'.get? b=some o)->Q (some (.ref s.heap.objs.size)) { s with heap:=h' })
  (hE:es[i]?=none->∀ h',Heap.ExtBut it s.heap h'->Q none { s with heap:=h' }):wpAny (model prog w) A (pyNext (.ref it)) Q E s:=by
 obtain⟨o,e1,e2,e3⟩:=hm
 have hT:s.TypeIs (.ref it) "dict_itemiterator":=⟨_,hit,rfl⟩
 have own:Builtin.Dict_items.ownsTuple "dict_itemiterator" = true:=by decide
 unfold pyNext
 refine wpAny_bind (wpAny_attempt (wpAny_callSpecial?_slot (name:=Str.ofString "__next__") hT F.slot_dict_itemiterator_next (wpAny_call_entry F.slot_dict_itemiterator_next hT F.entry_dict_itemiterator_next ?_ (F.args_dict_itemiterator_next_1 _))))
 refine wpAny_bind (wpAny_pure (wpAny_bind (wpAny_bind (wpAny_bind (wpAny_typeNameOfWhole_itemiter hT (wpAny_pure ?_))))))
 refine wpAny_bind (wpAny_fieldsOf hit rfl ?_)
 simp only[own,if_true]
 show wpAny _ _ (if(Value.ref d == Value.none)=true then _ else _) _ _ _
 rw[if_neg (show ¬ ((Value.ref d == Value.none)=true) from Ka)]
 refine wpAny_bind (wpAny_pure (wpAny_bind (wpAny_dictEntries e1 e3 ?_)))
 rw[if_neg (by simp)]
 refine wpAny_bind (wpAny_pure (wpAny_bind (wpAny_dictEpoch e1 e3 ?_)))
 rw[if_neg (by simp)]
 refine wpAny_pure ?_
 have n0:¬ ((i:Int)<0):=by omega
 simp only[n0,if_false,Kq]
 cases he:es[i]? with
 |none =>
  refine wpAny_bind (wpAny_bind (wpAny_typeNameOfWhole_itemiter hT (wpAny_pure ?_)))
  show wpAny _ _ (setField (.ref it) 2 .none >>= _) _ _ s
  refine wpAny_bind (wpAny_setField hit rfl (by simp) ?_)
  show wpAny _ _ (newExc (.type "StopIteration") [] >>= _) _ _ _
  refine wpAny_bind ?_
  simp only[newExc,newTuple]
  refine wpAny_bind (wpAny_newObj_type (wpAny_bind (m:=firstArgMember _ _) (wpAny_of_eq (a:=Value.none) (by first | rfl | (simp only[firstArgMember];rfl)) (wpAny_newObj_type ?_ (by size_fits)))) (by size_fits))
  simp only[raiseNew]
  refine wpAny_bind (wpAny_handled ?_)
  rw[show A.in1.handled=none from hh]
  refine wpAny_bind (wpAny_pure (wpAny_throw ?_))
  refine wpAny_bind (wpAny_isInstance (T:="StopIteration") (b:=true) ⟨_,Heap.get?_push_size _ rfl,rfl⟩ isSubtype_stop (wpAny_pure ?_))
  exact hE he _ (((Heap.SameBut.update ..).extBut.push _).push _)
 |some e =>
  refine wpAny_bind (wpAny_bind (wpAny_typeNameOfWhole_itemiter hT (wpAny_pure ?_)))
  refine wpAny_bind (wpAny_isOneOf_itemiter hT ?_)
  show wpAny _ _ (setField (.ref it) 3 (rawInt ((i:Int)+1)) >>= _) _ _ s
  refine wpAny_bind (wpAny_setField_rec hit (by simp) fun g1 q1 k1=>?_)
  have c1:((i+1:Nat):Int)=(i:Int)+1:=by omega
  have q1':IsItemIter g1 it d (i+1) es.size ep ok ov:=by
   unfold IsItemIter
   rw[c1]
   simpa[rawInt] using q1
  have lt:it<s.heap.objs.size:=Heap.lt_size hit
  have z1:g1.objs.size=s.heap.objs.size:=k1.1
  have hT1:Shared.TypeIs { s with heap:=g1 } (.ref it) "dict_itemiterator":=⟨_,q1',rfl⟩
  refine wpAny_bind (wpAny_holding (wpAny_bind (wpAny_isOneOf_itemiter hT1 (wpAny_bind (wpAny_isOneOf_itemiter hT1 ?_)))))
  show wpAny _ _ (Builtin.Dict_items.pairFromOwner (.ref it) 6 e.key e.val) _ _ { s with heap:=g1 }
  unfold Builtin.Dict_items.pairFromOwner Builtin.Dict_items.ownedTupleIsFree
  refine wpAny_bind (wpAny_newTuple ?_)
  have q2:IsItemIter (g1.push { cls:=.type "tuple",data:=.seq #[e.key,e.val] }) it d (i+1) es.size ep ok ov:=Heap.get?_push_of_some _ q1'
  have t2:(g1.push { cls:=.type "tuple",data:=.seq #[e.key,e.val] }).get? s.heap.objs.size=some { cls:=.type "tuple",data:=.seq #[e.key,e.val] }:=by rw[← z1];exact Heap.get?_push_size _ rfl
  have k2:∀ b o,b≠it->s.heap.get? b=some o->(g1.push { cls:=.type "tuple",data:=.seq #[e.key,e.val] }).get? b=some o:=fun b o hb q=>Heap.get?_push_of_some _ (k1.extBut b o hb q)
  rw[z1]
  generalize g1.push { cls:=.type "tuple",data:=.seq #[e.key,e.val] }=g2 at q2 t2 k2
  show wpAny _ _ (_ >>= _) _ _ { s with heap:=g2 }
  refine wpAny_bind (wpAny_bind (wpAny_field q2 rfl (x:=.none) rfl (wpAny_pure ?_)))
  simp only[if_true]
  refine wpAny_bind (wpAny_field q2 rfl (x:=ok) rfl (wpAny_bind (wpAny_field q2 rfl (x:=ov) rfl ?_)))
  refine wpAny_bind (wpAny_setField_rec q2 (by simp) fun g3 q3 k3=>?_)
  replace q3:IsItemIter g3 it d (i+1) es.size ep e.key ov:=q3
  refine wpAny_bind (wpAny_setField_rec q3 (by simp) fun g4 q4 k4=>?_)
  replace q4:IsItemIter g4 it d (i+1) es.size ep e.key e.val:=q4
  refine wpAny_bind (wpAny_setField_rec q4 (by simp) fun g5 q5 k5=>?_)
  replace q5:IsItemIterOut g5 it d (i+1) es.size ep e.key e.val s.heap.objs.size:=q5
  refine wpAny_bind (wpAny_setField_rec q5 (by simp) fun g6 q6 k6=>?_)
  replace q6:IsItemIterOut g6 it d (i+1) es.size ep e.key e.val s.heap.objs.size:=q6
  have up:∀ b o,b≠it->g2.get? b=some o->g6.get? b=some o:=fun b o hb q=>k6.extBut b o hb (k5.extBut b o hb (k4.extBut b o hb (k3.extBut b o hb q)))
  exact wpAny_bind (wpAny_letGo (wpAny_pure (wpAny_pure ⟨_,rfl,wpAny_pure (hI e he g6 q6 (up _ _ (Lc lt) t2) fun b o hb q=>up b o hb (k2 b o hb q))⟩)))
end
def dr(v d:Addr):HO:=.ext fun h=>h.IsItemsView v d
def KvA(H:Hp)(u:HO)(i:Nat)(x y:V):Prop:=(∃ kvs k,u=.dK kvs/\kvs[i]?=some (k,y)/\x=kV k)∨∃ kvs k t,u=.dT kvs/\kvs[i]?=some (k,y)/\x=.ref t/\H t=some (.tup (k.map kV))
def dlen:HO->Nat
 |.dK kvs=>kvs.length
 |.dT kvs=>kvs.length
 |_=>0
def tS:HO->Prop
 |.dK _=>True
 |.dT _=>True
 |_=>False
theorem sQ{α β:Type}{F:α->β->Prop}:∀{l₁:List α}{l₂:List β},Paired F l₁ l₂->∀{i:Nat}{b:β},l₂[i]?=some b->∃ a,l₁[i]?=some a/\F a b
 |_,_,.nil,i,b,e=>by simp at e
 |_,_,.cons r t,0,b,e=>⟨_,rfl,by cases e;exact r⟩
 |_,_,.cons r t,i+1,b,e=>sQ t (i:=i) e
theorem mB{P:Program}{w:World}{H:Hp}{h:Heap}{d:Addr}{u:HO}(hd:tS u)(x:bA P w H h d u):(d == sysModules)=false/\∃ es ep,Ent h d es ep/\es.size=dlen u/\∀ i e,es[i]?=some e->∃ x y,KvA H u i x y/\RelV x e.key/\RelV y e.val:=by
 cases u with
 |dK kvs =>
  obtain⟨hz,lo,vs,rk,o,es,ep,h1,h2,h3,h4,h5,h6⟩:=x
  have l1:kvs.length=vs.length:=Paired.length rk
  have sz:es.size=vs.length:=by rw[← h5.length,KZ]
  refine⟨lo,es,ep,⟨o,h1,h2,h3⟩,by rw[sz];exact l1.symm,fun i e he=>?_⟩
  have hi:i<vs.length:=by
   have:i<es.size:=(NI.mp he).1
   omega
  obtain⟨⟨k,v⟩,hv⟩:∃ q,vs[i]?=some q:=⟨_,JL hi⟩
  obtain⟨hk,hval⟩:=h5.get? (e:=e) (by rw[Lo];exact he) hv
  obtain⟨⟨k',y⟩,hy,ek,ry⟩:=sQ rk hv
  have ek':k'=k:=ek
  subst ek'
  refine⟨kV k',y,.inl ⟨kvs,k',rfl,hy,rfl⟩,?_,by rw[hval];exact ry⟩
  rcases bh (show zF k' e.key=true from hk) with⟨j,t,e1,e2⟩ | ⟨z,t,e1,e2⟩
  ·rw[e1,e2];exact⟨t,rfl⟩
  ·rw[e1,e2];exact⟨t,rfl⟩
 |dT kvs =>
  obtain⟨hz,lo,xs,r,o,es,ep,h1,h2,h3,h4,h5⟩:=x
  have sz:es.size=xs.length:=by rw[← KZ,h4,JS]
  refine⟨lo,es,ep,⟨o,h1,h2,h3⟩,by rw[sz];exact r.length.symm,fun i e he=>?_⟩
  have e1:es.toList[i]?=some e:=by rw[Lo];exact he
  rw[h4,JR]at e1
  cases hx:xs[i]? with
  |none=>rw[hx]at e1;cases e1
  |some q =>
   rw[hx]at e1
   cases e1
   obtain⟨⟨k,y⟩,hy,ek,ht,ry⟩:=sQ r hx
   exact⟨.ref q.2.1,y,.inr ⟨kvs,k,q.2.1,rfl,hy,rfl,ht⟩,rfl,ry⟩
 |_=>exact hd.elim
section
variable{X:Cx}{pins:List (Addr×Obj)}{σ:St}{H:Hp}{s:Shared}{d:Addr}{u:HO}{o:Obj}
theorem tS.notT(h:tS u):(∀ xs,u≠.tup xs)/\(∀ o v,u≠.frz o v)/\(∀ ps,u≠.tbl ps)/\∀ a,u≠.own a:=by
 cases u<;>first | exact h.elim | exact⟨fun _=>by simp,fun _ _=>by simp,fun _=>by simp,fun _=>by simp⟩
theorem HOk.frz{P:Program}{w:World}{h:Heap}(x:HOk P w H h)(hd:H d=some u)(hu:tS u)(e:h.get? d=some o):HOk P w (upd H d (.frz o u)) h:=fun b v q=>by
 obtain⟨n1,n2,n3,n4⟩:=hu.notT
 have ow:∀ c y,H c=some (.own y)->upd H d (.frz o u) c=some (.own y):=fun c y r=>by rw[ak (B6 r hd fun z=>n4 y z.symm)];exact r
 have tp:∀ c xs,H c=some (.tup xs)->upd H d (.frz o u) c=some (.tup xs):=fun c xs r=>by rw[ak (B6 r hd fun z=>n1 xs z.symm)];exact r
 by_cases hb:b=d
 ·subst hb
  rw[ae]at q
  cases q
  exact⟨e,(x b u hd).stay (fun _ _ _ r=>r) (fun c r=>ow c b r) tp⟩
 ·rw[ak hb]at q
  exact(x b v q).stay (fun _ _ _ r=>r) (fun c r=>ow c b r) tp
theorem Inv.freeze(I:Inv X pins σ H s)(hd:H d=some u)(hu:tS u)(e:s.heap.get? d=some o):Inv X pins σ (upd H d (.frz o u)) s:=by
 obtain⟨n1,n2,n3,n4⟩:=hu.notT
 exact I.step (H':=upd H d (.frz o u)) (h':=s.heap) (g':=s.gens) (d':=s.drawn) (t':=s.toks) (ch:=[]) (fun _ z=>nomatch z) (fun b _ _ _ _ q _=>q) (fun b ob _ _ _ q _=>⟨ob.slots,q⟩)
  (fun b _ _ _ n=>by rw[ak (ar hd n).symm];exact n) (fun b ob _ q=>⟨ob,q⟩) (fun b xs r=>by rw[ak (B6 r hd fun z=>n1 xs z.symm)];exact r)
  (fun b ob v r=>by rw[ak (B6 r hd fun z=>n2 ob v z.symm)];exact r) (fun b ps r=>⟨#[],by rw[ak (B6 r hd fun z=>n3 ps z.symm),r];simp⟩) (fun _ q=>q) (I.hok.frz hd hu e) I.bare
theorem Bh:MtR X "dict.items" (fun x xs H Q=>∃ d u,x=.ref d/\xs = []/\H d=some u/\tS u/\∀ v,H v=none->Q (.ref v) (upd H v (dr v d))):=by
 intro pins s σ H x xs v us Q I rx rv h
 obtain⟨d,u,rfl,rfl,hd,hu,q⟩:=h
 cases rx
 have hus:=rv.zero
 subst hus
 obtain⟨lo,es,ep,hm,_⟩:=mB hu (I.hok d _ hd)
 refine call_meetsIn LL hm.ty NQ (NK _) (Bu lo) ⟨⟨es,ep,hm⟩,?_⟩
 have hv:(s.heap.push { cls:=.type "dict_items",data:=.fields #[.ref d] }).IsItemsView s.heap.objs.size d:=⟨_,Heap.get?_push_size _ rfl,rfl,rfl⟩
 refine⟨.ref s.heap.objs.size,_,I.laid (t':=s.toks) (fun b o e=>Heap.get?_push_of_some _ e) (JQ _) ?_,rfl,q _ (I.hok.fresh (JQ _))⟩
 exact⟨hv,⟨_,Heap.get?_push_size _ rfl⟩,fun h1 h2 x k=>let ⟨o,ho,r⟩:=x;⟨o,k _ ho,r⟩⟩
end
def Itd(o:Obj)(u:HO)(d:Addr):It :=
 ⟨fun i H=>H d=some (.frz o u)/\i<dlen u,
  fun i H v H'=>∃ T x y,H T=none/\v=.ref T/\H'=upd H T (.tup [x,y])/\KvA H u i x y,
  fun i H=>H d=some (.frz o u)/\dlen u<=i⟩
theorem qI{P:Program}{w:World}{K:JN}{el:List Expr}{kk:Nat}{pos:Pos}(o:Obj)(u:HO)(d I:Addr)(hu:tS u)(es:Array DictEntry)(ep:Nat)(hx:o.ExactDict)(ho:o.data=.dict es ep):Turn P w K (.Tuple el kk pos) (Itd o u d) [I] I
  (fun i h=>∃ ok ov,IsItemIter h I d i es.size ep ok ov) where
 mem:=by simp
 obj:=fun i h st b hb=>by
  obtain⟨ok,ov,he⟩:=st
  rw[Kj.mp hb]
  exact⟨_,he,fun v z=>by have z':Data.fields _=Data.cell v:=z;cases z'⟩
 keep:=fun i h h' st kk=>by
  obtain⟨ok,ov,he⟩:=st
  exact⟨ok,ov,kk I (by simp) _ he⟩
 item:=by
  intro X hP hw hK hc i pins s σ H E Iv hf st hg
  subst hP hw hK
  obtain⟨hd,hi⟩:=hg
  obtain⟨ok,ov,he⟩:=st
  obtain⟨g1,g2⟩:=(show bA X.prog X.w H s.heap d (.frz o u) from Iv.hok d _ hd)
  obtain⟨_,es',ep',⟨o',q1,q2,q3⟩,sz,al⟩:=mB hu g2
  rw[g1]at q1
  cases q1
  rw[ho]at q3
  cases q3
  have lt:I<s.heap.objs.size:=Heap.lt_size he
  refine o7 he ⟨o,g1,hx,ho⟩ (Iv.ok.hd hc) (fun e hee h' hit hT hk=>?_) (fun z=>by rw[Array.getElem?_eq_none_iff]at z;omega)
  refine⟨_,rfl,?_⟩
  refine wpAny_letOwnedTupleGo_items hit fun h2 he2 hs2=>?_
  obtain⟨x,y,kv,rx,ry⟩:=al i e hee
  have hfr:H s.heap.objs.size=none:=Iv.hok.fresh (JQ _)
  have I0:Inv X pins σ (upd H s.heap.objs.size (.tup [x,y])) { s with heap:=s.heap.push { cls:=.type "tuple",data:=.seq #[e.key,e.val] },toks:=s.toks } :=
   Iv.laid (t':=s.toks) (fun b u e=>Heap.get?_push_of_some _ e) (JQ _) ⟨by show 2<=sizeLine;decide,[e.key,e.val],.cons rx (.cons ry .nil),⟨_,Heap.get?_push_size _ rfl,rfl,_,rfl⟩⟩
  have hn:∀ b∈[I],upd H s.heap.objs.size (.tup [x,y]) b=none:=fun b hb=>by
   rw[ak (by rw[Kj.mp hb];exact Kp lt)]
   exact(hf b hb).1
  have I2:Inv X pins σ (upd H s.heap.objs.size (.tup [x,y])) { s with heap:=h2,toks:=s.toks }:=Inv.turnedL (s:={ s with heap:=s.heap.push { cls:=.type "tuple",data:=.seq #[e.key,e.val] },toks:=s.toks }) (h':=h2) I0 (t':=s.toks) (fp:=[I]) (fun b ob hb q=>by
   have nb:b≠I:=fun z=>hb (by simp[z])
   refine(hs2.2 b nb).trans ?_
   rcases Heap.get?_push_cases q with⟨z1,z2⟩ | q
   ·rw[z1,z2];exact hT
   ·exact hk b ob nb q) fun b hb=>⟨hn b hb,(hf b hb).2⟩
  exact⟨.ref s.heap.objs.size,_,I2,rfl,⟨s.heap.objs.size,x,y,hfr,rfl,rfl,kv⟩,⟨_,_,he2⟩,hn⟩
 done:=by
  intro X hP hw hK hc i pins s σ H E Iv hf st hg
  subst hP hw hK
  obtain⟨hd,hi⟩:=hg
  obtain⟨ok,ov,he⟩:=st
  obtain⟨g1,g2⟩:=(show bA X.prog X.w H s.heap d (.frz o u) from Iv.hok d _ hd)
  obtain⟨_,es',ep',⟨o',q1,q2,q3⟩,sz,al⟩:=mB hu g2
  rw[g1]at q1
  cases q1
  rw[ho]at q3
  cases q3
  obtain⟨f0,f1,f2,f3,f4,f5⟩:=hf I (by simp)
  refine o7 he ⟨o,g1,hx,ho⟩ (Iv.ok.hd hc) (fun e hee=>by have:=(NI.mp hee).1;omega) (fun _ h' hk=>⟨rfl,Iv.turned (t':=s.toks) (fun b o hb e=>hk b o hb e) f0 f1 f3 f4 f5⟩)
 self:=fun _ _ _ _ _ st h=>by
  obtain⟨ok,ov,he⟩:=st
  exact PySem.W.kcp_self he h
section
variable{X:Cx}
def iItems(te:TE):TI:=fun σ H R=>te σ H fun x H1=>∃ vw d u,x=.ref vw/\H1 vw=some (dr vw d)/\H1 d=some u/\tS u/\∀ o,R (Itd o u d) (upd H1 d (.frz o u))
theorem Gg{e:Expr}{te:TE}{es:List Expr}{k:Nat}{tp:Pos}(he:PE X e te):PI X (.Tuple es k tp) e (iItems te):=by
 intro pins s σ H R I h
 refine thn (he pins s σ H _ I h) fun v s1 ⟨x,H1,I1,r1,q1⟩=>?_
 obtain⟨vw,d,u,rfl,hv,hd,hu,q⟩:=q1
 cases r1
 obtain⟨hview,_,_⟩:=(show bA X.prog X.w H1 s1.heap vw (dr vw d) from I1.hok vw _ hv)
 obtain⟨_,ents,ep,hm,sz,_⟩:=mB hu (I1.hok d _ hd)
 obtain⟨o,q1,q2,q3⟩:=id hm
 refine t9 hview hm ?_
 have I2:=I1.freeze hd hu q1
 have ne:d≠s1.heap.objs.size:=Kp (Heap.lt_size q1)
 refine⟨s1.heap.objs.size,[s1.heap.objs.size],_,_,upd H1 d (.frz o u),rfl,I2.kept (t':=s1.toks) fun b u e=>Heap.get?_push_of_some _ e,qI o u d _ hu ents ep q2 q3,⟨_,_,Heap.get?_push_size _ rfl⟩,fun b hb=>?_,q o⟩
 rw[Kj.mp hb]
 exact I2.fpOk (JQ _) (I2.hok.fresh (JQ _))
end
theorem wD{o:Obj}{u:HO}{d:Addr}{g:TG}{tb:TS}{D:Ends}{σ:St}{H:Hp}(Pv:Nat->St->Hp->Prop)(h0:Pv 0 σ H)(hl:∀ i σ H,i<=dlen u->Pv i σ H->H d=some (.frz o u))
  (hs:∀ i x y σ H T,i<dlen u->KvA H u i x y->Pv i σ H->H T=none->g (.ref T) σ (upd H T (.tup [x,y])) fun σ2 H2=>tb { D with nx:=Pv (i+1),ct:=Pv (i+1),bk:=D.nx } σ2 H2) (hd:∀ σ H,Pv (dlen u) σ H->D.nx σ H) :
  ∃ W:Nat->Nat->St->Hp->Prop,(∃ m,W 0 m σ H)/\∀ i m σ H,W i m σ H ->
   ((Itd o u d).stop i H/\D.nx σ H)∨((Itd o u d).go i H/\∃ N:St->Hp->Prop,(∀ σ' H',N σ' H'->∃ m',m'<m/\W (i+1) m' σ' H')/\∀ x H',(Itd o u d).yld i H x H'->g x σ H' fun σ2 H2=>tb { D with nx:=N,ct:=N,bk:=D.nx } σ2 H2):=by
 refine⟨fun i m σ H=>m=dlen u-i/\i<=dlen u/\Pv i σ H,⟨dlen u,by simp,K4 _,h0⟩,?_⟩
 rintro i m σ H ⟨rfl,hi,p⟩
 have q:=hl i σ H hi p
 by_cases hlt:i<dlen u
 ·refine .inr ⟨⟨q,hlt⟩,Pv (i+1),fun σ' H' p'=>⟨dlen u-(i+1),by omega,rfl,hlt,p'⟩,fun v H' y=>?_⟩
  obtain⟨T,x,z,hT,rfl,rfl,kv⟩:=y
  exact hs i x z σ _ T hlt kv p hT
 ·have e:i=dlen u:=by omega
  subst e
  exact .inl ⟨⟨q,JQ _⟩,hd σ H p⟩
end L2
namespace L2
open PySem PySem.Spec PyProof.Rows
section
open PySem.W
end
section
open PySem.W
variable{prog:Program}{w:World}{A:Around}{E:Value->Shared->Prop}{s:Shared}
def PrV(h:Heap)(v:Value):Prop:=∃ a o n x y tx ty,v=.ref a/\h.get? a=some o/\o.cls=.type "tuple"/\o.data=.seq #[.int x tx,.int y ty] n
theorem PrV.keep{h h':Heap}{v:Value}(p:PrV h v)(k:∀ b o,v=.ref b->h.get? b=some o->h'.get? b=some o):PrV h' v:=by
 obtain⟨a,o,n,x,y,tx,ty,rfl,h1,r⟩:=p
 exact⟨a,o,n,x,y,tx,ty,rfl,k _ _ rfl h1,r⟩
theorem A0{M:Model}:∀{vs:List Value},(∀ v∈vs,PrV s.heap v)->∃ fs,KatTups s.heap vs fs/\fs.length=vs.length/\∀ v∈fs,Looks M s.heap (typeOf v) (.type "int")
 |[],_=>⟨[],trivial,rfl,fun v hv=>nomatch hv⟩
 |v::vs,h=>by
  obtain⟨fs,h1,h2,h3⟩:=A0 (M:=M) (vs:=vs) fun u hu=>h u (J1 _ hu)
  obtain⟨a,o,n,x,y,tx,ty,rfl,k1,k2,k3⟩:=h v (Kh ..)
  refine⟨.int x tx::fs,KatTups.cons k1 k2 k3 rfl h1,by rw[Kt,Kt,h2],fun u hu=>?_⟩
  rcases JT.mp hu with rfl | hu
  ·exact .now
  ·exact h3 u hu
end
section
variable{X:Cx}
end
section
variable{X:Cx}
end
end L2
namespace L2
open PySem PySem.Spec PyProof.Rows
section
variable{prog:Program}{w:World}{K:Type} [DecidableEq K] {knd:KeyKind prog w K} {A:Around} {E:Value->Shared->Prop} {s:Shared}
theorem BJ{d:Addr}{kvs:List (K×Value)}{k:K}{key dflt:Value}{Q:Value->Shared->Prop}(hkey:knd.is k key=true)(hm:s.heap.DictOf knd d kvs)
  (hthere:∀ v,valueAt kvs k=some v->Q v { s with toks:=s.toks+1 })
  (hnew:valueAt kvs k=none->∀ h',h'.DictOf knd d (stored kvs k dflt)->Heap.SameBut d s.heap h'->Q dflt { s with heap:=h',toks:=s.toks+1 }) (hsz:kvs.length<=sizeLine) :
  wpAny (model prog w) A (dictSetDefault d key dflt) Q E s:=by
 have hmap:=hm.mapOf
 obtain⟨o,es,ep,ho,hc,hd,hk,hp,hn⟩:=hm
 obtain⟨o',es',ep',ho',_,hd',_,hf⟩:=hmap
 rw[ho]at ho'
 cases ho'
 rw[hd]at hd'
 cases hd'
 have hes:es.size<=sizeLine:=by have e1:=hp.length;have e2:es.toList.length=es.size:=by simp
                                omega
 unfold dictSetDefault
 try with_reducible refine wpAny_holding ?_
 refine wpAny_bind (knd.pyHash hkey ?_)
 refine wpAny_bind (wpAny_dictFind_of (s:={ s with toks:=s.toks+1 }) hkey ho hd hk ?_)
 have hidx:(es.findIdx? fun e=>knd.is k e.key)=kvs.findIdx? fun kv=>decide (kv.1=k):=by
  rw[← hp.findIdx k];obtain⟨l⟩:=es;simp
 cases hi:es.findIdx? fun e=>knd.is k e.key with
 |some i =>
  have hfk:valueAt kvs k=(es[i]?).map (·.val):=by rw[← hf k,findBy_of_findIdx?,hi]
  refine wpAny_bind (wpAny_dictEntries (s:={ s with toks:=s.toks+1 }) ho hd ?_)
  cases he:es[i]? with
  |none =>
   exfalso
   have:=Array.findIdx?_eq_some_iff_findIdx_eq.mp hi
   have hlt:i<es.size:=this.1
   rw[NP hlt]at he
   exact nomatch he
  |some e =>
   rw[he]at hfk
   exact wpAny_bind (wpAny_rule (wpAny_pure (hthere e.val hfk)))
 |none =>
  have hfk:valueAt kvs k=none:=by rw[← hf k,findBy_of_findIdx?,hi]
  have hnot:k∉kvs.map (·.1):=not_mem_of_findIdx_none (hidx▸hi)
  have hany:¬ (kvs.any fun kv=>decide (kv.1=k))=true:=by
   rw[LR];rintro⟨kv,hkv,he⟩
   exact hnot (Ke.mpr ⟨kv,hkv,of_decide_eq_true he⟩)
  refine wpAny_bind (wpAny_rule (wpAny_bind (wpAny_updateDictKeys (hz:=hes) (s:={ s with toks:=s.toks+1 }) ho hd (wpAny_pure (hnew hfk _ ⟨_,_,ep+1,Heap.get?_update_self _ ho (Obj.isFreed_of_dict (Obj.data_mapDictKeys hd _)),
   hc.mapDictKeys _,Obj.data_mapDictKeys hd _,hk.push hkey _,?_,?_⟩ (Heap.SameBut.update ..))))))
  ·rw[stored,if_neg hany]
   have:=hp.append hkey (knd.hash k) dflt
   obtain⟨l⟩:=es
   simpa using this
  ·rw[stored,if_neg hany,KD,Kg]
   refine⟨hn,by simp,?_⟩
   intro a ha b hb
   simp only[KA,Nt,Kj]at hb
   subst hb
   exact fun e=>hnot (e▸ha)
theorem B8{d:Addr}{k:K}{key:Value}(hkey:knd.is k key=true)(hd:(d == sysModules)=false)(dflt:Value) :
  MeetsIn prog w (Builtin.«dict.setdefault» ⟨[.ref d,key,dflt],[]⟩) (fun _ R s=>∃ kvs,s.heap.DictOf knd d kvs/\kvs.length<=sizeLine /\
   (∀ v,valueAt kvs k=some v->R (.ok (.ret v)) { s with toks:=s.toks+1 }) /\
   (valueAt kvs k=none->∀ h',h'.DictOf knd d (stored kvs k dflt)->Heap.SameBut d s.heap h'->R (.ok (.ret dflt)) { s with heap:=h',toks:=s.toks+1 })) :=
 .of_wp fun A R s ⟨kvs,hm,hz,h1,h2⟩=>by
  unfold Builtin.«dict.setdefault»
  refine wpAny_bind ?_
  unfold Builtin.Dict.keyAndDefault
  refine wpAny_bind (wpAny_notOrdered_dict hm.typeIs ?_)
  show wpAny _ _ (pure (d,key,some dflt)) _ _ s
  refine wpAny_pure ?_
  show wpAny _ _ (if(d == sysModules)=true then _ else(dictSetDefault d key dflt >>= _)) _ _ s
  rw[if_neg (by rw[hd];exact Ka)]
  exact wpAny_bind (BJ hkey hm (fun v hv=>wpAny_pure ⟨v,rfl,h1 v hv⟩) (fun hn h' hm' hs'=>wpAny_pure ⟨dflt,rfl,h2 hn h' hm' hs'⟩) hz)
end
def tSetD(td ty tx:TE):TE:=fun σ H Q=>td σ H fun x H1=>∃ a,x=.ref a/\IsD H1 a/\ty σ H1 fun y H2=>tx σ H2 fun z H3=>∃ kvs k,H3 a=some (.dK kvs)/\y=kV k/\kvs.length<sizeLine /\
 (∀ v,valV kvs k=some v->Q v H3)/\(valV kvs k=none->Q z (upd H3 a (.dK (putK kvs k z))))
section
variable{X:Cx}{o e f:Expr}{apos cpos:Pos}{td ty tx:TE}
theorem IQ(ho:PE X o td)(he:PE X e ty)(hf:PE X f tx) (m:M2 X o "setdefault" apos e f cpos):PE X (.Call (.Attribute o "setdefault" apos) [e,f] [] cpos) (tSetD td ty tx):=by
 intro pins s σ H Q I h
 refine wpAny_Call_method m.base m.few m.line LN Nx PySem.F.type_dict_setdefault (thn (ho pins s σ H _ I h) fun u s1 ⟨x,H1,I1,rx,a,ex,d,q1⟩=>?_)
 subst ex
 obtain rfl:u=Value.ref a:=rx
 obtain⟨t1,t2,_⟩:=HE I1 d
 refine⟨t1,t2,?_⟩
 rw[m.trees]
 refine Calls.callWith_builtin rfl (Calls.evalArgs_plain (Calls.spliced_cons (thn (he pins s1 σ H1 _ I1 q1) fun iv s2 ⟨y,H2,I2,ry,q2⟩ =>
  Calls.spliced_cons (thn (hf pins s2 σ H2 _ I2 q2) fun fv s3 ⟨z,H3,I3,rz,kvs,k,ea,ey,hl,q3,q4⟩=>Calls.spliced_nil ?_))))
 subst ey
 obtain⟨hz,hd,vs,rel,dd⟩:=Jz I3.hok ea
 have hzv:vs.length<=sizeLine:=by rw[← rel.length];exact hz
 refine call_meetsIn Nx dd.typeIs PySem.F.entry_dict_setdefault (PySem.F.args_dict_setdefault_3 _ _ _) (B8 (zO ry) hd fv) ⟨vs,dd,hzv,fun v hv=>?_,fun hn h' dd' hs=>?_⟩
 ·have r:=rel.val k
  rw[hv]at r
  cases l:valV kvs k with
  |none=>rw[l]at r;exact r.elim
  |some v'=>rw[l]at r;exact⟨v',H3,I3.tok _,r,q3 v' l⟩
 ·have r:=rel.val k
  rw[hn]at r
  cases l:valV kvs k with
  |some v'=>rw[l]at r;exact r.elim
  |none =>
   have hl2:(putK kvs k z).length<=sizeLine:=by have:=cW kvs k z;omega
   have hE:∃ q,h'.get? a=some q:=let ⟨q,_,_,hq,_⟩:=dd';⟨q,hq⟩
   exact⟨z,_,ui I3 (by rw[ea];exact True.intro) hs hE (E5 hl2 hd (rel.put k rz) dd'),rz,q4 l⟩
end
section
variable{X:Cx}
end
section
variable{prog:Program}{w:World}{A:Around}{E:Value->Shared->Prop}{s:Shared}{T:String}{r d:Addr}{n:Nat}{P:Nat->Value->Prop}{OK:Heap->Prop}
end
section
variable{X:Cx}
end
abbrev bj(h:Heap)(T:Addr)(a b c:Value):Prop:=h.get? T=some { cls:=.type "tuple",data:=.seq #[a,b,c] }
section
variable{prog:Program}{w:World}{A:Around}{E:Value->Shared->Prop}{s:Shared}
theorem bT{T:Addr}{a b c x:Value}{k:Nat}{Q:Unit->Shared->Prop}(hT:bj s.heap T a b c)
  (h:∀ h',h'.get? T=some { cls:=.type "tuple",data:=.seq ((#[a,b,c]:Array Value).setIfInBounds k x) }->Heap.SameBut T s.heap h'->Q () { s with heap:=h' }) :
  wpAny (model prog w) A (updateSeq T (·.setIfInBounds k x)) Q E s:=by
 refine wpAny_updateSeq hT rfl (h _ ?_ (Heap.SameBut.update ..))
 rw[Heap.get?_update_self _ hT rfl]
 simp[Obj.mapSeq]
structure Z3(z TI TO i1 i2 i3 l1 l2 l3:Addr):Prop where
 zs:∀ x∈[TI,TO,i1,i2,i3,l1,l2,l3],x≠z
 ts:∀ x∈[TI,i1,i2,i3,l1,l2,l3],x≠TO
 is1:∀ x∈[TI,i2,i3,l1,l2,l3],x≠i1
 is2:∀ x∈[TI,i1,i3,l1,l2,l3],x≠i2
 is3:∀ x∈[TI,i1,i2,l1,l2,l3],x≠i3
theorem HZ{z TI TO i1 i2 i3 l1 l2 l3:Addr}{k:Nat}{xs ys zs:Array Value}{x y v a b c:Value}{Q:Value->Shared->Prop}(D:Z3 z TI TO i1 i2 i3 l1 l2 l3)
  (hz:IsZip s.heap z TI TO .none) (hTI:bj s.heap TI (.ref i1) (.ref i2) (.ref i3)) (hTO:bj s.heap TO a b c)
  (h1:s.heap.IsListIter i1 l1 k) (h2:s.heap.IsListIter i2 l2 k) (h3:s.heap.IsListIter i3 l3 k) (hl1:s.heap.IsList l1 xs) (hl2:s.heap.IsList l2 ys) (hl3:s.heap.IsList l3 zs) (hx:xs[k]?=some x) (hy:ys[k]?=some y) (hv:zs[k]?=some v)
  (hQ:∀ h',IsZip h' z TI TO (rawInt s.heap.objs.size)->bj h' TO x y v->h'.IsListIter i1 l1 (k+1)->h'.IsListIter i2 l2 (k+1)->h'.IsListIter i3 l3 (k+1)->bj h' s.heap.objs.size x y v->h'.objs.size=s.heap.objs.size+1 ->
   (∀ c o,c∉[z,TO,i1,i2,i3]->s.heap.get? c=some o->h'.get? c=some o)->Q (.ref s.heap.objs.size) { s with heap:=h' }) :
  wpAny (model prog w) A (Builtin.«zip.__next__» ⟨[.ref z],[]⟩) (fun fin s'=>∃ v,fin=.done (.ret v)/\Q v s') E s:=by
 obtain⟨zs',ts',s1',s2',s3'⟩:=D
 simp only[JT,KW,or_false,forall_eq_or_imp,forall_eq]at zs' ts' s1' s2' s3'
 obtain⟨TIz,TOz,i1z,i2z,i3z,l1z,l2z,l3z⟩:=zs'
 obtain⟨TITO,i1TO,i2TO,i3TO,l1TO,l2TO,l3TO⟩:=ts'
 obtain⟨TIi1,i21,i31,l1i1,l2i1,l3i1⟩:=s1'
 obtain⟨TIi2,i12,i32,l1i2,l2i2,l3i2⟩:=s2'
 obtain⟨TIi3,i13,i23,l1i3,l2i3,l3i3⟩:=s3'
 show wpAny _ _ (field (.ref z) 2 >>= _) _ _ _
 refine wpAny_bind (wpAny_field hz rfl (x:=.bool false) rfl ?_)
 show wpAny _ _ (field (.ref z) 3 >>= _) _ _ _
 refine wpAny_bind (wpAny_field hz rfl (x:=.ref TI) rfl ?_)
 refine wpAny_bind (wpAny_seqItems hTI rfl ?_)
 show wpAny _ _ (Builtin.SmallTypes.ownedTupleIsFree (.ref z) >>= _) _ _ _
 refine wpAny_bind ?_
 unfold Builtin.SmallTypes.ownedTupleIsFree
 refine wpAny_bind (wpAny_field hz rfl (x:=.none) rfl (wpAny_pure ?_))
 simp only[if_true]
 refine wpAny_bind (wpAny_rule ?_)
 refine wpAny_bind (wpAny_field hz rfl (x:=.ref TO) rfl ?_)
 refine wpAny_bind (wpAny_setField_rec hz (by simp) fun h₁ hz₁ hs₁=>?_)
 replace hz₁:IsZip h₁ z TI TO .ellipsis:=hz₁
 refine wpAny_bind ?_
 simp only[Nv,List.zipIdx_nil,List.forIn_cons,List.forIn_nil]
 refine wpAny_bind (wpAny_bind (wpAny_onRaise ?_))
 show wpAny _ _ (Builtin.SmallTypes.nextOf (.ref i1) >>= _) _ _ _
 refine wpAny_bind (wpAny_nextOf_list_item (h1.extBut hs₁.extBut i1z) (hl1.extBut hs₁.extBut l1z) hx fun h₂ h1₂ hs₂=>wpAny_pure ?_)
 have hTO₂:bj h₂ TO a b c:=hs₂.extBut _ _ i1TO.symm (hs₁.extBut _ _ TOz hTO)
 refine wpAny_bind (wpAny_seqItems hTO₂ rfl ?_)
 refine wpAny_bind (bT hTO₂ fun h₃ hTO₃ hs₃=>?_)
 replace hTO₃:bj h₃ TO x b c:=hTO₃
 refine wpAny_bind (wpAny_letGo (wpAny_pure ?_))
 refine wpAny_bind (wpAny_bind (wpAny_onRaise ?_))
 show wpAny _ _ (Builtin.SmallTypes.nextOf (.ref i2) >>= _) _ _ _
 refine wpAny_bind (wpAny_nextOf_list_item (((h2.extBut hs₁.extBut i2z).extBut hs₂.extBut i21).extBut hs₃.extBut i2TO)
  (((hl2.extBut hs₁.extBut l2z).extBut hs₂.extBut l2i1).extBut hs₃.extBut l2TO) hy fun h₄ h2₄ hs₄=>wpAny_pure ?_)
 have hTO₄:bj h₄ TO x b c:=hs₄.extBut _ _ i2TO.symm hTO₃
 refine wpAny_bind (wpAny_seqItems hTO₄ rfl ?_)
 refine wpAny_bind (bT hTO₄ fun h₅ hTO₅ hs₅=>?_)
 replace hTO₅:bj h₅ TO x y c:=hTO₅
 refine wpAny_bind (wpAny_letGo (wpAny_pure ?_))
 refine wpAny_bind (wpAny_bind (wpAny_onRaise ?_))
 show wpAny _ _ (Builtin.SmallTypes.nextOf (.ref i3) >>= _) _ _ _
 refine wpAny_bind (wpAny_nextOf_list_item (((((h3.extBut hs₁.extBut i3z).extBut hs₂.extBut i31).extBut hs₃.extBut i3TO).extBut hs₄.extBut i32).extBut hs₅.extBut i3TO)
  (((((hl3.extBut hs₁.extBut l3z).extBut hs₂.extBut l3i1).extBut hs₃.extBut l3TO).extBut hs₄.extBut l3i2).extBut hs₅.extBut l3TO) hv fun h₆ h3₆ hs₆=>wpAny_pure ?_)
 have hTO₆:bj h₆ TO x y c:=hs₆.extBut _ _ i3TO.symm hTO₅
 refine wpAny_bind (wpAny_seqItems hTO₆ rfl ?_)
 refine wpAny_bind (bT hTO₆ fun h₇ hTO₇ hs₇=>?_)
 replace hTO₇:bj h₇ TO x y v:=hTO₇
 refine wpAny_bind (wpAny_letGo (wpAny_pure (wpAny_pure ?_)))
 refine wpAny_bind (wpAny_seqItems hTO₇ rfl ?_)
 refine wpAny_bind (wpAny_newTuple ?_)
 have hsz:h₇.objs.size=s.heap.objs.size:=by rw[hs₇.1,hs₆.1,hs₅.1,hs₄.1,hs₃.1,hs₂.1,hs₁.1]
 have hz₇:IsZip h₇ z TI TO .ellipsis:=hs₇.extBut _ _ TOz.symm (hs₆.extBut _ _ i3z.symm (hs₅.extBut _ _ TOz.symm (hs₄.extBut _ _ i2z.symm (hs₃.extBut _ _ TOz.symm (hs₂.extBut _ _ i1z.symm hz₁)))))
 have hk₇:∀ c o,c∉[z,TO,i1,i2,i3]->s.heap.get? c=some o->h₇.get? c=some o:=fun c o hc e=>by
  simp only[JT,KW,or_false,not_or]at hc
  obtain⟨c1,c2,c3,c4,c5⟩:=hc
  exact hs₇.extBut _ _ c2 (hs₆.extBut _ _ c5 (hs₅.extBut _ _ c2 (hs₄.extBut _ _ c4 (hs₃.extBut _ _ c2 (hs₂.extBut _ _ c3 (hs₁.extBut _ _ c1 e))))))
 have h1₇:h₇.IsListIter i1 l1 (k+1):=((((h1₂.extBut hs₃.extBut i1TO).extBut hs₄.extBut i12).extBut hs₅.extBut i1TO).extBut hs₆.extBut i13).extBut hs₇.extBut i1TO
 have h2₇:h₇.IsListIter i2 l2 (k+1):=((h2₄.extBut hs₅.extBut i2TO).extBut hs₆.extBut i23).extBut hs₇.extBut i2TO
 have h3₇:h₇.IsListIter i3 l3 (k+1):=h3₆.extBut hs₇.extBut i3TO
 have hzlt:z<h₇.objs.size:=Heap.lt_size hz₇
 show wpAny _ _ (Builtin.SmallTypes.ownedTupleHandOut (.ref z) (.ref h₇.objs.size) >>= _) _ _ _
 refine wpAny_bind ?_
 unfold Builtin.SmallTypes.ownedTupleHandOut
 have hz₈:IsZip (h₇.push { cls:=.type "tuple",data:=.seq #[x,y,v] }) z TI TO .ellipsis:=Heap.get?_push_of_some _ hz₇
 refine wpAny_bind (wpAny_setField_rec hz₈ (by simp) fun h₉ hz₉ hs₉=>?_)
 replace hz₉:IsZip h₉ z TI TO (rawInt h₇.objs.size):=hz₉
 refine wpAny_setField_rec hz₉ (by simp) fun hA hzA hsA=>?_
 replace hzA:IsZip hA z TI TO (rawInt h₇.objs.size):=hzA
 have up:∀ c o,c≠z->h₇.get? c=some o->hA.get? c=some o:=fun c o c1 e=>hsA.extBut _ _ c1 (hs₉.extBut _ _ c1 (Heap.get?_push_of_some _ e))
 have hTA:bj hA h₇.objs.size x y v:=hsA.extBut _ _ (Lc hzlt) (hs₉.extBut _ _ (Lc hzlt) (Heap.get?_push_size _ rfl))
 have hzA2:hA.objs.size=h₇.objs.size+1:=by rw[hsA.1,hs₉.1,Heap.size_push]
 rw[hsz]at hzA hTA hzA2
 refine wpAny_pure ⟨_,rfl,?_⟩
 show Q (.ref h₇.objs.size) _
 rw[hsz]
 exact hQ hA hzA (up _ _ TOz hTO₇) (h1₇.at fun o e=>up _ o i1z e) (h2₇.at fun o e=>up _ o i2z e) (h3₇.at fun o e=>up _ o i3z e) hTA hzA2 fun c o hc e=>up c o (fun z=>hc (by simp[z])) (hk₇ c o hc e)
theorem z3_end{z TI TO i1 i2 i3 l1 l2 l3:Addr}{k:Nat}{xs ys zs:Array Value}{a b c:Value}{Q:Fin->Shared->Prop}(hh:A.handled=none)(D:Z3 z TI TO i1 i2 i3 l1 l2 l3)
  (hz:IsZip s.heap z TI TO .none) (hTI:bj s.heap TI (.ref i1) (.ref i2) (.ref i3)) (hTO:bj s.heap TO a b c)
  (h1:s.heap.IsListIter i1 l1 k) (h2:s.heap.IsListIter i2 l2 k) (h3:s.heap.IsListIter i3 l3 k) (hl1:s.heap.IsList l1 xs) (hl2:s.heap.IsList l2 ys) (hl3:s.heap.IsList l3 zs) (hend:xs[k]?=none∨ys[k]?=none∨zs[k]?=none)
  (hE:∀ h' e,(∀ c o,c∉[z,TO,i1,i2,i3]->s.heap.get? c=some o->h'.get? c=some o)->(∃ o,h'.get? e=some o/\o.cls=.type "StopIteration")->E (.ref e) { s with heap:=h' }) :
  wpAny (model prog w) A (Builtin.«zip.__next__» ⟨[.ref z],[]⟩) Q E s:=by
 obtain⟨zs',ts',s1',s2',s3'⟩:=D
 simp only[JT,KW,or_false,forall_eq_or_imp,forall_eq]at zs' ts' s1' s2' s3'
 obtain⟨TIz,TOz,i1z,i2z,i3z,l1z,l2z,l3z⟩:=zs'
 obtain⟨TITO,i1TO,i2TO,i3TO,l1TO,l2TO,l3TO⟩:=ts'
 obtain⟨TIi1,i21,i31,l1i1,l2i1,l3i1⟩:=s1'
 obtain⟨TIi2,i12,i32,l1i2,l2i2,l3i2⟩:=s2'
 obtain⟨TIi3,i13,i23,l1i3,l2i3,l3i3⟩:=s3'
 have nin:∀ c,c∉[z,TO,i1,i2,i3]->c≠z/\c≠TO/\c≠i1/\c≠i2/\c≠i3:=fun c hc=>by
  simp only[JT,KW,or_false,not_or]at hc
  exact hc
 show wpAny _ _ (field (.ref z) 2 >>= _) _ _ _
 refine wpAny_bind (wpAny_field hz rfl (x:=.bool false) rfl ?_)
 show wpAny _ _ (field (.ref z) 3 >>= _) _ _ _
 refine wpAny_bind (wpAny_field hz rfl (x:=.ref TI) rfl ?_)
 refine wpAny_bind (wpAny_seqItems hTI rfl ?_)
 show wpAny _ _ (Builtin.SmallTypes.ownedTupleIsFree (.ref z) >>= _) _ _ _
 refine wpAny_bind ?_
 unfold Builtin.SmallTypes.ownedTupleIsFree
 refine wpAny_bind (wpAny_field hz rfl (x:=.none) rfl (wpAny_pure ?_))
 simp only[if_true]
 refine wpAny_bind (wpAny_rule ?_)
 refine wpAny_bind (wpAny_field hz rfl (x:=.ref TO) rfl ?_)
 refine wpAny_bind (wpAny_setField_rec hz (by simp) fun h₁ hz₁ hs₁=>?_)
 replace hz₁:IsZip h₁ z TI TO .ellipsis:=hz₁
 refine wpAny_bind ?_
 simp only[Nv,List.zipIdx_nil,List.forIn_cons,List.forIn_nil]
 refine wpAny_bind (wpAny_bind (wpAny_onRaise ?_))
 show wpAny _ _ (Builtin.SmallTypes.nextOf (.ref i1) >>= _) _ _ _
 cases hx:xs[k]? with
 |none =>
  refine wpAny_bind (wpAny_nextOf_list_end hh (h1.extBut hs₁.extBut i1z) (hl1.extBut hs₁.extBut l1z) hx fun h₂ e hs₂ he=>?_)
  obtain⟨oe,hoe,hce⟩:=he
  have hz₂:IsZip h₂ z TI TO .ellipsis:=hs₂ _ _ i1z.symm hz₁
  have hez:e≠z:=fun x=>by subst x;rw[hz₂]at hoe;cases hoe;simp at hce
  exact wpAny_setField_rec hz₂ (by simp) fun h₃ _ hs₃=>hE h₃ e (fun c o hc x=>have q:=nin c hc;hs₃.extBut _ _ q.1 (hs₂ _ _ q.2.2.1 (hs₁.extBut _ _ q.1 x))) ⟨oe,hs₃.extBut _ _ hez hoe,hce⟩
 |some x =>
  refine wpAny_bind (wpAny_nextOf_list_item (h1.extBut hs₁.extBut i1z) (hl1.extBut hs₁.extBut l1z) hx fun h₂ h1₂ hs₂=>wpAny_pure ?_)
  have hTO₂:bj h₂ TO a b c:=hs₂.extBut _ _ i1TO.symm (hs₁.extBut _ _ TOz hTO)
  refine wpAny_bind (wpAny_seqItems hTO₂ rfl ?_)
  refine wpAny_bind (bT hTO₂ fun h₃ hTO₃ hs₃=>?_)
  replace hTO₃:bj h₃ TO x b c:=hTO₃
  refine wpAny_bind (wpAny_letGo (wpAny_pure ?_))
  refine wpAny_bind (wpAny_bind (wpAny_onRaise ?_))
  show wpAny _ _ (Builtin.SmallTypes.nextOf (.ref i2) >>= _) _ _ _
  cases hy:ys[k]? with
  |none =>
   refine wpAny_bind (wpAny_nextOf_list_end hh (((h2.extBut hs₁.extBut i2z).extBut hs₂.extBut i21).extBut hs₃.extBut i2TO)
    (((hl2.extBut hs₁.extBut l2z).extBut hs₂.extBut l2i1).extBut hs₃.extBut l2TO) hy fun h₄ e hs₄ he=>?_)
   obtain⟨oe,hoe,hce⟩:=he
   have hz₄:IsZip h₄ z TI TO .ellipsis:=hs₄ _ _ i2z.symm (hs₃.extBut _ _ TOz.symm (hs₂.extBut _ _ i1z.symm hz₁))
   have hez:e≠z:=fun x=>by subst x;rw[hz₄]at hoe;cases hoe;simp at hce
   exact wpAny_setField_rec hz₄ (by simp) fun h₅ _ hs₅=>hE h₅ e (fun c o hc x=>have q:=nin c hc;hs₅.extBut _ _ q.1 (hs₄ _ _ q.2.2.2.1 (hs₃.extBut _ _ q.2.1 (hs₂.extBut _ _ q.2.2.1 (hs₁.extBut _ _ q.1 x))))) ⟨oe,hs₅.extBut _ _ hez hoe,hce⟩
  |some y =>
   have hv:zs[k]?=none:=by
    rcases hend with h | h | h
    ·rw[hx]at h;cases h
    ·rw[hy]at h;cases h
    ·exact h
   refine wpAny_bind (wpAny_nextOf_list_item (((h2.extBut hs₁.extBut i2z).extBut hs₂.extBut i21).extBut hs₃.extBut i2TO)
    (((hl2.extBut hs₁.extBut l2z).extBut hs₂.extBut l2i1).extBut hs₃.extBut l2TO) hy fun h₄ h2₄ hs₄=>wpAny_pure ?_)
   have hTO₄:bj h₄ TO x b c:=hs₄.extBut _ _ i2TO.symm hTO₃
   refine wpAny_bind (wpAny_seqItems hTO₄ rfl ?_)
   refine wpAny_bind (bT hTO₄ fun h₅ hTO₅ hs₅=>?_)
   replace hTO₅:bj h₅ TO x y c:=hTO₅
   refine wpAny_bind (wpAny_letGo (wpAny_pure ?_))
   refine wpAny_bind (wpAny_bind (wpAny_onRaise ?_))
   show wpAny _ _ (Builtin.SmallTypes.nextOf (.ref i3) >>= _) _ _ _
   refine wpAny_bind (wpAny_nextOf_list_end hh (((((h3.extBut hs₁.extBut i3z).extBut hs₂.extBut i31).extBut hs₃.extBut i3TO).extBut hs₄.extBut i32).extBut hs₅.extBut i3TO)
    (((((hl3.extBut hs₁.extBut l3z).extBut hs₂.extBut l3i1).extBut hs₃.extBut l3TO).extBut hs₄.extBut l3i2).extBut hs₅.extBut l3TO) hv fun h₆ e hs₆ he=>?_)
   obtain⟨oe,hoe,hce⟩:=he
   have hz₆:IsZip h₆ z TI TO .ellipsis:=hs₆ _ _ i3z.symm (hs₅.extBut _ _ TOz.symm (hs₄.extBut _ _ i2z.symm (hs₃.extBut _ _ TOz.symm (hs₂.extBut _ _ i1z.symm hz₁))))
   have hez:e≠z:=fun x=>by subst x;rw[hz₆]at hoe;cases hoe;simp at hce
   exact wpAny_setField_rec hz₆ (by simp) fun h₇ _ hs₇=>hE h₇ e (fun c o hc x=>have q:=nin c hc;hs₇.extBut _ _ q.1 (hs₆ _ _ q.2.2.2.2 (hs₅.extBut _ _ q.2.1 (hs₄.extBut _ _ q.2.2.2.1 (hs₃.extBut _ _ q.2.1 (hs₂.extBut _ _ q.2.2.1 (hs₁.extBut _ _ q.1 x))))))) ⟨oe,hs₇.extBut _ _ hez hoe,hce⟩
theorem HY{z TI TO i1 i2 i3 l1 l2 l3:Addr}{k:Nat}{xs ys zs:Array Value}{x y v a b c:Value}{Q:Option Value->Shared->Prop}(D:Z3 z TI TO i1 i2 i3 l1 l2 l3)
  (hz:IsZip s.heap z TI TO .none) (hTI:bj s.heap TI (.ref i1) (.ref i2) (.ref i3)) (hTO:bj s.heap TO a b c)
  (h1:s.heap.IsListIter i1 l1 k) (h2:s.heap.IsListIter i2 l2 k) (h3:s.heap.IsListIter i3 l3 k) (hl1:s.heap.IsList l1 xs) (hl2:s.heap.IsList l2 ys) (hl3:s.heap.IsList l3 zs) (hx:xs[k]?=some x) (hy:ys[k]?=some y) (hv:zs[k]?=some v)
  (hQ:∀ h',IsZip h' z TI TO (rawInt s.heap.objs.size)->bj h' TO x y v->h'.IsListIter i1 l1 (k+1)->h'.IsListIter i2 l2 (k+1)->h'.IsListIter i3 l3 (k+1)->bj h' s.heap.objs.size x y v->h'.objs.size=s.heap.objs.size+1 ->
   (∀ c o,c∉[z,TO,i1,i2,i3]->s.heap.get? c=some o->h'.get? c=some o)->Q (some (.ref s.heap.objs.size)) { s with heap:=h' }) :
  wpAny (model prog w) A (pyNext (.ref z)) Q E s:=by
 have hT:s.TypeIs (.ref z) "zip":=⟨_,hz,rfl⟩
 unfold pyNext
 exact wpAny_bind (wpAny_attempt (wpAny_callSpecial?_slot (name:=Str.ofString "__next__") hT F.slot_zip_next
  (wpAny_call_entry F.slot_zip_next hT F.entry_zip_next
   (HZ D hz hTI hTO h1 h2 h3 hl1 hl2 hl3 hx hy hv fun h' a1 a2 a3 a4 a5 a6 a7 a8=>wpAny_pure (hQ h' a1 a2 a3 a4 a5 a6 a7 a8)) (F.args_zip_next_1 _))))
theorem Ia{z TI TO i1 i2 i3 l1 l2 l3:Addr}{k:Nat}{xs ys zs:Array Value}{a b c:Value}{Q:Option Value->Shared->Prop}(hh:A.handled=none)(D:Z3 z TI TO i1 i2 i3 l1 l2 l3)
  (hz:IsZip s.heap z TI TO .none) (hTI:bj s.heap TI (.ref i1) (.ref i2) (.ref i3)) (hTO:bj s.heap TO a b c)
  (h1:s.heap.IsListIter i1 l1 k) (h2:s.heap.IsListIter i2 l2 k) (h3:s.heap.IsListIter i3 l3 k) (hl1:s.heap.IsList l1 xs) (hl2:s.heap.IsList l2 ys) (hl3:s.heap.IsList l3 zs) (hend:xs[k]?=none∨ys[k]?=none∨zs[k]?=none)
  (hQ:∀ h',(∀ c o,c∉[z,TO,i1,i2,i3]->s.heap.get? c=some o->h'.get? c=some o)->Q none { s with heap:=h' }):wpAny (model prog w) A (pyNext (.ref z)) Q E s:=by
 have hT:s.TypeIs (.ref z) "zip":=⟨_,hz,rfl⟩
 unfold pyNext
 refine wpAny_bind (wpAny_attempt (wpAny_callSpecial?_slot (name:=Str.ofString "__next__") hT F.slot_zip_next
  (wpAny_call_entry F.slot_zip_next hT F.entry_zip_next (z3_end hh D hz hTI hTO h1 h2 h3 hl1 hl2 hl3 hend fun h' e hk he=>?_) (F.args_zip_next_1 _))))
 obtain⟨o,ho,hc⟩:=he
 refine wpAny_bind (wpAny_isInstance (T:="StopIteration") (b:=true) ⟨o,ho,hc⟩ isSubtype_stop ?_)
 exact wpAny_pure (hQ _ hk)
end
theorem qb(a b c:Value):checkTypeCall "zip" ⟨[a,b,c],[]⟩=pure ():=by kernel_rfl
theorem tE(a b c:Value):checkBuiltinCall "zip.__new__" ⟨[.type "zip",a,b,c],[]⟩=pure ():=by kernel_rfl
theorem AA(a b c d:Value):argsOk "object.__init__" ⟨[a,b,c,d],[]⟩:=by
 unfold argsOk;rw[signature?_of (id:="object.__init__") (n:=['_','_','t','i','n','i','_','_']) (o:=['t','c','e','j','b','o']) (by kernel_rfl) PySem.F.owner_object];kernel_rfl
abbrev li3(l:Addr):Obj:={ cls:=.type "list_iterator",data:=.fields #[.ref l,.int 0 0] }
abbrev z3H3(h:Heap)(l1 l2 l3:Addr):Heap:=((h.push (li3 l1)).push (li3 l2)).push (li3 l3)
abbrev z3H4(h:Heap)(l1 l2 l3:Addr):Heap:=(z3H3 h l1 l2 l3).push { cls:=.type "tuple",data:=.seq #[.ref h.objs.size,.ref (h.push (li3 l1)).objs.size,.ref ((h.push (li3 l1)).push (li3 l2)).objs.size] }
abbrev z3H5(h:Heap)(l1 l2 l3:Addr):Heap:=(z3H4 h l1 l2 l3).push { cls:=.type "tuple",data:=.seq #[.none,.none,.none] }
abbrev z3H6(h:Heap)(l1 l2 l3:Addr):Heap:=(z3H5 h l1 l2 l3).push { cls:=.type "zip",data:=.fields #[.none,.bool false,.bool false,.ref (z3H3 h l1 l2 l3).objs.size,.ref (z3H4 h l1 l2 l3).objs.size] }
theorem B7(l1 l2 l3:Addr)(xs ys zs:Array Value) :
  Meets (Builtin.«zip.__new__» ⟨[.type "zip",.ref l1,.ref l2,.ref l3],[]⟩) (fun _ R s=>s.heap.IsList l1 xs/\s.heap.IsList l2 ys/\s.heap.IsList l3 zs /\
   R (.ok (.ret (.ref (z3H5 s.heap l1 l2 l3).objs.size))) { s with heap:=z3H6 s.heap l1 l2 l3 }) :=
 .of_wp fun prog w A R s h=>by
  obtain⟨hp,g,d,tk,os⟩:=s;obtain⟨hl1,hl2,hl3,h⟩:=h
  have hsub:=sub_zip
  have hL1:Heap.IsList (Shared.heap ⟨hp,g,d,tk,os⟩) l1 xs:=hl1
  have hL2:Heap.IsList (Shared.heap ⟨hp.push { cls:=.type "list_iterator",data:=.fields #[.ref l1,.int 0 0] },g,d,tk,os⟩) l2 ys:=Heap.IsList.push hl2 _
  have hL3:Heap.IsList (Shared.heap ⟨(hp.push { cls:=.type "list_iterator",data:=.fields #[.ref l1,.int 0 0] }).push { cls:=.type "list_iterator",data:=.fields #[.ref l2,.int 0 0] },g,d,tk,os⟩) l3 zs:=Heap.IsList.push (Heap.IsList.push hl3 _) _
  wp_walk using wpAny_pyIter_list hL1,wpAny_pyIter_list hL2,wpAny_pyIter_list hL3
  exact⟨_,rfl,h⟩
theorem Fu{prog:Program}{w:World}{A:Around}{E:Value->Shared->Prop}{s:Shared}{l1 l2 l3:Addr}{xs ys zs:Array Value}{Q:Value->Shared->Prop}(hl1:s.heap.IsList l1 xs)(hl2:s.heap.IsList l2 ys)(hl3:s.heap.IsList l3 zs)
  (h:∀ h',IsZip h' (s.heap.objs.size+5) (s.heap.objs.size+3) (s.heap.objs.size+4) .none->bj h' (s.heap.objs.size+3) (.ref s.heap.objs.size) (.ref (s.heap.objs.size+1)) (.ref (s.heap.objs.size+2)) ->
   bj h' (s.heap.objs.size+4) .none .none .none->h'.IsListIter s.heap.objs.size l1 0->h'.IsListIter (s.heap.objs.size+1) l2 0->h'.IsListIter (s.heap.objs.size+2) l3 0 ->
   (∀ c o,s.heap.get? c=some o->h'.get? c=some o)->Q (.ref (s.heap.objs.size+5)) { s with heap:=h' }) :
  wpAny (model prog w) A (call (.type "zip") [.ref l1,.ref l2,.ref l3]) Q E s:=by
 refine callType_new PySem.F.called_zip (by decide) (qb _ _ _) (tE _ _ _) (fun obj=>AA obj _ _ _) PySem.F.entry_zip_new
  (B7 l1 l2 l3 xs ys zs) ⟨hl1,hl2,hl3,?_⟩
 have z1:(s.heap.push (li3 l1)).objs.size=s.heap.objs.size+1:=Heap.size_push ..
 have z2:((s.heap.push (li3 l1)).push (li3 l2)).objs.size=s.heap.objs.size+2:=by rw[Heap.size_push,z1]
 have z3:(z3H3 s.heap l1 l2 l3).objs.size=s.heap.objs.size+3:=by rw[Heap.size_push,z2]
 have z4:(z3H4 s.heap l1 l2 l3).objs.size=s.heap.objs.size+4:=by rw[Heap.size_push,z3]
 have z5:(z3H5 s.heap l1 l2 l3).objs.size=s.heap.objs.size+5:=by rw[Heap.size_push,z4]
 have g6:(z3H6 s.heap l1 l2 l3).get? (z3H5 s.heap l1 l2 l3).objs.size=some _:=Heap.get?_push_size _ rfl
 have g5:(z3H6 s.heap l1 l2 l3).get? (z3H4 s.heap l1 l2 l3).objs.size=some _:=Heap.get?_push_of_some _ (Heap.get?_push_size _ rfl)
 have g4:(z3H6 s.heap l1 l2 l3).get? (z3H3 s.heap l1 l2 l3).objs.size=some _:=Heap.get?_push_of_some _ (Heap.get?_push_of_some _ (Heap.get?_push_size _ rfl))
 have g3:(z3H6 s.heap l1 l2 l3).get? ((s.heap.push (li3 l1)).push (li3 l2)).objs.size=some _:=Heap.get?_push_of_some _ (Heap.get?_push_of_some _ (Heap.get?_push_of_some _ (Heap.get?_push_size _ rfl)))
 have g2:(z3H6 s.heap l1 l2 l3).get? (s.heap.push (li3 l1)).objs.size=some _:=Heap.get?_push_of_some _ (Heap.get?_push_of_some _ (Heap.get?_push_of_some _ (Heap.get?_push_of_some _ (Heap.get?_push_size _ rfl))))
 have g1:(z3H6 s.heap l1 l2 l3).get? s.heap.objs.size=some _:=Heap.get?_push_of_some _ (Heap.get?_push_of_some _ (Heap.get?_push_of_some _ (Heap.get?_push_of_some _ (Heap.get?_push_of_some _ (Heap.get?_push_size _ rfl)))))
 show _/\_
 rw[z3,z4,z5]at g6
 rw[z4]at g5
 rw[z3,z1,z2]at g4
 rw[z2]at g3
 rw[z1]at g2
 rw[z5]
 exact⟨⟨_,g6,rfl⟩,h _ g6 g4 g5 ⟨_,g1,rfl,rfl⟩ ⟨_,g2,rfl,rfl⟩ ⟨_,g3,rfl,rfl⟩ fun c o x =>
  Heap.get?_push_of_some _ (Heap.get?_push_of_some _ (Heap.get?_push_of_some _ (Heap.get?_push_of_some _ (Heap.get?_push_of_some _ (Heap.get?_push_of_some _ x)))))⟩
def Itz3(K:JN)(a b c:Addr):It :=
 ⟨fun i H=>∃ xs ys zs x y z,SqL K H a xs/\SqL K H b ys/\SqL K H c zs/\xs[i]?=some x/\ys[i]?=some y/\zs[i]?=some z,
  fun i H v H'=>∃ T x y z,H T=none/\v=.ref T/\H'=upd H T (.tup [x,y,z])/\(∀ xs,SqL K H a xs->xs[i]?=some x)/\(∀ ys,SqL K H b ys->ys[i]?=some y)/\∀ zs,SqL K H c zs->zs[i]?=some z,
  fun i H=>∃ xs ys zs,SqL K H a xs/\SqL K H b ys/\SqL K H c zs/\(xs.length<=i∨ys.length<=i∨zs.length<=i)⟩
theorem Dg{P:Program}{w:World}{K:JN}{es:List Expr}{k:Nat}{pos:Pos}(a b c z TI TO i1 i2 i3:Addr)(D:Z3 z TI TO i1 i2 i3 a b c):Turn P w K (.Tuple es k pos) (Itz3 K a b c) [z,TI,TO,i1,i2,i3] z
  (fun i h=>IsZip h z TI TO .none/\bj h TI (.ref i1) (.ref i2) (.ref i3)/\(∃ u v w,bj h TO u v w)/\h.IsListIter i1 a i/\h.IsListIter i2 b i/\h.IsListIter i3 c i) where
 mem:=by simp
 obj:=fun i h st d hd=>by
  obtain⟨kz,kI,⟨u,v,w,kO⟩,⟨o1,q1,c1,d1⟩,⟨o2,q2,c2,d2⟩,⟨o3,q3,c3,d3⟩⟩:=st
  simp only[JT,KW,or_false]at hd
  rcases hd with rfl | rfl | rfl | rfl | rfl | rfl
  ·exact⟨_,kz,fun v z=>by have z':Data.fields _=Data.cell v:=z;cases z'⟩
  ·exact⟨_,kI,fun v z=>by have z':Data.seq _ _=Data.cell v:=z;cases z'⟩
  ·exact⟨_,kO,fun v z=>by have z':Data.seq _ _=Data.cell v:=z;cases z'⟩
  ·exact⟨o1,q1,fun v z=>by rw[d1]at z;cases z⟩
  ·exact⟨o2,q2,fun v z=>by rw[d2]at z;cases z⟩
  ·exact⟨o3,q3,fun v z=>by rw[d3]at z;cases z⟩
 keep:=fun i h h' st kk=>by
  obtain⟨kz,kI,⟨u,v,w,kO⟩,k1,k2,k3⟩:=st
  exact⟨kk _ (by simp) _ kz,kk _ (by simp) _ kI,⟨u,v,w,kk _ (by simp) _ kO⟩,k1.at fun o q=>kk i1 (by simp) o q,k2.at fun o q=>kk i2 (by simp) o q,k3.at fun o q=>kk i3 (by simp) o q⟩
 item:=by
  intro X hP hw hK hc i pins s σ H E I hf st hg
  subst hP hw hK
  obtain⟨xs,ys,zs,x,y,t,hq,hr,ht,hx,hy,hv⟩:=hg
  obtain⟨its,rv,p,hz⟩:=I.list hq
  obtain⟨its2,rv2,p2,hz2⟩:=I.list hr
  obtain⟨its3,rv3,p3,hz3⟩:=I.list ht
  obtain⟨u,hu,ru⟩:=rv.get hx
  obtain⟨u2,hu2,ru2⟩:=rv2.get hy
  obtain⟨u3,hu3,ru3⟩:=rv3.get hv
  obtain⟨kz,kI,⟨o1,o2,o3,kO⟩,k1,k2,k3⟩:=st
  refine HY D kz kI kO k1 k2 k3 p.isList p2.isList p3.isList (x:=u) (y:=u2) (v:=u3) (by simpa using hu) (by simpa using hu2) (by simpa using hu3) fun h' a1 a2 a3 a4 a5 a6 a7 hk=>?_
  refine⟨_,rfl,?_⟩
  refine wpAny_letOwnedTupleGo_zip a1 fun h2 g1 hs2=>?_
  have hs2':Heap.SameBut z h' h2:=hs2
  have hfb:∀ d∈[z,TI,TO,i1,i2,i3],d<s.heap.objs.size:=fun d hd=>by
   simp only[JT,KW,or_false]at hd
   rcases hd with rfl | rfl | rfl | rfl | rfl | rfl
   ·exact Heap.lt_size kz
   ·exact Heap.lt_size kI
   ·exact Heap.lt_size kO
   ·obtain⟨_,q,_⟩:=k1;exact Heap.lt_size q
   ·obtain⟨_,q,_⟩:=k2;exact Heap.lt_size q
   ·obtain⟨_,q,_⟩:=k3;exact Heap.lt_size q
  have hfr:H s.heap.objs.size=none:=I.hok.fresh (JQ _)
  have I0:Inv X pins σ (upd H s.heap.objs.size (.tup [x,y,t])) { s with heap:=s.heap.push { cls:=.type "tuple",data:=.seq #[u,u2,u3] },toks:=s.toks } :=
   I.laid (t':=s.toks) (fun b u e=>Heap.get?_push_of_some _ e) (JQ _) ⟨by show 3<=sizeLine;decide,[u,u2,u3],.cons ru (.cons ru2 (.cons ru3 .nil)),⟨_,Heap.get?_push_size _ rfl,rfl,_,rfl⟩⟩
  have hn:∀ d∈[z,TI,TO,i1,i2,i3],upd H s.heap.objs.size (.tup [x,y,t]) d=none:=fun d hd=>by
   rw[ak (Kp (hfb d hd))]
   exact(hf d hd).1
  have sub5:∀ d,d∉[z,TI,TO,i1,i2,i3]->d∉[z,TO,i1,i2,i3]:=fun d hd q=>hd (by
   simp only[JT,KW,or_false]at q ⊢
   rcases q with q | q | q | q | q<;>simp[q])
  have I2:Inv X pins σ (upd H s.heap.objs.size (.tup [x,y,t])) { s with heap:=h2,toks:=s.toks }:=Inv.turnedL (s:={ s with heap:=s.heap.push { cls:=.type "tuple",data:=.seq #[u,u2,u3] },toks:=s.toks }) (h':=h2) I0 (t':=s.toks) (fp:=[z,TI,TO,i1,i2,i3]) (fun d o hd q=>by
   have n1:d≠z:=fun e=>hd (by simp[e])
   refine(hs2'.2 d n1).trans ?_
   rcases Heap.get?_push_cases q with⟨z1,z2⟩ | q
   ·rw[z1,z2];exact a6
   ·exact hk d o (sub5 d hd) q) fun d hd=>⟨hn d hd,(hf d hd).2⟩
  have TIn:TI∉[z,TO,i1,i2,i3]:=by
   simp only[JT,KW,or_false,not_or]
   exact⟨D.zs _ (by simp),D.ts _ (by simp),D.is1 _ (by simp),D.is2 _ (by simp),D.is3 _ (by simp)⟩
  refine⟨.ref s.heap.objs.size,_,I2,rfl,⟨s.heap.objs.size,x,y,t,hfr,rfl,rfl,fun zs h=>by rw[I.list_inj h hq];exact hx,fun zs h=>by rw[I.list_inj h hr];exact hy,fun zs h=>by rw[I.list_inj h ht];exact hv⟩,?_,hn⟩
  refine⟨g1,(hs2'.2 TI (D.zs _ (by simp))).trans (hk _ _ TIn kI),⟨_,_,_,(hs2'.2 TO (D.zs _ (by simp))).trans a2⟩,a3.at fun o q=>(hs2'.2 i1 (D.zs _ (by simp))).trans q,a4.at fun o q=>(hs2'.2 i2 (D.zs _ (by simp))).trans q,a5.at fun o q=>(hs2'.2 i3 (D.zs _ (by simp))).trans q⟩
 done:=by
  intro X hP hw hK hc i pins s σ H E I hf st hg
  subst hP hw hK
  obtain⟨xs,ys,zs,hq,hr,ht,hx⟩:=hg
  obtain⟨its,rv,p,hz⟩:=I.list hq
  obtain⟨its2,rv2,p2,hz2⟩:=I.list hr
  obtain⟨its3,rv3,p3,hz3⟩:=I.list ht
  obtain⟨kz,kI,⟨o1,o2,o3,kO⟩,k1,k2,k3⟩:=st
  have hl:=rv.length
  have hl2:=rv2.length
  have hl3:=rv3.length
  refine Ia (I.ok.hd hc) D kz kI kO k1 k2 k3 p.isList p2.isList p3.isList ?_ fun h' eb=>⟨rfl,Inv.turnedL I (t':=s.toks) (fun d o hd e=>eb d o (fun q=>hd (by
   simp only[JT,KW,or_false]at q ⊢
   rcases q with q | q | q | q | q<;>simp[q])) e) hf⟩
  rcases hx with hx | hx | hx
  ·exact .inl (by simp;omega)
  ·exact .inr (.inl (by simp;omega))
  ·exact .inr (.inr (by simp;omega))
 self:=fun _ _ _ _ _ st h=>wpAny_pyIter_zip st.1 h
theorem FL(n a b c:Nat)(ha:a<n)(hb:b<n)(hc:c<n):Z3 (n+5) (n+3) (n+4) n (n+1) (n+2) a b c:=by
 refine⟨?_,?_,?_,?_,?_⟩<;>(simp only[JT,KW,or_false,forall_eq_or_imp,forall_eq])
 ·exact⟨aV _ _ (by omega),aV _ _ (by omega),aV _ _ (by omega),aV _ _ (by omega),aV _ _ (by omega),aV _ _ (by omega),aV _ _ (by omega),aV _ _ (by omega)⟩
 ·exact⟨aV _ _ (by omega),aV _ _ (by omega),aV _ _ (by omega),aV _ _ (by omega),aV _ _ (by omega),aV _ _ (by omega),aV _ _ (by omega)⟩
 ·exact⟨aV _ _ (by omega),aV _ _ (by omega),aV _ _ (by omega),aV _ _ (by omega),aV _ _ (by omega),aV _ _ (by omega)⟩
 ·exact⟨aV _ _ (by omega),aV _ _ (by omega),aV _ _ (by omega),aV _ _ (by omega),aV _ _ (by omega),aV _ _ (by omega)⟩
 ·exact⟨aV _ _ (by omega),aV _ _ (by omega),aV _ _ (by omega),aV _ _ (by omega),aV _ _ (by omega),aV _ _ (by omega)⟩
theorem vals3{a b c:V}{us:List Value}(h:Vals [a,b,c] us):∃ u v w,us = [u,v,w]/\RelV a u/\RelV b v/\RelV c w:=by
 cases h with
 |cons r1 t=>cases t with
  |cons r2 t=>cases t with
   |cons r3 t=>cases t;exact⟨_,_,_,rfl,r1,r2,r3⟩
section
variable{X:Cx}
def iZip3(K:JN)(ta:TA):TI:=fun σ H R=>ta σ H fun vs H1=>∃ a b c,vs = [.ref a,.ref b,.ref c]/\(∃ xs,SqL K H1 a xs)/\(∃ ys,SqL K H1 b ys)/\(∃ zs,SqL K H1 c zs)/\R (Itz3 K a b c) H1
theorem IM{l1 l2 l3:Expr}{ta:TA}{es:List Expr}{k:Nat}{tp p pos:Pos} (hg:Gl X "zip") (hm:X.mg "zip" = none) (ha:PA X [l1,l2,l3] ta) (hs:starEach [l1,l2,l3] X.env=(false,eval l1 X.env)::starEach [l2,l3] X.env:=by rfl) (hs2:(backTo pos (starEach [l2,l3] X.env)).any (·.1)=false:=by rfl) :
  PI X (.Tuple es k tp) (.Call (.Name "zip" p) [l1,l2,l3] [] pos) (iZip3 X.K ta):=by
 intro pins s σ H R I h
 refine Call_ (kx I hg hm bt_zip (PyProof.Rows.callWith_type1 (thn (ha pos pins s σ H _ I h) fun us s1 ⟨vs,H1,I1,r1,q1⟩=>?_) hs hs2))
 obtain⟨a,b,c,e,⟨xs,hq⟩,⟨ys,hr⟩,⟨zs,ht⟩,q⟩:=q1
 subst e
 obtain⟨u,u2,u3,rfl,ru,ru2,ru3⟩:=vals3 r1
 cases ru
 cases ru2
 cases ru3
 obtain⟨its,rv,p,hz⟩:=I1.list hq
 obtain⟨its2,rv2,p2,hz2⟩:=I1.list hr
 obtain⟨its3,rv3,p3,hz3⟩:=I1.list ht
 have la:a<s1.heap.objs.size:=by obtain⟨_,_,q,_⟩:=p;exact Heap.lt_size q
 have lb:b<s1.heap.objs.size:=by obtain⟨_,_,q,_⟩:=p2;exact Heap.lt_size q
 have lc:c<s1.heap.objs.size:=by obtain⟨_,_,q,_⟩:=p3;exact Heap.lt_size q
 refine Fu p.isList p2.isList p3.isList fun h' kz kI kO k1 k2 k3 hk=>?_
 refine wpAny_pyIter_zip kz ?_
 refine⟨s1.heap.objs.size+5,[s1.heap.objs.size+5,s1.heap.objs.size+3,s1.heap.objs.size+4,s1.heap.objs.size,s1.heap.objs.size+1,s1.heap.objs.size+2],_,_,H1,rfl,I1.kept (t':=s1.toks) hk,
  Dg a b c (s1.heap.objs.size+5) (s1.heap.objs.size+3) (s1.heap.objs.size+4) s1.heap.objs.size (s1.heap.objs.size+1) (s1.heap.objs.size+2) (FL _ a b c la lb lc),⟨kz,kI,⟨_,_,_,kO⟩,k1,k2,k3⟩,fun d hd=>?_,q⟩
 have hb':s1.heap.objs.size<=d:=by
  simp only[JT,KW,or_false]at hd
  rcases hd with rfl | rfl | rfl | rfl | rfl | rfl
  ·exact MB _ _
  ·exact MB _ _
  ·exact MB _ _
  ·exact JQ _
  ·exact MB _ _
  ·exact MB _ _
 exact I1.fpOk hb' (I1.hok.fresh hb')
end
theorem GY{K:JN}{a b c:Addr}{xs ys zs:List V}{g:TG}{tb:TS}{D:Ends}{σ:St}{H:Hp}(n:Nat)(Pv:Nat->St->Hp->Prop)(h0:Pv 0 σ H)(h1:n<=xs.length)(h2:n<=ys.length)(h3:zs.length=n)(hl:∀ i σ H,i<=n->Pv i σ H->SqL K H a xs/\SqL K H b ys/\SqL K H c zs)
  (hs:∀ i x y z σ H T,xs[i]?=some x->ys[i]?=some y->zs[i]?=some z->Pv i σ H->H T=none->g (.ref T) σ (upd H T (.tup [x,y,z])) fun σ2 H2=>tb { D with nx:=Pv (i+1),ct:=Pv (i+1),bk:=D.nx } σ2 H2) (hd:∀ σ H,Pv n σ H->D.nx σ H) :
  ∃ W:Nat->Nat->St->Hp->Prop,(∃ m,W 0 m σ H)/\∀ i m σ H,W i m σ H ->
   ((Itz3 K a b c).stop i H/\D.nx σ H)∨((Itz3 K a b c).go i H/\∃ N:St->Hp->Prop,(∀ σ' H',N σ' H'->∃ m',m'<m/\W (i+1) m' σ' H')/\∀ x H',(Itz3 K a b c).yld i H x H'->g x σ H' fun σ2 H2=>tb { D with nx:=N,ct:=N,bk:=D.nx } σ2 H2):=by
 refine⟨fun i m σ H=>m=n-i/\i<=n/\Pv i σ H,⟨n,by simp,K4 _,h0⟩,?_⟩
 rintro i m σ H ⟨rfl,hi,p⟩
 obtain⟨q1,q2,q3⟩:=hl i σ H hi p
 by_cases hlt:i<n
 ·have l1:i<xs.length:=by omega
  have l2:i<ys.length:=by omega
  have l3:i<zs.length:=by omega
  refine .inr ⟨⟨xs,ys,zs,xs[i],ys[i],zs[i],q1,q2,q3,by simp[l1],by simp[l2],by simp[l3]⟩,Pv (i+1),fun σ' H' p'=>⟨n-(i+1),by omega,rfl,hlt,p'⟩,fun v H' y=>?_⟩
  obtain⟨T,x,y,z,hT,rfl,rfl,y1,y2,y3⟩:=y
  exact hs i x y z σ _ T (y1 xs q1) (y2 ys q2) (y3 zs q3) p hT
 ·have e:i=n:=by omega
  subst e
  exact .inl ⟨⟨xs,ys,zs,q1,q2,q3,.inr (.inr (by omega))⟩,hd σ H p⟩
end L2
namespace PyProof.RowsP
open PySem PyProof.Rows
local macro_rules | `(tactic| walk_at "gallop") => do
 let n:=Lean.mkIdent (Lean.mkPrivateNameCore `PySem.Builtin.List.W1All `PySem.Builtin.gallop)
 `(tactic| delta $n)
local macro_rules | `(tactic| walk_at "st") => `(tactic| try dsimp -zeta -zetaHave only)
local macro_rules | `(tactic| walk_at "l4") => `(tactic| (extract_lets -underBinder +onlyGivenNames a b; subst a b))
abbrev EW:Bool->Keyed->Array Keyed->Nat->Nat->Nat->StateT SortSt Sem (Option Nat):=sortPriv% PySem.Builtin.gallop
class KeyFn where
 kf:Value->Int
 ip:Value->Prop
 kd:SortKind
def IntP [KF:KeyFn] (p:Keyed):Prop:=KeyFn.ip p.1
def ky [KF:KeyFn] (p:Keyed):Int:=KeyFn.kf p.1
def K [KF:KeyFn] (xs:Array Keyed) (i:Nat):Int:=match xs[i]? with | some p=>ky p | none=>0
def iI [KF:KeyFn] (xs:Array Keyed):Prop:=∀ p,p∈xs.toList->IntP p
theorem pR [KF:KeyFn] {xs ys:Array Keyed} {i j:Nat} (h:xs[i]?=ys[j]?):K xs i=K ys j:=by unfold K;rw[h]
theorem K_eq [KF:KeyFn] {xs:Array Keyed} {i:Nat} (hi:i<xs.size):K xs i=ky xs[i]:=by unfold K;rw[getElem?_pos xs i hi]
theorem Hb [KF:KeyFn] {xs:Array Keyed} {i j:Nat} (hj:j<=xs.size) (k:Nat):K (mirror xs i j ((j-i)/2)) k=if i<=k/\k<j then K xs (i+j-1-k) else K xs k:=by
 have e:=getElem?_mirror_all (i:=i) hj k
 by_cases h1:i<=k/\k<j
 ·rw[if_pos h1]at e ⊢;exact pR e
 ·rw[if_neg h1]at e ⊢;exact pR e
theorem BC [KF:KeyFn] {xs:Array Keyed} {src d:Nat} (hs:src<xs.size) (hd:d<=src) (k:Nat):K (bubble xs src d) k=if k=src-d then K xs src else if src-d<k/\k<=src then K xs (k-1) else K xs k:=by
 have e:=getElem?_bubble hs d hd k
 by_cases h1:k=src-d
 ·rw[if_pos h1]at e ⊢;exact pR e
 ·rw[if_neg h1]at e ⊢
  by_cases h2:src-d<k/\k<=src
  ·rw[if_pos h2]at e ⊢;exact pR e
  ·rw[if_neg h2]at e ⊢;exact pR e
class LtOk (prog:Program) (w:World) (A:Around) (E:Value->Shared->Prop) (s:Shared) [KF:KeyFn]:Prop where
 lt:∀{st:SortSt}{x y:Keyed}{Q:Option Bool->SortSt->Prop},kindOf st=KeyFn.kd->IntP x->IntP y->Q (some (decide (ky x<ky y))) st->wpS (model prog w) A E s ((sortPriv% PySem.Builtin.lt) x y) Q st
theorem aI{σ α:Type}{M:Model}{A:Around}{E:Value->Shared->Prop}{s:Shared}{c:Prop} [Decidable c] {a b:StateT σ Sem α} {Q:α->σ->Prop} {st:σ} (h:c) (q:wpS M A E s a Q st):wpS M A E s (if c then a else b) Q st:=by rw[if_pos h];exact q
theorem aG{σ α:Type}{M:Model}{A:Around}{E:Value->Shared->Prop}{s:Shared}{c:Prop} [Decidable c] {a b:StateT σ Sem α} {Q:α->σ->Prop} {st:σ} (h:¬ c) (q:wpS M A E s b Q st):wpS M A E s (if c then a else b) Q st:=by rw[if_neg h];exact q
variable{prog:Program}{w:World}{A:Around}{E:Value->Shared->Prop}{s:Shared} [KF:KeyFn] [LO:LtOk prog w A E s]
theorem ot{st:SortSt}{x y:Keyed}{Q:Option Bool->SortSt->Prop}(hk:kindOf st=KeyFn.kd)(hx:IntP x)(hy:IntP y)(h:Q (some (decide (ky x<ky y))) st):wpS (model prog w) A E s ((sortPriv% PySem.Builtin.lt) x y) Q st:=LtOk.lt hk hx hy h
theorem aO{st:SortSt}{arr:Array Keyed}{i:Nat}{p:Keyed}{Q:Keyed->SortSt->Prop}(hi:arr[i]?=some p)(h:Q p st):wpS (model prog w) A E s ((sortPriv% PySem.Builtin.elem) arr i) Q st:=by
 show wpS (model prog w) A E s (elem' arr i) Q st
 rw[elem'_eq,hi]
 exact wpS_pure h
theorem iM{st:SortSt}{left:Bool}{key:Keyed}{arr:Array Keyed}{base n hint:Nat}{Q:Option Nat->SortSt->Prop}(f:Nat->Bool)(hk:kindOf st=KeyFn.kd)(hkey:IntP key)(hin:∀ i,i<n->∃ p,arr[base+i]?=some p/\IntP p/\f i=if left then decide (ky p<ky key) else !decide (ky key<ky p))
  (mono:∀ i j,i<=j->j<n->f j=true->f i=true) (hh:hint<n) (h:∀ k,k<=n->(∀ i,i<k->f i=true)->(∀ i,k<=i->i<n->f i=false)->Q (some k) st) :
  wpS (model prog w) A E s (EW left key arr base n hint) Q st:=by
 unfold EW
 walk_at "gallop"
 extract_lets -underBinder +onlyGivenNames beyond
 clear_value (eb:beyond=_)
 have hb:∀(i:Nat)(Q':Option Bool->SortSt->Prop),i<n->Q' (some (f i)) st->wpS (model prog w) A E s (beyond i) Q' st:=by
  intro i Q' hi q
  obtain⟨p,hp,ip,ef⟩:=hin i hi
  rw[eb]
  refine wpS_bind (aO hp ?_)
  rw[ef]at q
  cases left with
  |true=>exact ot hk ip hkey q
  |false=>exact wpS_bind (ot hk hkey ip (wpS_pure q))
 clear eb
 walk_at "l4"
 refine wpS_bind (hb hint _ hh ?_)
 walk_at "st"
 have nmono:∀ i j,i<=j->j<n->f i=false->f j=false:=fun i j hij hj e=>by
  cases z:f j with
  |false=>rfl
  |true=>rw[mono i j hij hj z]at e;cases e
 extract_lets -underBinder +onlyGivenNames jp
 clear_value (ej:jp=_)
 have hj:∀(u:Unit)(a0 a1 lo hi:Nat),lo<=hi->hi<=n->(∀ i,i<lo->f i=true)->(∀ i,hi<=i->i<n->f i=false)->wpS (model prog w) A E s (jp u a0 a1 lo hi) Q st:=by
  intro u a0 a1 lo hi h1 h2 h3 h4
  rw[ej]
  dsimp only
  refine wpS_bind (wpS_mono (wpS_forRange (I:=fun x c st'=>st'=st/\∃ l r,c=(none,l,r)/\l<=r/\r<=n/\r-l<=n-x/\(∀ i,i<l->f i=true)/\(∀ i,r<=i->i<n->f i=false))
   (Q:=fun c st'=>st'=st/\∃ l,c=(none,l,l)/\l<=n/\(∀ i,i<l->f i=true)/\(∀ i,l<=i->i<n->f i=false)) ?step ?fin ⟨rfl,lo,hi,rfl,h1,h2,by omega,h3,h4⟩) ?post)
  case post =>
   rintro c st' ⟨rfl,l,rfl,g1,g2,g3⟩
   exact wpS_pure (h l g1 g2 g3)
  case fin =>
   rintro c st' ⟨rfl,l,r,rfl,g1,g2,g3,g4,g5⟩
   have:l=r:=by omega
   subst this
   exact⟨rfl,l,rfl,g2,g4,g5⟩
  case step =>
   rintro x c st' _ hx ⟨rfl,l,r,rfl,g1,g2,g3,g4,g5⟩
   dsimp only
   by_cases z:l ≥ r
   ·refine aI z ?_
    have:l=r:=by omega
    subst this
    exact wpS_pure ⟨rfl,l,rfl,g2,g4,g5⟩
   ·refine aG z ?_
    refine wpS_bind (hb _ _ (by omega) ?_)
    cases e:f (l+(r-l)/2) with
    |true=>exact wpS_pure ⟨rfl,_,r,rfl,by omega,g2,by omega,fun i hi=>mono i _ (by omega) (by omega) e,g5⟩
    |false=>exact wpS_pure ⟨rfl,l,_,rfl,by omega,by omega,by omega,g4,fun i h1 h2=>nmono _ i h1 h2 e⟩
 clear ej
 cases er:f hint with
 |true =>
  refine aI rfl ?_
  dsimp only
  refine wpS_bind (wpS_mono (wpS_forRange (I:=fun x c st'=>st'=st/\∃ l o,c=(none,l,o)/\l<o/\x+1<=o/\hint+l<n/\f (hint+l)=true)
   (Q:=fun c st'=>st'=st/\∃ l o,c=(none,l,o)/\l<o/\hint+l<n/\f (hint+l)=true/\(n-hint<=o∨f (hint+o)=false)) ?step ?fin ⟨rfl,0,1,rfl,by omega,by omega,by omega,er⟩) ?post)
  case post =>
   rintro c st' ⟨rfl,l,o,rfl,g1,g2,g3,g4⟩
   dsimp only
   refine hj _ _ _ _ _ (by omega) (by omega) (fun i hi=>mono i _ (by omega) g2 g3) fun i h1 h2=>?_
   rcases g4 with g4 | g4
   ·omega
   ·exact nmono (hint+o) i (by omega) h2 g4
  case fin =>
   rintro c st' ⟨rfl,l,o,rfl,g1,g2,g3,g4⟩
   exact⟨rfl,l,o,rfl,g1,g3,g4,.inl (by omega)⟩
  case step =>
   rintro x c st' _ hx ⟨rfl,l,o,rfl,g1,g2,g3,g4⟩
   dsimp only
   by_cases z:o ≥ n-hint
   ·refine aI z ?_
    exact wpS_pure ⟨rfl,l,o,rfl,g1,g3,g4,.inl z⟩
   ·refine aG z ?_
    refine wpS_bind (hb _ _ (by omega) ?_)
    cases e:f (hint+o) with
    |true=>exact wpS_pure ⟨rfl,_,_,rfl,by omega,by omega,by omega,e⟩
    |false=>exact wpS_pure ⟨rfl,l,o,rfl,g1,g3,g4,.inr e⟩
 |false =>
  refine aG Ka ?_
  dsimp only
  refine wpS_bind (wpS_mono (wpS_forRange (I:=fun x c st'=>st'=st/\∃ l o,c=(none,l,o)/\l<o/\x+1<=o/\l<=hint/\f (hint-l)=false)
   (Q:=fun c st'=>st'=st/\∃ l o,c=(none,l,o)/\l<o/\l<=hint/\f (hint-l)=false/\(hint+1<=o∨f (hint-o)=true)) ?step ?fin ⟨rfl,0,1,rfl,by omega,by omega,by omega,er⟩) ?post)
  case post =>
   rintro c st' ⟨rfl,l,o,rfl,g1,g2,g3,g4⟩
   dsimp only
   refine hj _ _ _ _ _ (by omega) (by omega) (fun i hi=>?_) fun i h1 h2=>nmono _ i h1 h2 g3
   rcases g4 with g4 | g4
   ·omega
   ·exact mono i (hint-o) (by omega) (by omega) g4
  case fin =>
   rintro c st' ⟨rfl,l,o,rfl,g1,g2,g3,g4⟩
   exact⟨rfl,l,o,rfl,g1,g3,g4,.inl (by omega)⟩
  case step =>
   rintro x c st' _ hx ⟨rfl,l,o,rfl,g1,g2,g3,g4⟩
   dsimp only
   by_cases z:o ≥ hint+1
   ·refine aI z ?_
    exact wpS_pure ⟨rfl,l,o,rfl,g1,g3,g4,.inl z⟩
   ·refine aG z ?_
    refine wpS_bind (hb _ _ (by omega) ?_)
    cases e:f (hint-o) with
    |true=>exact wpS_pure ⟨rfl,l,o,rfl,g1,g3,g4,.inr e⟩
    |false=>exact wpS_pure ⟨rfl,_,_,rfl,by omega,by omega,by omega,e⟩
def Upl(l:List Keyed):Prop:=l.Pairwise fun x y=>ky x<=ky y
structure LM(P R o:List Keyed)(i j:Nat):Prop where
 pm:o.Perm (P.take i++R.take j)
 up:Upl o
 la:∀ x∈o,∀ y∈P.drop i,ky x<=ky y
 lb:∀ x∈o,∀ y∈R.drop j,ky x<=ky y
theorem LM.swap{P R o:List Keyed}{i j:Nat}(h:LM P R o i j):LM R P o j i:=⟨h.pm.trans Lm,h.up,h.lb,h.la⟩
theorem LM.a{P R o:List Keyed}{i j:Nat}(h:LM P R o i j)(u:Upl P)(k:Nat)(c:∀ x∈(P.drop i).take k,∀ y∈R.drop j,ky x<=ky y):LM P R (o++(P.drop i).take k) (i+k) j where
 pm:=by
  rw[MF,KC]
  refine(h.pm.append_right _).trans ?_
  rw[KC]
  exact Ln _ Lm
 up:=KS.mpr ⟨h.up,(u.drop).take,fun x hx y hy=>h.la x hx y (K6 hy)⟩
 la:=fun x hx y hy=>by
  rw[← Mh]at hy
  rcases JV.mp hx with hx | hx
  ·exact h.la x hx y (K7 hy)
  ·have z:Upl ((P.drop i).take k++(P.drop i).drop k):=by rw[Km];exact u.drop
   exact(KS.mp z).2.2 x hx y hy
 lb:=fun x hx y hy=>by
  rcases JV.mp hx with hx | hx
  ·exact h.lb x hx y hy
  ·exact c x hx y hy
theorem LM.fin{P R o:List Keyed}{i j:Nat}(h:LM P R o i j)(u:Upl P)(v:Upl R)(c:∀ x∈P.drop i,∀ y∈R.drop j,ky x<=ky y):(o++P.drop i++R.drop j).Perm (P++R)/\Upl (o++P.drop i++R.drop j):=by
 constructor
 ·refine((h.pm.append_right _).append_right _).trans ?_
  have e:P++R=(P.take i++P.drop i)++(R.take j++R.drop j):=by rw[Km,Km]
  rw[e,← KC]
  refine List.Perm.append_right _ ?_
  rw[KC,KC]
  exact Ln _ Lm
 ·refine KS.mpr ⟨KS.mpr ⟨h.up,u.drop,h.la⟩,v.drop,fun x hx y hy=>?_⟩
  rcases JV.mp hx with hx | hx
  ·exact h.lb x hx y hy
  ·exact c x hx y hy
end PyProof.RowsP
namespace PyProof.RowsP
open PySem PyProof.Rows
local macro_rules | `(tactic| walk_at "setG") => do
 let n:=Lean.mkIdent (Lean.mkPrivateNameCore `PySem.Builtin.List.W1All `PySem.Builtin.setMinGallop)
 `(tactic| delta $n)
local macro_rules | `(tactic| walk_at "mergeLo") => do
 let n:=Lean.mkIdent (Lean.mkPrivateNameCore `PySem.Builtin.List.W1All `PySem.Builtin.mergeLo)
 `(tactic| delta $n)
local macro_rules | `(tactic| walk_at "st") => `(tactic| try dsimp -zeta -zetaHave only)
local macro_rules | `(tactic| walk_at "l3") => `(tactic| (extract_lets -underBinder +onlyGivenNames a b c; subst a b c))
local macro_rules | `(tactic| walk_at "l11") => `(tactic| (extract_lets -underBinder +onlyGivenNames a b c d e f g h i j k; subst a b c d e f g h i j k; dsimp -zeta -zetaHave only))
variable{prog:Program}{w:World}{A:Around}{E:Value->Shared->Prop}{s:Shared} [KF:KeyFn] [LO:LtOk prog w A E s]
structure SmG(st st':SortSt):Prop where
 k:kindOf st'=kindOf st
 a:arrOf st'=arrOf st
 p:pendingOf st'=pendingOf st
 f:failedOf st'=failedOf st
theorem SmG.rfl'(st:SortSt):SmG st st:=⟨rfl,rfl,rfl,rfl⟩
theorem SmG.trans{a b c:SortSt}(h:SmG a b)(g:SmG b c):SmG a c:=⟨g.k.trans h.k,g.a.trans h.a,g.p.trans h.p,g.f.trans h.f⟩
theorem nO{st:SortSt}{g:Nat}{Q:Unit->SortSt->Prop}(h:∀ st',SmG st st'->Q () st'):wpS (model prog w) A E s ((sortPriv% PySem.Builtin.setMinGallop) g) Q st:=by
 walk_at "setG"
 exact wpS_modify (h _ ⟨rfl,rfl,rfl,rfl⟩)
theorem iq(a:Array Keyed)(i:Nat):(a.extract i).toList=a.toList.drop i:=by
 rw[ME,Mg]
 exact Kz (by rw[KL];exact JQ _)
theorem oi(a:Array Keyed)(i k:Nat):(a.extract i (i+k)).toList=(a.toList.drop i).take k:=by
 rw[ME,Mg]
 congr 1
 omega
theorem fA{P:List Keyed}{i:Nat}{x:Keyed}(h:P[i]?=some x):(P.drop i).take 1 = [x]:=by
 have hi:=(JK.mp h).1
 rw[LB hi]
 rw[JL hi]at h
 cases h
 rfl
theorem LM.a1{P R o:List Keyed}{i j:Nat}{x:Keyed}(h:LM P R o i j)(u:Upl P)(hx:P[i]?=some x)(c:∀ y∈R.drop j,ky x<=ky y):LM P R (o++[x]) (i+1) j:=by
 have:=h.a u 1 (by rw[fA hx];intro z hz;rw[Kj.mp hz];exact c)
 rwa[fA hx]at this
theorem jr{P:List Keyed}{i:Nat}{x:Keyed}(u:Upl P)(hx:P[i]?=some x):∀ y∈P.drop i,ky x<=ky y:=by
 have hi:=(JK.mp hx).1
 have z:Upl (P.drop i):=u.drop
 rw[LB hi]at z ⊢
 rw[JL hi]at hx
 cases hx
 intro y hy
 rcases JT.mp hy with rfl | hy
 ·exact Lr _
 ·exact(Nk.mp z).1 y hy
theorem Ef{P:List Keyed}{i k:Nat}{x:Keyed}(h:x∈(P.drop i).take k):∃ m,m<k/\P[i+m]?=some x:=by
 obtain⟨m,hm,e⟩:=List.getElem_of_mem h
 rw[Ku,KL]at hm
 refine⟨m,by omega,?_⟩
 rw[MU,Np]at e
 rw[JL (by omega),e]
theorem FQ{P:List Keyed}{i j:Nat}{x y:Keyed}(u:Upl P)(hx:P[i]?=some x)(hy:P[j]?=some y)(h:i<=j):ky x<=ky y:=jr u hx y (by
 have hj:=(JK.mp hy).1
 refine JM (i:=j-i) ?_
 rw[LS,show i+(j-i)=j by omega,hy])
theorem Eh{P:List Keyed}{i:Nat}{x:Keyed}(h:x∈P.drop i):∃ m,P[i+m]?=some x:=by
 obtain⟨m,hm⟩:=K9 h
 exact⟨m,by rw[← hm,LS]⟩
def fR(P:List Keyed)(i:Nat)(v:Keyed)(m:Nat):Bool:=match P[i+m]? with | some p=>!decide (ky v<ky p) | none=>false
def fL(P:List Keyed)(i:Nat)(v:Keyed)(m:Nat):Bool:=match P[i+m]? with | some p=>decide (ky p<ky v) | none=>false
theorem o5{P:List Keyed}{i m:Nat}{v p:Keyed}(h:P[i+m]?=some p):fR P i v m = !decide (ky v<ky p):=by unfold fR;rw[h]
theorem qz{P:List Keyed}{i m:Nat}{v p:Keyed}(h:P[i+m]?=some p):fL P i v m=decide (ky p<ky v):=by unfold fL;rw[h]
theorem Jt{P:List Keyed}{i:Nat}{v:Keyed}(u:Upl P){n:Nat}(hn:i+n<=P.length):∀ x y,x<=y->y<n->fR P i v y=true->fR P i v x=true:=fun x y hxy hy e=>by
 have hx:P[i+x]?=some P[i+x]:=JL (by omega)
 have hy':P[i+y]?=some P[i+y]:=JL (by omega)
 rw[o5 hy']at e
 rw[o5 hx]
 have:=FQ u hx hy' (by omega)
 simp only[Mx,decide_eq_false_iff_not]at e ⊢
 omega
theorem Jv{P:List Keyed}{i:Nat}{v:Keyed}(u:Upl P){n:Nat}(hn:i+n<=P.length):∀ x y,x<=y->y<n->fL P i v y=true->fL P i v x=true:=fun x y hxy hy e=>by
 have hx:P[i+x]?=some P[i+x]:=JL (by omega)
 have hy':P[i+y]?=some P[i+y]:=JL (by omega)
 rw[qz hy']at e
 rw[qz hx]
 have:=FQ u hx hy' (by omega)
 simp only[decide_eq_true_eq]at e ⊢
 omega
theorem Ju{P:List Keyed}{i k:Nat}{v:Keyed}(h:∀ m,m<k->fR P i v m=true):∀ x∈(P.drop i).take k,ky x<=ky v:=fun x hx=>by
 obtain⟨m,hm,e⟩:=Ef hx
 have:=h m hm
 rw[o5 e]at this
 simp only[Mx,decide_eq_false_iff_not]at this
 omega
theorem Jw{P:List Keyed}{i k:Nat}{v:Keyed}(h:∀ m,m<k->fL P i v m=true):∀ x∈(P.drop i).take k,ky x<ky v:=fun x hx=>by
 obtain⟨m,hm,e⟩:=Ef hx
 have:=h m hm
 rw[qz e]at this
 simpa using this
theorem fR_hi{P:List Keyed}{i k n:Nat}{v:Keyed}(hn:P.length<=i+n)(h:∀ m,k<=m->m<n->fR P i v m=false):∀ y∈P.drop (i+k),ky v<ky y:=fun y hy=>by
 obtain⟨m,e⟩:=Eh hy
 have hl:=(JK.mp e).1
 have:=h (k+m) (by omega) (by omega)
 rw[o5 (show P[i+(k+m)]?=some y by rw[← Nat.add_assoc];exact e)]at this
 simpa using this
theorem fL_hi{P:List Keyed}{i k n:Nat}{v:Keyed}(hn:P.length<=i+n)(h:∀ m,k<=m->m<n->fL P i v m=false):∀ y∈P.drop (i+k),ky v<=ky y:=fun y hy=>by
 obtain⟨m,e⟩:=Eh hy
 have hl:=(JK.mp e).1
 have:=h (k+m) (by omega) (by omega)
 rw[qz (show P[i+(k+m)]?=some y by rw[← Nat.add_assoc];exact e)]at this
 simp only[decide_eq_false_iff_not]at this
 omega
theorem AN{st:SortSt}{key:Keyed}{arr:Array Keyed}{base n hint:Nat}{Q:Option Nat->SortSt->Prop}(hk:kindOf st=KeyFn.kd)(hkey:IntP key)(u:Upl arr.toList)(ip:∀ x∈arr.toList,IntP x)(hn:base+n<=arr.size)(hh:hint<n)
  (h:∀ k,k<=n->(∀ i,i<k->fR arr.toList base key i=true)->(∀ i,k<=i->i<n->fR arr.toList base key i=false)->Q (some k) st):wpS (model prog w) A E s ((sortPriv% PySem.Builtin.gallop) false key arr base n hint) Q st :=
 have la:arr.toList.length=arr.size:=by simp
 iM (fR arr.toList base key) hk hkey (fun i hi=>by
  have hx:arr.toList[base+i]?=some arr.toList[base+i]:=JL (by omega)
  exact⟨_,by rw[← hx];simp,ip _ (Li _),by rw[o5 hx];rfl⟩) (Jt u (by omega)) hh h
theorem AO{st:SortSt}{key:Keyed}{arr:Array Keyed}{base n hint:Nat}{Q:Option Nat->SortSt->Prop}(hk:kindOf st=KeyFn.kd)(hkey:IntP key)(u:Upl arr.toList)(ip:∀ x∈arr.toList,IntP x)(hn:base+n<=arr.size)(hh:hint<n)
  (h:∀ k,k<=n->(∀ i,i<k->fL arr.toList base key i=true)->(∀ i,k<=i->i<n->fL arr.toList base key i=false)->Q (some k) st):wpS (model prog w) A E s ((sortPriv% PySem.Builtin.gallop) true key arr base n hint) Q st :=
 have la:arr.toList.length=arr.size:=by simp
 iM (fL arr.toList base key) hk hkey (fun i hi=>by
  have hx:arr.toList[base+i]?=some arr.toList[base+i]:=JL (by omega)
  exact⟨_,by rw[← hx];simp,ip _ (Li _),by rw[qz hx];rfl⟩) (Jv u (by omega)) hh h
theorem HD{σ α β:Type}{M:Model}{c:Prop} [Decidable c] {F:α->StateT σ Sem β} {x y:α} {Q:β->σ->Prop} {st:σ} (h:∀ z,wpS M A E s (F z) Q st):wpS M A E s (if c then F x else F y) Q st:=by
 split<;>exact h _
theorem xY{σ α:Type}{M:Model}{m:StateT σ Sem α}{Q:α->σ->Prop}{st:σ}(h:∀ R:α->σ->Prop,(∀ a st',Q a st'->R a st')->wpS M A E s m R st):wpS M A E s m Q st:=h Q fun _ _ q=>q
def Bi:Array Keyed->Array Keyed->StateT SortSt Sem (Array Keyed):=sortPriv% PySem.Builtin.mergeLo
theorem at_l{a:Array Keyed}{i:Nat}{x:Keyed}(h:a.toList[i]?=some x):a[i]?=some x:=by rw[← h];simp
theorem xV{st:SortSt}{a b:Array Keyed}{Q:Array Keyed->SortSt->Prop}(hk:kindOf st=KeyFn.kd)(ua:Upl a.toList)(ub:Upl b.toList)(ia:∀ x∈a.toList,IntP x)(ib:∀ x∈b.toList,IntP x)(a1:1<=a.size)(b1:1<=b.size)
  (h0:∀ x y:Keyed,b.toList[0]?=some x->y∈a.toList->ky x<=ky y) (hst:∀ x y:Keyed,x∈b.toList->a.toList[a.size-1]?=some y->ky x<ky y)
  (h:∀ R st',SmG st st'->R.toList.Perm (a.toList++b.toList)->Upl R.toList->Q R st'):wpS (model prog w) A E s (Bi a b) Q st:=by
 unfold Bi
 walk_at "mergeLo"
 have la:a.toList.length=a.size:=by simp
 have lb:b.toList.length=b.size:=by simp
 have atA:∀ i,i<a.size->∃ x,a.toList[i]?=some x/\IntP x:=fun i hi=>⟨_,JL (by omega),ia _ (Li _)⟩
 have atB:∀ i,i<b.size->∃ x,b.toList[i]?=some x/\IntP x:=fun i hi=>⟨_,JL (by omega),ib _ (Li _)⟩
 have dn:∀(o:Array Keyed)(i j:Nat)(st':SortSt),SmG st st'->LM a.toList b.toList o.toList i j->j=b.size->Q (o++a.extract i++b.extract j) st':=by
  intro o i j st' sg lm e
  have nb:b.toList.drop j = []:=M6 (by omega)
  obtain⟨g1,g2⟩:=lm.fin ua ub (by rw[nb];intro x _ y hy;cases hy)
  refine h _ st' sg ?_ ?_
  ·rw[Kx,Kx,iq,iq];exact g1
  ·rw[Kx,Kx,iq,iq];exact g2
 have ls:∀(o:Array Keyed)(i j:Nat)(st':SortSt),SmG st st'->LM a.toList b.toList o.toList i j->i+1=a.size->Q (o++b.extract j++a.extract i) st':=by
  intro o i j st' sg lm e
  obtain⟨z,hz,_⟩:=atA i (by omega)
  have na:a.toList.drop i = [z]:=by
   rw[← fA hz]
   exact(Kz (by rw[KL];omega)).symm
  obtain⟨g1,g2⟩:=lm.swap.fin ub ua (by
   rw[na]
   intro x hx y hy
   rw[Kj.mp hy]
   exact Lv (hst x z (K7 hx) (by rw[← e];exact hz)))
  refine h _ st' sg ?_ ?_
  ·rw[Kx,Kx,iq,iq];exact g1.trans Lm
  ·rw[Kx,Kx,iq,iq];exact g2
 refine wpS_bind (wpS_lift (wpAny_rule ⟨rfl,?_⟩))
 obtain⟨y0,hy0,iy0⟩:=atB 0 (by omega)
 walk_at "l3"
 refine wpS_bind (aO (at_l hy0) ?_)
 have m0:LM a.toList b.toList [y0] 0 1:=⟨by rw[NL,Nc,← fA hy0];exact MA _,Mp ..,fun x hx y hy=>by rw[Kj.mp hx];exact h0 y0 y hy0 hy,fun x hx y hy=>by
  rw[Kj.mp hx]
  exact jr ub hy0 y (K7 hy)⟩
 by_cases c1:(1 == b.size)=true
 ·refine aI c1 ?_
  exact wpS_pure (dn _ _ _ _ (SmG.rfl' _) m0 (by simpa using c1))
 refine aG c1 ?_
 have c1':1≠b.size:=by simpa using c1
 by_cases c2:(0+1 == a.size)=true
 ·refine aI c2 ?_
  exact wpS_pure (ls _ _ _ _ (SmG.rfl' _) m0 (by simpa using c2))
 refine aG c2 ?_
 have c2':0+1≠a.size:=by simpa using c2
 refine wpS_bind (wpS_get ?_)
 refine wpS_bind (wpS_mono (wpS_forRange (I:=fun x c st'=>SmG st st'/\∃(o:Array Keyed)(i j g:Nat),c=(none,o,i,j,g)/\LM a.toList b.toList o.toList i j/\i+1<a.size/\j<b.size/\x+1<=i+j)
  (Q:=fun c st'=>∃(r:Array Keyed)(z:Array Keyed×Nat×Nat×Nat),c=(some r,z)/\Q r st') ?step ?fin ⟨SmG.rfl' _,_,_,_,_,rfl,m0,by omega,by omega,by omega⟩) ?post)
 case post =>
  rintro c st' ⟨r,z,rfl,q⟩
  exact wpS_pure q
 case fin =>
  rintro c st' ⟨sg,o,i,j,g,rfl,lm,g1,g2,g3⟩
  omega
 case step =>
  rintro x c st1 _ hx ⟨sg1,o,i,j,g,rfl,lm,g1,g2,g3⟩
  refine wpS_bind (wpS_mono (wpS_forRange (I:=fun y c st'=>SmG st st'/\∃(o:Array Keyed)(i j ac bc:Nat),c=(none,o,i,j,ac,bc)/\LM a.toList b.toList o.toList i j/\i+1<a.size/\j<b.size/\x+1+y<=i+j)
   (Q:=fun c st'=>(∃(r:Array Keyed)(z:Array Keyed×Nat×Nat×Nat×Nat),c=(some r,z)/\Q r st')∨SmG st st'/\∃(o:Array Keyed)(i j ac bc:Nat),c=(none,o,i,j,ac,bc)/\LM a.toList b.toList o.toList i j/\i+1<a.size/\j<b.size/\x+2<=i+j) ?istep ?ifin ⟨sg1,o,i,j,0,0,rfl,lm,g1,g2,by omega⟩) ?ipost)
  case ifin =>
   rintro c st' ⟨sg,o,i,j,ac,bc,rfl,lm,g1,g2,g3⟩
   exact .inr ⟨sg,o,i,j,ac,bc,rfl,lm,g1,g2,by omega⟩
  case istep =>
   rintro y c st2 _ hy ⟨sg2,o,i,j,ac,bc,rfl,lm,g1,g2,g3⟩
   obtain⟨vb,hvb,ivb⟩:=atB j g2
   obtain⟨va,hva,iva⟩:=atA i (by omega)
   dsimp only
   refine wpS_bind (aO (at_l hvb) (wpS_bind (aO (at_l hva) (wpS_bind (ot (sg2.k.trans hk) ivb iva ?_)))))
   by_cases c:ky vb<ky va
   ·rw[decide_eq_true c]
    dsimp only
    refine aI rfl ?_
    refine wpS_bind (aO (at_l hvb) ?_)
    have m2:LM a.toList b.toList (o.push vb).toList i (j+1):=by
     rw[LJ]
     exact(lm.swap.a1 ub hvb fun z hz=>by have:=jr ua hva z hz;omega).swap
    by_cases d1:(j+1 == b.size)=true
    ·refine aI d1 ?_
     exact wpS_pure (.inl ⟨_,_,rfl,dn _ _ _ _ sg2 m2 (by simpa using d1)⟩)
    ·refine aG d1 ?_
     have d1':j+1≠b.size:=by simpa using d1
     split
     ·exact wpS_pure (.inr ⟨sg2,_,_,_,_,_,rfl,m2,g1,by omega,by omega⟩)
     ·exact wpS_pure ⟨sg2,_,_,_,_,_,rfl,m2,g1,by omega,by omega⟩
   ·rw[decide_eq_false c]
    dsimp only
    refine aG Ka ?_
    refine wpS_bind (aO (at_l hva) ?_)
    have m2:LM a.toList b.toList (o.push va).toList (i+1) j:=by
     rw[LJ]
     exact lm.a1 ua hva fun z hz=>by have:=jr ub hvb z hz;omega
    by_cases d1:(i+1+1 == a.size)=true
    ·refine aI d1 ?_
     exact wpS_pure (.inl ⟨_,_,rfl,ls _ _ _ _ sg2 m2 (by simpa using d1)⟩)
    ·refine aG d1 ?_
     have d1':i+1+1≠a.size:=by simpa using d1
     split
     ·exact wpS_pure (.inr ⟨sg2,_,_,_,_,_,rfl,m2,by omega,g2,by omega⟩)
     ·exact wpS_pure ⟨sg2,_,_,_,_,_,rfl,m2,by omega,g2,by omega⟩
  case ipost =>
   rintro c st2 (⟨r,z,rfl,q⟩ | ⟨sg2,o,i,j,ac,bc,rfl,lm,g1,g2,g3⟩)
   ·exact wpS_pure ⟨_,_,rfl,q⟩
   dsimp -zeta -zetaHave only
   refine wpS_bind (wpS_lift (wpAny_rule ⟨rfl,?_⟩))
   refine wpS_bind (wpS_mono (wpS_forRange (I:=fun y c st'=>SmG st st'/\∃(o:Array Keyed)(i j g ac bc:Nat),c=(none,o,i,j,g,ac,bc)/\LM a.toList b.toList o.toList i j/\i+1<a.size/\j<b.size/\x+2<=i+j)
    (Q:=fun c st'=>(∃(r:Array Keyed)(z:Array Keyed×Nat×Nat×Nat×Nat×Nat),c=(some r,z)/\Q r st')∨SmG st st'/\∃(o:Array Keyed)(i j g ac bc:Nat),c=(none,o,i,j,g,ac,bc)/\LM a.toList b.toList o.toList i j/\i+1<a.size/\j<b.size/\x+2<=i+j) ?jstep ?jfin ⟨sg2,o,i,j,_,ac,bc,rfl,lm,g1,g2,g3⟩) ?jpost)
   case jfin=>exact fun c st' q=>.inr q
   case jpost =>
    rintro c st3 (⟨r,z,rfl,q⟩ | ⟨sg3,o,i,j,g,ac,bc,rfl,lm,g1,g2,g3⟩)
    ·exact wpS_pure ⟨_,_,rfl,q⟩
    dsimp only
    exact wpS_bind (nO fun st4 sg4=>wpS_pure ⟨sg3.trans sg4,_,_,_,_,rfl,lm,g1,g2,by omega⟩)
   case jstep =>
    rintro y c st3 _ hy ⟨sg3,o,i,j,g,ac,bc,rfl,lm,g1,g2,g3⟩
    walk_at "st"
    walk_at "l11"
    extract_lets -underBinder +onlyGivenNames jp
    clear_value (ej:jp=_)
    refine xY fun R hR=>?_
    refine HD (F:=fun z=>jp () z) fun g'=>?_
    rw[ej]
    clear ej jp
    walk_at "st"
    refine wpS_bind (nO fun st4 sg4=>?_)
    have sg34:=sg3.trans sg4
    have k4:=sg34.k.trans hk
    obtain⟨vb,hvb,ivb⟩:=atB j g2
    refine wpS_bind (aO (at_l hvb) ?_)
    refine wpS_bind (AN k4 ivb ua ia (by omega) (by omega) fun k kn kt kf=>?_)
    walk_at "st"
    extract_lets -underBinder +onlyGivenNames ac jp
    subst ac
    clear_value (ej:jp=_)
    have vbl:=jr ub hvb
    have hlo:=Ju kt
    have hhi:=fR_hi (by omega) kf
    have hj:∀(o':Array Keyed)(i':Nat),LM a.toList b.toList o'.toList i' j->i'+1<a.size->(∀ y∈a.toList.drop i',ky vb<=ky y)->x+2<=i'+j->wpS (model prog w) A E s (jp () o' i') R st4:=by
     intro o' i' lm' g1' gv g3'
     rw[ej]
     clear ej jp
     walk_at "st"
     refine wpS_bind (aO (at_l hvb) ?_)
     have m2:LM a.toList b.toList (o'.push vb).toList i' (j+1):=by
      rw[LJ]
      exact(lm'.swap.a1 ub hvb gv).swap
     by_cases d1:(j+1 == b.size)=true
     ·refine aI d1 ?_
      exact wpS_pure (hR _ _ (.inl ⟨_,_,rfl,dn _ _ _ _ sg34 m2 (by simpa using d1)⟩))
     refine aG d1 ?_
     have d1':j+1≠b.size:=by simpa using d1
     obtain⟨va,hva,iva⟩:=atA i' (by omega)
     have val:=jr ua hva
     refine wpS_bind (aO (at_l hva) ?_)
     refine wpS_bind (AO k4 iva ub ib (by omega) (by omega) fun k2 kn2 kt2 kf2=>?_)
     walk_at "st"
     extract_lets -underBinder +onlyGivenNames ac jp
     subst ac
     clear_value (ej:jp=_)
     have hlo2:=Jw kt2
     have hhi2:=fL_hi (by omega) kf2
     have hj:∀(o':Array Keyed)(j':Nat),LM a.toList b.toList o'.toList i' j'->j'<b.size->(∀ y∈b.toList.drop j',ky va<=ky y)->x+2<=i'+j'->wpS (model prog w) A E s (jp () o' j') R st4:=by
      intro o' j' lm2 g2' gv' g3''
      rw[ej]
      clear ej jp
      walk_at "st"
      refine wpS_bind (aO (at_l hva) ?_)
      have m3:LM a.toList b.toList (o'.push va).toList (i'+1) j':=by
       rw[LJ]
       exact lm2.a1 ua hva gv'
      by_cases d2:(i'+1+1 == a.size)=true
      ·refine aI d2 ?_
       exact wpS_pure (hR _ _ (.inl ⟨_,_,rfl,ls _ _ _ _ sg34 m3 (by simpa using d2)⟩))
      refine aG d2 ?_
      have d2':i'+1+1≠a.size:=by simpa using d2
      split
      ·exact wpS_pure (hR _ _ (.inr ⟨sg34,_,_,_,_,_,_,rfl,m3,by omega,g2',by omega⟩))
      ·exact wpS_pure (hR _ _ ⟨sg34,_,_,_,_,_,_,rfl,m3,by omega,g2',by omega⟩)
     clear ej
     by_cases z2:k2 > 0
     ·refine aI z2 ?_
      have m3:LM a.toList b.toList (o'.push vb++b.extract (j+1) (j+1+k2)).toList i' (j+1+k2):=by
       rw[Kx,oi]
       exact(m2.swap.a ub k2 fun x hx y hy=>by have:=hlo2 x hx;have:=val y hy;omega).swap
      by_cases d2:(j+1+k2 == b.size)=true
      ·refine aI d2 ?_
       exact wpS_pure (hR _ _ (.inl ⟨_,_,rfl,dn _ _ _ _ sg34 m3 (by simpa using d2)⟩))
      refine aG d2 ?_
      have d2':j+1+k2≠b.size:=by simpa using d2
      exact hj _ _ m3 (by omega) hhi2 (by omega)
     ·refine aG z2 ?_
      have:k2=0:=by omega
      subst this
      exact hj _ _ m2 (by omega) hhi2 (by omega)
    clear ej
    by_cases z:k > 0
    ·refine aI z ?_
     have m2:LM a.toList b.toList (o++a.extract i (i+k)).toList (i+k) j:=by
      rw[Kx,oi]
      exact lm.a ua k fun x hx y hy=>by have:=hlo x hx;have:=vbl y hy;omega
     by_cases d1:(i+k+1 == a.size)=true
     ·refine aI d1 ?_
      exact wpS_pure (hR _ _ (.inl ⟨_,_,rfl,ls _ _ _ _ sg34 m2 (by simpa using d1)⟩))
     refine aG d1 ?_
     have d1':i+k+1≠a.size:=by simpa using d1
     by_cases d2:(i+k == a.size)=true
     ·exfalso
      have d2':i+k=a.size:=by simpa using d2
      obtain⟨vl,hvl,_⟩:=atA (a.size-1) (by omega)
      have h1:=kt (a.size-1-i) (by omega)
      rw[o5 (show a.toList[i+(a.size-1-i)]?=some vl by rw[show i+(a.size-1-i)=a.size-1 by omega];exact hvl)]at h1
      have h2:=hst vb vl (JM hvb) hvl
      simp only[Mx,decide_eq_false_iff_not]at h1
      omega
     refine aG d2 ?_
     have d2':i+k≠a.size:=by simpa using d2
     exact hj _ _ m2 (by omega) (fun y hy=>Lv (hhi y hy)) (by omega)
    ·refine aG z ?_
     have:k=0:=by omega
     subst this
     exact hj _ _ lm g1 (fun y hy=>Lv (hhi y hy)) (by omega)
end PyProof.RowsP
namespace PyProof.RowsP
open PySem PyProof.Rows
local macro_rules | `(tactic| walk_at "mergeHi") => do
 let n:=Lean.mkIdent (Lean.mkPrivateNameCore `PySem.Builtin.List.W1All `PySem.Builtin.mergeHi)
 `(tactic| delta $n)
local macro_rules | `(tactic| walk_at "st") => `(tactic| try dsimp -zeta -zetaHave only)
local macro_rules | `(tactic| walk_at "l3") => `(tactic| (extract_lets -underBinder +onlyGivenNames a b c; subst a b c))
local macro_rules | `(tactic| walk_at "l11") => `(tactic| (extract_lets -underBinder +onlyGivenNames a b c d e f g h i j k; subst a b c d e f g h i j k; dsimp -zeta -zetaHave only))
variable{prog:Program}{w:World}{A:Around}{E:Value->Shared->Prop}{s:Shared} [KF:KeyFn] [LO:LtOk prog w A E s]
structure LH(P R o:List Keyed)(i j:Nat):Prop where
 pm:o.Perm (P.drop i++R.drop j)
 up:Upl o
 la:∀ x∈P.take i,∀ y∈o,ky x<=ky y
 lb:∀ x∈R.take j,∀ y∈o,ky x<=ky y
theorem LH.swap{P R o:List Keyed}{i j:Nat}(h:LH P R o i j):LH R P o j i:=⟨h.pm.trans Lm,h.up,h.lb,h.la⟩
theorem G0(P:List Keyed){i i':Nat}(h:i'<=i)(hi:i<=P.length):P.drop i'=(P.take i).drop i'++P.drop i:=by
 have e:=congrArg (List.drop i') (Km i P)
 rw[Nw,Ku,show i'-min i P.length=0 by omega,MP]at e
 exact e.symm
theorem LH.a{P R o:List Keyed}{i j:Nat}(h:LH P R o i j)(u:Upl P){i':Nat}(hi':i'<=i)(hi:i<=P.length)(c:∀ x∈R.take j,∀ y∈(P.take i).drop i',ky x<=ky y):LH P R ((P.take i).drop i'++o) i' j where
 pm:=by
  rw[G0 P hi' hi,KC]
  exact Ln _ h.pm
 up:=KS.mpr ⟨(u.take).drop,h.up,fun x hx y hy=>h.la x (K7 hx) y hy⟩
 la:=fun x hx y hy=>by
  have e:P.take i'=(P.take i).take i':=by rw[MO,Lx hi']
  rw[e]at hx
  rcases JV.mp hy with hy | hy
  ·have z:Upl ((P.take i).take i'++(P.take i).drop i'):=by rw[Km];exact u.take
   exact(KS.mp z).2.2 x hx y hy
  ·exact h.la x (K6 hx) y hy
 lb:=fun x hx y hy=>by
  rcases JV.mp hy with hy | hy
  ·exact c x hx y hy
  ·exact h.lb x hx y hy
theorem tJ{P:List Keyed}{i:Nat}{x:Keyed}(h:P[i]?=some x):(P.take (i+1)).drop i = [x]:=by
 have hi:=(JK.mp h).1
 rw[Mz,show i+1-i=1 by omega]
 exact fA h
theorem LH.a1{P R o:List Keyed}{i j:Nat}{x:Keyed}(h:LH P R o (i+1) j)(u:Upl P)(hx:P[i]?=some x)(c:∀ y∈R.take j,ky y<=ky x):LH P R (x::o) i j:=by
 have hi:=(JK.mp hx).1
 have:=h.a u (i':=i) (by omega) (by omega) (by rw[tJ hx];intro y hy z hz;rw[Kj.mp hz];exact c y hy)
 rwa[tJ hx]at this
theorem LH.fin{P R o:List Keyed}{i j:Nat}(h:LH P R o i j)(u:Upl P)(v:Upl R)(c:∀ x∈P.take i,∀ y∈R.take j,ky x<=ky y):(P.take i++R.take j++o).Perm (P++R)/\Upl (P.take i++R.take j++o):=by
 constructor
 ·refine(Ln _ h.pm).trans ?_
  have e:P++R=(P.take i++P.drop i)++(R.take j++R.drop j):=by rw[Km,Km]
  rw[e,← KC,← KC]
  refine List.Perm.append_right _ ?_
  rw[KC,KC]
  exact Ln _ Lm
 ·refine KS.mpr ⟨KS.mpr ⟨u.take,v.take,c⟩,h.up,fun x hx y hy=>?_⟩
  rcases JV.mp hx with hx | hx
  ·exact h.la x hx y hy
  ·exact h.lb x hx y hy
theorem kY{P:List Keyed}{i:Nat}{x:Keyed}(u:Upl P)(hx:P[i]?=some x):∀ y∈P.take (i+1),ky y<=ky x:=fun y hy=>by
 obtain⟨m,hm,e⟩:=List.getElem_of_mem hy
 rw[Ku]at hm
 rw[MU]at e
 exact FQ u (i:=m) (by rw[JL (by omega),e]) hx (by omega)
theorem fR_lo'{P:List Keyed}{k:Nat}{v:Keyed}(h:∀ m,m<k->fR P 0 v m=true):∀ x∈P.take k,ky x<=ky v:=Ju (P:=P) (i:=0) h
theorem fL_lo'{P:List Keyed}{k:Nat}{v:Keyed}(h:∀ m,m<k->fL P 0 v m=true):∀ x∈P.take k,ky x<ky v:=Jw (P:=P) (i:=0) h
theorem Bm{P:List Keyed}{i k:Nat}{y:Keyed}(h:y∈(P.take i).drop k):∃ m,k<=m/\m<i/\P[m]?=some y:=by
 rw[Mz]at h
 obtain⟨m,hm,e⟩:=Ef h
 exact⟨k+m,by omega,by omega,e⟩
theorem fR_hi'{P:List Keyed}{k n:Nat}{v:Keyed}(h:∀ m,k<=m->m<n->fR P 0 v m=false):∀ y∈(P.take n).drop k,ky v<ky y:=fun y hy=>by
 obtain⟨m,h1,h2,e⟩:=Bm hy
 have:=h m h1 h2
 rw[o5 (show P[0+m]?=some y by rw[Nat.zero_add];exact e)]at this
 simpa using this
theorem fL_hi'{P:List Keyed}{k n:Nat}{v:Keyed}(h:∀ m,k<=m->m<n->fL P 0 v m=false):∀ y∈(P.take n).drop k,ky v<=ky y:=fun y hy=>by
 obtain⟨m,h1,h2,e⟩:=Bm hy
 have:=h m h1 h2
 rw[qz (show P[0+m]?=some y by rw[Nat.zero_add];exact e)]at this
 simp only[decide_eq_false_iff_not]at this
 omega
theorem mz(a:Array Keyed)(i:Nat):(a.extract 0 i).toList=a.toList.take i:=by
 rw[ME,Mg]
 rfl
theorem t8(a:Array Keyed)(i k:Nat):(a.extract k i).toList=(a.toList.take i).drop k:=by
 rw[ME,Mg,Mz]
def rv(o:Array Keyed):List Keyed:=o.toList.reverse
theorem sj(o:Array Keyed)(x:Keyed):rv (o.push x)=x::rv o:=by unfold rv;rw[LJ,List.reverse_append];rfl
theorem Hj(o p:Array Keyed):rv (o++p.reverse)=p.toList++rv o:=by unfold rv;rw[Kx,List.reverse_append,Md,List.reverse_reverse]
def Bj:Array Keyed->Array Keyed->StateT SortSt Sem (Array Keyed):=sortPriv% PySem.Builtin.mergeHi
theorem xW{st:SortSt}{a b:Array Keyed}{Q:Array Keyed->SortSt->Prop}(hk:kindOf st=KeyFn.kd)(ua:Upl a.toList)(ub:Upl b.toList)(ia:∀ x∈a.toList,IntP x)(ib:∀ x∈b.toList,IntP x)(a1:1<=a.size)(b1:1<=b.size)
  (h0:∀ x y:Keyed,b.toList[0]?=some x->y∈a.toList->ky x<ky y) (hst:∀ x y:Keyed,x∈b.toList->a.toList[a.size-1]?=some y->ky x<ky y)
  (h:∀ R st',SmG st st'->R.toList.Perm (a.toList++b.toList)->Upl R.toList->Q R st'):wpS (model prog w) A E s (Bj a b) Q st:=by
 unfold Bj
 walk_at "mergeHi"
 have la:a.toList.length=a.size:=by simp
 have lb:b.toList.length=b.size:=by simp
 have atA:∀ i,i<a.size->∃ x,a.toList[i]?=some x/\IntP x:=fun i hi=>⟨_,JL (by omega),ia _ (Li _)⟩
 have atB:∀ i,i<b.size->∃ x,b.toList[i]?=some x/\IntP x:=fun i hi=>⟨_,JL (by omega),ib _ (Li _)⟩
 have dn:∀(o:Array Keyed)(i j:Nat)(st':SortSt),SmG st st'->LH a.toList b.toList (rv o) i j->i=0∨j=0->Q (a.extract 0 i++b.extract 0 j++o.reverse) st':=by
  intro o i j st' sg lm e
  obtain⟨g1,g2⟩:=lm.fin ua ub (by
   rcases e with e | e
   ·subst e;intro x hx;cases hx
   ·subst e;intro x _ y hy;cases hy)
  refine h _ st' sg ?_ ?_
  ·rw[Kx,Kx,mz,mz,Md];exact g1
  ·rw[Kx,Kx,mz,mz,Md];exact g2
 have ls:∀(o:Array Keyed)(i j:Nat)(st':SortSt),SmG st st'->LH a.toList b.toList (rv o) i j->j=1->Q (b.extract 0 j++a.extract 0 i++o.reverse) st':=by
  intro o i j st' sg lm e
  subst e
  obtain⟨z,hz,_⟩:=atB 0 (by omega)
  have nb:b.toList.take 1 = [z]:=fA (P:=b.toList) (i:=0) hz
  obtain⟨g1,g2⟩:=lm.swap.fin ub ua (by
   rw[nb]
   intro x hx y hy
   rw[Kj.mp hx]
   exact Lv (h0 z y hz (K6 hy)))
  refine h _ st' sg ?_ ?_
  ·rw[Kx,Kx,mz,mz,Md];exact g1.trans Lm
  ·rw[Kx,Kx,mz,mz,Md];exact g2
 refine wpS_bind (wpS_lift (wpAny_rule ⟨rfl,?_⟩))
 obtain⟨y0,hy0,iy0⟩:=atA (a.size-1) (by omega)
 walk_at "l3"
 refine wpS_bind (aO (at_l hy0) ?_)
 have m0:LH a.toList b.toList (rv #[y0]) (a.size-1) b.size:=⟨by
   show[y0].Perm _
   rw[M6 (show b.toList.length<=b.size by omega),Mt]
   have e:=tJ hy0
   rw[show a.size-1+1=a.size by omega,Kz (by omega)]at e
   rw[e],Mp ..,fun x hx y hy=>by
   have:y=y0:=Kj.mp hy
   rw[this]
   refine kY ua hy0 x ?_
   rw[show a.size-1+1=a.size by omega,Kz (by omega)]
   exact K6 hx,fun x hx y hy=>by
   have:y=y0:=Kj.mp hy
   rw[this]
   exact Lv (hst x y0 (K6 hx) hy0)⟩
 by_cases c1:(a.size-1 == 0)=true
 ·refine aI c1 ?_
  exact wpS_pure (dn _ _ _ _ (SmG.rfl' _) m0 (.inl (by simpa using c1)))
 refine aG c1 ?_
 have c1':a.size-1≠0:=by simpa using c1
 by_cases c2:(b.size == 1)=true
 ·refine aI c2 ?_
  exact wpS_pure (ls _ _ _ _ (SmG.rfl' _) m0 (by simpa using c2))
 refine aG c2 ?_
 have c2':b.size≠1:=by simpa using c2
 refine wpS_bind (wpS_get ?_)
 refine wpS_bind (wpS_mono (wpS_forRange (I:=fun x c st'=>SmG st st'/\∃(o:Array Keyed)(i j g:Nat),c=(none,i,j,o,g)/\LH a.toList b.toList (rv o) i j/\1<=i/\i<=a.size/\2<=j/\j<=b.size/\x+1+(i+j)<=a.size+b.size)
  (Q:=fun c st'=>∃(r:Array Keyed)(z:Nat×Nat×Array Keyed×Nat),c=(some r,z)/\Q r st') ?step ?fin ⟨SmG.rfl' _,_,_,_,_,rfl,m0,by omega,by omega,by omega,by omega,by omega⟩) ?post)
 case post =>
  rintro c st' ⟨r,z,rfl,q⟩
  exact wpS_pure q
 case fin =>
  rintro c st' ⟨sg,o,i,j,g,rfl,lm,g1,g1',g2,g2',g3⟩
  omega
 case step =>
  rintro x c st1 _ hx ⟨sg1,o,i,j,g,rfl,lm,g1,g1',g2,g2',g3⟩
  refine wpS_bind (wpS_mono (wpS_forRange (I:=fun y c st'=>SmG st st'/\∃(o:Array Keyed)(i j ac bc:Nat),c=(none,i,j,o,ac,bc)/\LH a.toList b.toList (rv o) i j/\1<=i/\i<=a.size/\2<=j/\j<=b.size/\x+1+y+(i+j)<=a.size+b.size)
   (Q:=fun c st'=>(∃(r:Array Keyed)(z:Nat×Nat×Array Keyed×Nat×Nat),c=(some r,z)/\Q r st')∨SmG st st'/\∃(o:Array Keyed)(i j ac bc:Nat),c=(none,i,j,o,ac,bc)/\LH a.toList b.toList (rv o) i j/\1<=i/\i<=a.size/\2<=j/\j<=b.size/\x+2+(i+j)<=a.size+b.size) ?istep ?ifin ⟨sg1,o,i,j,0,0,rfl,lm,g1,g1',g2,g2',by omega⟩) ?ipost)
  case ifin =>
   rintro c st' ⟨sg,o,i,j,ac,bc,rfl,lm,g1,g1',g2,g2',g3⟩
   exact .inr ⟨sg,o,i,j,ac,bc,rfl,lm,g1,g1',g2,g2',by omega⟩
  case istep =>
   rintro y c st2 _ hy ⟨sg2,o,i,j,ac,bc,rfl,lm,g1,g1',g2,g2',g3⟩
   obtain⟨vb,hvb,ivb⟩:=atB (j-1) (by omega)
   obtain⟨va,hva,iva⟩:=atA (i-1) (by omega)
   have ei:i-1+1=i:=by omega
   have ej:j-1+1=j:=by omega
   dsimp only
   refine wpS_bind (aO (at_l hvb) (wpS_bind (aO (at_l hva) (wpS_bind (ot (sg2.k.trans hk) ivb iva ?_)))))
   by_cases c:ky vb<ky va
   ·rw[decide_eq_true c]
    dsimp only
    refine aI rfl ?_
    refine wpS_bind (aO (at_l hva) ?_)
    have m2:LH a.toList b.toList (rv (o.push va)) (i-1) j:=by
     rw[sj]
     exact LH.a1 (by rw[ei];exact lm) ua hva fun z hz=>by
      have:=kY ub hvb z (by rw[ej];exact hz)
      omega
    by_cases d1:(i-1 == 0)=true
    ·refine aI d1 ?_
     exact wpS_pure (.inl ⟨_,_,rfl,dn _ _ _ _ sg2 m2 (.inl (by simpa using d1))⟩)
    ·refine aG d1 ?_
     have d1':i-1≠0:=by simpa using d1
     split
     ·exact wpS_pure (.inr ⟨sg2,_,_,_,_,_,rfl,m2,by omega,by omega,g2,g2',by omega⟩)
     ·exact wpS_pure ⟨sg2,_,_,_,_,_,rfl,m2,by omega,by omega,g2,g2',by omega⟩
   ·rw[decide_eq_false c]
    dsimp only
    refine aG Ka ?_
    refine wpS_bind (aO (at_l hvb) ?_)
    have m2:LH a.toList b.toList (rv (o.push vb)) i (j-1):=by
     rw[sj]
     exact(LH.a1 (by rw[ej];exact lm.swap) ub hvb fun z hz=>by
      have:=kY ua hva z (by rw[ei];exact hz)
      omega).swap
    by_cases d1:(j-1 == 1)=true
    ·refine aI d1 ?_
     exact wpS_pure (.inl ⟨_,_,rfl,ls _ _ _ _ sg2 m2 (by simpa using d1)⟩)
    ·refine aG d1 ?_
     have d1':j-1≠1:=by simpa using d1
     split
     ·exact wpS_pure (.inr ⟨sg2,_,_,_,_,_,rfl,m2,g1,g1',by omega,by omega,by omega⟩)
     ·exact wpS_pure ⟨sg2,_,_,_,_,_,rfl,m2,g1,g1',by omega,by omega,by omega⟩
  case ipost =>
   rintro c st2 (⟨r,z,rfl,q⟩ | ⟨sg2,o,i,j,ac,bc,rfl,lm,g1,g1',g2,g2',g3⟩)
   ·exact wpS_pure ⟨_,_,rfl,q⟩
   dsimp -zeta -zetaHave only
   refine wpS_bind (wpS_lift (wpAny_rule ⟨rfl,?_⟩))
   refine wpS_bind (wpS_mono (wpS_forRange (I:=fun y c st'=>SmG st st'/\∃(o:Array Keyed)(i j g ac bc:Nat),c=(none,i,j,o,g,ac,bc)/\LH a.toList b.toList (rv o) i j/\1<=i/\i<=a.size/\2<=j/\j<=b.size/\x+2+(i+j)<=a.size+b.size)
    (Q:=fun c st'=>(∃(r:Array Keyed)(z:Nat×Nat×Array Keyed×Nat×Nat×Nat),c=(some r,z)/\Q r st')∨SmG st st'/\∃(o:Array Keyed)(i j g ac bc:Nat),c=(none,i,j,o,g,ac,bc)/\LH a.toList b.toList (rv o) i j/\1<=i/\i<=a.size/\2<=j/\j<=b.size/\x+2+(i+j)<=a.size+b.size) ?jstep ?jfin ⟨sg2,o,i,j,_,ac,bc,rfl,lm,g1,g1',g2,g2',g3⟩) ?jpost)
   case jfin=>exact fun c st' q=>.inr q
   case jpost =>
    rintro c st3 (⟨r,z,rfl,q⟩ | ⟨sg3,o,i,j,g,ac,bc,rfl,lm,g1,g1',g2,g2',g3⟩)
    ·exact wpS_pure ⟨_,_,rfl,q⟩
    dsimp only
    exact wpS_bind (nO fun st4 sg4=>wpS_pure ⟨sg3.trans sg4,_,_,_,_,rfl,lm,g1,g1',g2,g2',by omega⟩)
   case jstep =>
    rintro y c st3 _ hy ⟨sg3,o,i,j,g,ac,bc,rfl,lm,g1,g1',g2,g2',g3⟩
    walk_at "st"
    walk_at "l11"
    extract_lets -underBinder +onlyGivenNames jp
    clear_value (ej:jp=_)
    refine xY fun R hR=>?_
    refine HD (F:=fun z=>jp () z) fun g'=>?_
    rw[ej]
    clear ej jp
    walk_at "st"
    refine wpS_bind (nO fun st4 sg4=>?_)
    have sg34:=sg3.trans sg4
    have k4:=sg34.k.trans hk
    have ej1:j-1+1=j:=by omega
    obtain⟨vb,hvb,ivb⟩:=atB (j-1) (by omega)
    refine wpS_bind (aO (at_l hvb) ?_)
    refine wpS_bind (AN k4 ivb ua ia (by omega) (by omega) fun k kn kt kf=>?_)
    walk_at "st"
    extract_lets -underBinder +onlyGivenNames kk ac jp
    subst kk ac
    clear_value (ej:jp=_)
    have vbl:=kY ub hvb
    rw[ej1]at vbl
    have hlo:=fR_lo' kt
    have hhi:=fR_hi' kf
    have hj:∀(i':Nat)(o':Array Keyed),LH a.toList b.toList (rv o') i' j->1<=i'->i'<=a.size->(∀ y∈a.toList.take i',ky y<=ky vb)->x+2+(i'+j)<=a.size+b.size->wpS (model prog w) A E s (jp () i' o') R st4:=by
     intro i' o' lm' q1 q1' gv g3'
     rw[ej]
     clear ej jp
     walk_at "st"
     refine wpS_bind (aO (at_l hvb) ?_)
     have m2:LH a.toList b.toList (rv (o'.push vb)) i' (j-1):=by
      rw[sj]
      exact(LH.a1 (by rw[ej1];exact lm'.swap) ub hvb gv).swap
     by_cases d1:(j-1 == 1)=true
     ·refine aI d1 ?_
      exact wpS_pure (hR _ _ (.inl ⟨_,_,rfl,ls _ _ _ _ sg34 m2 (by simpa using d1)⟩))
     refine aG d1 ?_
     have d1':j-1≠1:=by simpa using d1
     have ei1:i'-1+1=i':=by omega
     obtain⟨va,hva,iva⟩:=atA (i'-1) (by omega)
     have val:=kY ua hva
     rw[ei1]at val
     refine wpS_bind (aO (at_l hva) ?_)
     refine wpS_bind (AO k4 iva ub ib (by omega) (by omega) fun k2 kn2 kt2 kf2=>?_)
     walk_at "st"
     extract_lets -underBinder +onlyGivenNames kk ac jp
     subst kk ac
     clear_value (ej:jp=_)
     have hlo2:=fL_lo' kt2
     have hhi2:=fL_hi' kf2
     have hj:∀(j':Nat)(o':Array Keyed),LH a.toList b.toList (rv o') i' j'->2<=j'->j'<=b.size->(∀ y∈b.toList.take j',ky y<=ky va)->x+2+(i'+j')<=a.size+b.size->wpS (model prog w) A E s (jp () j' o') R st4:=by
      intro j' o' lm2 q2 q2' gv' g3''
      rw[ej]
      clear ej jp
      walk_at "st"
      refine wpS_bind (aO (at_l hva) ?_)
      have m3:LH a.toList b.toList (rv (o'.push va)) (i'-1) j':=by
       rw[sj]
       exact LH.a1 (by rw[ei1];exact lm2) ua hva gv'
      by_cases d2:(i'-1 == 0)=true
      ·refine aI d2 ?_
       exact wpS_pure (hR _ _ (.inl ⟨_,_,rfl,dn _ _ _ _ sg34 m3 (.inl (by simpa using d2))⟩))
      refine aG d2 ?_
      have d2':i'-1≠0:=by simpa using d2
      split
      ·exact wpS_pure (hR _ _ (.inr ⟨sg34,_,_,_,_,_,_,rfl,m3,by omega,by omega,q2,q2',by omega⟩))
      ·exact wpS_pure (hR _ _ ⟨sg34,_,_,_,_,_,_,rfl,m3,by omega,by omega,q2,q2',by omega⟩)
     clear ej
     by_cases z2:j-1-k2 > 0
     ·refine aI z2 ?_
      have m3:LH a.toList b.toList (rv (o'.push vb++(b.extract k2 (j-1)).reverse)) i' k2:=by
       rw[Hj,t8]
       exact(m2.swap.a ub (by omega) (by omega) fun x hx y hy=>by have:=hhi2 y hy;have:=val x hx;omega).swap
      by_cases d2:(k2 == 1)=true
      ·refine aI d2 ?_
       exact wpS_pure (hR _ _ (.inl ⟨_,_,rfl,ls _ _ _ _ sg34 m3 (by simpa using d2)⟩))
      refine aG d2 ?_
      have d2':k2≠1:=by simpa using d2
      by_cases d3:(k2 == 0)=true
      ·refine aI d3 ?_
       exact wpS_pure (hR _ _ (.inl ⟨_,_,rfl,dn _ _ _ _ sg34 m3 (.inr (by simpa using d3))⟩))
      refine aG d3 ?_
      have d3':k2≠0:=by simpa using d3
      exact hj _ _ m3 (by omega) (by omega) (fun y hy=>Lv (hlo2 y hy)) (by omega)
     ·refine aG z2 ?_
      have:k2=j-1:=by omega
      subst this
      exact hj _ _ m2 (by omega) (by omega) (fun y hy=>Lv (hlo2 y hy)) (by omega)
    clear ej
    by_cases z:i-k > 0
    ·refine aI z ?_
     have m2:LH a.toList b.toList (rv (o++(a.extract k i).reverse)) k j:=by
      rw[Hj,t8]
      exact lm.a ua (by omega) (by omega) fun x hx y hy=>by have:=hhi y hy;have:=vbl x hx;omega
     by_cases d1:(k == 0)=true
     ·refine aI d1 ?_
      exact wpS_pure (hR _ _ (.inl ⟨_,_,rfl,dn _ _ _ _ sg34 m2 (.inl (by simpa using d1))⟩))
     refine aG d1 ?_
     have d1':k≠0:=by simpa using d1
     exact hj _ _ m2 (by omega) (by omega) hlo (by omega)
    ·refine aG z ?_
     have:k=i:=by omega
     subst this
     exact hj _ _ lm g1 g1' hlo (by omega)
end PyProof.RowsP
namespace PyProof.RowsP
open PySem PyProof.Rows
local macro_rules | `(tactic| walk_at "countRun") => do
 let n:=Lean.mkIdent (Lean.mkPrivateNameCore `PySem.Builtin.List.W1All `PySem.Builtin.countRun)
 `(tactic| delta $n)
local macro_rules | `(tactic| walk_at "binarySort") => do
 let n:=Lean.mkIdent (Lean.mkPrivateNameCore `PySem.Builtin.List.W1All `PySem.Builtin.binarySort)
 `(tactic| delta $n)
local macro_rules | `(tactic| walk_at "st") => `(tactic| try dsimp -zeta -zetaHave only)
local macro_rules | `(tactic| walk_at "l3") => `(tactic| (extract_lets -underBinder +onlyGivenNames a b c; subst a b c))
local macro_rules | `(tactic| walk_at "l11") => `(tactic| (extract_lets -underBinder +onlyGivenNames a b c d e f g h i j k; subst a b c d e f g h i j k; dsimp -zeta -zetaHave only))
local macro_rules | `(tactic| walk_at "l1") => `(tactic| (extract_lets -underBinder +onlyGivenNames a; subst a; try dsimp -zeta -zetaHave only))
local macro_rules | `(tactic| walk_at "l2") => `(tactic| (extract_lets -underBinder +onlyGivenNames a b; subst a b; try dsimp -zeta -zetaHave only))
local macro_rules | `(tactic| walk_at "l4") => `(tactic| (extract_lets -underBinder +onlyGivenNames a b c d; subst a b c d; try dsimp -zeta -zetaHave only))
variable{prog:Program}{w:World}{A:Around}{E:Value->Shared->Prop}{s:Shared} [KF:KeyFn] [LO:LtOk prog w A E s]
structure SB(lo:Nat)(st0 st:SortSt):Prop where
 perm:(arrOf st).Perm (arrOf st0)
 kind:kindOf st=KeyFn.kd
 failed:failedOf st=failedOf st0
 pend:pendingOf st=pendingOf st0
 low:∀ i,i<lo->(arrOf st)[i]?=(arrOf st0)[i]?
theorem SB.set{lo:Nat}{st0 st:SortSt}(h:SB lo st0 st){xs:Array Keyed}(hp:xs.Perm (arrOf st))(hl:∀ i,i<lo->xs[i]?=(arrOf st)[i]?):SB lo st0 (setArr st xs) :=
 ⟨hp.trans h.perm,h.kind,h.failed,h.pend,fun i hi=>(hl i hi).trans (h.low i hi)⟩
theorem SB.size{lo:Nat}{st0 st:SortSt}(h:SB lo st0 st):(arrOf st).size=(arrOf st0).size:=h.perm.size_eq
def Sin(xs:Array Keyed)(lo n:Nat):Prop:=∀ i j,lo<=i->i<=j->j<lo+n->K xs i<=K xs j
def Nin(xs:Array Keyed)(lo n:Nat):Prop:=∀ i j,lo<=i->i<=j->j<lo+n->K xs j<=K xs i
theorem kX{lo:Nat}{st0 st:SortSt}{i j:Nat}{Q:Option Bool->SortSt->Prop}(hB:SB lo st0 st)(h0:iI (arrOf st0))(hi:i<(arrOf st0).size)(hj:j<(arrOf st0).size)
  (h:Q (some (decide (K (arrOf st) i<K (arrOf st) j))) st):wpS (model prog w) A E s ((sortPriv% PySem.Builtin.ltAt) i j) Q st:=by
 have at':∀ i,i<(arrOf st0).size->∃ p,(arrOf st)[i]?=some p/\IntP p/\K (arrOf st) i=ky p:=fun i hi=>by
  have hi':i<(arrOf st).size:=by rw[hB.size];exact hi
  have e:(arrOf st)[i]?=some (arrOf st)[i]:=getElem?_pos _ i hi'
  exact⟨(arrOf st)[i],e,h0 (arrOf st)[i] ((Mc.mp hB.perm).mem_iff.mp (by simp)),K_eq hi'⟩
 obtain⟨p,e1,i1,k1⟩:=at' i hi
 obtain⟨q,e2,i2,k2⟩:=at' j hj
 rw[k1,k2]at h
 show wpS _ _ _ _ (ltAt' i j) Q st
 rw[ltAt'_eq]
 refine wpS_bind (wpS_get ?_)
 show wpS _ _ _ _ (do let x ← elem' (arrOf st) i;let y ← elem' (arrOf st) j;lt' x y) Q st
 rw[elem'_eq,elem'_eq,e1,e2]
 refine wpS_bind (wpS_pure (wpS_bind (wpS_pure ?_)))
 exact ot hB.kind i1 i2 h
theorem nP{lo:Nat}{st0 st:SortSt}{i j:Nat}{Q:Unit->SortSt->Prop}(hB:SB lo st0 st)(hl:lo<=i)(hj:j<=(arrOf st0).size)(h:∀ st',SB lo st0 st'->(∀ k,K (arrOf st') k=if i<=k/\k<j then K (arrOf st) (i+j-1-k) else K (arrOf st) k)->Q () st') :
  wpS (model prog w) A E s ((sortPriv% PySem.Builtin.reverseSlice) i j) Q st:=by
 have hj':j<=(arrOf st).size:=by rw[hB.size];exact hj
 refine wpS_reverse (h _ (hB.set (mirror_perm _ _ _ _) fun k hk=>?_) fun k=>Hb hj' k)
 rw[getElem?_mirror_all hj',if_neg (by omega)]
theorem IB(xs:Array Keyed)(lo:Nat):Sin xs lo 1:=fun i j h1 h2 h3=>by
 have:i=j:=by omega
 rw[this];exact Lr _
theorem Hh{xs:Array Keyed}{lo n:Nat}(h:Sin xs lo n)(n1:1<=n)(c:¬ K xs (lo+n)<K xs (lo+n-1)):Sin xs lo (n+1):=fun i j h1 h2 h3=>by
 by_cases z:j<lo+n
 ·exact h i j h1 h2 z
 ·have ej:j=lo+n:=by omega
  by_cases zi:i=j
  ·rw[zi];exact Lr _
  ·have:=h i (lo+n-1) h1 (by omega) (by omega)
   rw[ej];omega
theorem Bb{xs:Array Keyed}{lo n:Nat}(h:Nin xs lo n)(n1:1<=n)(c:K xs (lo+n)<=K xs (lo+n-1)):Nin xs lo (n+1):=fun i j h1 h2 h3=>by
 by_cases z:j<lo+n
 ·exact h i j h1 h2 z
 ·have ej:j=lo+n:=by omega
  by_cases zi:i=j
  ·rw[zi];exact Lr _
  ·have:=h i (lo+n-1) h1 (by omega) (by omega)
   rw[ej];omega
def xf:Nat->Nat->StateT SortSt Sem (Option Nat):=sortPriv% PySem.Builtin.countRun
theorem BD{st0:SortSt}{lo nrem:Nat}{Q:Option Nat->SortSt->Prop}(hk:kindOf st0=KeyFn.kd)(h0:iI (arrOf st0))(hn:lo+nrem<=(arrOf st0).size)(n1:1<=nrem)
  (h:∀ m st',SB lo st0 st'->1<=m->m<=nrem->Sin (arrOf st') lo m->Q (some m) st'):wpS (model prog w) A E s (xf lo nrem) Q st0:=by
 have hB:SB lo st0 st0:=⟨Array.Perm.refl _,hk,rfl,rfl,fun _ _=>rfl⟩
 unfold xf
 walk_at "countRun"
 refine wpS_bind (wpS_mono (wpS_forRange (I:=fun x c st'=>st'=st0/\c=(none,x)/\Sin (arrOf st0) lo x)
  (Q:=fun c st'=>st'=st0/\∃ n,c=(none,n)/\1<=n/\n<=nrem/\Sin (arrOf st0) lo n/\(n=nrem∨K (arrOf st0) (lo+n)<K (arrOf st0) (lo+n-1))) ?step ?fin ⟨rfl,rfl,IB _ _⟩) ?post)
 case fin =>
  rintro c st' ⟨rfl,rfl,hs⟩
  rw[show max 1 nrem=nrem by omega]at hs ⊢
  exact⟨rfl,nrem,rfl,n1,JQ _,hs,.inl rfl⟩
 case step =>
  rintro x c st' h1 h2 ⟨rfl,rfl,hs⟩
  dsimp only
  refine wpS_bind (kX hB h0 (by omega) (by omega) ?_)
  by_cases z:K (arrOf st') (lo+x)<K (arrOf st') (lo+x-1)
  ·simp only[z,decide_true,if_true]
   exact wpS_pure ⟨rfl,x,rfl,h1,by omega,hs,.inr z⟩
  ·simp only[z,decide_false,K1,if_false]
   exact wpS_pure ⟨rfl,rfl,Hh hs h1 z⟩
 case post =>
  rintro c st' ⟨rfl,n,rfl,g1,g2,hs,hor⟩
  walk_at "st"
  walk_at "l2"
  by_cases z:(n == nrem)=true
  ·refine aI z ?_
   exact wpS_pure (h n st' hB g1 g2 hs)
  refine aG z ?_
  have z':n≠nrem:=by simpa using z
  have hlt:=hor.resolve_left z'
  extract_lets -underBinder +onlyGivenNames jp
  clear_value (ej:jp=_)
  have hj:∀ st1,SB lo st' st1->Nin (arrOf st1) lo (n+1)->wpS (model prog w) A E s (jp ()) Q st1:=by
   intro st1 hB1 hs1
   rw[ej]
   clear ej jp
   walk_at "st"
   refine wpS_bind (wpS_lift (wpAny_rule ⟨rfl,?_⟩))
   refine wpS_bind (wpS_mono (wpS_forRange (I:=fun x c st2=>SB lo st' st2/\∃ neq,c=(none,x,neq)/\Nin (arrOf st2) lo x/\neq+1<=x/\(∀ i,lo+x-(neq+1)<=i->i<lo+x->K (arrOf st2) i=K (arrOf st2) (lo+x-1)))
    (Q:=fun c st2=>SB lo st' st2/\∃ m neq,c=(none,m,neq)/\1<=m/\m<=nrem/\Nin (arrOf st2) lo m/\neq+1<=m/\(∀ i,lo+m-(neq+1)<=i->i<lo+m->K (arrOf st2) i=K (arrOf st2) (lo+m-1))) ?dstep ?dfin ⟨hB1,0,rfl,hs1,by omega,fun i h1 h2=>by congr 1;omega⟩) ?dpost)
   case dfin =>
    rintro c st2 ⟨hB2,neq,rfl,hs2,q1,q2⟩
    rw[show max (n+1) nrem=nrem by omega]at hs2 q1 q2 ⊢
    exact⟨hB2,nrem,neq,rfl,by omega,JQ _,hs2,q1,q2⟩
   case dstep =>
    rintro x c st2 h1 h2 ⟨hB2,neq,rfl,hs2,q1,q2⟩
    dsimp only
    refine wpS_bind (kX hB2 h0 (by omega) (by omega) ?_)
    by_cases z:K (arrOf st2) (lo+x)<K (arrOf st2) (lo+x-1)
    ·simp only[z,decide_true,if_true]
     have nx:=Bb hs2 (by omega) (Lv z)
     by_cases y:neq > 0
     ·refine aI y ?_
      refine wpS_bind (nP hB2 (by omega) (by omega) fun st3 hB3 e3=>?_)
      have e3':∀ k,K (arrOf st3) k=K (arrOf st2) k:=fun k=>by
       rw[e3]
       split
       ·rename_i hk
        rw[q2 _ (by omega) (by omega),q2 k (by omega) (by omega)]
       ·rfl
      refine wpS_pure ⟨hB3,0,rfl,fun i j a1 a2 a3=>?_,by omega,fun i h1 h2=>by congr 1;omega⟩
      rw[e3',e3']
      exact nx i j a1 a2 a3
     ·refine aG y ?_
      exact wpS_pure ⟨hB2,0,rfl,nx,by omega,fun i h1 h2=>by congr 1;omega⟩
    ·simp only[z,decide_false,K1,if_false]
     refine wpS_bind (kX hB2 h0 (by omega) (by omega) ?_)
     by_cases y:K (arrOf st2) (lo+x-1)<K (arrOf st2) (lo+x)
     ·simp only[y,decide_true,if_true]
      exact wpS_pure ⟨hB2,x,neq,rfl,by omega,by omega,hs2,q1,q2⟩
     ·simp only[y,decide_false,K1,if_false]
      have eq:K (arrOf st2) (lo+x)=K (arrOf st2) (lo+x-1):=by omega
      refine wpS_pure ⟨hB2,neq+1,rfl,Bb hs2 (by omega) (by omega),by omega,fun i a1 a2=>?_⟩
      rw[show lo+(x+1)-1=lo+x by omega]
      by_cases ix:i=lo+x
      ·rw[ix]
      ·rw[eq];exact q2 i (by omega) (by omega)
   case dpost =>
    rintro c st2 ⟨hB2,m,neq,rfl,m1,m2,hs2,q1,q2⟩
    walk_at "st"
    walk_at "l4"
    extract_lets -underBinder +onlyGivenNames jp
    clear_value (ej:jp=_)
    have hj:∀ st3,SB lo st' st3->Nin (arrOf st3) lo m->wpS (model prog w) A E s (jp ()) Q st3:=by
     intro st3 hB3 hs3
     rw[ej]
     clear ej jp
     walk_at "st"
     refine wpS_bind (nP hB3 (JQ _) (by omega) fun st4 hB4 e4=>?_)
     have hs4:Sin (arrOf st4) lo m:=fun i j a1 a2 a3=>by
      rw[e4,e4,if_pos (by omega),if_pos (by omega)]
      exact hs3 _ _ (by omega) (by omega) (by omega)
     refine wpS_bind (wpS_mono (wpS_forRange (I:=fun x c st'=>st'=st4/\c=(none,x)/\Sin (arrOf st4) lo x) (Q:=fun c st'=>st'=st4/\∃ n,c=(none,n)/\1<=n/\n<=nrem/\Sin (arrOf st4) lo n) ?ustep ?ufin ⟨rfl,rfl,hs4⟩) ?upost)
     case ufin =>
      rintro c st5 ⟨rfl,rfl,hs5⟩
      rw[show max m nrem=nrem by omega]at hs5 ⊢
      exact⟨rfl,nrem,rfl,n1,JQ _,hs5⟩
     case ustep =>
      rintro x c st5 h1 h2 ⟨rfl,rfl,hs5⟩
      dsimp only
      refine wpS_bind (kX hB4 h0 (by omega) (by omega) ?_)
      by_cases z:K (arrOf st5) (lo+x)<K (arrOf st5) (lo+x-1)
      ·simp only[z,decide_true,if_true]
       exact wpS_pure ⟨rfl,x,rfl,by omega,by omega,hs5⟩
      ·simp only[z,decide_false,K1,if_false]
       exact wpS_pure ⟨rfl,rfl,Hh hs5 (by omega) z⟩
     case upost =>
      rintro c st5 ⟨rfl,k,rfl,k1,k2,hs5⟩
      exact wpS_pure (h k st5 hB4 k1 k2 hs5)
    by_cases y:neq > 0
    ·refine aI y ?_
     refine wpS_bind (nP hB2 (by omega) (by omega) fun st3 hB3 e3=>hj st3 hB3 fun i j a1 a2 a3=>?_)
     have e3':∀ k,K (arrOf st3) k=K (arrOf st2) k:=fun k=>by
      rw[e3]
      split
      ·rename_i hk
       rw[q2 _ (by omega) (by omega),q2 k (by omega) (by omega)]
      ·rfl
     rw[e3',e3']
     exact hs2 i j a1 a2 a3
    ·refine aG y ?_
     exact hj st2 hB2 hs2
  by_cases y:n > 1
  ·refine aI y ?_
   refine wpS_bind (kX hB h0 (by omega) (by omega) ?_)
   by_cases r:K (arrOf st') lo<K (arrOf st') (lo+n-1)
   ·simp only[r,decide_true,if_true]
    exact wpS_pure (h n st' hB g1 g2 hs)
   ·simp only[r,decide_false,K1,if_false]
    have all:∀ k,lo<=k->k<lo+n->K (arrOf st') k=K (arrOf st') (lo+n-1):=fun k a1 a2=>by
     have b1:=hs lo k (JQ _) a1 a2
     have b2:=hs k (lo+n-1) a1 (by omega) (by omega)
     omega
    refine wpS_bind (nP hB (JQ _) (by omega) fun st1 hB1 e1=>hj st1 hB1 ?_)
    have e1':∀ k,K (arrOf st1) k=K (arrOf st') k:=fun k=>by
     rw[e1]
     split
     ·rename_i hk
      rw[all _ (by omega) (by omega),all k (by omega) (by omega)]
     ·rfl
    refine Bb (fun i j a1 a2 a3=>?_) (by omega) ?_
    ·rw[e1',e1',all i a1 (by omega),all j (by omega) a3]
     exact Lr _
    ·rw[e1',e1']
     exact Lv hlt
  ·refine aG y ?_
   have:n=1:=by omega
   subst this
   refine hj st' hB (Bb (fun i j a1 a2 a3=>?_) (by omega) (Lv hlt))
   have:i=j:=by omega
   rw[this];exact Lr _
def pJ:Nat->Nat->Nat->StateT SortSt Sem Bool:=sortPriv% PySem.Builtin.binarySort
theorem FO{st0 st:SortSt}{lo n m:Nat}{Q:Bool->SortSt->Prop}(h0:iI (arrOf st0))(hn:lo+n<=(arrOf st0).size)(hm:m<=n)(hB:SB lo st0 st)(hs:Sin (arrOf st) lo m)
  (h:∀ st',SB lo st0 st'->Sin (arrOf st') lo n->Q true st'):wpS (model prog w) A E s (pJ lo n m) Q st:=by
 unfold pJ
 walk_at "binarySort"
 refine wpS_bind (wpS_mono (wpS_forRange (I:=fun k c st'=>c=(none,())/\SB lo st0 st'/\Sin (arrOf st') lo (min k n))
  (Q:=fun c st'=>c=(none,())/\SB lo st0 st'/\Sin (arrOf st') lo n) ?step ?fin ?init) ?post)
 case post =>
  rintro c st' ⟨rfl,hB',hs'⟩
  exact wpS_pure (h st' hB' hs')
 case init =>
  refine⟨rfl,hB,fun i j h1 h2 h3=>?_⟩
  by_cases z:m=0
  ·have:i=j:=by omega
   rw[this];exact Lr _
  ·exact hs i j h1 h2 (by omega)
 case fin =>
  rintro c st' ⟨hc,hB',hs'⟩
  refine⟨hc,hB',?_⟩
  rwa[show min (max (max m 1) n) n=n by omega]at hs'
 case step =>
  rintro k c st' hak hkn ⟨rfl,hB',hs'⟩
  rw[show min k n=k by omega]at hs'
  dsimp only
  refine wpS_bind (wpS_mono (wpS_forRange (I:=fun x c st''=>st''=st'/\∃ l r,c=(none,l,r)/\l<=r/\r<=k/\r-l<=k-x /\
    (∀ i,lo<=i->i<lo+l->K (arrOf st') i<=K (arrOf st') (lo+k))/\(∀ i,lo+r<=i->i<lo+k->K (arrOf st') (lo+k)<K (arrOf st') i))
   (Q:=fun c st''=>st''=st'/\∃ l,c=(none,l,l)/\l<=k /\
    (∀ i,lo<=i->i<lo+l->K (arrOf st') i<=K (arrOf st') (lo+k))/\(∀ i,lo+l<=i->i<lo+k->K (arrOf st') (lo+k)<K (arrOf st') i)) ?istep ?ifin ⟨rfl,0,k,rfl,by omega,by omega,by omega,fun i h1 h2=>by omega,fun i h1 h2=>by omega⟩) ?ipost)
  case ifin =>
   rintro c st'' ⟨rfl,l,r,rfl,q1,q2,q3,q4,q5⟩
   have:l=r:=by omega
   subst this
   exact⟨rfl,l,rfl,q2,q4,q5⟩
  case istep =>
   rintro x c st'' _ hxk ⟨rfl,l,r,rfl,q1,q2,q3,q4,q5⟩
   dsimp only
   by_cases z:l ≥ r
   ·refine aI z ?_
    have:l=r:=by omega
    subst this
    exact wpS_pure ⟨rfl,l,rfl,q2,q4,q5⟩
   ·refine aG z ?_
    refine wpS_bind (kX hB' h0 (by omega) (by omega) ?_)
    by_cases y:K (arrOf st'') (lo+k)<K (arrOf st'') (lo+(l+r)/2)
    ·simp only[y,decide_true,if_true]
     refine wpS_pure ⟨rfl,l,(l+r)/2,rfl,by omega,by omega,by omega,q4,fun i h1 h2=>?_⟩
     have:=hs' (lo+(l+r)/2) i (by omega) h1 h2
     omega
    ·simp only[y,decide_false,K1,if_false]
     refine wpS_pure ⟨rfl,(l+r)/2+1,r,rfl,by omega,by omega,by omega,fun i h1 h2=>?_,q5⟩
     have:=hs' i (lo+(l+r)/2) h1 (by omega) (by omega)
     omega
  case ipost =>
   rintro c st'' ⟨rfl,l,rfl,q1,q2,q3⟩
   dsimp only
   have hks:lo+k<(arrOf st'').size:=by rw[hB'.size];omega
   have el:lo+k-(lo+k-(lo+l))=lo+l:=by omega
   refine wpS_bind ?_
   show wpS _ _ _ _ (moveDown' (lo+k) (lo+l)) _ _
   rw[moveDown'_eq]
   refine wpS_modify (wpS_pure ⟨rfl,hB'.set (bubble_perm _ _ _) fun i hi=>?_,?_⟩)
   ·rw[getElem?_bubble hks _ (by omega),el,if_neg (by omega),if_neg (by omega)]
   ·rw[show min (k+1) n=k+1 by omega]
    intro i j h1 h2 h3
    show K (bubble (arrOf st'') (lo+k) (lo+k-(lo+l))) i<=K (bubble (arrOf st'') (lo+k) (lo+k-(lo+l))) j
    rw[BC hks (by omega),BC hks (by omega),el]
    repeat' split
    all_goals first
     | (exfalso;omega)
     |exact Lr _
     |exact q2 _ (by omega) (by omega)
     |exact Lv (q3 _ (by omega) (by omega))
     |exact hs' _ _ (by omega) (by omega) (by omega)
end PyProof.RowsP
namespace PyProof.RowsP
open PySem PyProof.Rows
local macro_rules | `(tactic| walk_at "mergeAt") => do
 let n:=Lean.mkIdent (Lean.mkPrivateNameCore `PySem.Builtin.List.W1All `PySem.Builtin.mergeAt)
 `(tactic| delta $n)
local macro_rules | `(tactic| walk_at "st") => `(tactic| try dsimp -zeta -zetaHave only)
local macro_rules | `(tactic| walk_at "l3") => `(tactic| (extract_lets -underBinder +onlyGivenNames a b c; subst a b c))
local macro_rules | `(tactic| walk_at "l11") => `(tactic| (extract_lets -underBinder +onlyGivenNames a b c d e f g h i j k; subst a b c d e f g h i j k; dsimp -zeta -zetaHave only))
local macro_rules | `(tactic| walk_at "l1") => `(tactic| (extract_lets -underBinder +onlyGivenNames a; subst a; try dsimp -zeta -zetaHave only))
local macro_rules | `(tactic| walk_at "l2") => `(tactic| (extract_lets -underBinder +onlyGivenNames a b; subst a b; try dsimp -zeta -zetaHave only))
local macro_rules | `(tactic| walk_at "l4") => `(tactic| (extract_lets -underBinder +onlyGivenNames a b c d; subst a b c d; try dsimp -zeta -zetaHave only))
variable{prog:Program}{w:World}{A:Around}{E:Value->Shared->Prop}{s:Shared} [KF:KeyFn] [LO:LtOk prog w A E s]
theorem u9{P:List Keyed}{i n m:Nat}(hm:m<n):((P.drop i).take n)[m]?=P[i+m]?:=by
 rw[LA,if_pos hm,LS]
theorem Hi{P:List Keyed}{i n x y:Nat}{p q:Keyed}(u:Upl ((P.drop i).take n))(hp:P[i+x]?=some p)(hq:P[i+y]?=some q)(h:x<=y)(hy:y<n):ky p<=ky q :=
 FQ u (i:=x) (j:=y) (by rw[u9 (by omega)];exact hp) (by rw[u9 hy];exact hq) h
theorem C7{st:SortSt}{key:Keyed}{arr:Array Keyed}{base n hint:Nat}{Q:Option Nat->SortSt->Prop}(hk:kindOf st=KeyFn.kd)(hkey:IntP key)(u:Upl ((arr.toList.drop base).take n))(ip:∀ x∈arr.toList,IntP x)(hn:base+n<=arr.size)(hh:hint<n)
  (h:∀ k,k<=n->(∀ i,i<k->fR arr.toList base key i=true)->(∀ i,k<=i->i<n->fR arr.toList base key i=false)->Q (some k) st):wpS (model prog w) A E s ((sortPriv% PySem.Builtin.gallop) false key arr base n hint) Q st:=by
 have la:arr.toList.length=arr.size:=by simp
 refine iM (fR arr.toList base key) hk hkey (fun i hi=>?_) (fun x y hxy hy e=>?_) hh h
 ·have hx:arr.toList[base+i]?=some arr.toList[base+i]:=JL (by omega)
  exact⟨_,by rw[← hx];simp,ip _ (Li _),by rw[o5 hx];rfl⟩
 ·have hx:arr.toList[base+x]?=some arr.toList[base+x]:=JL (by omega)
  have hy':arr.toList[base+y]?=some arr.toList[base+y]:=JL (by omega)
  rw[o5 hy']at e
  rw[o5 hx]
  have:=Hi u hx hy' hxy hy
  simp only[Mx,decide_eq_false_iff_not]at e ⊢
  omega
theorem C9{st:SortSt}{key:Keyed}{arr:Array Keyed}{base n hint:Nat}{Q:Option Nat->SortSt->Prop}(hk:kindOf st=KeyFn.kd)(hkey:IntP key)(u:Upl ((arr.toList.drop base).take n))(ip:∀ x∈arr.toList,IntP x)(hn:base+n<=arr.size)(hh:hint<n)
  (h:∀ k,k<=n->(∀ i,i<k->fL arr.toList base key i=true)->(∀ i,k<=i->i<n->fL arr.toList base key i=false)->Q (some k) st):wpS (model prog w) A E s ((sortPriv% PySem.Builtin.gallop) true key arr base n hint) Q st:=by
 have la:arr.toList.length=arr.size:=by simp
 refine iM (fL arr.toList base key) hk hkey (fun i hi=>?_) (fun x y hxy hy e=>?_) hh h
 ·have hx:arr.toList[base+i]?=some arr.toList[base+i]:=JL (by omega)
  exact⟨_,by rw[← hx];simp,ip _ (Li _),by rw[qz hx];rfl⟩
 ·have hx:arr.toList[base+x]?=some arr.toList[base+x]:=JL (by omega)
  have hy':arr.toList[base+y]?=some arr.toList[base+y]:=JL (by omega)
  rw[qz hy']at e
  rw[qz hx]
  have:=Hi u hx hy' hxy hy
  simp only[decide_eq_true_eq]at e ⊢
  omega
theorem Eg{P:List Keyed}{i n k:Nat}{y:Keyed}(h:y∈((P.drop i).take n).drop k):∃ m,k<=m/\m<n/\P[i+m]?=some y:=by
 obtain⟨m,e⟩:=Eh h
 have hl:=(JK.mp e).1
 rw[Ku]at hl
 rw[u9 (by omega)]at e
 exact⟨k+m,by omega,by omega,e⟩
theorem fR_sh{P:List Keyed}{i n k:Nat}{v:Keyed}(h:∀ m,k<=m->m<n->fR P i v m=false):∀ y∈((P.drop i).take n).drop k,ky v<ky y:=fun y hy=>by
 obtain⟨m,h1,h2,e⟩:=Eg hy
 have:=h m h1 h2
 rw[o5 e]at this
 simpa using this
theorem fL_sh{P:List Keyed}{i n k:Nat}{v:Keyed}(h:∀ m,k<=m->m<n->fL P i v m=false):∀ y∈((P.drop i).take n).drop k,ky v<=ky y:=fun y hy=>by
 obtain⟨m,h1,h2,e⟩:=Eg hy
 have:=h m h1 h2
 rw[qz e]at this
 simp only[decide_eq_false_iff_not]at this
 omega
theorem Br(c:Nat):∀(l:List Keyed)(n:Nat)(xs:Array Keyed),c+n+l.length<=xs.size->((l.zipIdx n).foldl (fun a x=>match x with | (p,j)=>a.setIfInBounds (c+j) p) xs).toList=xs.toList.take (c+n)++l++xs.toList.drop (c+n+l.length)
 |[],n,xs,_=>by
  show xs.toList=_
  rw[Mt,LX,Nat.add_zero,Km]
 |p::l,n,xs,h=>by
  have ll:xs.toList.length=xs.size:=by simp
  rw[Kt]at h ⊢
  rw[Nv,List.foldl_cons]
  show((l.zipIdx (n+1)).foldl _ (xs.setIfInBounds (c+n) p)).toList=_
  rw[Br c l (n+1) _ (by rw[NT];omega),NH,List.drop_set_of_lt (by omega),show c+(n+1)=c+n+1 by omega,show c+n+1+l.length=c+n+(l.length+1) by omega]
  have e:(xs.toList.set (c+n) p).take (c+n+1)=xs.toList.take (c+n)++[p]:=by
   rw[Kw,List.take_set_of_le (JQ _),M5 (by omega)]
   rfl
  rw[e,KC (xs.toList.take (c+n)) [p] l]
  rfl
theorem AS{P R:List Keyed}(u:Upl P)(v:Upl R)(c:∀ x∈P,∀ y∈R,ky x<=ky y):Upl (P++R):=KS.mpr ⟨u,v,c⟩
theorem Ig{σ:Type}{M:Model}{x st:σ}{Q:PUnit->σ->Prop}(h:Q ⟨⟩ x):wpS M A E s (set x:StateT σ Sem PUnit) Q st:=by
 unfold wpS
 rw[StateT.run_set]
 exact wpAny_pure ⟨rfl,h⟩
def Bk:Nat->StateT SortSt Sem Bool:=sortPriv% PySem.Builtin.mergeAt
theorem xX{st:SortSt}{i sa na pa sb nb pb:Nat}{Q:Bool->SortSt->Prop}(hk:kindOf st=KeyFn.kd)(hf:failedOf st=none)(h0:iI (arrOf st))(p1:(pendingOf st)[i]?=some (sa,na,pa))(p2:(pendingOf st)[i+1]?=some (sb,nb,pb))(es:sb=sa+na)(a1:1<=na)(b1:1<=nb)(le:sb+nb<=(arrOf st).size)
  (s1:Upl (((arrOf st).toList.drop sa).take na)) (s2:Upl (((arrOf st).toList.drop sb).take nb))
  (h:∀(st':SortSt)(M:List Keyed),kindOf st'=KeyFn.kd->failedOf st'=none->pendingOf st'=((pendingOf st).setIfInBounds i (sa,na+nb,pa)).eraseIdxIfInBounds (i+1)->(arrOf st').toList=(arrOf st).toList.take sa++M++(arrOf st).toList.drop (sb+nb)->M.Perm (((arrOf st).toList.drop sa).take na++((arrOf st).toList.drop sb).take nb)->Upl M->Q true st') :
  wpS (model prog w) A E s (Bk i) Q st:=by
 unfold Bk
 walk_at "mergeAt"
 refine wpS_bind (wpS_get ?_)
 rw[show((sortPriv% PySem.Builtin.SortState.pending) st)[i]?=some (sa,na,pa) from p1,show((sortPriv% PySem.Builtin.SortState.pending) st)[i+1]?=some (sb,nb,pb) from p2]
 dsimp -zeta -zetaHave only
 refine wpS_bind (Ig ?_)
 obtain⟨xs,exs⟩:∃ xs,arrOf st=xs:=⟨_,rfl⟩
 obtain⟨st1,est1⟩:∃ st1:SortSt,SortSt.mk' (kindOf st) (arrOf st) (((pendingOf st).setIfInBounds i (sa,na+nb,pa)).eraseIdxIfInBounds (i+1)) (gallopOf st) (failedOf st)=st1:=⟨_,rfl⟩
 have k1:kindOf st1=KeyFn.kd:=by rw[← est1];exact hk
 have f1:failedOf st1=none:=by rw[← est1];exact hf
 have e1:arrOf st1=xs:=by rw[← est1,← exs]
 have q1:pendingOf st1=((pendingOf st).setIfInBounds i (sa,na+nb,pa)).eraseIdxIfInBounds (i+1):=by rw[← est1]
 show wpS (model prog w) A E s _ Q (SortSt.mk' (kindOf st) (arrOf st) (((pendingOf st).setIfInBounds i (sa,na+nb,pa)).eraseIdxIfInBounds (i+1)) (gallopOf st) (failedOf st))
 rw[est1]
 clear est1
 rw[show(sortPriv% PySem.Builtin.SortState.a) st=xs from exs]
 rw[exs]at h0 le s1 s2 h
 clear exs p1 p2 hf hk
 have ll:xs.toList.length=xs.size:=by simp
 have ip:∀ x∈xs.toList,IntP x:=fun x hx=>h0 x hx
 have at':∀ i,i<xs.size->∃ x,xs.toList[i]?=some x/\IntP x:=fun i hi=>⟨_,JL (by omega),ip _ (Li _)⟩
 obtain⟨b0,hb0,ib0⟩:=at' sb (by omega)
 refine wpS_bind (aO (at_l hb0) ?_)
 refine wpS_bind (C7 k1 ib0 s1 ip (by omega) (by omega) fun k kn kt kf=>?_)
 dsimp -zeta -zetaHave only
 obtain⟨S1,eS1⟩:∃ S1,(xs.toList.drop sa).take na=S1:=⟨_,rfl⟩
 obtain⟨S2,eS2⟩:∃ S2,(xs.toList.drop sb).take nb=S2:=⟨_,rfl⟩
 have l1:S1.length=na:=by rw[← eS1,Ku,KL];omega
 have l2:S2.length=nb:=by rw[← eS2,Ku,KL];omega
 have tk1:S1.take k=(xs.toList.drop sa).take k:=by rw[← eS1,MO,Lx kn]
 have lo1:∀ x∈S1.take k,ky x<=ky b0:=by rw[tk1];exact Ju kt
 have hi1:∀ y∈S1.drop k,ky b0<ky y:=by rw[← eS1];exact fR_sh kf
 have bS:S2[0]?=some b0:=by rw[← eS2,u9 (by omega)];exact hb0
 rw[eS1]at s1
 rw[eS2]at s2
 have b0l:∀ y∈S2,ky b0<=ky y:=jr (i:=0) s2 bS
 have whole:Upl (S1++S2)->Q true st1:=fun u=>h st1 (S1++S2) k1 f1 q1 (by
  rw[e1,← eS1,← eS2,← KC,es,← MF,← MF,← es,Km]) (by rw[eS1,eS2]) u
 by_cases z:(na-k == 0)=true
 ·refine aI z ?_
  have z':na-k=0:=by simpa using z
  refine wpS_pure (whole (AS s1 s2 fun x hx y hy=>?_))
  have:=lo1 x (by rw[Kz (by omega)];exact hx)
  have:=b0l y hy
  omega
 refine aG z ?_
 have z':na-k≠0:=by simpa using z
 obtain⟨al,hal,ial⟩:=at' (sa+k+(na-k)-1) (by omega)
 have aS:S1[na-1]?=some al:=by rw[← eS1,u9 (by omega),← hal];congr 1;omega
 refine wpS_bind (aO (at_l hal) ?_)
 refine wpS_bind (C9 k1 ial (by rw[eS2];exact s2) ip (by omega) (by omega) fun m mn mt mf=>?_)
 dsimp -zeta -zetaHave only
 have tk2:S2.take m=(xs.toList.drop sb).take m:=by rw[← eS2,MO,Lx mn]
 have lo2:∀ x∈S2.take m,ky x<ky al:=by rw[tk2];exact Jw mt
 have hi2:∀ y∈S2.drop m,ky al<=ky y:=by rw[← eS2];exact fL_sh mf
 have all:∀ x∈S1,ky x<=ky al:=fun x hx=>kY s1 aS x (by rw[Kz (by omega)];exact hx)
 by_cases y:(m == 0)=true
 ·refine aI y ?_
  have y':m=0:=by simpa using y
  subst y'
  exact wpS_pure (whole (AS s1 s2 fun x hx y hy=>Nu (all x hx) (hi2 y hy)))
 refine aG y ?_
 have y':m≠0:=by simpa using y
 walk_at "st"
 extract_lets -underBinder +onlyGivenNames xx yy jp
 subst xx yy
 clear_value (ej:jp=_)
 have ea:(xs.extract (sa+k) sb).toList=S1.drop k:=by
  rw[t8,← eS1,Mz,Mz,Mh]
  congr 1
  omega
 have eb:(xs.extract sb (sb+m)).toList=S2.take m:=by rw[oi,tk2]
 have za:(xs.extract (sa+k) sb).size=na-k:=by rw[← KZ,ea,KL,l1]
 have zb:(xs.extract sb (sb+m)).size=m:=by rw[← KZ,eb,Ku];omega
 have ipa:∀ x∈(xs.extract (sa+k) sb).toList,IntP x:=fun x hx=>by
  rw[t8]at hx
  exact ip x (K6 (K7 hx))
 have ipb:∀ x∈(xs.extract sb (sb+m)).toList,IntP x:=fun x hx=>by
  rw[oi]at hx
  exact ip x (K7 (K6 hx))
 have ua:Upl (xs.extract (sa+k) sb).toList:=by rw[ea];exact s1.drop
 have ub:Upl (xs.extract sb (sb+m)).toList:=by rw[eb];exact s2.take
 have c0:∀ x y:Keyed,(xs.extract sb (sb+m)).toList[0]?=some x->y∈(xs.extract (sa+k) sb).toList->ky x<ky y:=fun x y hx hy=>by
  rw[eb,LA,if_pos (by omega),bS]at hx
  cases hx
  rw[ea]at hy
  exact hi1 y hy
 have cl:∀ x y:Keyed,x∈(xs.extract sb (sb+m)).toList->(xs.extract (sa+k) sb).toList[(xs.extract (sa+k) sb).size-1]?=some y->ky x<ky y:=fun x y hx hy=>by
  rw[za,ea,LS,show k+(na-k-1)=na-1 by omega,aS]at hy
  cases hy
  rw[eb]at hx
  exact lo2 x hx
 have hj:∀(R:Array Keyed)(st2:SortSt),SmG st1 st2->R.toList.Perm ((xs.extract (sa+k) sb).toList++(xs.extract sb (sb+m)).toList)->Upl R.toList->wpS (model prog w) A E s (jp R) Q st2:=by
  intro R st2 sg pm up
  rw[ej]
  clear ej jp
  walk_at "st"
  rw[ea,eb]at pm
  have rl:R.toList.length=na-k+m:=by rw[pm.length_eq,JO,KL,Ku,l1,l2];omega
  refine wpS_bind (wpS_modify ?_)
  refine wpS_bind (wpS_get ?_)
  have ff:(sortPriv% PySem.Builtin.SortState.failed) st2=none:=sg.f.trans f1
  show wpS (model prog w) A E s (pure ((sortPriv% PySem.Builtin.SortState.failed) st2).isNone) Q _
  rw[ff]
  have tk:∀ x∈S1.take k,∀ y∈S1.drop k,ky x<=ky y:=by
   have:Upl (S1.take k++S1.drop k):=by rw[Km];exact s1
   exact(KS.mp this).2.2
  have tk':∀ x∈S2.take m,∀ y∈S2.drop m,ky x<=ky y:=by
   have:Upl (S2.take m++S2.drop m):=by rw[Km];exact s2
   exact(KS.mp this).2.2
  refine wpS_pure (h _ (S1.take k++R.toList++S2.drop m) (sg.k.trans k1) rfl (sg.p.trans q1) ?_ ?_ ?_)
  ·show(R.toList.zipIdx.foldl (fun a x=>match x with | (p,j)=>a.setIfInBounds (sa+k+j) p) (arrOf st2)).toList=_
   rw[sg.a,e1,Br (sa+k) R.toList 0 xs (by omega),Nat.add_zero,rl,show sa+k+(na-k+m)=sb+m by omega,MF,← tk1]
   have ed:xs.toList.drop (sb+m)=S2.drop m++xs.toList.drop (sb+nb):=by
    rw[← Mh,← eS2]
    have e:=congrArg (List.drop m) (Km nb (xs.toList.drop sb))
    rw[Nw,Ku,KL,show m-min nb (xs.toList.length-sb)=0 by omega,MP,Mh]at e
    exact e.symm
   rw[ed]
   simp only[KC]
  ·rw[eS1,eS2]
   have e:S1++S2=S1.take k++(S1.drop k++S2.take m)++S2.drop m:=by
    rw[KC,KC,Km,← KC,Km]
   rw[e]
   exact(Ln _ pm).append_right _
  ·refine AS (AS s1.take up fun x hx y hy=>?_) s2.drop fun x hx y hy=>?_
   ·rcases JV.mp (pm.mem_iff.mp hy)with hy | hy
    ·exact tk x hx y hy
    ·have:=lo1 x hx
     have:=b0l y (K6 hy)
     omega
   ·rcases JV.mp hx with hx | hx
    ·have:=lo1 x hx
     have:=b0l y (K7 hy)
     omega
    ·rcases JV.mp (pm.mem_iff.mp hx)with hx | hx
     ·exact Nu (all x (K7 hx)) (hi2 y hy)
     ·exact tk' x hx y hy
 clear ej
 by_cases c:na-k<=m
 ·refine aI c ?_
  exact wpS_bind (xV k1 ua ub ipa ipb (by omega) (by omega) (fun x y a b=>Lv (c0 x y a b)) cl fun R st2 sg pm up=>hj R st2 sg pm up)
 ·refine aG c ?_
  exact wpS_bind (xW k1 ua ub ipa ipb (by omega) (by omega) c0 cl fun R st2 sg pm up=>hj R st2 sg pm up)
end PyProof.RowsP
namespace PyProof.RowsP
open PySem PyProof.Rows
local macro_rules | `(tactic| walk_at "sortRuns") => do
 let n:=Lean.mkIdent (Lean.mkPrivateNameCore `PySem.Builtin.List.W1All `PySem.Builtin.sortRuns)
 `(tactic| delta $n)
local macro_rules | `(tactic| walk_at "st") => `(tactic| try dsimp -zeta -zetaHave only)
local macro_rules | `(tactic| walk_at "l3") => `(tactic| (extract_lets -underBinder +onlyGivenNames a b c; subst a b c))
local macro_rules | `(tactic| walk_at "l11") => `(tactic| (extract_lets -underBinder +onlyGivenNames a b c d e f g h i j k; subst a b c d e f g h i j k; dsimp -zeta -zetaHave only))
local macro_rules | `(tactic| walk_at "l1") => `(tactic| (extract_lets -underBinder +onlyGivenNames a; subst a; try dsimp -zeta -zetaHave only))
local macro_rules | `(tactic| walk_at "l2") => `(tactic| (extract_lets -underBinder +onlyGivenNames a b; subst a b; try dsimp -zeta -zetaHave only))
local macro_rules | `(tactic| walk_at "l4") => `(tactic| (extract_lets -underBinder +onlyGivenNames a b c d; subst a b c d; try dsimp -zeta -zetaHave only))
variable{prog:Program}{w:World}{A:Around}{E:Value->Shared->Prop}{s:Shared} [KF:KeyFn] [LO:LtOk prog w A E s]
def Rn(L:List Keyed):List (Nat×Nat×Nat)->Nat->Nat->Prop
 |[],c,e=>c=e
 |p::t,c,e=>p.1=c/\1<=p.2.1/\Upl ((L.drop p.1).take p.2.1)/\Rn L t (c+p.2.1) e
theorem Rn.le{L:List Keyed}:∀{T:List (Nat×Nat×Nat)}{c e:Nat},Rn L T c e->c+T.length<=e
 |[],c,e,h=>by cases h;exact JQ _
 |p::t,c,e,⟨_,h1,_,h⟩=>by
  have:=Rn.le h
  rw[Kt]
  omega
theorem Rn.app{L:List Keyed}:∀{T1 T2:List (Nat×Nat×Nat)}{c e:Nat},Rn L (T1++T2) c e↔∃ m,Rn L T1 c m/\Rn L T2 m e
 |[],T2,c,e=>⟨fun h=>⟨c,rfl,h⟩,fun⟨m,h1,h2⟩=>by cases h1;exact h2⟩
 |p::t,T2,c,e=>by
  constructor
  ·rintro⟨h1,h2,h3,h4⟩
   obtain⟨m,g1,g2⟩:=Rn.app.mp h4
   exact⟨m,⟨h1,h2,h3,g1⟩,g2⟩
  ·rintro⟨m,⟨h1,h2,h3,g1⟩,g2⟩
   exact⟨h1,h2,h3,Rn.app.mpr ⟨m,g1,g2⟩⟩
theorem Rn.lo{L L':List Keyed}{m:Nat}(hm:L.take m=L'.take m):∀{T:List (Nat×Nat×Nat)}{c e:Nat},Rn L T c e->e<=m->Rn L' T c e
 |[],c,e,h,_=>h
 |p::t,c,e,⟨h1,h2,h3,h4⟩,he=>by
  have hl:=h4.le
  refine⟨h1,h2,?_,Rn.lo hm h4 he⟩
  have cut:∀ Z:List Keyed,(Z.drop p.1).take p.2.1=((Z.take m).drop p.1).take p.2.1:=fun Z=>by
   rw[Mz,MO,Lx (by omega)]
  rw[cut L',← hm,← cut L]
  exact h3
theorem Rn.hi{L L':List Keyed}{m:Nat}(hm:L.drop m=L'.drop m):∀{T:List (Nat×Nat×Nat)}{c e:Nat},Rn L T c e->m<=c->Rn L' T c e
 |[],c,e,h,_=>h
 |p::t,c,e,⟨h1,h2,h3,h4⟩,he=>by
  refine⟨h1,h2,?_,Rn.hi hm h4 (by omega)⟩
  have cut:∀ Z:List Keyed,Z.drop p.1=(Z.drop m).drop (p.1-m):=fun Z=>by rw[Mh];congr 1;omega
  rw[cut L',← hm,← cut L]
  exact h3
theorem Rn.like{L:List Keyed}:∀{T T':List (Nat×Nat×Nat)}{c e:Nat},T.map (fun p=>(p.1,p.2.1))=T'.map (fun p=>(p.1,p.2.1))->Rn L T c e->Rn L T' c e
 |[],[],c,e,_,h=>h
 |p::t,q::t',c,e,hm,⟨h1,h2,h3,h4⟩=>by
  rw[KA,KA]at hm
  injection hm with a b
  injection a with a1 a2
  refine⟨by rw[← a1];exact h1,by rw[← a2];exact h2,by rw[← a1,← a2];exact h3,?_⟩
  rw[← a2]
  exact Rn.like b h4
 |[],q::t',c,e,hm,h=>by cases hm
 |p::t,[],c,e,hm,h=>by cases hm
structure SI(a₀:Array Keyed)(lo:Nat)(st:SortSt):Prop where
 perm:(arrOf st).Perm a₀
 kind:kindOf st=KeyFn.kd
 failed:failedOf st=none
 rn:Rn (arrOf st).toList (pendingOf st).toList 0 lo
 le:lo<=a₀.size
theorem SI.size{a₀:Array Keyed}{lo:Nat}{st:SortSt}(h:SI a₀ lo st):(arrOf st).size=a₀.size:=h.perm.size_eq
theorem SI.keys{a₀:Array Keyed}{lo:Nat}{st:SortSt}(h:SI a₀ lo st)(h0:iI a₀):iI (arrOf st):=fun p hp=>h0 p ((Mc.mp h.perm).mem_iff.mp hp)
theorem oq{a₀:Array Keyed}{lo i:Nat}{st:SortSt}{Q:Bool->SortSt->Prop}(h0:iI a₀)(hS:SI a₀ lo st)(hi:i+1<(pendingOf st).size)(h:∀ st',SI a₀ lo st'->(pendingOf st').size+1=(pendingOf st).size->(arrOf st').toList.drop lo=(arrOf st).toList.drop lo->Q true st') :
  wpS (model prog w) A E s ((sortPriv% PySem.Builtin.mergeAt) i) Q st:=by
 have tl:(pendingOf st).toList.length=(pendingOf st).size:=by simp
 obtain⟨T,eT⟩:∃ T,(pendingOf st).toList=T:=⟨_,rfl⟩
 rw[eT]at tl
 have g1:(pendingOf st)[i]?=some T[i]:=by rw[← JL,← eT];simp
 have g2:(pendingOf st)[i+1]?=some T[i+1]:=by rw[← JL,← eT];simp
 have sp:T=T.take i++T[i]::T[i+1]::T.drop (i+2):=by
  rw[← LB,← LB,Km]
 obtain⟨T1,eT1⟩:∃ T1,T.take i=T1:=⟨_,rfl⟩
 obtain⟨T2,eT2⟩:∃ T2,T.drop (i+2)=T2:=⟨_,rfl⟩
 obtain⟨⟨sa,na,pa⟩,ep⟩:∃ p,T[i]=p:=⟨_,rfl⟩
 obtain⟨⟨sb,nb,pb⟩,eq⟩:∃ p,T[i+1]=p:=⟨_,rfl⟩
 have t1l:T1.length=i:=by rw[← eT1,Ku];omega
 rw[ep]at g1
 rw[eq]at g2
 rw[eT1,eT2,ep,eq]at sp
 have rn:=hS.rn
 rw[eT,sp]at rn
 obtain⟨m,r1,⟨x1,x2,x3,⟨y1,y2,y3,r2⟩⟩⟩:=Rn.app.mp rn
 dsimp only at x1 x2 x3 y1 y2 y3 r2
 have le2:=r2.le
 have le:=hS.le
 have sz:=hS.size
 have ll:(arrOf st).toList.length=(arrOf st).size:=by simp
 refine xX hS.kind hS.failed (hS.keys h0) g1 g2 (by omega) x2 y2 (by omega) x3 y3 fun st' M k' f' p' e' pm up=>?_
 have Ml:M.length=na+nb:=by
  rw[pm.length_eq,JO,Ku,Ku,KL,KL]
  omega
 have hpp:(pendingOf st').toList=T1++(sa,na+nb,pa)::T2:=by
  rw[p']
  have:(((pendingOf st).setIfInBounds i (sa,na+nb,pa)).eraseIdxIfInBounds (i+1)).toList=(T.set i (sa,na+nb,pa)).eraseIdx (i+1):=by
   unfold Array.eraseIdxIfInBounds
   rw[dif_pos (by rw[NT];exact hi),Array.toList_eraseIdx,NH,eT]
  rw[this,sp,← t1l,Na _ _ (JQ _),Kr,List.set_cons_zero,List.eraseIdx_append_of_length_le (by omega),show T1.length+1-T1.length=1 by omega]
  rfl
 have ptl:(pendingOf st').size+1=(pendingOf st).size:=by
  have a:=congrArg List.length hpp
  have b:=congrArg List.length sp
  simp only[JO,Kt,KZ]at a b
  omega
 have es:sb=sa+na:=by omega
 have lt:((arrOf st).toList.take sa).length=sa:=by rw[Ku];omega
 have tke:(arrOf st).toList.take m=(arrOf st').toList.take m:=by
  rw[e',KC,MC (by omega),MO,x1,Nat.min_self]
 have dre:(arrOf st).toList.drop (sb+nb)=(arrOf st').toList.drop (sb+nb):=by
  rw[e',List.drop_left' (by rw[JO,lt,Ml];omega)]
 refine h st' ⟨?_,k',f',?_,le⟩ ptl (by
  have e:=congrArg (List.drop (lo-(sb+nb))) dre
  rw[Mh,Mh,show sb+nb+(lo-(sb+nb))=lo by omega]at e
  exact e.symm)
 ·refine Array.Perm.trans (Mc.mpr ?_) hS.perm
  rw[e']
  have e2:(arrOf st).toList=(arrOf st).toList.take sa++(((arrOf st).toList.drop sa).take na++((arrOf st).toList.drop sb).take nb)++(arrOf st).toList.drop (sb+nb):=by
   have es:sb=sa+na:=by omega
   rw[← KC,es,← MF,← MF,Km]
  exact((Ln _ pm).append_right _).trans (List.Perm.of_eq e2.symm)
 ·rw[hpp]
  refine Rn.app.mpr ⟨m,r1.lo tke (JQ _),x1,by show 1<=na+nb;omega,?_,?_⟩
  ·show Upl (((arrOf st').toList.drop sa).take (na+nb))
   have:((arrOf st').toList.drop sa).take (na+nb)=M:=by
    rw[e',KC,Nw,lt,Kr,MP,M6 (by omega),Nc,MC (by omega),Kz (by omega)]
   rw[this]
   exact up
  ·show Rn _ T2 (m+(na+nb)) lo
   have:=r2.hi dre (by omega)
   rw[show m+(na+nb)=m+na+nb by omega]
   exact this
theorem IA{xs:Array Keyed}{lo n:Nat}(h:Sin xs lo n)(hn:lo+n<=xs.size):Upl ((xs.toList.drop lo).take n):=by
 have ll:xs.toList.length=xs.size:=by simp
 refine Ll.mpr fun i j hi hj hij=>?_
 rw[Ku,KL]at hj
 rw[MU,Np,MU,Np]
 have z:=h (lo+i) (lo+j) (by omega) (by omega) (by omega)
 rw[K_eq (by omega),K_eq (by omega)]at z
 simpa[ky] using z
theorem SB.si{a₀:Array Keyed}{lo:Nat}{st0 st:SortSt}(h:SB lo st0 st)(hS:SI a₀ lo st0):SI a₀ lo st:=by
 refine⟨h.perm.trans hS.perm,h.kind,h.failed.trans hS.failed,?_,hS.le⟩
 rw[h.pend]
 refine hS.rn.lo (LI fun i=>?_) (JQ _)
 rw[LA,LA]
 split
 ·rename_i hi
  have:=h.low i hi
  rw[← Lo,← Lo]at this
  exact this.symm
 ·rfl
theorem ite_lt(c:Bool){n:Nat}(h:¬ n<=1):(if c=true then n-2-1 else n-2)+1<n:=by split<;>omega
def uQ:StateT SortSt Sem Unit:=sortPriv% PySem.Builtin.sortRuns
theorem wpS_sortAll{a₀:Array Keyed}{st:SortSt}{Q:Unit->SortSt->Prop}(h0:iI a₀)(hS:SI a₀ 0 st)(h:∀ st',(arrOf st').Perm a₀->failedOf st'=none->Upl (arrOf st').toList->Q () st'):wpS (model prog w) A E s uQ Q st:=by
 unfold uQ
 walk_at "sortRuns"
 refine wpS_bind (wpS_get ?_)
 rw[show((sortPriv% PySem.Builtin.SortState.a) st).size=a₀.size from hS.size]
 walk_at "st"
 walk_at "l3"
 generalize (sortPriv% PySem.Builtin.minRun) a₀.size a₀.size 0=mr
 refine wpS_bind (wpS_mono (wpS_forRange (I:=fun x c st'=>∃ lo,c=(none,lo)/\SI a₀ lo st'/\(lo=a₀.size∨x<=lo)) (Q:=fun c st'=>c=(none,a₀.size)/\SI a₀ a₀.size st') ?step ?fin ⟨0,rfl,hS,.inr (JQ _)⟩) ?post)
 case fin =>
  rintro c st' ⟨lo,rfl,hS',g⟩
  have:=hS'.le
  have:lo=a₀.size:=by omega
  subst this
  exact⟨rfl,hS'⟩
 case step =>
  rintro x c st' _ hx ⟨lo,rfl,hS',g⟩
  have le:=hS'.le
  have sz:=hS'.size
  by_cases z:lo ≥ a₀.size
  ·refine aI z ?_
   have:lo=a₀.size:=by omega
   subst this
   exact wpS_pure ⟨rfl,hS'⟩
  refine aG z ?_
  refine xY fun R hR=>?_
  refine wpS_bind (BD hS'.kind (hS'.keys h0) (by omega) (by omega) fun m st1 hB1 m1 m2 hs1=>?_)
  walk_at "st"
  extract_lets -underBinder +onlyGivenNames nn jp
  subst nn
  clear_value (ej:jp=_)
  have hj:∀(n:Nat)(st2:SortSt),SB lo st' st2->1<=n->lo+n<=a₀.size->Sin (arrOf st2) lo n->wpS (model prog w) A E s (jp () n) R st2:=by
   intro n st2 hB2 n1 n2 hs2
   rw[ej]
   clear ej jp
   walk_at "st"
   have S2:=hB2.si hS'
   have u2:=IA hs2 (by rw[S2.size];exact n2)
   refine wpS_bind (wpS_get ?_)
   walk_at "st"
   extract_lets -underBinder +onlyGivenNames jp
   clear_value (ej:jp=_)
   have hj:∀ st3:SortSt,SI a₀ lo st3->(arrOf st3).toList.drop lo=(arrOf st2).toList.drop lo->wpS (model prog w) A E s (jp ()) R st3:=by
    intro st3 S3 e3
    rw[ej]
    clear ej jp
    walk_at "st"
    refine wpS_bind (wpS_modify (wpS_pure (hR _ _ ⟨lo+n,rfl,⟨S3.perm,S3.kind,S3.failed,?_,n2⟩,?_⟩)))
    ·show Rn (arrOf st3).toList ((pendingOf st3).push (lo,n,0)).toList 0 (lo+n)
     rw[LJ]
     refine Rn.app.mpr ⟨lo,S3.rn,rfl,n1,?_,rfl⟩
     show Upl (((arrOf st3).toList.drop lo).take n)
     rw[e3]
     exact u2
    ·rcases g with g | g
     ·exact absurd g (by omega)
     ·exact .inr (by omega)
   clear ej
   cases eb:((sortPriv% PySem.Builtin.SortState.pending) st2).back? with
   |none=>exact hj st2 S2 rfl
   |some p =>
    obtain⟨s1,n1',p1⟩:=p
    walk_at "st"
    extract_lets -underBinder +onlyGivenNames pw
    clear_value pw
    refine wpS_bind (wpS_mono (wpS_forRange (I:=fun _ c st3=>c=(none,())/\SI a₀ lo st3/\(arrOf st3).toList.drop lo=(arrOf st2).toList.drop lo) (Q:=fun c st3=>c=(none,())/\SI a₀ lo st3/\(arrOf st3).toList.drop lo=(arrOf st2).toList.drop lo) ?pstep (fun c st3 q=>q) ⟨rfl,S2,rfl⟩) ?ppost)
    case pstep =>
     rintro y c st3 _ hy ⟨rfl,S3,e3⟩
     refine wpS_bind (wpS_get ?_)
     walk_at "st"
     walk_at "l1"
     by_cases big:((sortPriv% PySem.Builtin.SortState.pending) st3).size > 1
     ·rw[if_pos big]
      obtain⟨⟨q1,q2,q3⟩,eq⟩:∃ p,((sortPriv% PySem.Builtin.SortState.pending) st3)[((sortPriv% PySem.Builtin.SortState.pending) st3).size-2]?=some p:=⟨_,getElem?_pos _ _ (by omega)⟩
      rw[eq]
      dsimp -zeta -zetaHave only
      split
      ·exact wpS_pure ⟨rfl,S3,e3⟩
      ·exact wpS_bind (oq h0 S3 (show(pendingOf st3).size-2+1<(pendingOf st3).size from by have:(pendingOf st3).size > 1:=big;omega) fun st4 S4 _ e4=>wpS_pure ⟨rfl,S4,e4.trans e3⟩)
     ·rw[if_neg big]
      exact wpS_pure ⟨rfl,S3,e3⟩
    case ppost =>
     rintro c st3 ⟨rfl,S3,e3⟩
     walk_at "st"
     walk_at "l1"
     refine wpS_bind (wpS_modify (hj _ ⟨S3.perm,S3.kind,S3.failed,?_,S3.le⟩ e3))
     refine Rn.like ?_ S3.rn
     show _=List.map _ ((pendingOf st3).modify _ _).toList
     rw[Array.toList_modify]
     refine LI fun i=>?_
     rw[JR,JR,List.getElem?_modify]
     cases (pendingOf st3).toList[i]? with
     |none=>rfl
     |some p =>
      show some (p.1,p.2.1)=some ((if _=i then _ else p).1,(if _=i then _ else p).2.1)
      split<;>rfl
  clear ej
  by_cases c:m<mr
  ·refine aI c ?_
   refine wpS_bind (wpS_lift (wpAny_rule ⟨rfl,?_⟩))
   refine wpS_bind (FO (hS'.keys h0) (by rw[sz];omega) (by omega) hB1 hs1 fun st2 hB2 hs2=>?_)
   exact hj _ st2 hB2 (by omega) (by omega) hs2
  ·refine aG c ?_
   exact hj m st1 hB1 m1 (by omega) hs1
 case post =>
  rintro c st' ⟨rfl,hS'⟩
  walk_at "st"
  walk_at "l1"
  have pl:(pendingOf st').size<=a₀.size:=by
   have:=hS'.rn.le
   rw[KZ]at this
   omega
  refine wpS_bind (wpS_mono (wpS_forRange (I:=fun x c st3=>c=(none,())/\SI a₀ a₀.size st3/\((pendingOf st3).size<=1∨(pendingOf st3).size+x<=a₀.size)) (Q:=fun c st3=>c=(none,())/\SI a₀ a₀.size st3/\(pendingOf st3).size<=1) ?fstep ?ffin ⟨rfl,hS',.inr pl⟩) ?fpost)
  case ffin =>
   rintro c st3 ⟨rfl,S3,g⟩
   exact⟨rfl,S3,by omega⟩
  case fpost =>
   rintro c st3 ⟨rfl,S3,g⟩
   refine wpS_pure (h st3 S3.perm S3.failed ?_)
   have rn:=S3.rn
   have sz:=S3.size
   have ll:(arrOf st3).toList.length=(arrOf st3).size:=by simp
   have tl:(pendingOf st3).toList.length=(pendingOf st3).size:=by simp
   match e:(pendingOf st3).toList with
   |[] =>
    rw[e]at rn
    have rn':0=a₀.size:=rn
    rw[List.eq_nil_of_length_eq_zero (show(arrOf st3).toList.length=0 by omega)]
    exact Nq
   |[p] =>
    rw[e]at rn
    obtain⟨r1,_,r3,r4⟩:=rn
    have r4':0+p.2.1=a₀.size:=r4
    rw[r1,MP,Kz (by omega)]at r3
    exact r3
   |p::q::t =>
    rw[e]at tl
    simp only[Kt]at tl
    omega
  case fstep =>
   rintro x c st3 _ hx ⟨rfl,S3,g⟩
   refine wpS_bind (wpS_get ?_)
   by_cases z:((sortPriv% PySem.Builtin.SortState.pending) st3).size<=1
   ·refine aI z ?_
    exact wpS_pure ⟨rfl,S3,z⟩
   refine aG z ?_
   refine wpS_bind (oq h0 S3 (ite_lt _ z) fun st4 S4 p4 _=>wpS_pure ⟨rfl,S4,?_⟩)
   have z':¬ (pendingOf st3).size<=1:=z
   omega
end PyProof.RowsP
namespace L2
open PySem PySem.Spec PyProof.Rows
section
variable{prog:Program}{w:World}{A:Around}{E:Value->Shared->Prop}{s:Shared}{d:Addr}
theorem xZ{a:Addr}{Q:Option Obj->Shared->Prop}(h:Q (s.heap.get? a) s):wpAny (model prog w) A (loadIfAlive a) Q E s:=fun Γ p hΓ=>by
 show Sem.wp _ _ (.loadIfAlive a _) _ _ _ _
 rw[Sem.wp_loadIfAlive]
 exact(wpAny_pure (M:=model prog w) (A:=A) (E:=E) h) Γ p hΓ
def ItAt(h:Heap)(it d:Addr)(i n ep:Nat):Prop:=∃ f0 f1 x6 x7,h.get? it=some { cls:=.type "dict_itemiterator",dict:=none,data:=.fields #[f0,f1,.ref d,.int i 0,.int n 0,.int ep 0,x6,x7],slots:=#[] }/\((f0=.none/\f1=.bool false)∨∃(a:Addr)(o:Obj),f0=rawInt a/\h.get? a=some o/\a≠it)
theorem ItAt.keep{h h':Heap}{it:Addr}{i n ep:Nat}(x:ItAt h it d i n ep)(hit:∀ o,h.get? it=some o->h'.get? it=some o)(k:∀ b o,b≠it->h.get? b=some o->∃ o',h'.get? b=some o'):ItAt h' it d i n ep:=by
 obtain⟨f0,f1,x6,x7,e,c⟩:=x
 refine⟨f0,f1,x6,x7,hit _ e,?_⟩
 rcases c with c | ⟨a,o,c1,c2,c3⟩
 ·exact .inl c
 ·obtain⟨o',q⟩:=k a o c3 c2
  exact .inr ⟨a,o',c1,q,c3⟩
theorem EF{it:Addr}{i ep:Nat}{es:Array DictEntry}{Q:Option Value->Shared->Prop}(hit:ItAt s.heap it d i es.size ep)(hm:Ent s.heap d es ep)(hh:A.handled=none)
  (hI:∀ e,es[i]?=some e->∀ h',ItAt h' it d (i+1) es.size ep->h'.get? s.heap.objs.size=some { cls:=.type "tuple",data:=.seq #[e.key,e.val] }->(∀ b o,b≠it->s.heap.get? b=some o->h'.get? b=some o)->Q (some (.ref s.heap.objs.size)) { s with heap:=h' })
  (hE:es[i]?=none->∀ h',Heap.ExtBut it s.heap h'->Q none { s with heap:=h' }):wpAny (model prog w) A (pyNext (.ref it)) Q E s:=by
 obtain⟨f0,f1,ok,ov,hit,c⟩:=hit
 rcases c with⟨rfl,rfl⟩ | ⟨a,oa,rfl,hoa,hai⟩
 ·refine o7 (ok:=ok) (ov:=ov) hit hm hh (fun e he h' q1 q2 q3=>hI e he h' ⟨_,_,_,_,q1,.inr ⟨s.heap.objs.size,_,rfl,q2,?_⟩⟩ q2 q3) hE
  exact Lc (Heap.lt_size hit)
 obtain⟨o,e1,e2,e3⟩:=hm
 have hT:s.TypeIs (.ref it) "dict_itemiterator":=⟨_,hit,rfl⟩
 have own:Builtin.Dict_items.ownsTuple "dict_itemiterator" = true:=by decide
 unfold pyNext
 refine wpAny_bind (wpAny_attempt (wpAny_callSpecial?_slot (name:=Str.ofString "__next__") hT F.slot_dict_itemiterator_next (wpAny_call_entry F.slot_dict_itemiterator_next hT F.entry_dict_itemiterator_next ?_ (F.args_dict_itemiterator_next_1 _))))
 refine wpAny_bind (wpAny_pure (wpAny_bind (wpAny_bind (wpAny_bind (wpAny_typeNameOfWhole_itemiter hT (wpAny_pure ?_))))))
 refine wpAny_bind (wpAny_fieldsOf hit rfl ?_)
 simp only[own,if_true]
 show wpAny _ _ (if(Value.ref d == Value.none)=true then _ else _) _ _ _
 rw[if_neg (show ¬ ((Value.ref d == Value.none)=true) from Ka)]
 refine wpAny_bind (wpAny_pure (wpAny_bind (wpAny_dictEntries e1 e3 ?_)))
 rw[if_neg (by simp)]
 refine wpAny_bind (wpAny_pure (wpAny_bind (wpAny_dictEpoch e1 e3 ?_)))
 rw[if_neg (by simp)]
 refine wpAny_pure ?_
 have n0:¬ ((i:Int)<0):=by omega
 simp only[n0,if_false,Kq]
 cases he:es[i]? with
 |none =>
  refine wpAny_bind (wpAny_bind (wpAny_typeNameOfWhole_itemiter hT (wpAny_pure ?_)))
  show wpAny _ _ (setField (.ref it) 2 .none >>= _) _ _ s
  refine wpAny_bind (wpAny_setField hit rfl (by simp) ?_)
  show wpAny _ _ (newExc (.type "StopIteration") [] >>= _) _ _ _
  refine wpAny_bind ?_
  simp only[newExc,newTuple]
  refine wpAny_bind (wpAny_newObj_type (wpAny_bind (m:=firstArgMember _ _) (wpAny_of_eq (a:=Value.none) (by first | rfl | (simp only[firstArgMember];rfl)) (wpAny_newObj_type ?_ (by size_fits)))) (by size_fits))
  simp only[raiseNew]
  refine wpAny_bind (wpAny_handled ?_)
  rw[show A.in1.handled=none from hh]
  refine wpAny_bind (wpAny_pure (wpAny_throw ?_))
  refine wpAny_bind (wpAny_isInstance (T:="StopIteration") (b:=true) ⟨_,Heap.get?_push_size _ rfl,rfl⟩ isSubtype_stop (wpAny_pure ?_))
  exact hE he _ (((Heap.SameBut.update ..).extBut.push _).push _)
 |some e =>
  refine wpAny_bind (wpAny_bind (wpAny_typeNameOfWhole_itemiter hT (wpAny_pure ?_)))
  refine wpAny_bind (wpAny_isOneOf_itemiter hT ?_)
  show wpAny _ _ (setField (.ref it) 3 (rawInt ((i:Int)+1)) >>= _) _ _ s
  refine wpAny_bind (wpAny_setField_rec hit (by simp) fun g1 q1 k1=>?_)
  have c1:((i+1:Nat):Int)=(i:Int)+1:=by omega
  have q1':g1.get? it=some { cls:=.type "dict_itemiterator",dict:=none,data:=.fields #[rawInt a,f1,.ref d,.int ((i+1:Nat):Int) 0,.int es.size 0,.int ep 0,ok,ov],slots:=#[] }:=by
   rw[c1]
   simpa[rawInt] using q1
  have lt:it<s.heap.objs.size:=Heap.lt_size hit
  have z1:g1.objs.size=s.heap.objs.size:=k1.1
  have hT1:Shared.TypeIs { s with heap:=g1 } (.ref it) "dict_itemiterator":=⟨_,q1',rfl⟩
  refine wpAny_bind (wpAny_holding (wpAny_bind (wpAny_isOneOf_itemiter hT1 (wpAny_bind (wpAny_isOneOf_itemiter hT1 ?_)))))
  show wpAny _ _ (Builtin.Dict_items.pairFromOwner (.ref it) 6 e.key e.val) _ _ { s with heap:=g1 }
  unfold Builtin.Dict_items.pairFromOwner Builtin.Dict_items.ownedTupleIsFree
  refine wpAny_bind (wpAny_newTuple ?_)
  have q2:(g1.push { cls:=.type "tuple",data:=.seq #[e.key,e.val] }).get? it=some { cls:=.type "dict_itemiterator",dict:=none,data:=.fields #[rawInt a,f1,.ref d,.int ((i+1:Nat):Int) 0,.int es.size 0,.int ep 0,ok,ov],slots:=#[] }:=Heap.get?_push_of_some _ q1'
  have t2:(g1.push { cls:=.type "tuple",data:=.seq #[e.key,e.val] }).get? s.heap.objs.size=some { cls:=.type "tuple",data:=.seq #[e.key,e.val] }:=by rw[← z1];exact Heap.get?_push_size _ rfl
  have k2:∀ b o,b≠it->s.heap.get? b=some o->(g1.push { cls:=.type "tuple",data:=.seq #[e.key,e.val] }).get? b=some o:=fun b o hb q=>Heap.get?_push_of_some _ (k1.extBut b o hb q)
  rw[z1]
  generalize g1.push { cls:=.type "tuple",data:=.seq #[e.key,e.val] }=g2 at q2 t2 k2
  show wpAny _ _ (_ >>= _) _ _ { s with heap:=g2 }
  have al:g2.get? ((a:Int).toNat)=some oa:=by rw[Kq];exact k2 a oa hai hoa
  refine wpAny_bind (wpAny_bind (wpAny_field q2 rfl (x:=rawInt a) rfl ?_))
  show wpAny _ _ (loadIfAlive ((a:Int).toNat) >>= _) _ _ { s with heap:=g2 }
  refine wpAny_bind (xZ ?_)
  show wpAny _ _ (if((g2.get? ((a:Int).toNat)).isNone)=true then _ else _) _ _ _
  rw[al,if_neg (show ¬ (some oa).isNone=true from Ka)]
  have last:∀ g3,g3.get? it=some { cls:=.type "dict_itemiterator",dict:=none,data:=.fields #[rawInt a,.bool true,.ref d,.int ((i+1:Nat):Int) 0,.int es.size 0,.int ep 0,ok,ov],slots:=#[] }->(∀ b o,b≠it->g2.get? b=some o->g3.get? b=some o)->Q (some (.ref s.heap.objs.size)) { s with heap:=g3 }:=fun g3 q3 k3 =>
   hI e he g3 ⟨_,_,_,_,q3,.inr ⟨a,oa,rfl,k3 a oa hai (k2 a oa hai hoa),hai⟩⟩ (k3 _ _ (Lc lt) t2) fun b o hb q=>k3 b o hb (k2 b o hb q)
  refine wpAny_bind (wpAny_field q2 rfl (x:=f1) rfl ?_)
  by_cases hf:f1=.bool true
  ·rw[if_neg (by rw[hf];decide)]
   refine wpAny_pure ?_
   subst hf
   exact wpAny_pure (wpAny_pure ⟨_,rfl,wpAny_pure (last g2 q2 fun b o _ q=>q)⟩)
  ·rw[if_pos (by simpa using hf)]
   refine wpAny_bind (wpAny_setField_rec q2 (by simp) fun g3 q3 k3=>?_)
   exact wpAny_pure (wpAny_pure (wpAny_pure ⟨_,rfl,wpAny_pure (last g3 q3 fun b o hb q=>k3.extBut b o hb q)⟩))
def xK(h₀ h:Heap)(es:Array DictEntry)(acc:Array Value)(i:Nat):Prop:=acc.size=i/\∀(j:Nat)(v:Value),acc[j]?=some v->∃(t:Addr)(e:DictEntry),v=.ref t/\es[j]?=some e/\h₀.objs.size<=t/\h.get? t=some { cls:=.type "tuple",data:=.seq #[e.key,e.val] }
def qH(acc:Array Value):Prop:=acc.toList.Nodup
theorem E4{S it:Addr}{es:Array DictEntry}{ep:Nat}{res:Value}{R:Result->Shared->Prop}{h₀:Heap}(hh:A.handled=none)(hn:es.size<=sizeLine)(hSi:S≠it)(hSd:S≠d)(hdi:d≠it) :
  ∀(k i:Nat)(s:Shared)(acc:Array Value)(c:Nat),es.size-i=k->i<=es.size->ItAt s.heap it d i es.size ep->Ent s.heap d es ep->s.heap.get? S=some { cls:=.type "list",dict:=none,data:=.seq acc c,slots:=#[] }->xK h₀ s.heap es acc i->qH acc->h₀.objs.size<=s.heap.objs.size ->
  (∀ h' acc' c',(∀ b o,b≠S->b≠it->s.heap.get? b=some o->h'.get? b=some o)->h'.get? S=some { cls:=.type "list",dict:=none,data:=.seq acc' c',slots:=#[] }->xK h₀ h' es acc' es.size->qH acc'->R (.ok (.ret res)) { s with heap:=h' }) ->
  codeAny (model prog w) A (.builtin "list.extend.loop" ⟨[.ref S,.ref it,res],[]⟩) R s:=by
 intro k
 induction k with
 |zero =>
  intro i s acc c hk hi hst hm hS hacc hap hsz hR
  have hin:i=es.size:=by omega
  subst hin
  refine codeAny_builtin F.entry_extend_loop ?_
  rw[Around.under_plainId F.plain_extend_loop _]
  show wpAny _ A.in1 (pyNext (.ref it) >>= _) _ _ s
  refine wpAny_bind (EF hst hm hh (fun e he=>?_) fun _ h' q=>?_)
  ·rw[Array.getElem?_eq_none (JQ _)]at he
   cases he
  ·refine wpAny_pure (hR h' acc c (fun b o _ hb e=>q b o hb e) (q S _ hSi hS) ⟨hacc.1,fun j v hj=>?_⟩ hap)
   obtain⟨t,e,a1,a2,a3,a4⟩:=hacc.2 j v hj
   refine⟨t,e,a1,a2,a3,q t _ (fun z=>?_) a4⟩
   obtain⟨_,_,_,_,z2,_⟩:=hst
   rw[z,z2]at a4
   exact absurd (congrArg Obj.cls (JZ a4)) (by intro z;exact absurd (Value.type.inj z) (by decide))
 |succ k ih =>
  intro i s acc c hk hi hst hm hS hacc hap hsz hR
  refine codeAny_builtin F.entry_extend_loop ?_
  rw[Around.under_plainId F.plain_extend_loop _]
  show wpAny _ A.in1 (pyNext (.ref it) >>= _) _ _ s
  refine wpAny_bind (EF hst hm hh (fun e he h' q1 q2 q3=>?_) fun he=>absurd he (by rw[NP (show i<es.size by omega)];intro z;cases z))
  have hS':=q3 S _ hSi hS
  have lt:it<s.heap.objs.size:=by obtain⟨_,_,_,_,z,_⟩:=hst;exact Heap.lt_size z
  have hSlt:=Heap.lt_size hS
  show wpAny _ A.in1 (updateSeq S (·.push (.ref s.heap.objs.size)) >>= _) _ _ _
  refine wpAny_bind ?_
  have noS:∀ b,b≠S->∀ o,h'.get? b=some o->(h'.update S (Obj.mapSeq (·.push (.ref s.heap.objs.size)))).get? b=some o:=fun b hb o e=>(Heap.get?_update_other _ _ (Ne.symm hb)).trans e
  have tk:∀(h2:Heap),(∀ b o,b≠S->h'.get? b=some o->h2.get? b=some o)->xK h₀ h2 es (acc.push (.ref s.heap.objs.size)) (i+1):=fun h2 k2=>by
   refine⟨by rw[Array.size_push,hacc.1],fun j v hj=>?_⟩
   rw[Array.getElem?_push]at hj
   split at hj
   ·rename_i ej
    cases hj
    rw[hacc.1]at ej
    subst ej
    refine⟨s.heap.objs.size,e,rfl,he,hsz,k2 _ _ (Lc hSlt) q2⟩
   ·obtain⟨t,e',a1,a2,a3,a4⟩:=hacc.2 j v hj
    have ti:t≠it:=fun z=>by
     obtain⟨_,_,_,_,z2,_⟩:=hst
     rw[z,z2]at a4
     exact absurd (congrArg Obj.cls (JZ a4)) (by intro z;exact absurd (Value.type.inj z) (by decide))
    refine⟨t,e',a1,a2,a3,k2 t _ (fun z=>?_) (q3 t _ ti a4)⟩
    rw[z,hS]at a4
    exact absurd (congrArg Obj.cls (JZ a4)) (by intro z;exact absurd (Value.type.inj z) (by decide))
  have ap:qH (acc.push (.ref s.heap.objs.size)):=by
   unfold qH
   rw[LJ]
   refine Kg.mpr ⟨hap,by simp,fun a ha b hb e=>?_⟩
   rw[Kj.mp hb]at e
   subst e
   obtain⟨j,hj⟩:=K9 ha
   obtain⟨t,e',a1,_,_,a4⟩:=hacc.2 j _ (by rw[← Lo];exact hj)
   cases a1
   exact La _ (Heap.lt_size a4)
  refine wpAny_updateSeq hS' rfl (wpAny_pure ⟨plainId_quiet F.plain_extend_loop _,ih (i+1) _ (acc.push (.ref s.heap.objs.size)) _ (by omega) (by omega) ?_ ?_ (Heap.get?_update_self _ hS' rfl) (tk _ fun b o hb e=>noS b hb o e) ap ?_ fun h'' acc' c' m1 m2 m3 m4=>?_⟩)
   (by rw[hacc.1];omega) (by show(acc.push _).size<=sizeLine+1;rw[Array.size_push,hacc.1];omega)
  ·exact q1.keep (fun o e=>noS it (Ne.symm hSi) o e) fun b o _ e=>by
    by_cases z:b=S
    ·rw[z];exact⟨_,Heap.get?_update_self _ hS' rfl⟩
    ·exact⟨o,noS b z o e⟩
  ·obtain⟨o,a1,a2,a3⟩:=hm
   exact⟨o,noS d (Ne.symm hSd) o (q3 d o hdi a1),a2,a3⟩
  ·show h₀.objs.size<=(h'.update _ _).objs.size
   rw[Heap.size_update]
   exact KR hsz (K2 (Heap.lt_size q2))
  ·exact hR h'' acc' c' (fun b o hb hi' e=>m1 b o hb hi' (noS b hb o (q3 b o hi' e))) m2 m3 m4
theorem Cw{r:Addr}{Q:Bool->Shared->Prop} (hT:s.TypeIs (.ref r) "dict_items") (h:Q false s):wpAny (model prog w) A (Builtin.List.listLengthHint (.ref r)) Q E s:=by
 unfold Builtin.List.listLengthHint
 refine wpAny_bind (wpAny_specialOf hT PySem.F.slot_dict_items_len.lookup ?_)
 generalize hid:("dict_items.__len__" : String)=id0
 wp_delta
 rw[show splitId id0=some ("dict_items","__len__") from by subst hid;decide +kernel]
 subst hid
 refine wpAny_bind (wpAny_isInstance (T:="dict_items") (b:=true) hT (by rw[isSubtype_type];kernel_rfl) ?_)
 refine wpAny_ite_split (fun hab=>absurd hab (by decide)) (fun _=>?_)
 refine wpAny_ite_split (fun _=>?_) (fun hab=>absurd (by decide +kernel) hab)
 refine wpAny_bind (wpAny_typeOf hT ?_)
 exact wpAny_pure h
theorem uv{r:Addr}{es:Array DictEntry}{ep:Nat}{Q:List Value->Shared->Prop}(hh:A.handled=none)(hv:s.heap.IsItemsView r d)(hm:Ent s.heap d es ep)(hn:es.size<=sizeLine)
  (h:∀ h' acc',(∀ b o,s.heap.get? b=some o->h'.get? b=some o)->s.heap.objs.size<h'.objs.size->xK s.heap h' es acc' es.size->qH acc'->Q acc'.toList { s with heap:=h' }):wpAny (model prog w) A (collect (.ref r)) Q E s:=by
 unfold collect
 refine wpAny_bind (wpAny_runValue (codeAny_builtin entry_proto_collect' ?_))
 show wpAny _ _ (do again (.builtin "list.__iadd__" ⟨[← newList [],.ref r],[]⟩)) _ _ s
 refine wpAny_bind (wpAny_newList (wpAny_pure ⟨Code.quiet_builtin _ (by decide +kernel),codeAny_builtin entry_list_iadd' ?_⟩))
 rw[Around.under_plainId PySem.F.plain_list_iadd _]
 show wpAny _ A.in1 (Builtin.List.listExtendWith (.ref s.heap.objs.size) (.ref r) (.ref s.heap.objs.size)) _ _ { s with heap:=s.heap.push (seqObj "list" #[] 0) }
 obtain⟨ov,hv1,hv2,hv3⟩:=id hv
 obtain⟨od,hd1,hd2,hd3⟩:=id hm
 have rl:r<s.heap.objs.size:=Heap.lt_size hv1
 have dl:d<s.heap.objs.size:=Heap.lt_size hd1
 have hvp:(s.heap.push (seqObj "list" #[] 0)).IsItemsView r d:=⟨ov,Heap.get?_push_of_some _ hv1,hv2,hv3⟩
 have hmp:Ent (s.heap.push (seqObj "list" #[] 0)) d es ep:=⟨od,Heap.get?_push_of_some _ hd1,hd2,hd3⟩
 have hS:(s.heap.push (seqObj "list" #[] 0)).get? s.heap.objs.size=some { cls:=.type "list",dict:=none,data:=.seq #[] 0,slots:=#[] }:=Heap.get?_push_size _ rfl
 unfold Builtin.List.listExtendWith
 refine wpAny_bind (wpAny_typeOf (T:="dict_items") hvp.typeIs ?_)
 have h1:Builtin.List.listSameRef (.ref s.heap.objs.size) (.ref r)=false:=by simp[Builtin.List.listSameRef,Lc rl]
 have nl:(Value.type "dict_items" == Value.type "list")=false:=by decide
 have nt:(Value.type "dict_items" == Value.type "tuple")=false:=by decide
 simp only[h1,nl,nt,M4,K1,if_false]
 refine wpAny_bind (t9 hvp hmp ?_)
 rw[Heap.size_push]
 have key:∀(g:Heap)(c₁ tk:Nat),ItAt g (s.heap.objs.size+1) d 0 es.size ep->(∀ b o,b≠s.heap.objs.size->s.heap.get? b=some o->g.get? b=some o)->s.heap.objs.size<=g.objs.size ->
   g.get? s.heap.objs.size=some { cls:=.type "list",dict:=none,data:=.seq #[] c₁,slots:=#[] }->codeAny (model prog w) A (.builtin "list.extend.loop" ⟨[.ref s.heap.objs.size,.ref (s.heap.objs.size+1),.ref s.heap.objs.size],[]⟩)
    (fun r s'=>∃ h' acc' c',r=.ok (.ret (.ref s.heap.objs.size))/\s'={ s with heap:=h',toks:=tk }/\(∀ b o,s.heap.get? b=some o->h'.get? b=some o)/\h'.get? s.heap.objs.size=some { cls:=.type "list",dict:=none,data:=.seq acc' c',slots:=#[] }/\xK s.heap h' es acc' es.size/\qH acc') { s with heap:=g,toks:=tk }:=fun g c₁ tk q1 q2 q3 q4=>by
  refine E4 (h₀:=s.heap) hh hn (Kp (Lq _)) (Lc dl) (Kp (Lw dl)) es.size 0 _ #[] c₁ (Nat.sub_zero _) (K4 _) q1 ⟨od,q2 d od (Kp dl) hd1,hd2,hd3⟩ q4 ⟨rfl,fun j v e=>by simp at e⟩ (by unfold qH;simp) q3 fun h' acc' c' m1 m2 m3 m4=>?_
  exact⟨h',acc',c',rfl,rfl,fun b o e=>m1 b o (Kp (Heap.lt_size e)) (Kp (Lw (Heap.lt_size e))) (q2 b o (Kp (Heap.lt_size e)) e),m2,m3,m4⟩
 have hS₁:=Heap.get?_push_of_some { cls:=.type "dict_itemiterator",data:=.fields #[.none,.bool false,.ref d,.int 0 0,.int es.size 0,.int ep 0,.none,.none] } hS
 have it0:ItAt ((s.heap.push (seqObj "list" #[] 0)).push { cls:=.type "dict_itemiterator",data:=.fields #[.none,.bool false,.ref d,.int 0 0,.int es.size 0,.int ep 0,.none,.none] }) (s.heap.objs.size+1) d 0 es.size ep :=
  ⟨_,_,_,_,by have:=Heap.get?_push_size (s.heap.push (seqObj "list" #[] 0)) (o:={ cls:=.type "dict_itemiterator",data:=.fields #[.none,.bool false,.ref d,.int 0 0,.int es.size 0,.int ep 0,.none,.none] }) rfl;rw[Heap.size_push]at this;exact this,.inl ⟨rfl,rfl⟩⟩
 have old:∀ b o,s.heap.get? b=some o->((s.heap.push (seqObj "list" #[] 0)).push { cls:=.type "dict_itemiterator",data:=.fields #[.none,.bool false,.ref d,.int 0 0,.int es.size 0,.int ep 0,.none,.none] }).get? b=some o:=fun b o e=>Heap.get?_push_of_some _ (Heap.get?_push_of_some _ e)
 have big:s.heap.objs.size<=((s.heap.push (seqObj "list" #[] 0)).push { cls:=.type "dict_itemiterator",data:=.fields #[.none,.bool false,.ref d,.int 0 0,.int es.size 0,.int ep 0,.none,.none] }).objs.size:=by rw[Heap.size_push,Heap.size_push];exact Ma (Mj _)
 have hvq:(⟨(s.heap.push (seqObj "list" #[] 0)).push { cls:=.type "dict_itemiterator",data:=.fields #[.none,.bool false,.ref d,.int 0 0,.int es.size 0,.int ep 0,.none,.none] },s.gens,s.drawn,s.toks,s.os⟩:Shared).TypeIs (.ref r) "dict_items":=⟨ov,old _ _ hv1,hv2⟩
 generalize (s.heap.push (seqObj "list" #[] 0)).push { cls:=.type "dict_itemiterator",data:=.fields #[.none,.bool false,.ref d,.int 0 0,.int es.size 0,.int ep 0,.none,.none] }=g0 at hS₁ it0 old big hvq
 have fin:∀{W:Result->Shared->Prop}{tk:Nat},(∀ h' acc' c',(∀ b o,s.heap.get? b=some o->h'.get? b=some o)->h'.get? s.heap.objs.size=some { cls:=.type "list",dict:=none,data:=.seq acc' c',slots:=#[] }->xK s.heap h' es acc' es.size->qH acc'->W (.ok (.ret (.ref s.heap.objs.size))) { s with heap:=h',toks:=tk })->∀ r s',(∃ h' acc' c',r=.ok (.ret (.ref s.heap.objs.size))/\s'={ s with heap:=h',toks:=tk }/\(∀ b o,s.heap.get? b=some o->h'.get? b=some o)/\h'.get? s.heap.objs.size=some { cls:=.type "list",dict:=none,data:=.seq acc' c',slots:=#[] }/\xK s.heap h' es acc' es.size/\qH acc')->W r s':=fun hW r s' ⟨h',acc',c',e1,e2,e3,e4,e5,e6⟩=>by
  subst e1 e2
  exact hW h' acc' c' e3 e4 e5 e6
 have ended:∀ h' acc' c',(∀ b o,s.heap.get? b=some o->h'.get? b=some o)->h'.get? s.heap.objs.size=some { cls:=.type "list",dict:=none,data:=.seq acc' c',slots:=#[] }->xK s.heap h' es acc' es.size->qH acc'->wpAny (model prog w) A (do
   let o ← load s.heap.objs.size
   match o.data with
   |.seq xs _=>pure xs.toList
   |_=>unsupported "internal:collect") Q E { s with heap:=h' }:=fun h' acc' c' e3 e4 e5 e6=>by
  refine wpAny_bind (wpAny_load e4 ?_)
  exact wpAny_pure (h h' acc' e3 (Heap.lt_size e4) e5 e6)
 refine wpAny_bind (wpAny_holding (Cw hvq ?_))
 refine wpAny_ite_split (fun _=>?_) (fun _=>wpAny_pure ⟨plainId_quiet NJ _,codeAny_mono (key g0 _ s.toks it0 (fun b o _ e=>old b o e) big hS₁) (fin ended)⟩)
 refine wpAny_bind (wpAny_rule ?_)
 refine wpAny_bind ?_
 show wpAny _ _ (updateSeq s.heap.objs.size (·.push .none) >>= fun _=>updateSeq s.heap.objs.size (·.pop)) _ _ _
 refine wpAny_bind (wpAny_updateSeq hS₁ rfl ?_)
 have hS₂:=Heap.get?_update_self (Obj.mapSeq (·.push Value.none)) hS₁ rfl
 refine wpAny_updateSeq (hz:=by seq_fits) hS₂ rfl ?_
 have hS₃:=Heap.get?_update_self (Obj.mapSeq (·.pop)) hS₂ rfl
 have ne:∀ b,b≠s.heap.objs.size->∀ o,g0.get? b=some o->((g0.update s.heap.objs.size (Obj.mapSeq (·.push Value.none))).update s.heap.objs.size (Obj.mapSeq (·.pop))).get? b=some o:=fun b hb o e=>(Heap.get?_update_other _ _ (Ne.symm hb)).trans ((Heap.get?_update_other _ _ (Ne.symm hb)).trans e)
 refine wpAny_pure ⟨plainId_quiet NJ _,codeAny_mono (key _ _ s.toks (it0.keep (fun o e=>ne _ (Lc (Lq _)) o e) fun b o _ e=>?_) (fun b o hb e=>ne b hb o (old b o e)) (by rw[Heap.size_update,Heap.size_update];exact big) hS₃) (fin ended)⟩
 by_cases z:b=s.heap.objs.size
 ·rw[z];exact⟨_,hS₃⟩
 ·exact⟨o,ne b z o e⟩
end
section
open PySem.W
variable{prog:Program}{w:World}{A:Around}{E:Value->Shared->Prop}{s:Shared}
def cX(h:Heap):Value->Int
 |.ref a=>match h.get? a with
  |some o=>match o.data with
   |.seq xs _=>match(xs[0]? : Option Value) with
    |some (.int x _)=>x
    |_=>0
   |_=>0
  |none=>0
 |_=>0
theorem kE{h:Heap}{a:Addr}{o:Obj}{n:Nat}{x y:Int}{tx ty:Tok}(h1:h.get? a=some o)(h3:o.data=.seq #[.int x tx,.int y ty] n):cX h (.ref a)=x:=by
 unfold cX
 simp only[h1,h3]
 rfl
theorem IH{u v:Value}{Q:Bool->Shared->Prop}(hu:PrV s.heap u)(hv:PrV s.heap v)(hd:cX s.heap u=cX s.heap v->u=v)(h:Q (decide (cX s.heap u<cX s.heap v)) s):wpAny (model prog w) A (keyLt' (tuples' true) u v) Q E s:=by
 obtain⟨a,o,n,x,y,tx,ty,rfl,h1,h2,h3⟩:=hu
 obtain⟨a',o',n',x',y',tx',ty',rfl,k1,k2,k3⟩:=hv
 rw[kE h1 h3,kE k1 k3]at h hd
 refine kat_lt h1 h3 k1 k3 ?_
 refine kat_cons (wpAny_eqBool_int ?_)
 refine kat_go (fun e=>?_) fun _=>kat_no (oneLt_int h)
 have e':x=x':=by simpa using e
 have:=hd e'
 cases this
 rw[h1]at k1
 cases k1
 rw[h3]at k3
 cases k3
 have hf:decide (x<x)=false:=decide_eq_false (Int.lt_irrefl _)
 rw[hf]at h
 refine kat_yes (kat_cons (wpAny_eqBool_int (kat_go (fun _=>kat_yes (kat_nil h)) fun z=>?_)))
 simp at z
theorem Cp{vs:List Value}{h6:Heap}(hs:s.heap=h6)(hp:∀ v∈vs,PrV h6 v)(hd:∀ u∈vs,∀ v∈vs,cX h6 u=cX h6 v->u=v):@PyProof.RowsP.LtOk prog w A E s ⟨cX h6,fun v=>v∈vs,tuples' true⟩:=by
 subst hs
 refine @PyProof.RowsP.LtOk.mk prog w A E s ⟨cX s.heap,fun v=>v∈vs,tuples' true⟩ ?_
 intro st x y Q hk hx hy h
 have hx':x.1∈vs:=hx
 have hy':y.1∈vs:=hy
 show wpS (model prog w) A E s (lt' x y) Q st
 rw[lt'_eq]
 refine wpS_bind (wpS_get ?_)
 have hk':kindOf st=tuples' true:=hk
 rw[hk']
 refine wpS_bind (wpS_lift (wpAny_attempt (IH (hp _ hx') (hp _ hy') (hd _ hx' _ hy') ⟨rfl,?_⟩)))
 exact wpS_pure h
theorem ye{a:Addr}{vs:List Value}{n:Nat}{P:PySem.Fin->Shared->Prop} (ho:s.heap.get? a=some (seqObj "list" vs.toArray n)) (hp:∀ v∈vs,PrV s.heap v) (hd:∀ u∈vs,∀ v∈vs,cX s.heap u=cX s.heap v->u=v) (line:vs.length<=sizeLine)
  (h:∀ out:List Value,out.Perm vs->out.Pairwise (fun u v=>cX s.heap u<=cX s.heap v)->P (.done (.ret .none)) { s with heap:=sortedHeap s.heap a vs out.toArray }):wpAny (model prog w) A (Builtin.«list.sort» ⟨[.ref a],[]⟩) P E s:=by
 have ha:a<s.heap.objs.size:=Heap.lt_size ho
 obtain⟨e1,ho1⟩:∃ e1,(s.heap.update a (Obj.mapSeq fun _=>(#[]:Array Value))).get? a=some (seqObj "list" #[] e1):=⟨_,get?_update_seq ho fun _=>#[]⟩
 have ho6:(((s.heap.update a (Obj.mapSeq fun _=>(#[]:Array Value))).push (seqObj "tuple" vs.toArray 0)).push (seqObj "list" #[] 0)).get? a=some (seqObj "list" #[] e1):=Heap.get?_push_of_some _ (Heap.get?_push_of_some _ ho1)
 have keep6:∀ v∈vs,∀ b o,v=.ref b->s.heap.get? b=some o->(((s.heap.update a (Obj.mapSeq fun _=>(#[]:Array Value))).push (seqObj "tuple" vs.toArray 0)).push (seqObj "list" #[] 0)).get? b=some o:=fun v hv b o eb e=>by
  have pv:=hp v hv
  refine Heap.get?_push_of_some _ (Heap.get?_push_of_some _ ?_)
  have nb:b≠a:=fun z=>by
   obtain⟨a',o',n',x,y,tx,ty,rfl,k1,k2,_⟩:=pv
   cases eb
   rw[z,ho]at k1
   cases k1
   exact absurd k2 (by intro z2;have:=Value.type.inj z2;exact absurd this (by decide))
  rw[Heap.get?_update_ne _ _ _ _ nb]
  exact e
 have hp6:∀ v∈vs,PrV (((s.heap.update a (Obj.mapSeq fun _=>(#[]:Array Value))).push (seqObj "tuple" vs.toArray 0)).push (seqObj "list" #[] 0)) v:=fun v hv=>(hp v hv).keep fun b o eb e=>keep6 v hv b o eb e
 have hf6:∀ v∈vs,cX (((s.heap.update a (Obj.mapSeq fun _=>(#[]:Array Value))).push (seqObj "tuple" vs.toArray 0)).push (seqObj "list" #[] 0)) v=cX s.heap v:=fun v hv=>by
  obtain⟨b,o,m,x,y,tx,ty,rfl,k1,k2,k3⟩:=hp v hv
  rw[kE k1 k3,kE (keep6 _ hv b o rfl k1) k3]
 rw[list_sort_plain]
 refine wpAny_bind (listItems_at ho rfl (wpAny_bind (listUpdate_at ho rfl (wpAny_bind (seqEpoch_at ho1 rfl (wpAny_bind (wpAny_newTuple (wpAny_bind (wpAny_newList (wpAny_holding ?_) (K4 _))) line)))) (by rw[Ko];exact line) (K4 _))))
 show wpAny (model prog w) A _ P E { s with heap:=((s.heap.update a (Obj.mapSeq fun _=>(#[]:Array Value))).push (seqObj "tuple" vs.toArray 0)).push (seqObj "list" #[] 0) }
 have fin:∀ out:List Value,sortedHeap s.heap a vs out.toArray=(((s.heap.update a (Obj.mapSeq fun _=>(#[]:Array Value))).push (seqObj "tuple" vs.toArray 0)).push (seqObj "list" #[] 0)).update a (Obj.mapSeq fun _=>out.toArray):=fun _=>rfl
 generalize ((s.heap.update a (Obj.mapSeq fun _=>(#[]:Array Value))).push (seqObj "tuple" vs.toArray 0)).push (seqObj "list" #[] 0)=h6 at ho6 hp6 fin hf6
 dsimp only
 by_cases h2:vs.toArray.size<2
 ·rw[if_pos h2,if_pos h2]
  refine wpAny_bind (wpAny_pure ?_)
  rw[StateT.run_pure]
  refine wpAny_bind (wpAny_pure (wpAny_bind (seqEpoch_at ho6 rfl ?_)))
  dsimp only
  have eo:(arrOf (SortSt.mk' general' (vs.toArray.zip vs.toArray) #[] 7 none)).map (·.2)=vs.toArray:=by
   show(vs.toArray.zip vs.toArray).map (·.2)=vs.toArray
   apply Array.ext
   ·simp
   ·intro i h1 h2
    simp
  rw[eo]
  refine wpAny_bind (listUpdate_at ho6 rfl ?_ (K4 _) (by rw[Ko];exact Ma line))
  simp only[bne_self_eq_false,K1,if_false]
  refine wpAny_pure ?_
  have one:vs.Pairwise (fun u v=>cX s.heap u<=cX s.heap v):=by
   rw[Ko]at h2
   match vs,h2 with
   |[],_=>exact .nil
   |[_],_=>exact Mp _ _
  have:=h vs (MA _) one
  rw[fin]at this
  exact this
 ·rw[if_neg h2,if_neg h2]
  rw[Ko]at h2
  obtain⟨fs,f1,f2,f3⟩:=A0 (s:={ s with heap:=h6 }) (M:=model prog w) hp6
  refine wpAny_bind (kat_kind f1 (by omega) f3 (by decide) ?_)
  have flag:(Value.type "int" != Value.type "tuple")=true:=by decide
  rw[flag]
  letI KF:PyProof.RowsP.KeyFn:=⟨cX h6,fun v=>v∈vs,tuples' true⟩
  haveI LO:PyProof.RowsP.LtOk prog w A E { s with heap:=h6 }:=Cp rfl hp6 fun u hu v hv e=>hd u hu v hv (by rw[← hf6 u hu,← hf6 v hv];exact e)
  have run:=PyProof.RowsP.wpS_sortAll (prog:=prog) (w:=w) (A:=A) (E:=E) (s:={ s with heap:=h6 }) (a₀:=pairsOf vs) (st:=SortSt.mk' (tuples' true) (vs.toArray.zip vs.toArray) #[] 7 none)
   (Q:=fun _ st'=>(arrOf st').Perm (pairsOf vs)/\failedOf st'=none/\PyProof.RowsP.Upl (arrOf st').toList) (fun p hp'=>?_) ⟨Array.Perm.refl _,rfl,rfl,rfl,K4 _⟩ fun st' q1 q2 q3=>⟨q1,q2,q3⟩
  ·refine wpAny_bind (wpAny_mono run ?_ fun _ _ e=>e)
   rintro⟨⟨⟩,st'⟩ s' ⟨rfl,hpm,hf,hu⟩
   dsimp only
   have hl:(arrOf st').toList.Perm (vs.zip vs):=by rw[← pairsOf_toList];exact Mc.mp hpm
   have hmem:∀ p,p∈(arrOf st').toList->p.1=p.2/\p.1∈vs:=fun p hp'=>mem_zip_self (hl.mem_iff.mp hp')
   have eo:((arrOf st').map (·.2)).toList=(arrOf st').toList.map (·.2):=Array.toList_map ..
   have eo2:(arrOf st').map (·.2)=((arrOf st').toList.map (·.2)).toArray:=by rw[← eo]
   have pm:((arrOf st').toList.map (·.2)).Perm vs:=by
    have z:=hl.map (·.2)
    rw[show(vs.zip vs).map (·.2)=vs from List.map_snd_zip (JQ _)]at z
    exact z
   rw[eo2]
   refine wpAny_bind (seqEpoch_at ho6 rfl (wpAny_bind (listUpdate_at ho6 rfl ?_ (K4 _) (by rw[Ko,pm.length_eq];exact Ma line))))
   rw[hf]
   simp only[bne_self_eq_false,K1,if_false]
   refine wpAny_pure ?_
   have up:((arrOf st').toList.map (·.2)).Pairwise (fun u v=>cX s.heap u<=cX s.heap v):=by
    refine LG.mpr (NS (fun{x y} hx hy hxy=>?_) hu)
    have hxy':cX h6 x.1<=cX h6 y.1:=hxy
    obtain⟨ex,mx⟩:=hmem x hx
    obtain⟨ey,my⟩:=hmem y hy
    rw[← ex,← ey,← hf6 _ mx,← hf6 _ my]
    exact hxy'
   have:=h _ pm up
   rw[fin]at this
   exact this
  ·show p.1∈vs
   have hp2:p∈vs.zip vs:=by rw[← pairsOf_toList];exact hp'
   exact(mem_zip_self hp2).2
end
section
variable{X:Cx}{pins:List (Addr×Obj)}{σ:St}{H H':Hp}{s:Shared}{h':Heap}
theorem Inv.many{t':Nat}(I:Inv X pins σ H s)(k:∀ b o,s.heap.get? b=some o->h'.get? b=some o)(hn:∀ b,b<s.heap.objs.size->H' b=H b)(new:∀ b u,s.heap.objs.size<=b->H' b=some u->bA X.prog X.w H' h' b u):Inv X pins σ H' { s with heap:=h',toks:=t' }:=by
 have up:∀ b u,H b=some u->H' b=some u:=fun b u e=>by rw[hn b (I.hok.lt e)];exact e
 refine I.un ⟨fun b o e n _ _=>k b o e,fun b o e n _ _=>⟨o.slots,k b o e⟩,fun b o e n _=>by rw[hn b (Heap.lt_size e)];exact n,fun b o e _=>⟨o,k b o e⟩,fun b xs e=>up b _ e,fun b o u e=>up b _ e,fun b ps e=>⟨#[],by rw[up b _ e];simp⟩⟩ fun b u e=>?_
 by_cases z:b<s.heap.objs.size
 ·rw[hn b z]at e
  exact(I.hok b u e).stay (fun c v _ q=>k c v q) (fun c q=>up c _ q) fun c xs q=>up c _ q
 ·exact new b u (Nat.le_of_not_lt z) e
theorem GH{α:Type}{l:List (Addr×α)}{a:Addr}{x:α}(nd:(l.map (·.1)).Nodup)(h:(a,x)∈l):l.lookup a=some x:=by
 induction l with
 |nil=>cases h
 |cons p r ih =>
  rw[KA,Kc]at nd
  rcases JT.mp h with e | h
  ·subst e
   simp[LW]
  ·have ne:(a == p.1)=false:=beq_eq_false_iff_ne.mpr fun z=>nd.1 (z▸Ke.mpr ⟨_,h,rfl⟩)
   simp only[LW,ne]
   exact ih nd.2 h
theorem Eo{α:Type}{l:List (Addr×α)}{a:Addr}{x:α}(h:l.lookup a=some x):(a,x)∈l:=by
 induction l with
 |nil=>cases h
 |cons p r ih =>
  simp only[LW]at h
  split at h
  ·rename_i e
   cases h
   have:=beq_iff_eq.mp e
   rw[this]
   exact Kh
  ·exact J1 _ (ih h)
def rSortI:List V->Hp->VK->Prop:=fun xs H Q=>∃(v d:Addr)(kvs:List (Key×V))(ps:List (Int×Int)),xs = [.ref v]/\H v=some (dr v d)/\H d=some (.dK kvs)/\kvs=ps.map (fun e=>(Sum.inl e.1,V.int e.2))/\(ps.map (·.1)).Nodup /\
 ∀(l:Addr)(out:List V)(ps':List (Int×Int))(H':Hp),(∀ b u,H b=some u->H' b=some u)->H l=none->H' l=some (.lst out)->ps'.Perm ps->ps'.Pairwise (fun x y=>x.1<y.1)->out.length=ps'.length->(∀(i:Nat)(e:Int×Int),ps'[i]?=some e->∃ t,out[i]?=some (.ref t)/\H' t=some (.tup [.int e.1,.int e.2]))->Q (.ref l) H'
def F3(h:Heap):Value->Int
 |.ref a=>match h.get? a with
  |some o=>match o.data with
   |.seq xs _=>match(xs[1]? : Option Value) with
    |some (.int x _)=>x
    |_=>0
   |_=>0
  |none=>0
 |_=>0
theorem F2{h:Heap}{a:Addr}{o:Obj}{n:Nat}{x y:Int}{tx ty:Tok}(h1:h.get? a=some o)(h3:o.data=.seq #[.int x tx,.int y ty] n):F3 h (.ref a)=y:=by
 unfold F3
 simp only[h1,h3]
 rfl
def adr:Value->Addr
 |.ref a=>a
 |_=>0
theorem CK(hc:X.calm=true):mm X (.builtin "sorted") rSortI:=by
 intro pins s σ H xs us Q I r h
 obtain⟨v,d,kvs,ps,rfl,hv,hd,ek,nd,q⟩:=h
 obtain⟨u,rfl,ru⟩:=rE r
 cases ru
 obtain⟨vw,_,_⟩:=(show bA X.prog X.w H s.heap v (dr v d) from I.hok v _ hv)
 obtain⟨_,es,ep,hent,esz,hes⟩:=mB (P:=X.prog) (w:=X.w) (H:=H) (h:=s.heap) (d:=d) (u:=.dK kvs) True.intro (I.hok d _ hd)
 obtain⟨hz,_⟩:=(show bA X.prog X.w H s.heap d (.dK kvs) from I.hok d _ hd)
 have esz':es.size=ps.length:=by
  rw[esz]
  show kvs.length=_
  rw[ek,JS]
 have kl:kvs.length=ps.length:=by rw[ek,JS]
 have ent:∀(j:Nat)(e:DictEntry),es[j]?=some e->∃ x tx ty,ps[j]?=some x/\e.key=.int x.1 tx/\e.val=.int x.2 ty:=fun j e he=>by
  obtain⟨a,b,c1,c2,c3⟩:=hes j e he
  rcases c1 with⟨kvs',k,e1,e2,e3⟩ | ⟨_,_,_,e1,_⟩
  ·cases e1
   rw[ek,JR]at e2
   obtain⟨x,hx,e4⟩:=Kl.mp e2
   cases e4
   subst e3
   obtain⟨tx,e5⟩:=(show ∃ t,e.key=Value.int x.1 t from c2)
   obtain⟨ty,e6⟩:=(show ∃ t,e.val=Value.int x.2 t from c3)
   exact⟨x,tx,ty,hx,e5,e6⟩
  ·cases e1
 refine Calls.call_function_entry kind_sorted plain_sorted entry_sorted (args_sorted1 _) ?_
 unfold Builtin.«sorted»
 refine wpAny_bind (m:=checkCount "sorted" 1 1 _) (wpAny_pure ?_)
 refine wpAny_bind (uv (I.ok.hd hc) vw hent (by rw[esz',← kl];exact hz) fun g acc hk hlt htk hap=>?_)
 have hlen:acc.toList.length<=sizeLine:=by rw[KZ,htk.1,esz',← kl];exact hz
 refine wpAny_bind (wpAny_newList ?_ hlen)
 have hoL:(g.push (seqObj "list" acc.toList.toArray 0)).get? g.objs.size=some (seqObj "list" acc.toList.toArray 0):=Heap.get?_push_size _ rfl
 show wpAny _ _ _ _ _ { s with heap:=g.push (seqObj "list" acc.toList.toArray 0) }
 have tk:∀ w∈acc.toList,∃(j:Nat)(t:Addr)(x:Int×Int)(tx ty:Tok),acc.toList[j]?=some w/\w=.ref t/\ps[j]?=some x/\s.heap.objs.size<=t/\g.get? t=some { cls:=.type "tuple",data:=.seq #[.int x.1 tx,.int x.2 ty] }:=fun w hw=>by
  obtain⟨j,hj⟩:=K9 hw
  obtain⟨t,e,a1,a2,a3,a4⟩:=htk.2 j w (by rw[← Lo];exact hj)
  obtain⟨x,tx,ty,b1,b2,b3⟩:=ent j e a2
  rw[b2,b3]at a4
  exact⟨j,t,x,tx,ty,hj,a1,b1,a3,a4⟩
 have tk2:∀ w∈acc.toList,∃(j:Nat)(t:Addr)(x:Int×Int)(tx ty:Tok),acc.toList[j]?=some w/\w=.ref t/\ps[j]?=some x/\s.heap.objs.size<=t/\(g.push (seqObj "list" acc.toList.toArray 0)).get? t=some { cls:=.type "tuple",data:=.seq #[.int x.1 tx,.int x.2 ty] }:=fun w hw=>by
  obtain⟨j,t,x,tx,ty,a1,a2,a3,a4,a5⟩:=tk w hw
  exact⟨j,t,x,tx,ty,a1,a2,a3,a4,Heap.get?_push_of_some _ a5⟩
 have keyat:∀(j:Nat)(w:Value)(x:Int×Int),acc.toList[j]?=some w->ps[j]?=some x->cX (g.push (seqObj "list" acc.toList.toArray 0)) w=x.1/\F3 (g.push (seqObj "list" acc.toList.toArray 0)) w=x.2:=fun j w x hj hx=>by
  obtain⟨j',t,x',tx,ty,a1,a2,a3,a4,a5⟩:=tk2 w (JM hj)
  have ej:j=j':=(MV (by exact(JK.mp hj).1) hap).mp (hj.trans a1.symm)
  subst ej
  rw[hx]at a3
  cases a3
  subst a2
  exact⟨kE a5 rfl,F2 a5 rfl⟩
 have hprv:∀ w∈acc.toList,PrV (g.push (seqObj "list" acc.toList.toArray 0)) w:=fun w hw=>by
  obtain⟨j,t,x,tx,ty,a1,a2,a3,a4,a5⟩:=tk2 w hw
  exact⟨t,_,_,x.1,x.2,tx,ty,a2,a5,rfl,rfl⟩
 have hdst:∀ a∈acc.toList,∀ b∈acc.toList,cX (g.push (seqObj "list" acc.toList.toArray 0)) a=cX (g.push (seqObj "list" acc.toList.toArray 0)) b->a=b:=fun a ha b hb e=>by
  obtain⟨j,_,x,_,_,a1,_,a3,_⟩:=tk2 a ha
  obtain⟨k,_,y,_,_,b1,_,b3,_⟩:=tk2 b hb
  rw[(keyat j a x a1 a3).1,(keyat k b y b1 b3).1]at e
  have h1:(ps.map (·.1))[j]?=some x.1:=by rw[JR,a3];rfl
  have h2:(ps.map (·.1))[k]?=some y.1:=by rw[JR,b3];rfl
  have ej:j=k:=(MV (JK.mp h1).1 nd).mp (by rw[h1,h2,e])
  subst ej
  rw[a1]at b1
  exact JZ b1
 refine wpAny_bind (wpAny_holding (wpAny_call_entry slot_list_sort ⟨_,hoL,rfl⟩ entry_list_sort (ye hoL hprv hdst hlen fun out pm up=>⟨_,rfl,?_⟩) (args_list_sort _)))
 refine wpAny_pure ⟨_,rfl,?_⟩
 obtain⟨ep',hel⟩:=sortedHeap_at (out:=out.toArray) hoL
 have keepF:∀(b:Addr)(o:Obj),g.get? b=some o->(sortedHeap (g.push (seqObj "list" acc.toList.toArray 0)) g.objs.size acc.toList out.toArray).get? b=some o:=fun b o e=>by
  rw[sortedHeap_old (Kp (Heap.lt_size e)) (by rw[Heap.size_push];exact Lw (Heap.lt_size e))]
  exact Heap.get?_push_of_some _ e
 have tkO:∀ w∈out,∃(j:Nat)(t:Addr)(x:Int×Int)(tx ty:Tok),acc.toList[j]?=some w/\w=.ref t/\ps[j]?=some x/\s.heap.objs.size<=t/\t<g.objs.size/\(sortedHeap (g.push (seqObj "list" acc.toList.toArray 0)) g.objs.size acc.toList out.toArray).get? t=some { cls:=.type "tuple",data:=.seq #[.int x.1 tx,.int x.2 ty] }:=fun w hw=>by
  obtain⟨j,t,x,tx,ty,a1,a2,a3,a4,a5⟩:=tk w (pm.mem_iff.mp hw)
  exact⟨j,t,x,tx,ty,a1,a2,a3,a4,Heap.lt_size a5,keepF t _ a5⟩
 obtain⟨pr,hpr⟩:∃ pr:Value->Int×Int,pr=fun w=>(cX (g.push (seqObj "list" acc.toList.toArray 0)) w,F3 (g.push (seqObj "list" acc.toList.toArray 0)) w):=⟨_,rfl⟩
 have prat:∀(j:Nat)(w:Value)(x:Int×Int),acc.toList[j]?=some w->ps[j]?=some x->pr w=x:=fun j w x h1 h2=>by
  rw[hpr]
  obtain⟨k1,k2⟩:=keyat j w x h1 h2
  exact Prod.ext k1 k2
 have eps:acc.toList.map pr=ps:=by
  refine LI fun j=>?_
  rw[JR]
  by_cases hj:j<ps.length
  ·have hj':j<acc.toList.length:=by rw[KZ,htk.1,esz'];exact hj
   rw[JL hj',JL hj]
   show some (pr _)=_
   rw[prat j _ _ (JL hj') (JL hj)]
  ·rw[LY (l:=acc.toList) (by rw[KZ,htk.1,esz'];omega),LY (by omega)]
   rfl
 have pmp:(out.map pr).Perm ps:=by
  have:=pm.map pr
  rwa[eps]at this
 have eout:(out.map adr).map Value.ref=out:=by
  rw[LK]
  refine(MI (g:=id) fun w hw=>?_).trans (List.map_id _)
  obtain⟨_,t,_,_,_,_,a2,_⟩:=tkO w hw
  rw[a2]
  rfl
 have ndo:out.Nodup:=pm.nodup_iff.mpr hap
 have ndt:(out.map adr).Nodup:=by
  rw[← eout]at ndo
  exact(LG.mp ndo).imp fun h e=>h (by rw[e])
 have sp:(out.map pr).Pairwise (fun x y=>x.1<y.1):=by
  have h1:(out.map pr).Pairwise (fun x y=>x.1<=y.1):=by
   refine LG.mpr (up.imp fun{x y} hxy=>?_)
   rw[hpr]
   exact hxy
  have h2:(out.map pr).Pairwise (fun x y=>x.1≠y.1):=LG.mp (show((out.map pr).map Prod.fst).Pairwise Ne from((pmp.map Prod.fst).nodup_iff).mpr nd)
  exact(h1.and h2).imp fun⟨a,b⟩=>by omega
 have zk:((out.map adr).zip (out.map pr)).map (·.1)=out.map adr:=List.map_fst_zip (by rw[JS,JS];exact JQ _)
 obtain⟨H',hH'⟩:∃ H':Hp,H'=fun b=>if b=g.objs.size then some (.lst ((out.map adr).map V.ref)) else match((out.map adr).zip (out.map pr)).lookup b with | some e=>some (.tup [.int e.1,.int e.2]) | none=>H b:=⟨_,rfl⟩
 have hat:∀(i:Nat)(e:Int×Int),(out.map pr)[i]?=some e->∃ t,((out.map adr).map V.ref)[i]?=some (.ref t)/\H' t=some (.tup [.int e.1,.int e.2])/\s.heap.objs.size<=t/\t<g.objs.size:=fun i e he=>by
  rw[JR]at he
  obtain⟨w,hw,rfl⟩:=Kl.mp he
  obtain⟨j,t,x,tx,ty,a1,a2,a3,a4,a5,a6⟩:=tkO w (JM hw)
  subst a2
  refine⟨t,by rw[JR,JR,hw];rfl,?_,a4,a5⟩
  rw[hH']
  show(if t=g.objs.size then _ else _)=_
  rw[if_neg (Kp a5),GH (by rw[zk];exact ndt) (x:=pr (.ref t)) (JM (i:=i) (by rw[NN];exact⟨by rw[JR,hw];rfl,by rw[JR,hw];rfl⟩))]
 have low:∀ b,b<s.heap.objs.size->H' b=H b:=fun b hb=>by
  rw[hH']
  show(if b=g.objs.size then _ else _)=_
  rw[if_neg (Kp (Nat.lt_trans hb hlt))]
  cases z:((out.map adr).zip (out.map pr)).lookup b with
  |none=>rfl
  |some e =>
   have m:=Eo z
   obtain⟨w,hw,ew⟩:=Ke.mp (Nb m).1
   obtain⟨_,t,_,_,_,_,a2,_,a4,_⟩:=tkO w hw
   subst a2
   have:t=b:=ew
   subst this
   exact absurd hb (Nat.not_lt_of_le a4)
 have I2:Inv X pins σ H' { s with heap:=sortedHeap (g.push (seqObj "list" acc.toList.toArray 0)) g.objs.size acc.toList out.toArray }:=by
  refine Inv.many (t':=s.toks) I (fun b o e=>keepF b o (hk b o e)) low fun b u hb hu=>?_
  by_cases zb:b=g.objs.size
  ·subst zb
   have e2:H' g.objs.size=some (.lst ((out.map adr).map V.ref)):=by rw[hH'];exact if_pos rfl
   rw[e2]at hu
   cases hu
   refine⟨by rw[JS,JS,pm.length_eq];exact hlen,out,ep',?_,hel⟩
   have:∀ l:List Addr,Vals (l.map V.ref) (l.map Value.ref):=fun l=>by
    induction l with
    |nil=>exact .nil
    |cons a l ih=>exact .cons rfl ih
   have z:=this (out.map adr)
   rw[eout]at z
   exact z
  ·have e2:H' b=(match((out.map adr).zip (out.map pr)).lookup b with | some e=>some (.tup [.int e.1,.int e.2]) | none=>H b):=by rw[hH'];exact if_neg zb
   rw[e2]at hu
   cases z:((out.map adr).zip (out.map pr)).lookup b with
   |none =>
    rw[z]at hu
    have:=I.hok.lt (show H b=some u from hu)
    exact absurd hb (Nat.not_le_of_lt this)
   |some e =>
    rw[z]at hu
    cases hu
    have m:=Eo z
    obtain⟨i,hi⟩:=K9 m
    obtain⟨h1,h2⟩:=NN.mp hi
    rw[JR]at h1 h2
    obtain⟨w,hw,e3⟩:=Kl.mp h1
    rw[hw]at h2
    cases h2
    obtain⟨j,t,x,tx,ty,a1,a2,a3,a4,a5,a6⟩:=tkO w (JM hw)
    subst a2
    have eb:t=b:=e3
    subst eb
    rw[prat j _ x a1 a3]
    exact⟨(by decide:(2:Nat)<=sizeLine),[.int x.1 tx,.int x.2 ty],.cons ⟨tx,rfl⟩ (.cons ⟨ty,rfl⟩ .nil),_,a6,rfl,_,rfl⟩
 refine⟨.ref g.objs.size,H',I2,rfl,q g.objs.size _ (out.map pr) H' (fun b u e=>by rw[low b (I.hok.lt e)];exact e) (I.hok.fresh (K2 hlt)) (by rw[hH'];exact if_pos rfl) pmp sp (by rw[JS,JS,JS]) fun i e he=>?_⟩
 obtain⟨t,b1,b2,_⟩:=hat i e he
 exact⟨t,b1,b2⟩
end
end L2
namespace L2
open PySem PySem.Spec PyProof.Rows
def DRd(H:Hp)(d:Addr)(u:HO):Prop:=tS u/\(H d=some u∨∃ o,H d=some (.frz o u))
section
variable{X:Cx}
theorem DRd.ok{P:Program}{w:World}{H:Hp}{h:Heap}{d:Addr}{u:HO}(x:DRd H d u)(k:HOk P w H h):bA P w H h d u:=by
 obtain⟨_,x | ⟨o,x⟩⟩:=x
 ·exact k d _ x
 ·exact(k d _ x).2
theorem Ec:MtR X "dict.items" (fun x xs H Q=>∃ d u,x=.ref d/\xs = []/\DRd H d u/\∀ v,H v=none->Q (.ref v) (upd H v (dr v d))):=by
 intro pins s σ H x xs v us Q I rx rv h
 obtain⟨d,u,rfl,rfl,hd,q⟩:=h
 cases rx
 have hus:=rv.zero
 subst hus
 obtain⟨lo,es,ep,hm,_⟩:=mB hd.1 (hd.ok I.hok)
 refine call_meetsIn LL hm.ty NQ (NK _) (Bu lo) ⟨⟨es,ep,hm⟩,?_⟩
 have hv:(s.heap.push { cls:=.type "dict_items",data:=.fields #[.ref d] }).IsItemsView s.heap.objs.size d:=⟨_,Heap.get?_push_size _ rfl,rfl,rfl⟩
 refine⟨.ref s.heap.objs.size,_,I.laid (t':=s.toks) (fun b o e=>Heap.get?_push_of_some _ e) (JQ _) ?_,rfl,q _ (I.hok.fresh (JQ _))⟩
 exact⟨hv,⟨_,Heap.get?_push_size _ rfl⟩,fun h1 h2 x k=>let ⟨o,ho,r⟩:=x;⟨o,k _ ho,r⟩⟩
def Jm(te:TE):TI:=fun σ H R=>te σ H fun x H1=>∃ vw d u,x=.ref vw/\H1 vw=some (dr vw d)/\DRd H1 d u/\∀ o,(∀ o',H1 d=some (.frz o' u)->o'=o)->R (Itd o u d) (upd H1 d (.frz o u))
theorem DO{e:Expr}{te:TE}{es:List Expr}{k:Nat}{tp:Pos}(he:PE X e te):PI X (.Tuple es k tp) e (Jm te):=by
 intro pins s σ H R I h
 refine thn (he pins s σ H _ I h) fun v s1 ⟨x,H1,I1,r1,q1⟩=>?_
 obtain⟨vw,d,u,rfl,hv,hd,q⟩:=q1
 cases r1
 obtain⟨hview,_,_⟩:=(show bA X.prog X.w H1 s1.heap vw (dr vw d) from I1.hok vw _ hv)
 obtain⟨_,ents,ep,hm,sz,_⟩:=mB hd.1 (hd.ok I1.hok)
 obtain⟨o,q1,q2,q3⟩:=id hm
 refine t9 hview hm ?_
 have I2:Inv X pins σ (upd H1 d (.frz o u)) s1:=by
  obtain⟨hu,hd | ⟨o',hd⟩⟩:=hd
  ·exact I1.freeze hd hu q1
  ·have e1:=(show bA X.prog X.w H1 s1.heap d (.frz o' u) from I1.hok d _ hd).1
   rw[q1]at e1
   cases e1
   have:upd H1 d (.frz o u)=H1:=by
    funext b
    by_cases z:b=d
    ·rw[z,ae,hd]
    ·rw[ak z]
   rw[this]
   exact I1
 have uq:∀ o',H1 d=some (.frz o' u)->o'=o:=fun o' hd'=>by
  have e1:=(show bA X.prog X.w H1 s1.heap d (.frz o' u) from I1.hok d _ hd').1
  rw[q1]at e1
  exact(JZ e1).symm
 have ne:d≠s1.heap.objs.size:=Kp (Heap.lt_size q1)
 refine⟨s1.heap.objs.size,[s1.heap.objs.size],_,_,upd H1 d (.frz o u),rfl,I2.kept (t':=s1.toks) fun b u e=>Heap.get?_push_of_some _ e,qI o u d _ hd.1 ents ep q2 q3,⟨_,_,Heap.get?_push_size _ rfl⟩,fun b hb=>?_,q o uq⟩
 rw[Kj.mp hb]
 exact I2.fpOk (JQ _) (I2.hok.fresh (JQ _))
def Ij(to:TE):TE:=fun σ H Q=>to σ H fun x H1=>∃ d u,x=.ref d/\DRd H1 d u/\∀ v,H1 v=none->Q (.ref v) (upd H1 v (dr v d))
theorem DR{o:Expr}{to:TE}{apos cpos:Pos}(ho:PE X o to) (hbase:attributeBase o "items" X.env (eval o X.env)=eval o X.env:=by rfl) (hline:(apos.endLine == cpos.line)=true:=by rfl):PE X (.Call (.Attribute o "items" apos) [] [] cpos) (Ij to):=by
 intro pins s σ H Q I h
 refine wpAny_Call_method0_late hbase hline (thn (ho pins s σ H _ I h) fun v s1 ⟨x,H1,I1,r1,d,u,ex,hd,q⟩=>?_)
 subst ex
 obtain rfl:v=Value.ref d:=r1
 obtain⟨_,es,ep,⟨ob,e1,e2,e3⟩,_⟩:=mB hd.1 (hd.ok I1.hok)
 exact⟨"dict","dict.items",LN,LL,M0,⟨ob,e1,e2.1⟩,fun a z=>by cases z;exact⟨ob,e1,e2.2.1⟩,Calls.callWith_builtin rfl (PySem.evalArgs_none (Ec pins s1 σ H1 (.ref d) [] (.ref d) [] Q I1 rfl .nil ⟨d,u,rfl,rfl,hd,q⟩))⟩
end
end L2
namespace L2
open PySem PySem.Spec PyProof.Rows
structure WS(X:Cx)(st:Stmt)(t:TS):Prop where
 ok:PS X st t
structure WSs(X:Cx)(sts:List Stmt)(t:TS):Prop where
 ok:PSs X sts t
section
variable{X:Cx}{st:Stmt}{rest:List Stmt}{t u:TS}{e:Expr}{te:TE}{pos:Pos}{tg:Expr}
theorem Ic:WSs X [] tNext:=⟨bg⟩
theorem nN(h1:WS X st t)(h2:WSs X rest u):WSs X (st::rest) (tSeq t u):=⟨ag h1.ok h2.ok⟩
theorem xU(h1:WS X st t):WSs X [st] t:=⟨aq h1.ok⟩
theorem Hc{i:Nat}{x:Str}{pos':Pos}(hN:X.N.Nodup)(hi:X.N[i]?=some x)(hx:Loc X.env.scope x)(he:PE X e te)(hs:swapsWith e (some (.Name x pos')) pos.line X.env=pure false:=by rfl)(hf:X.fn x=true∨X.env.scope.names.lookup x=some .local:=by first | exact .inl rfl | exact .inr rfl | assumption) :
  WS X (.Assign [.Name x pos'] e pos) (tAsg te (EX i)):=⟨av hN hi hx he hs hf⟩
theorem ws_ret(he:PE X e te):WS X (.Return (some e) pos) (tRet te):=⟨aQ he⟩
theorem ws_if{a b:List Stmt}{tc:TT}(hc:PT X e tc)(ha:WSs X a t)(hb:WSs X b u):WS X (.If e a b pos) (tIfS tc t u):=⟨dz hc ha.ok hb.ok⟩
end
end L2
namespace L2
open PySem PySem.Spec PyProof.Rows
theorem A4{X:Cx}{pos:Pos}{k v:Expr}{tk tv:TE}(hk:PE X k tk)(hv:PE X v tv):PE X (.Dict [some k] [v] pos) (qc [(tk,tv)]):=IT (Gd hk hv IK) rfl rfl (fun z=>by cases z) (by show 1<=15;decide)
theorem pe_dd{X:Cx}{i j l:Int}{a b c:Nat}{p1 p2 p3 p4 p5:Pos}:PE X (.Dict [some (.Constant (.int i) a p1)] [.Dict [some (.Constant (.int j) b p2)] [.Constant (.int l) c p3] p4] p5) (qc [(tC (.int i),qc [(tC (.int j),tC (.int l))])]):=by
 have h0:PE X (.Constant (.int i) a p1) (tC (.int i)):=ah
 have h1:PE X (.Constant (.int j) b p2) (tC (.int j)):=ah
 have h2:PE X (.Constant (.int l) c p3) (tC (.int l)):=ah
 with_reducible exact A4 h0 (A4 h1 h2)
theorem Gb{X:Cx}{n:Nat}{x:Str}{pos' pos:Pos}{i j l:Int}{a b c:Nat}{p1 p2 p3 p4 p5:Pos}(hN:X.N.Nodup:=by assumption)(hi:X.N[n]?=some x:=by rfl)(hx:Loc X.env.scope x:=by exact Or.inl rfl)(hf:X.fn x=true∨X.env.scope.names.lookup x=some .local:=by exact .inl rfl):PS X (.Assign [.Name x pos'] (.Dict [some (.Constant (.int i) a p1)] [.Dict [some (.Constant (.int j) b p2)] [.Constant (.int l) c p3] p4] p5) pos) (tAsg (qc [(tC (.int i),qc [(tC (.int j),tC (.int l))])]) (EX n)):=by
 have h:PE X (.Dict [some (.Constant (.int i) a p1)] [.Dict [some (.Constant (.int j) b p2)] [.Constant (.int l) c p3] p4] p5) (qc [(tC (.int i),qc [(tC (.int j),tC (.int l))])]):=by with_reducible exact pe_dd
 have hs:swapsWith (.Dict [some (.Constant (.int i) a p1)] [.Dict [some (.Constant (.int j) b p2)] [.Constant (.int l) c p3] p4] p5) (some (.Name x pos')) pos.line X.env=pure false:=rfl
 with_reducible exact av hN hi hx h hs hf
theorem FN{X:Cx}{n:Nat}{x:Str}{pos' pos:Pos}{i j l:Int}{a b c:Nat}{p1 p2 p3 p4 p5:Pos}(hN:X.N.Nodup)(hi:X.N[n]?=some x)(hx:Loc X.env.scope x)(hf:X.fn x=true∨X.env.scope.names.lookup x=some .local):WS X (.Assign [.Name x pos'] (.Dict [some (.Constant (.int i) a p1)] [.Dict [some (.Constant (.int j) b p2)] [.Constant (.int l) c p3] p4] p5) pos) (tAsg (qc [(tC (.int i),qc [(tC (.int j),tC (.int l))])]) (EX n)):=⟨by with_reducible exact Gb hN hi hx hf⟩
theorem Ie{X:Cx}{tg iter:Expr}{body:List Stmt}{wi:TI}{g:TG}{tb:TS}{pos:Pos}(hc:X.calm=true)(hi:PI X tg iter wi)(hg:PG X.nox tg g)(hb:WSs X.nox body tb)
  (hs:∀ x,foldedSetIterable iter X.env x=pure x:=by intro _;rfl):WS X (.For tg iter body [] pos) (tFor wi g tb):=⟨DI hc hi hg hb.ok hs⟩
theorem C6{X:Cx}{x:Str}{C:Addr}{e:Expr}{es:List Expr}{t:TA}{W:WK}{np cpos pos:Pos}(ec:ExC X.K C)(hm:X.mg x=some (.ref C))(hg:Gl X x)(ws:Wsh X W)(hx:X.ex = [])(hc:X.calm=true)(ha:PA X (e::es) t)
  (he:starEach (e::es) X.env=(false,eval e X.env)::starEach es X.env:=by rfl) (hpl:(backTo cpos (starEach es X.env)).any (·.1)=false:=by rfl) (hdb:(x == ("__debug__" : Str))=false:=by decide) :
  WS X (.Raise (some (.Call (.Name x np) (e::es) [] cpos)) none pos) (Hf C W t):=⟨vh ec hm hg ws hx hc ha he hpl hdb⟩
end L2
namespace L2
theorem len_0{α:Type}{l:List α}(h:l.length=0):l = []:=Mr.mp h
theorem Er{α:Type}{l:List α}{n:Nat}(h:l.length=n+1):∃ x r,l=x::r/\r.length=n:=by
 cases l with
 |nil=>cases h
 |cons x r=>exact⟨x,r,rfl,Nat.succ.inj h⟩
theorem zD{α:Type}{l:List α}(h:l.length=1):∃ a,l = [a]:=by
 obtain⟨a,r,rfl,e⟩:=Er h
 exact⟨a,by rw[len_0 e]⟩
theorem fY{α:Type}{l:List α}(h:l.length=2):∃ a b,l = [a,b]:=by
 obtain⟨a,r,rfl,e⟩:=Er h
 obtain⟨b,rfl⟩:=zD e
 exact⟨a,b,rfl⟩
theorem qw{α:Type}{l:List α}(h:l.length=3):∃ a b c,l = [a,b,c]:=by
 obtain⟨a,r,rfl,e⟩:=Er h
 obtain⟨b,c,rfl⟩:=fY e
 exact⟨a,b,c,rfl⟩
theorem GJ{α:Type}{l:List α}(h:l.length=4):∃ a b c d,l = [a,b,c,d]:=by
 obtain⟨a,r,rfl,e⟩:=Er h
 obtain⟨b,c,d,rfl⟩:=qw e
 exact⟨a,b,c,d,rfl⟩
theorem len_5{α:Type}{l:List α}(h:l.length=5):∃ a b c d e,l = [a,b,c,d,e]:=by
 obtain⟨a,r,rfl,z⟩:=Er h
 obtain⟨b,c,d,e,rfl⟩:=GJ z
 exact⟨a,b,c,d,e,rfl⟩
end L2
namespace K8
theorem Hg:∀{a b:List Nat},a.Nodup->(∀ x∈a,x∈b)->a.length<=b.length
 |[],_,_,_=>K4 _
 |x::a,b,nd,h=>by
  obtain⟨n1,n2⟩:=Kc.mp nd
  have hx:=h x (by simp)
  have ih:=Hg (a:=a) (b:=b.erase x) n2 fun y hy=>(List.mem_erase_of_ne (fun e:y=x=>n1 (e▸hy))).mpr (h y (J1 _ hy))
  rw[List.length_erase_of_mem hx]at ih
  have:0<b.length:=Mv hx
  rw[Kt]
  omega
theorem d7{a:List Nat}{N:Nat}(nd:a.Nodup)(h:∀ x∈a,x<N):a.length<=N:=by
 have:=Hg (b:=KJ N) nd fun x hx=>KU.mpr (h x hx)
 rwa[Lg]at this
theorem Bg{l:List Nat}(nd:l.Nodup){i j x:Nat}(hi:l[i]?=some x)(hj:l[j]?=some x):i=j:=by
 have p:=Ll.mp nd
 obtain⟨h1,e1⟩:=JK.mp hi
 obtain⟨h2,e2⟩:=JK.mp hj
 rcases Nat.lt_trichotomy i j with z | z | z
 ·exact absurd (e1.trans e2.symm) (p i j h1 h2 z)
 ·exact z
 ·exact absurd (e2.trans e1.symm) (p j i h2 h1 z)
abbrev En:=List (Nat×Nat)
structure br(m:Nat)(es:En)(ts:List (List Nat)):Prop where
 len:ts.length=m
 ends:∀ e∈es,e.1<m/\e.2<m/\e.1≠e.2
 nd:∀(p:Nat)(l:List Nat),ts[p]?=some l->l.Nodup
 mem:∀(p:Nat)(l:List Nat),ts[p]?=some l->∀ t,t∈l↔∃ e,es[t]?=some e/\(e.1=p∨e.2=p)
theorem FT(m:Nat):br m [] (Me m []) where
 len:=by simp
 ends:=fun e h=>by cases h
 nd:=fun p l h=>by
  rw[LP]at h
  split at h
  ·cases h;exact Mf
  ·cases h
 mem:=fun p l h t=>by
  rw[LP]at h
  split at h
  ·cases h;simp
  ·cases h
def ins(l:List Nat)(k x:Nat):List Nat:=l.take k++x::l.drop k
theorem zS{l:List Nat}{k x y:Nat}:y∈ins l k x↔y=x∨y∈l:=by
 unfold ins
 rw[JV,JT]
 have:=Km k l
 constructor
 ·rintro(h | h | h)
  ·exact .inr (K6 h)
  ·exact .inl h
  ·exact .inr (K7 h)
 ·rintro(h | h)
  ·exact .inr (.inl h)
  ·rw[← this]at h
   rcases JV.mp h with z | z
   ·exact .inl z
   ·exact .inr (.inr z)
theorem EM{l:List Nat}{k x:Nat}(nd:l.Nodup)(h:x∉l):(ins l k x).Nodup:=by
 unfold ins
 have e:=Km k l
 rw[← e]at nd
 obtain⟨a,b,c⟩:=Kg.mp nd
 refine Kg.mpr ⟨a,Kc.mpr ⟨fun z=>h (K7 z),b⟩,fun y hy z hz=>?_⟩
 rcases JT.mp hz with q | q
 ·intro w
  exact h (by rw[← q,← w];exact K6 hy)
 ·exact c y hy z q
theorem br.put{m:Nat}{es:En}{ts:List (List Nat)}{one two k j:Nat}{l l':List Nat}(w:br m es ts)(h1:one<m)(h2:two<m)(hn:one≠two)(e1:ts[one]?=some l)(e2:ts[two]?=some l') :
  br m (es++[(one,two)]) ((ts.set one (ins l k es.length)).set two (ins l' j es.length)):=by
 have old:∀{p l},ts[p]?=some l->es.length∉l:=fun{p l} e z=>by
  obtain⟨x,hx,_⟩:=(w.mem p l e es.length).mp z
  have:=(JK.mp hx).1
  omega
 have get:∀ p q,((ts.set one (ins l k es.length)).set two (ins l' j es.length))[p]?=some q->(p=two/\q=ins l' j es.length)∨(p=one/\p≠two/\q=ins l k es.length)∨(p≠one/\p≠two/\ts[p]?=some q):=fun p q e=>by
  have L:two<(ts.set one (ins l k es.length)).length:=by rw[KQ,w.len];exact h2
  have L1:one<ts.length:=by rw[w.len];exact h1
  rw[KG]at e
  by_cases z:two=p
  ·rw[if_pos z,if_pos L]at e
   exact .inl ⟨z.symm,(JZ e).symm⟩
  ·rw[if_neg z,KG]at e
   by_cases y:one=p
   ·rw[if_pos y,if_pos L1]at e
    exact .inr (.inl ⟨y.symm,Ne.symm z,(JZ e).symm⟩)
   ·rw[if_neg y]at e
    exact .inr (.inr ⟨Ne.symm y,Ne.symm z,e⟩)
 have esg:∀ t x,(es++[(one,two)])[t]?=some x↔(es[t]?=some x)∨(t=es.length/\x=(one,two)):=fun t x=>by
  by_cases z:t<es.length
  ·rw[JU z]
   constructor
   ·exact .inl
   ·rintro(y | y)
    ·exact y
    ·omega
  ·rw[JP (by omega)]
   constructor
   ·intro y
    have hl:=(JK.mp y).1
    rw[JW]at hl
    have ht:t=es.length:=by omega
    subst ht
    rw[Kr]at y
    cases y
    exact .inr ⟨rfl,rfl⟩
   ·rintro(y | ⟨y,rfl⟩)
    ·have:=(JK.mp y).1;omega
    ·rw[y,Kr];rfl
 refine⟨by rw[KQ,KQ];exact w.len,fun e he=>?_,fun p q e=>?_,fun p q e t=>?_⟩
 ·rcases JV.mp he with z | z
  ·exact w.ends e z
  ·have:e=(one,two):=by simpa using z
   subst this
   exact⟨h1,h2,hn⟩
 ·rcases get p q e with⟨_,rfl⟩ | ⟨_,_,rfl⟩ | ⟨_,_,y⟩
  ·exact EM (w.nd two l' e2) (old e2)
  ·exact EM (w.nd one l e1) (old e1)
  ·exact w.nd p q y
 ·rcases get p q e with⟨rfl,rfl⟩ | ⟨rfl,np,rfl⟩ | ⟨n1,n2,y⟩
  ·rw[zS,w.mem p l' e2 t]
   constructor
   ·rintro(z | ⟨x,hx,hp⟩)
    ·exact⟨(one,p),(esg _ _).mpr (.inr ⟨z,rfl⟩),.inr rfl⟩
    ·exact⟨x,(esg _ _).mpr (.inl hx),hp⟩
   ·rintro⟨x,hx,hp⟩
    rcases(esg _ _).mp hx with z | ⟨z,_⟩
    ·exact .inr ⟨x,z,hp⟩
    ·exact .inl z
  ·rw[zS,w.mem p l e1 t]
   constructor
   ·rintro(z | ⟨x,hx,hp⟩)
    ·exact⟨(p,two),(esg _ _).mpr (.inr ⟨z,rfl⟩),.inl rfl⟩
    ·exact⟨x,(esg _ _).mpr (.inl hx),hp⟩
   ·rintro⟨x,hx,hp⟩
    rcases(esg _ _).mp hx with z | ⟨z,_⟩
    ·exact .inr ⟨x,z,hp⟩
    ·exact .inl z
  ·rw[w.mem p q y t]
   constructor
   ·rintro⟨x,hx,hp⟩
    exact⟨x,(esg _ _).mpr (.inl hx),hp⟩
   ·rintro⟨x,hx,hp⟩
    rcases(esg _ _).mp hx with z | ⟨z,rfl⟩
    ·exact⟨x,z,hp⟩
    ·rcases hp with hp | hp
     ·exact absurd hp.symm n1
     ·exact absurd hp.symm n2
def hd(es:En)(d:Nat):Nat:=match es[d/2]? with | some e=>if d%2=0 then e.2 else e.1 | none=>0
def tl(es:En)(d:Nat):Nat:=match es[d/2]? with | some e=>if d%2=0 then e.1 else e.2 | none=>0
def leave(es:En)(t p:Nat):Nat:=match es[t]? with | some e=>if e.1=p then 2*t else 2*t+1 | none=>0
def nxt(l:List Nat)(t:Nat):Nat:=(l[(l.idxOf t+1)%l.length]?).getD 0
def fol(es:En)(ts:List (List Nat))(d:Nat):Nat:=leave es (nxt ((ts[hd es d]?).getD []) (d/2)) (hd es d)
section
variable{m:Nat}{es:En}{ts:List (List Nat)}
theorem zT{l:List Nat}{t:Nat}(h:t∈l):l[l.idxOf t]?=some t:=by
 have hl:=MT.mpr h
 rw[JL hl,List.getElem_idxOf]
theorem gW{l:List Nat}{t:Nat}(h:t∈l):l[(l.idxOf t+1)%l.length]?=some (nxt l t):=by
 have hl:0<l.length:=Mv h
 have:=Nat.mod_lt (l.idxOf t+1) hl
 unfold nxt
 rw[JL this]
 rfl
theorem br.at(w:br m es ts){d:Nat}(h:d<2*es.length):∃ e l,es[d/2]?=some e/\hd es d=(if d%2=0 then e.2 else e.1)/\tl es d=(if d%2=0 then e.1 else e.2)/\hd es d<m/\ts[hd es d]?=some l/\d/2∈l:=by
 have hl:d/2<es.length:=by omega
 have e1:es[d/2]?=some es[d/2]:=JL hl
 have q:=w.ends _ (JM e1)
 generalize es[d/2]=e at e1 q
 have h1:hd es d=(if d%2=0 then e.2 else e.1):=by unfold hd;rw[e1]
 have h2:tl es d=(if d%2=0 then e.1 else e.2):=by unfold tl;rw[e1]
 have h3:hd es d<m:=by rw[h1];split<;>omega
 have h4:ts[hd es d]?=some (ts[hd es d]'(by rw[w.len];exact h3)):=JL _
 refine⟨e,_,e1,h1,h2,h3,h4,(w.mem _ _ h4 _).mpr ⟨e,e1,?_⟩⟩
 rw[h1]
 split
 ·exact .inr rfl
 ·exact .inl rfl
theorem br.foll(w:br m es ts){d:Nat}(h:d<2*es.length):∃ l e,ts[hd es d]?=some l/\d/2∈l/\es[nxt l (d/2)]?=some e/\(e.1=hd es d∨e.2=hd es d)/\e.1≠e.2/\fol es ts d=(if e.1=hd es d then 2*nxt l (d/2) else 2*nxt l (d/2)+1)/\fol es ts d<2*es.length/\fol es ts d/2=nxt l (d/2)/\tl es (fol es ts d)=hd es d:=by
 obtain⟨e0,l,h1,h2,h3,h4,h5,h6⟩:=w.at h
 have hn:=gW h6
 obtain⟨e,he,hp⟩:=(w.mem _ _ h5 _).mp (JM hn)
 have hlt:=(JK.mp he).1
 have hne:=(w.ends e (JM he)).2.2
 have hf:fol es ts d=(if e.1=hd es d then 2*nxt l (d/2) else 2*nxt l (d/2)+1):=by
  unfold fol
  rw[h5]
  show leave es (nxt l (d/2)) (hd es d)=_
  unfold leave
  rw[he]
 refine⟨l,e,h5,h6,he,hp,hne,hf,?_,?_,?_⟩
 ·rw[hf];split<;>omega
 ·rw[hf];split<;>omega
 ·rw[hf]
  by_cases z:e.1=hd es d
  ·have a1:2*nxt l (d/2)/2=nxt l (d/2):=by omega
   have a2:2*nxt l (d/2)%2=0:=by omega
   rw[if_pos z]
   unfold tl
   rw[a1,he]
   show(if 2*nxt l (d/2)%2=0 then e.1 else e.2)=_
   rw[if_pos a2,z]
  ·have a1:(2*nxt l (d/2)+1)/2=nxt l (d/2):=by omega
   have a2:¬ (2*nxt l (d/2)+1)%2=0:=by omega
   rw[if_neg z]
   unfold tl
   rw[a1,he]
   show(if(2*nxt l (d/2)+1)%2=0 then e.1 else e.2)=_
   rw[if_neg a2]
   exact hp.elim (fun y=>absurd y z) id
theorem br.inj(w:br m es ts){a b:Nat}(ha:a<2*es.length)(hb:b<2*es.length)(h:fol es ts a=fol es ts b):a=b:=by
 obtain⟨l,e,p1,p2,_,_,_,_,_,p3,p4⟩:=w.foll ha
 obtain⟨l',e',q1,q2,_,_,_,_,_,q3,q4⟩:=w.foll hb
 have hh:hd es a=hd es b:=by rw[← p4,← q4,h]
 rw[hh,q1]at p1
 cases p1
 have hx:nxt l (a/2)=nxt l (b/2):=by rw[← p3,← q3,h]
 have g1:=gW p2
 have g2:=gW q2
 rw[hx]at g1
 have ii:=Bg (w.nd _ _ q1) g1 g2
 have i1:=MT.mpr p2
 have i2:=MT.mpr q2
 have ix:l.idxOf (a/2)=l.idxOf (b/2):=by
  generalize l.idxOf (a/2)=x at *
  generalize l.idxOf (b/2)=y at *
  by_cases z1:x+1=l.length
  ·by_cases z2:y+1=l.length
   ·omega
   ·rw[z1,M9,Ly (by omega)]at ii;omega
  ·by_cases z2:y+1=l.length
   ·rw[z2,M9,Ly (by omega)]at ii;omega
   ·rw[Ly (by omega),Ly (by omega)]at ii;omega
 have ht:a/2=b/2:=by
  have g3:=zT p2
  have g4:=zT q2
  rw[ix,g4]at g3
  exact(JZ g3).symm
 obtain⟨e1,_,r1,r2,_,_,_,_⟩:=w.at ha
 obtain⟨e2,_,s1,s2,_,_,_,_⟩:=w.at hb
 rw[ht,s1]at r1
 have ee:e2=e1:=JZ r1
 rw[ee]at s1 s2
 have hne:=(w.ends e1 (JM s1)).2.2
 rw[r2,s2]at hh
 have:a%2=b%2:=by
  by_cases z1:a%2=0<;>by_cases z2:b%2=0
  ·omega
  ·rw[if_pos z1,if_neg z2]at hh;exact absurd hh.symm hne
  ·rw[if_neg z1,if_pos z2]at hh;exact absurd hh hne
  ·omega
 omega
end
structure FK(f:Nat->Nat)(N:Nat):Prop where
 lt:∀ d,d<N->f d<N
 inj:∀ a b,a<N->b<N->f a=f b->a=b
structure Path(f:Nat->Nat)(N first:Nat)(r:List Nat):Prop where
 hd:r[0]?=some first
 lt:∀ d∈r,d<N
 nd:r.Nodup
 nx:∀ i x y,r[i]?=some x->r[i+1]?=some y->y=f x
theorem A6{f:Nat->Nat}{N d:Nat}(h:d<N):Path f N d [d] where
 hd:=rfl
 lt:=fun x hx=>by have:x=d:=by simpa using hx
                  rw[this];exact h
 nd:=by simp
 nx:=fun i x y h1 h2=>by
  have:=(JK.mp h2).1
  rw[JW]at this
  omega
theorem Path.snoc{f:Nat->Nat}{N d x:Nat}{r:List Nat}(p:FK f N)(h:Path f N d (r++[x]))(hn:f x≠d):Path f N d (r++[x]++[f x]) where
 hd:=by rw[JU (by rw[JO,JW];omega)];exact h.hd
 lt:=fun y hy=>by
  rcases JV.mp hy with z | z
  ·exact h.lt y z
  ·have:y=f x:=by simpa using z
   rw[this];exact p.lt x (h.lt x (by simp))
 nd:=by
  refine Kg.mpr ⟨h.nd,by simp,fun a ha b hb e=>?_⟩
  have eb:b=f x:=by simpa using hb
  subst eb
  obtain⟨i,hi⟩:=KY.mp ha
  rw[e]at hi
  have hil:=(JK.mp hi).1
  rw[JO,JW]at hil
  cases i with
  |zero =>
   rw[h.hd]at hi
   exact hn (JZ hi).symm
  |succ i =>
   have gi:(r++[x])[i]?=some ((r++[x])[i]'(by rw[JO,JW];omega)):=JL _
   have:=h.nx i _ _ gi hi
   have mi:=h.lt _ (JM gi)
   have mx:=h.lt x (by simp)
   have e2:=p.inj _ _ mx mi this
   rw[← e2]at gi
   have gx:(r++[x])[r.length]?=some x:=by rw[JP (JQ _),Kr];rfl
   have:=Bg h.nd gi gx
   omega
 nx:=fun i a b h1 h2=>by
  have h2l:=(JK.mp h2).1
  rw[JO,JO,JW,JW]at h2l
  rw[JU (by rw[JO,JW];omega)]at h1
  by_cases z:i+1<(r++[x]).length
  ·rw[JU z]at h2
   exact h.nx i a b h1 h2
  ·rw[JO,JW]at z
   have ei:i=r.length:=by omega
   subst ei
   rw[JP (by rw[JO,JW];omega)]at h2
   have:r.length+1-(r++[x]).length=0:=by rw[JO,JW];omega
   rw[this]at h2
   rw[JP (JQ _),Kr]at h1
   have e1:x=a:=JZ h1
   have e2:f x=b:=JZ h2
   rw[← e2,e1]
structure Ring(f:Nat->Nat)(N:Nat)(r:List Nat):Prop where
 lt:∀ d∈r,d<N
 nd:r.Nodup
 ne:0<r.length
 nx:∀ i x,r[i]?=some x->r[(i+1)%r.length]?=some (f x)
theorem Path.ring{f:Nat->Nat}{N d x:Nat}{r:List Nat}(p:FK f N)(h:Path f N d (r++[x]))(he:f x=d):Ring f N (r++[x]) where
 lt:=h.lt
 nd:=h.nd
 ne:=by rw[JO,JW];omega
 nx:=fun i y hy=>by
  have hl:=(JK.mp hy).1
  by_cases z:i+1=(r++[x]).length
  ·rw[z,M9]
   have:i=r.length:=by rw[JO,JW]at z;omega
   subst this
   rw[JP (JQ _),Kr]at hy
   have:x=y:=JZ hy
   subst this
   rw[he];exact h.hd
  ·have l2:i+1<(r++[x]).length:=by omega
   rw[Ly l2]
   have g:=JL l2
   rw[g,h.nx i _ _ hy g]
theorem Ring.back{f:Nat->Nat}{N a:Nat}{r:List Nat}(p:FK f N)(h:Ring f N r)(ha:a<N)(hf:f a∈r):a∈r:=by
 obtain⟨i,hi⟩:=KY.mp hf
 have hl:=(JK.mp hi).1
 have key:∃ j,j<r.length/\(j+1)%r.length=i:=by
  cases i with
  |zero=>exact⟨r.length-1,by have:=h.ne;omega,by have:=h.ne;rw[show r.length-1+1=r.length by omega,M9]⟩
  |succ i=>exact⟨i,by omega,Ly hl⟩
 obtain⟨j,hj,ej⟩:=key
 have g:=JL hj
 have q:=h.nx j _ g
 rw[ej,hi]at q
 have mj:=h.lt _ (JM g)
 have:=p.inj _ _ ha mj (JZ q)
 rw[this]
 exact JM g
structure eK(f:Nat->Nat)(N i:Nat)(rs:List (List Nat)):Prop where
 ring:∀ r∈rs,Ring f N r
 hdl:∀ r∈rs,∀ h,r[0]?=some h->h<i/\∀ d∈r,h<=d
 asc:∀(a b:Nat)(r r':List Nat)(h h':Nat),a<b->rs[a]?=some r->rs[b]?=some r'->r[0]?=some h->r'[0]?=some h'->h<h'
 nd:rs.flatten.Nodup
 all:∀ d,d<i->d∈rs.flatten
theorem BN(f:Nat->Nat)(N:Nat):eK f N 0 [] where
 ring:=fun r h=>by cases h
 hdl:=fun r h=>by cases h
 asc:=fun a b r r' h h' _ e=>by cases e
 nd:=by simp
 all:=fun d h=>by omega
theorem eK.skip{f:Nat->Nat}{N i:Nat}{rs:List (List Nat)}(w:eK f N i rs)(h:i∈rs.flatten):eK f N (i+1) rs where
 ring:=w.ring
 hdl:=fun r hr x hx=>⟨by have:=(w.hdl r hr x hx).1;omega,(w.hdl r hr x hx).2⟩
 asc:=w.asc
 nd:=w.nd
 all:=fun d hd=>by
  by_cases z:d=i
  ·rw[z];exact h
  ·exact w.all d (by omega)
theorem eK.put{f:Nat->Nat}{N i:Nat}{rs:List (List Nat)}{r:List Nat}(p:FK f N)(w:eK f N i rs)(h:i∉rs.flatten)(hi:i<N)(hr:Ring f N r)(pa:Path f N i r):eK f N (i+1) (rs++[r]):=by
 have apart:∀(k x:Nat),r[k]?=some x->x∉rs.flatten:=fun k=>by
  induction k with
  |zero =>
   intro x hx
   rw[pa.hd]at hx
   cases hx
   exact h
  |succ k ih =>
   intro x hx z
   have hl:=(JK.mp hx).1
   have g:=JL (show k<r.length by omega)
   have e:=pa.nx k _ _ g hx
   obtain⟨q,hq,zq⟩:=K0.mp z
   rw[e]at zq
   exact ih _ g (K0.mpr ⟨q,hq,(w.ring q hq).back p (hr.lt _ (JM g)) zq⟩)
 have least:∀ d∈r,i<=d:=fun d hd=>by
  obtain⟨k,hk⟩:=KY.mp hd
  by_cases z:i<=d
  ·exact z
  ·exact absurd (w.all d (by omega)) (apart k d hk)
 refine⟨fun q hq=>?_,fun q hq x hx=>?_,fun a b q q' x x' hab ha hb hx hx'=>?_,?_,fun d hd=>?_⟩
 ·rcases JV.mp hq with z | z
  ·exact w.ring q z
  ·have:q=r:=by simpa using z
   rw[this];exact hr
 ·rcases JV.mp hq with z | z
  ·have:=w.hdl q z x hx
   exact⟨by omega,this.2⟩
  ·have e:q=r:=by simpa using z
   subst e
   rw[pa.hd]at hx
   cases hx
   exact⟨by omega,least⟩
 ·have bl:=(JK.mp hb).1
  rw[JO,JW]at bl
  rw[JU (by omega)]at ha
  by_cases z:b<rs.length
  ·rw[JU z]at hb
   exact w.asc a b q q' x x' hab ha hb hx hx'
  ·have eb:b=rs.length:=by omega
   subst eb
   rw[JP (JQ _),Kr]at hb
   have e:r=q':=JZ hb
   subst e
   rw[pa.hd]at hx'
   cases hx'
   exact(w.hdl q (JM ha) x hx).1
 ·rw[Lf]
  have e : [r].flatten=r:=by simp
  rw[e]
  refine Kg.mpr ⟨w.nd,hr.nd,fun a ha b hb e=>?_⟩
  obtain⟨k,hk⟩:=KY.mp hb
  exact apart k b hk (e▸ha)
 ·rw[Lf,JV]
  by_cases z:d=i
  ·right
   rw[z]
   simp
   exact JM pa.hd
  ·exact .inl (w.all d (by omega))
theorem Jr{rs:List (List Nat)}(nd:rs.flatten.Nodup){a b:Nat}{r r':List Nat}{d:Nat}(ha:rs[a]?=some r)(hb:rs[b]?=some r')(h1:d∈r)(h2:d∈r'):a=b:=by
 induction rs generalizing a b with
 |nil=>cases ha
 |cons q rs ih =>
  rw[KO]at nd
  obtain⟨_,n2,n3⟩:=Kg.mp nd
  cases a with
  |zero =>
   cases b with
   |zero=>rfl
   |succ b =>
    have e:q=r:=JZ ha
    subst e
    exact absurd rfl (n3 d h1 d (K0.mpr ⟨r',JM hb,h2⟩))
  |succ a =>
   cases b with
   |zero =>
    have e:q=r':=JZ hb
    subst e
    exact absurd rfl (n3 d h2 d (K0.mpr ⟨r,JM ha,h1⟩))
   |succ b=>exact congrArg Nat.succ (ih n2 ha hb)
end K8
namespace K8
def jh(f:Nat->Nat):Nat->List Nat->Nat->Prop
 |x,[],z=>f x=z
 |x,y::l,z=>f x=y/\jh f y l z
theorem gD{f:Nat->Nat}:∀{x:Nat}{l:List Nat}{y:Nat}{k:List Nat}{z:Nat},jh f x (l++y::k) z↔jh f x l y/\jh f y k z
 |x,[],y,k,z=>Iff.rfl
 |x,a::l,y,k,z=>by
  show(f x=a/\jh f a (l++y::k) z)↔(f x=a/\jh f a l y)/\jh f y k z
  rw[gD,and_assoc]
theorem kK{f g:Nat->Nat}:∀{x y:Nat}{l:List Nat}{z:Nat},jh f x l z->g y=f x->(∀ t∈l,g t=f t)->jh g y l z
 |x,y,[],z,h,e,_=>e.trans h
 |x,y,a::l,z,h,e,k=>⟨e.trans h.1,kK h.2 (k a (Kh ..)) fun t ht=>k t (J1 _ ht)⟩
theorem xh{f g F:Nat->Nat}:∀{x:Nat}{l:List Nat}{z:Nat},jh f x l z->(∀ t∈x::l,g (F t)=F (f t))->jh g (F x) (l.map F) (F z)
 |x,[],z,h,k=>by
  show g (F x)=F z
  rw[k x (Kh ..),show f x=z from h]
 |x,a::l,z,h,k=>⟨by rw[k x (Kh ..),h.1],xh h.2 fun t ht=>k t (J1 _ ht)⟩
theorem pd{f:Nat->Nat}{S:Nat->Prop}:∀{x:Nat}{l:List Nat}{z:Nat},jh f x l z->(∀ t∈x::l,S t->S (f t))->S x->S z/\∀ t∈l,S t
 |x,[],z,h,k,s=>⟨by have:=k x (Kh ..) s;rwa[show f x=z from h]at this,fun t ht=>nomatch ht⟩
 |x,a::l,z,h,k,s=>by
  have s1:S a:=by have:=k x (Kh ..) s;rwa[h.1]at this
  obtain⟨h1,h2⟩:=pd h.2 (fun t ht=>k t (J1 _ ht)) s1
  refine⟨h1,fun t ht=>?_⟩
  rcases JT.mp ht with y | y
  ·rw[y];exact s1
  ·exact h2 t y
structure CR(f:Nat->Nat)(N:Nat)(r:List Nat):Prop where
 ch:∃ x l,r=x::l/\jh f x l x
 lt:∀ d∈r,d<N
 nd:r.Nodup
theorem CR.closed{f:Nat->Nat}{N:Nat}{r:List Nat}(h:CR f N r):∀ d∈r,f d∈r:=by
 obtain⟨x,l,rfl,c⟩:=h.ch
 intro d hd
 rcases JT.mp hd with y | y
 ·subst y
  cases l with
  |nil=>rw[show f d=d from c];exact Kh ..
  |cons a l=>rw[c.1];simp
 ·obtain⟨A,B,rfl⟩:=MM y
  have c2:=(gD.mp c).2
  cases B with
  |nil=>rw[show f d=x from c2];exact Kh ..
  |cons a B=>rw[c2.1];simp
theorem CR.sub{f:Nat->Nat}{N:Nat}{r:List Nat}{S:Nat->Prop}(h:CR f N r)(k:∀ t∈r,S t->S (f t)){d:Nat}(hd:d∈r)(s:S d):∀ t∈r,S t:=by
 obtain⟨x,l,rfl,c⟩:=h.ch
 have fromx:S x->∀ t∈x::l,S t:=fun sx t ht=>by
  rcases JT.mp ht with y | y
  ·rw[y];exact sx
  ·exact(pd c k sx).2 t y
 rcases JT.mp hd with y | y
 ·exact fromx (y▸s)
 ·obtain⟨A,B,rfl⟩:=MM y
  have c2:=(gD.mp c).2
  exact fromx (pd c2 (fun t ht=>k t (by simp only[JT,JV]at ht ⊢;rcases ht with z | z<;>simp[z])) s).1
theorem CR.same{f:Nat->Nat}{N:Nat}{r r':List Nat}(h:CR f N r)(h':CR f N r'){d:Nat}(h1:d∈r)(h2:d∈r'):∀ t∈r,t∈r':=h.sub (S:=fun t=>t∈r') (fun t _=>h'.closed t) h1 h2
theorem CR.ne{f:Nat->Nat}{N:Nat}{r:List Nat}(h:CR f N r):∃ d,d∈r:=by
 obtain⟨x,l,rfl,_⟩:=h.ch
 exact⟨x,Kh ..⟩
structure Part(f:Nat->Nat)(N:Nat)(rs:List (List Nat)):Prop where
 cr:∀ r∈rs,CR f N r
 nd:rs.flatten.Nodup
 all:∀ d,d<N->d∈rs.flatten
theorem Part.pick{f:Nat->Nat}{N:Nat}{rs:List (List Nat)}(p:Part f N rs){r:List Nat}(h:CR f N r):∃ rest,Part f N (r::rest)/\rest.length+1=rs.length:=by
 obtain⟨d,hd⟩:=h.ne
 obtain⟨r0,m1,m2⟩:=K0.mp (p.all d (h.lt d hd))
 have c0:=p.cr r0 m1
 have s1:=h.same c0 hd m2
 have s2:=c0.same h m2 hd
 obtain⟨A,B,rfl⟩:=MM m1
 have nd:=p.nd
 rw[Lf,KO]at nd
 obtain⟨n1,n2,n3⟩:=Kg.mp nd
 obtain⟨n4,n5,n6⟩:=Kg.mp n2
 refine⟨A++B,⟨fun q hq=>?_,?_,fun y hy=>?_⟩,by simp;omega⟩
 ·rcases JT.mp hq with z | z
  ·rw[z];exact h
  ·refine p.cr q ?_
   rcases JV.mp z with z | z
   ·simp[z]
   ·simp[z]
 ·rw[KO,Lf]
  refine Kg.mpr ⟨h.nd,Kg.mpr ⟨n1,n5,fun a ha b hb=>n3 a ha b (by simp[hb])⟩,fun a ha b hb=>?_⟩
  rcases JV.mp hb with z | z
  ·exact fun e=>n3 b z a (Kv _ (s1 a ha)) e.symm
  ·exact n6 a (s1 a ha) b z
 ·have:=p.all y hy
  rw[Lf,KO]at this
  rw[KO,Lf]
  simp only[JV]at this ⊢
  rcases this with z | z | z
  ·exact .inr (.inl z)
  ·exact .inl (s2 y z)
  ·exact .inr (.inr z)
theorem Part.same:∀{rs qs:List (List Nat)}{f:Nat->Nat}{N:Nat},Part f N rs->Part f N qs->rs.length=qs.length:=by
 have le:∀(k:Nat){rs qs:List (List Nat)}{f:Nat->Nat}{N:Nat},Part f N rs->Part f N qs->rs.length<=qs.length:=by
  intro _ rs qs f N p q
  have g:∀ r∈rs,∃ i,i<qs.length/\∃ r',qs[i]?=some r'/\∀ t∈r',t∈r:=fun r hr=>by
   have c:=p.cr r hr
   obtain⟨d,hd⟩:=c.ne
   obtain⟨r',m1,m2⟩:=K0.mp (q.all d (c.lt d hd))
   obtain⟨i,hi⟩:=KY.mp m1
   exact⟨i,(JK.mp hi).1,r',hi,(q.cr r' m1).same c m2 hd⟩
  have:∀(l:List (List Nat)),(∀ r∈l,r∈rs)->l.flatten.Nodup->∃ is:List Nat,is.length=l.length/\is.Nodup/\∀ i∈is,i<qs.length/\∃ r∈l,∃ r',qs[i]?=some r'/\∀ t∈r',t∈r:=fun l=>by
   induction l with
   |nil=>intro _ _;exact⟨[],rfl,Mf,fun i hi=>nomatch hi⟩
   |cons r l ih =>
    intro h nd
    rw[KO]at nd
    obtain⟨n1,n2,n3⟩:=Kg.mp nd
    obtain⟨is,e1,e2,e3⟩:=ih (fun r hr=>h r (J1 _ hr)) n2
    obtain⟨i,h1,r',h2,h3⟩:=g r (h r (Kh ..))
    refine⟨i::is,by simp[e1],Kc.mpr ⟨fun z=>?_,e2⟩,fun j hj=>?_⟩
    ·obtain⟨_,r2,m2,r3,m3,m4⟩:=e3 i z
     rw[h2]at m3
     cases m3
     obtain⟨d,hd⟩:=(q.cr r' (JM h2)).ne
     exact n3 d (h3 d hd) d (K0.mpr ⟨r2,m2,m4 d hd⟩) rfl
    ·rcases JT.mp hj with z | z
     ·subst z;exact⟨h1,r,Kh ..,r',h2,h3⟩
     ·obtain⟨k1,r2,k2,k3⟩:=e3 j z
      exact⟨k1,r2,J1 _ k2,k3⟩
  obtain⟨is,e1,e2,e3⟩:=this rs (fun _ h=>h) p.nd
  rw[← e1]
  exact d7 e2 fun i hi=>(e3 i hi).1
 intro rs qs f N p q
 exact Nat.le_antisymm (le 0 p q) (le 0 q p)
theorem Ring.cr{f:Nat->Nat}{N:Nat}{r:List Nat}(h:Ring f N r):CR f N r:=by
 refine⟨?_,h.lt,h.nd⟩
 have ne:=h.ne
 match r,h,ne with
 |x::l,h,_ =>
  refine⟨x,l,rfl,?_⟩
  have key:∀(k i:Nat)(y:Nat),i+k+1=(x::l).length->(x::l)[i]?=some y->jh f y ((x::l).drop (i+1)) x:=fun k=>by
   induction k with
   |zero =>
    intro i y hi hy
    have e:=h.nx i y hy
    rw[show(i+1)%(x::l).length=0 by rw[← hi];simp]at e
    rw[List.drop_of_length_le (by omega)]
    exact(JZ e).symm
   |succ k ih =>
    intro i y hi hy
    have e:=h.nx i y hy
    rw[Ly (by omega)]at e
    obtain⟨hl,e2⟩:=JK.mp e
    rw[LB hl,e2]
    exact⟨rfl,ih (i+1) (f y) (by omega) e⟩
  exact key l.length 0 x (by simp) rfl
theorem eK.part{f:Nat->Nat}{N:Nat}{rs:List (List Nat)}(w:eK f N N rs):Part f N rs:=⟨fun r hr=>(w.ring r hr).cr,w.nd,w.all⟩
end K8
namespace K8
theorem wC{A B:List Nat}{t:Nat}(h:t∉A):(A++t::B).idxOf t=A.length:=by
 rw[List.idxOf_append,if_neg h,List.idxOf_cons_self,Nat.zero_add]
theorem aX{A B:List Nat}{t:Nat}(h:t∉A):nxt (A++t::B) t=((B++(A++t::B)).head?).getD 0:=by
 unfold nxt
 rw[wC h]
 cases B with
 |nil =>
  have e:(A.length+1)%(A++[t]).length=0:=by rw[JO,JW,M9]
  rw[e,Nc,List.head?_eq_getElem?]
 |cons b B =>
  have e:(A.length+1)%(A++t::b::B).length=A.length+1:=Ly (by simp)
  rw[e,JP (by omega)]
  rw[show A.length+1-A.length=1 by omega]
  rfl
theorem EL{A B:List Nat}{u n:Nat}(h:u∉A):ins (A++u::B) ((A++u::B).idxOf u+1) n=A++u::n::B:=by
 rw[wC h]
 unfold ins
 have e1:(A++u::B).take (A.length+1)=A++[u]:=by
  rw[List.take_append,Kz (by omega),show A.length+1-A.length=1 by omega]
  rfl
 have e2:(A++u::B).drop (A.length+1)=B:=by simp
 rw[e1,e2]
 simp
theorem fN{l:List Nat}{u:Nat}(h:u∈l):∃ A B,l=A++u::B/\u∉A:=by
 induction l with
 |nil=>exact nomatch h
 |cons a l ih =>
  by_cases z:a=u
  ·subst z;exact⟨[],l,rfl,KW⟩
  ·rcases JT.mp h with y | y
   ·exact absurd y.symm z
   ·obtain⟨A,B,rfl,k⟩:=ih y
    exact⟨a::A,B,rfl,fun w=>by rcases JT.mp w with w | w;exact z w.symm;exact k w⟩
theorem Je{l:List Nat}{u n:Nat}(hu:u∈l)(hn:n∉l) :
  nxt (ins l (l.idxOf u+1) n) u=n/\nxt (ins l (l.idxOf u+1) n) n=nxt l u/\∀ t∈l,t≠u->nxt (ins l (l.idxOf u+1) n) t=nxt l t:=by
 obtain⟨A,B,rfl,k⟩:=fN hu
 rw[EL k]
 have hnA:n∉A:=fun z=>hn (by simp[z])
 have hnu:n≠u:=fun z=>hn (by simp[z])
 refine⟨?_,?_,fun t ht htu=>?_⟩
 ·rw[aX k];rfl
 ·have e:A++u::n::B=(A++[u])++n::B:=by simp
  rw[e,aX (fun z=>by rcases JV.mp z with z | z;exact hnA z;exact hnu (by simpa using z)),aX k]
  cases B<;>cases A<;>rfl
 ·rcases JV.mp ht with z | z
  ·obtain⟨A1,A2,rfl,k2⟩:=fN z
   have e1:(A1++t::A2)++u::n::B=A1++t::(A2++u::n::B):=by simp
   have e2:(A1++t::A2)++u::B=A1++t::(A2++u::B):=by simp
   rw[e1,e2,aX k2,aX k2]
   cases A2<;>rfl
  ·have z':t∈B:=by
    rcases JT.mp z with z | z
    ·exact absurd z htu
    ·exact z
   by_cases tA:t∈A
   ·obtain⟨A1,A2,rfl,k2⟩:=fN tA
    have e1:(A1++t::A2)++u::n::B=A1++t::(A2++u::n::B):=by simp
    have e2:(A1++t::A2)++u::B=A1++t::(A2++u::B):=by simp
    rw[e1,e2,aX k2,aX k2]
    cases A2<;>rfl
   ·obtain⟨B1,B2,rfl,k2⟩:=fN z'
    have tn:t≠n:=fun y=>hn (by rw[← y];simp)
    have e1:A++u::n::(B1++t::B2)=(A++u::n::B1)++t::B2:=by simp
    have e2:A++u::(B1++t::B2)=(A++u::B1)++t::B2:=by simp
    rw[e1,e2,aX (by simp[tA,htu,tn,k2]),aX (by simp[tA,htu,k2])]
    cases B2<;>cases A<;>rfl
theorem oQ{es:En}{e:Nat×Nat}{t p:Nat}(h:t<es.length):leave (es++[e]) t p=leave es t p:=by
 unfold leave
 rw[JU h]
theorem wb{es:En}{e:Nat×Nat}{p:Nat}:leave (es++[e]) es.length p=if e.1=p then 2*es.length else 2*es.length+1:=by
 unfold leave
 rw[JP (JQ _),Kr]
 rfl
theorem qS{es:En}{e:Nat×Nat}{d:Nat}(h:d<2*es.length):hd (es++[e]) d=hd es d:=by
 unfold hd
 rw[JU (by omega)]
theorem hd_new{es:En}{e:Nat×Nat}:hd (es++[e]) (2*es.length)=e.2/\hd (es++[e]) (2*es.length+1)=e.1:=by
 have e1:2*es.length/2=es.length:=by omega
 have e2:(2*es.length+1)/2=es.length:=by omega
 constructor
 ·unfold hd
  rw[e1,JP (JQ _),Kr]
  show(if 2*es.length%2=0 then e.2 else e.1)=_
  rw[if_pos (by omega)]
 ·unfold hd
  rw[e2,JP (JQ _),Kr]
  show(if(2*es.length+1)%2=0 then e.2 else e.1)=_
  rw[if_neg (by omega)]
theorem hd_inj{m:Nat}{es:En}{ts:List (List Nat)}(w:br m es ts){a b:Nat}(ha:a<2*es.length)(hb:b<2*es.length)(h:hd es a=hd es b)(h2:a/2=b/2):a=b:=by
 obtain⟨e1,_,r1,r2,_⟩:=w.at ha
 obtain⟨e2,_,s1,s2,_⟩:=w.at hb
 rw[h2,s1]at r1
 cases r1
 have hne:=(w.ends e1 (JM s1)).2.2
 rw[r2,s2]at h
 by_cases z1:a%2=0<;>by_cases z2:b%2=0
 ·omega
 ·rw[if_pos z1,if_neg z2]at h;exact absurd h.symm hne
 ·rw[if_neg z1,if_pos z2]at h;exact absurd h hne
 ·omega
def jg(n:Nat)(e:Nat×Nat)(p:Nat):Nat:=if e.1=p then 2*n else 2*n+1
theorem fx{es:En}{ts:List (List Nat)}{d:Nat}{l:List Nat}(h:ts[hd es d]?=some l):fol es ts d=leave es (nxt l (d/2)) (hd es d):=by
 unfold fol
 rw[h]
 rfl
end K8
namespace K8
theorem br.flip{m:Nat}{es:En}{ts:List (List Nat)}{a b:Nat}(w:br m (es++[(a,b)]) ts):br m (es++[(b,a)]) ts:=by
 have key:∀(x y:Nat)(t p:Nat),(∃ e,(es++[(x,y)])[t]?=some e/\(e.1=p∨e.2=p))->∃ e,(es++[(y,x)])[t]?=some e/\(e.1=p∨e.2=p):=fun x y t p=>by
  rintro⟨e,h1,h2⟩
  by_cases z:t<es.length
  ·rw[JU z]at h1
   exact⟨e,by rw[JU z];exact h1,h2⟩
  ·have hl:=(JK.mp h1).1
   rw[JO,JW]at hl
   have z':t=es.length:=by omega
   subst z'
   rw[JP (JQ _),Kr]at h1
   cases h1
   exact⟨(y,x),by rw[JP (JQ _),Kr];rfl,h2.symm⟩
 refine⟨w.len,fun e he=>?_,w.nd,fun p l h t=>⟨fun z=>key a b t p ((w.mem p l h t).mp z),fun z=>(w.mem p l h t).mpr (key b a t p z)⟩⟩
 rcases JV.mp he with z | z
 ·exact w.ends e (Kv _ z)
 ·have:e=(b,a):=by simpa using z
  subst this
  obtain⟨h1,h2,h3⟩:=w.ends (a,b) (by simp)
  exact⟨h2,h1,fun y=>h3 y.symm⟩
theorem br.room{m:Nat}{es:En}{ts:List (List Nat)}(w:br m es ts):br (m+1) es (ts++[[]]):=by
 refine⟨by rw[JO,w.len];rfl,fun e he=>?_,fun p l h=>?_,fun p l h t=>?_⟩
 ·obtain⟨h1,h2,h3⟩:=w.ends e he
  exact⟨by omega,by omega,h3⟩
 all_goals by_cases z:p<ts.length
 ·rw[JU z]at h
  exact w.nd p l h
 ·have hl:=(JK.mp h).1
  rw[JO,JW]at hl
  have z':p=ts.length:=by omega
  subst z'
  rw[JP (JQ _),Kr]at h
  cases h
  exact Mf
 ·rw[JU z]at h
  exact w.mem p l h t
 ·have hl:=(JK.mp h).1
  rw[JO,JW]at hl
  have z':p=ts.length:=by omega
  subst z'
  rw[JP (JQ _),Kr]at h
  cases h
  refine⟨(fun y=>nomatch y),?_⟩
  rintro⟨e,h1,h2⟩
  obtain⟨k1,k2,_⟩:=w.ends e (JM h1)
  have:=w.len
  omega
theorem Jy{m:Nat}{es:En}{ts:List (List Nat)}(w:br m es ts){p:Nat}{l:List Nat}(h:ts[p]?=some l):es.length∉l:=fun z=>by
 obtain⟨x,hx,_⟩:=(w.mem p l h es.length).mp z
 have:=(JK.mp hx).1
 omega
theorem zW{m:Nat}{es:En}{ts ts':List (List Nat)}{e:Nat×Nat}{p u:Nat}{l:List Nat}(w:br m es ts)(hl:ts[p]?=some l)(hu:u<2*es.length)(hp:hd es u=p)(hl':ts'[p]?=some (ins l (l.idxOf (u/2)+1) es.length)) :
  fol (es++[e]) ts' u=jg es.length e p/\(∀ b,b/2=es.length->hd (es++[e]) b=p->fol (es++[e]) ts' b=fol es ts u)/\∀ d,d<2*es.length->d≠u->hd es d=p->fol (es++[e]) ts' d=fol es ts d:=by
 obtain⟨_,l0,_,_,_,_,g5,g6⟩:=w.at hu
 rw[hp,hl]at g5
 cases g5
 have nn:=Jy w hl
 obtain⟨n1,n2,n3⟩:=Je g6 nn
 have lt:∀ t∈l,nxt l t<es.length:=fun t ht=>by
  obtain⟨x,hx,_⟩:=(w.mem p l hl (nxt l t)).mp (JM (gW ht))
  exact(JK.mp hx).1
 refine⟨?_,fun b hb hpb=>?_,fun d hd' hne hpd=>?_⟩
 ·rw[fx (l:=ins l (l.idxOf (u/2)+1) es.length) (by rw[qS hu,hp];exact hl'),n1,qS hu,hp,wb]
  rfl
 ·rw[fx (l:=ins l (l.idxOf (u/2)+1) es.length) (by rw[hpb];exact hl'),hb,n2,hpb,oQ (lt _ g6),fx (l:=l) (by rw[hp];exact hl),hp]
 ·obtain⟨_,l0,_,_,_,_,k5,k6⟩:=w.at hd'
  rw[hpd,hl]at k5
  cases k5
  have tne:d/2≠u/2:=fun z=>hne (hd_inj w hd' hu (hpd.trans hp.symm) z)
  rw[fx (l:=ins l (l.idxOf (u/2)+1) es.length) (by rw[qS hd',hpd];exact hl'),n3 _ k6 tne,qS hd',hpd,oQ (lt _ k6),fx (l:=l) (by rw[hpd];exact hl),hpd]
theorem Bs{m:Nat}{es:En}{ts ts':List (List Nat)}{e:Nat×Nat}(w:br m es ts){d:Nat}(hd':d<2*es.length)(h:ts'[hd es d]?=ts[hd es d]?):fol (es++[e]) ts' d=fol es ts d:=by
 obtain⟨_,l,_,_,_,_,k5,k6⟩:=w.at hd'
 have lt:nxt l (d/2)<es.length:=by
  obtain⟨x,hx,_⟩:=(w.mem _ l k5 (nxt l (d/2))).mp (JM (gW k6))
  exact(JK.mp hx).1
 rw[fx (l:=l) (by rw[qS hd',h];exact k5),qS hd',oQ lt,fx k5]
theorem cu(n:Nat)(e:Nat×Nat)(p:Nat):jg n e p/2=n:=by
 unfold jg
 split<;>omega
theorem By{es:En}{one two:Nat}{e:Nat×Nat}(hne:one≠two)(he:e=(one,two)∨e=(two,one)):hd (es++[e]) (jg es.length e one)=two/\hd (es++[e]) (jg es.length e two)=one/\jg es.length e one≠jg es.length e two/\∀ d,d<2*(es.length+1)->d<2*es.length∨d=jg es.length e one∨d=jg es.length e two:=by
 obtain⟨h1,h2⟩:=hd_new (es:=es) (e:=e)
 unfold jg
 rcases he with he | he
 ·have c1:e.1=one:=by rw[he]
  have c2:¬ e.1=two:=by rw[he];exact hne
  have c3:e.2=two:=by rw[he]
  rw[if_pos c1,if_neg c2,h1,h2]
  exact⟨c3,c1,by omega,fun d hd=>by omega⟩
 ·have c1:e.1=two:=by rw[he]
  have c2:¬ e.1=one:=by rw[he];exact fun z=>hne z.symm
  have c3:e.2=one:=by rw[he]
  rw[if_pos c1,if_neg c2,h1,h2]
  exact⟨c1,c3,by omega,fun d hd=>by omega⟩
structure Gr(m:Nat)(es:En)(ts:List (List Nat)):Prop where
 w:br m es ts
 part:∃ rs,Part (fol es ts) (2*es.length) rs/\m+rs.length=es.length+2
 conn:∀ S:Nat->Prop,(∀ e∈es,S e.1↔S e.2)->∀ p q,p<m->q<m->S p->S q
theorem CR.mono{f g:Nat->Nat}{N M:Nat}{r:List Nat}(h:CR f N r)(hN:N<=M)(k:∀ t∈r,g t=f t):CR g M r:=by
 obtain⟨x,l,rfl,c⟩:=h.ch
 exact⟨⟨x,l,rfl,kK c (k x (Kh ..)) fun t ht=>k t (J1 _ ht)⟩,fun d hd=>Ky (h.lt d hd) hN,h.nd⟩
theorem G5{m:Nat}{es:En}{e:Nat×Nat}(c:∀ S:Nat->Prop,(∀ e∈es,S e.1↔S e.2)->∀ p q,p<m->q<m->S p->S q):∀ S:Nat->Prop,(∀ x∈es++[e],S x.1↔S x.2)->∀ p q,p<m->q<m->S p->S q :=
 fun S h=>c S fun x hx=>h x (Kv _ hx)
theorem Gr.join{m:Nat}{es:En}{ts:List (List Nat)}(g:Gr m es ts){left right one two:Nat}{e:Nat×Nat}{l l' tail:List Nat}(hl:left<2*es.length)(hr:CR (fol es ts) (2*es.length) (left::tail))(hch:jh (fol es ts) left tail left)(hm:right∈left::tail)
  (h1:hd es left=one) (h2:hd es right=two) (hne:one≠two) (he:e=(one,two)∨e=(two,one)) (e1:ts[one]?=some l) (e2:ts[two]?=some l') :
  Gr m (es++[e]) ((ts.set one (ins l (l.idxOf (left/2)+1) es.length)).set two (ins l' (l'.idxOf (right/2)+1) es.length)):=by
 have w:=g.w
 have hrt:right<2*es.length:=hr.lt right hm
 have hlen:=w.len
 have o1:one<m:=by rw[← hlen];exact(JK.mp e1).1
 have o2:two<m:=by rw[← hlen];exact(JK.mp e2).1
 have W:br m (es++[e]) ((ts.set one (ins l (l.idxOf (left/2)+1) es.length)).set two (ins l' (l'.idxOf (right/2)+1) es.length)):=by
  rcases he with rfl | rfl
  ·exact w.put o1 o2 hne e1 e2
  ·exact(w.put o1 o2 hne e1 e2).flip
 have r1:((ts.set one (ins l (l.idxOf (left/2)+1) es.length)).set two (ins l' (l'.idxOf (right/2)+1) es.length))[one]?=some (ins l (l.idxOf (left/2)+1) es.length):=by
  rw[KG,if_neg (fun z=>hne z.symm),KG,if_pos rfl,if_pos (by rw[hlen];exact o1)]
 have r2:((ts.set one (ins l (l.idxOf (left/2)+1) es.length)).set two (ins l' (l'.idxOf (right/2)+1) es.length))[two]?=some (ins l' (l'.idxOf (right/2)+1) es.length):=by
  rw[KG,if_pos rfl,if_pos (by rw[KQ,hlen];exact o2)]
 have r3:∀ p,p≠one->p≠two->((ts.set one (ins l (l.idxOf (left/2)+1) es.length)).set two (ins l' (l'.idxOf (right/2)+1) es.length))[p]?=ts[p]?:=fun p n1 n2=>by
  rw[KG,if_neg (fun z=>n2 z.symm),KG,if_neg (fun z=>n1 z.symm)]
 generalize (ts.set one (ins l (l.idxOf (left/2)+1) es.length)).set two (ins l' (l'.idxOf (right/2)+1) es.length)=ts' at W r1 r2 r3
 obtain⟨a1,a2,a3⟩:=zW (e:=e) w e1 hl h1 r1
 obtain⟨b1,b2,b3⟩:=zW (e:=e) w e2 hrt h2 r2
 obtain⟨d1,d2,d3,d4⟩:=By (es:=es) hne he
 have fa:=b2 _ (cu _ _ _) d1
 have fb:=a2 _ (cu _ _ _) d2
 have els:∀ d,d<2*es.length->d≠left->d≠right->fol (es++[e]) ts' d=fol es ts d:=fun d hd' n1 n2=>by
  by_cases z1:hd es d=one
  ·exact a3 d hd' n1 z1
  ·by_cases z2:hd es d=two
   ·exact b3 d hd' n2 z2
   ·exact Bs w hd' (r3 _ z1 z2)
 generalize ha:jg es.length e one=α at *
 generalize hb:jg es.length e two=β at *
 have hα:α/2=es.length:=by rw[← ha];exact cu _ _ _
 have hβ:β/2=es.length:=by rw[← hb];exact cu _ _ _
 have hlr:right≠left:=fun z=>hne (by rw[← h1,← h2,z])
 have hm':right∈tail:=by
  rcases JT.mp hm with z | z
  ·exact absurd z hlr
  ·exact z
 obtain⟨xs,ys,rfl⟩:=MM hm'
 obtain⟨c1,c2⟩:=gD.mp hch
 have nd:=hr.nd
 have ltx:∀ t∈xs,t<2*es.length/\t≠left/\t≠right:=fun t ht=>by
  refine⟨hr.lt t (by simp[ht]),fun z=>?_,fun z=>?_⟩
  ·subst z;exact(Kc.mp nd).1 (by simp[ht])
  ·subst z
   have:=(Kg.mp (Kc.mp nd).2).2.2 t ht t (by simp)
   exact this rfl
 have lty:∀ t∈ys,t<2*es.length/\t≠left/\t≠right:=fun t ht=>by
  refine⟨hr.lt t (by simp[ht]),fun z=>?_,fun z=>?_⟩
  ·subst z;exact(Kc.mp nd).1 (by simp[ht])
  ·subst z
   exact(Kc.mp (Kg.mp (Kc.mp nd).2).2.1).1 ht
 obtain⟨rs,p,cnt⟩:=g.part
 obtain⟨rest,pr,cnt2⟩:=p.pick hr
 have ndr:=pr.nd
 rw[KO]at ndr
 obtain⟨_,nd2,nd3⟩:=Kg.mp ndr
 have ltr:∀ t∈rest.flatten,t<2*es.length/\t≠left/\t≠right:=fun t ht=>by
  obtain⟨q,q1,q2⟩:=K0.mp ht
  exact⟨(pr.cr q (J1 _ q1)).lt t q2,fun z=>nd3 left (by simp) t ht z.symm,fun z=>nd3 right (by simp) t ht z.symm⟩
 have hlen2:(es++[e]).length=es.length+1:=by rw[JO];rfl
 refine⟨W,⟨(left::α::ys)::(right::β::xs)::rest,⟨fun q hq=>?_,?_,fun d hd'=>?_⟩,by rw[hlen2];simp only[Kt]at cnt2 ⊢;omega⟩,G5 g.conn⟩
 ·rcases JT.mp hq with z | z
  ·subst z
   refine⟨⟨left,α::ys,rfl,a1,kK c2 fa fun t ht=>els t (lty t ht).1 (lty t ht).2.1 (lty t ht).2.2⟩,fun d hd'=>?_,?_⟩
   ·rw[hlen2]
    simp only[JT]at hd'
    rcases hd' with y | y | y
    ·omega
    ·omega
    ·have:=(lty d y).1;omega
   ·refine Kc.mpr ⟨fun y=>?_,Kc.mpr ⟨fun y=>?_,?_⟩⟩
    ·rcases JT.mp y with y | y
     ·omega
     ·exact(lty _ y).2.1 rfl
    ·have:=(lty _ y).1;omega
    ·exact(Kc.mp (Kg.mp (Kc.mp nd).2).2.1).2
  ·rcases JT.mp z with z | z
   ·subst z
    refine⟨⟨right,β::xs,rfl,b1,kK c1 fb fun t ht=>els t (ltx t ht).1 (ltx t ht).2.1 (ltx t ht).2.2⟩,fun d hd'=>?_,?_⟩
    ·rw[hlen2]
     simp only[JT]at hd'
     rcases hd' with y | y | y
     ·omega
     ·omega
     ·have:=(ltx d y).1;omega
    ·refine Kc.mpr ⟨fun y=>?_,Kc.mpr ⟨fun y=>?_,?_⟩⟩
     ·rcases JT.mp y with y | y
      ·omega
      ·exact(ltx _ y).2.2 rfl
     ·have:=(ltx _ y).1;omega
     ·exact(Kg.mp (Kc.mp nd).2).1
   ·refine(pr.cr q (J1 _ z)).mono (by rw[hlen2];omega) fun t ht=>?_
    obtain⟨k1,k2,k3⟩:=ltr t (K0.mpr ⟨q,z,ht⟩)
    exact els t k1 k2 k3
 ·have dis:∀ x∈xs,∀ y∈ys,x≠y:=fun x hx y hy=>(Kg.mp (Kc.mp nd).2).2.2 x hx y (by simp[hy])
  rw[KO,KO]
  refine Kg.mpr ⟨?_,Kg.mpr ⟨?_,nd2,fun a ha b hb=>?_⟩,fun a ha b hb=>?_⟩
  ·refine Kc.mpr ⟨fun y=>?_,Kc.mpr ⟨fun y=>?_,(Kc.mp (Kg.mp (Kc.mp nd).2).2.1).2⟩⟩
   ·rcases JT.mp y with y | y
    ·omega
    ·exact(lty _ y).2.1 rfl
   ·have:=(lty _ y).1;omega
  ·refine Kc.mpr ⟨fun y=>?_,Kc.mpr ⟨fun y=>?_,(Kg.mp (Kc.mp nd).2).1⟩⟩
   ·rcases JT.mp y with y | y
    ·omega
    ·exact(ltx _ y).2.2 rfl
   ·have:=(ltx _ y).1;omega
  ·obtain⟨k1,k2,k3⟩:=ltr b hb
   simp only[JT]at ha
   rcases ha with y | y | y
   ·exact fun z=>k3 (z▸y)
   ·omega
   ·exact nd3 a (by simp[y]) b hb
  ·simp only[JT,JV]at ha hb
   rcases hb with(y | y | y) | y
   ·rcases ha with z | z | z
    ·exact fun u=>hlr (by rw[← y,← u,z])
    ·have:=hrt;omega
    ·exact fun u=>(lty a z).2.2 (u.trans y)
   ·rcases ha with z | z | z
    ·omega
    ·omega
    ·have:=(lty a z).1;omega
   ·rcases ha with z | z | z
    ·exact fun u=>(ltx b y).2.1 (u▸z)
    ·have:=(ltx b y).1;omega
    ·exact fun u=>dis b y a z u.symm
   ·obtain⟨k1,k2,k3⟩:=ltr b y
    rcases ha with z | z | z
    ·exact fun u=>k2 (u▸z)
    ·omega
    ·exact nd3 a (by simp[z]) b y
 ·rw[hlen2]at hd'
  simp only[KO,JV,JT]
  rcases d4 d hd' with y | y | y
  ·have:=pr.all d y
   simp only[KO,JV,JT]at this
   rcases this with(z | z | z | z) | z
   ·exact .inl (.inl z)
   ·exact .inr (.inl (.inr (.inr z)))
   ·exact .inr (.inl (.inl z))
   ·exact .inl (.inr (.inr z))
   ·exact .inr (.inr z)
  ·exact .inl (.inr (.inl y))
  ·exact .inr (.inl (.inr (.inl y)))
end K8
namespace K8
theorem Gr.leaf{m:Nat}{es:En}{ts:List (List Nat)}(g:Gr m es ts){left one:Nat}{e:Nat×Nat}{l tail:List Nat}(hl:left<2*es.length)(hr:CR (fol es ts) (2*es.length) (left::tail))(hch:jh (fol es ts) left tail left)
  (h1:hd es left=one) (he:e=(one,m)∨e=(m,one)) (e1:ts[one]?=some l) :
  Gr (m+1) (es++[e]) (ts.set one (ins l (l.idxOf (left/2)+1) es.length)++[[es.length]]):=by
 have w:=g.w
 have hlen:=w.len
 have o1:one<m:=by rw[← hlen];exact(JK.mp e1).1
 have hne:one≠m:=by omega
 have W:br (m+1) (es++[e]) (ts.set one (ins l (l.idxOf (left/2)+1) es.length)++[[es.length]]):=by
  have q:=w.room.put (one:=one) (two:=m) (k:=l.idxOf (left/2)+1) (j:=0) (l:=l) (l':=[]) (by omega) (by omega) hne (by rw[JU (by omega)];exact e1) (by rw[JP (by omega),hlen,Kr];rfl)
  have q2:((ts++[[]]).set one (ins l (l.idxOf (left/2)+1) es.length)).set m (ins [] 0 es.length)=ts.set one (ins l (l.idxOf (left/2)+1) es.length)++[[es.length]]:=by
   rw[List.set_append_left _ _ (by omega),Na _ _ (by rw[KQ];omega),KQ,hlen,Kr]
   rfl
  rw[q2]at q
  rcases he with rfl | rfl
  ·exact q
  ·exact q.flip
 have r1:(ts.set one (ins l (l.idxOf (left/2)+1) es.length)++[[es.length]])[one]?=some (ins l (l.idxOf (left/2)+1) es.length):=by
  rw[JU (by rw[KQ];omega),KG,if_pos rfl,if_pos (by omega)]
 have r2:(ts.set one (ins l (l.idxOf (left/2)+1) es.length)++[[es.length]])[m]?=some [es.length]:=by
  rw[JP (by rw[KQ];omega),KQ,hlen,Kr]
  rfl
 have r3:∀ p,p≠one->p<m->(ts.set one (ins l (l.idxOf (left/2)+1) es.length)++[[es.length]])[p]?=ts[p]?:=fun p n1 n2=>by
  rw[JU (by rw[KQ];omega),KG,if_neg (fun z=>n1 z.symm)]
 generalize ts.set one (ins l (l.idxOf (left/2)+1) es.length)++[[es.length]]=ts' at W r1 r2 r3
 obtain⟨a1,a2,a3⟩:=zW (e:=e) w e1 hl h1 r1
 obtain⟨d1,d2,d3,d4⟩:=By (es:=es) hne he
 have fb:=a2 _ (cu _ _ _) d2
 have fa:fol (es++[e]) ts' (jg es.length e one)=jg es.length e m:=by
  rw[fx (l:=[es.length]) (by rw[d1];exact r2),cu,d1]
  have:nxt [es.length] es.length=es.length:=by
   unfold nxt
   rw[List.idxOf_cons_self]
   simp
  rw[this,wb]
  rfl
 have els:∀ d,d<2*es.length->d≠left->fol (es++[e]) ts' d=fol es ts d:=fun d hd' n1=>by
  by_cases z1:hd es d=one
  ·exact a3 d hd' n1 z1
  ·obtain⟨_,_,_,_,_,k4,_⟩:=w.at hd'
   exact Bs w hd' (r3 _ z1 k4)
 generalize ha:jg es.length e one=α at *
 generalize hb:jg es.length e m=β at *
 have hα:α/2=es.length:=by rw[← ha];exact cu _ _ _
 have hβ:β/2=es.length:=by rw[← hb];exact cu _ _ _
 have nd:=hr.nd
 have ltt:∀ t∈tail,t<2*es.length/\t≠left:=fun t ht=>⟨hr.lt t (by simp[ht]),fun z=>(Kc.mp nd).1 (z▸ht)⟩
 obtain⟨rs,p,cnt⟩:=g.part
 obtain⟨rest,pr,cnt2⟩:=p.pick hr
 have ndr:=pr.nd
 rw[KO]at ndr
 obtain⟨_,nd2,nd3⟩:=Kg.mp ndr
 have ltr:∀ t∈rest.flatten,t<2*es.length/\t≠left:=fun t ht=>by
  obtain⟨q,q1,q2⟩:=K0.mp ht
  exact⟨(pr.cr q (J1 _ q1)).lt t q2,fun z=>nd3 left (by simp) t ht z.symm⟩
 have hlen2:(es++[e]).length=es.length+1:=by rw[JO];rfl
 have nd4:(left::α::β::tail).Nodup:=by
  refine Kc.mpr ⟨fun y=>?_,Kc.mpr ⟨fun y=>?_,Kc.mpr ⟨fun y=>?_,(Kc.mp nd).2⟩⟩⟩
  ·simp only[JT]at y
   rcases y with y | y | y
   ·omega
   ·omega
   ·exact(ltt _ y).2 rfl
  ·simp only[JT]at y
   rcases y with y | y
   ·exact d3 y
   ·have:=(ltt _ y).1;omega
  ·have:=(ltt _ y).1;omega
 refine⟨W,⟨(left::α::β::tail)::rest,⟨fun q hq=>?_,?_,fun d hd'=>?_⟩,by rw[hlen2];simp only[Kt]at cnt2 ⊢;omega⟩,fun S hS x y hx hy sx=>?_⟩
 ·rcases JT.mp hq with z | z
  ·subst z
   refine⟨⟨left,α::β::tail,rfl,a1,fa,kK hch fb fun t ht=>els t (ltt t ht).1 (ltt t ht).2⟩,fun d hd'=>?_,nd4⟩
   rw[hlen2]
   simp only[JT]at hd'
   rcases hd' with y | y | y | y
   ·omega
   ·omega
   ·omega
   ·have:=(ltt d y).1;omega
  ·refine(pr.cr q (J1 _ z)).mono (by rw[hlen2];omega) fun t ht=>?_
   obtain⟨k1,k2⟩:=ltr t (K0.mpr ⟨q,z,ht⟩)
   exact els t k1 k2
 ·rw[KO]
  refine Kg.mpr ⟨nd4,nd2,fun a ha b hb=>?_⟩
  obtain⟨k1,k2⟩:=ltr b hb
  simp only[JT]at ha
  rcases ha with y | y | y | y
  ·exact fun u=>k2 (u▸y)
  ·omega
  ·omega
  ·exact nd3 a (by simp[y]) b hb
 ·rw[hlen2]at hd'
  simp only[KO,JV,JT]
  rcases d4 d hd' with y | y | y
  ·have:=pr.all d y
   simp only[KO,JV,JT]at this
   rcases this with(z | z) | z
   ·exact .inl (.inl z)
   ·exact .inl (.inr (.inr (.inr z)))
   ·exact .inr z
  ·exact .inl (.inr (.inl y))
  ·exact .inl (.inr (.inr (.inl y)))
 ·-- in one piece
  have hSe:S one↔S m:=by
   have:=hS e (by simp)
   rcases he with rfl | rfl
   ·exact this
   ·exact this.symm
  have old:=g.conn S fun x hx=>hS x (Kv _ hx)
  have toOne:S one:=by
   by_cases z:x<m
   ·exact old x one z o1 sx
   ·have:x=m:=by omega
    subst this
    exact hSe.mpr sx
  by_cases z:y<m
  ·exact old one y o1 z toOne
  ·have:y=m:=by omega
   subst this
   exact hSe.mp toOne
theorem gr_two:Gr 2 [(0,1)] [[0],[0]]:=by
 have W:br 2 [(0,1)] [[0],[0]]:=by
  refine⟨rfl,fun e he=>?_,fun p l h=>?_,fun p l h t=>?_⟩
  ·have:e=(0,1):=by simpa using he
   subst this
   exact⟨by decide,by decide,by decide⟩
  ·match p,h with
   |0,h=>cases h;decide
   |1,h=>cases h;decide
   |p+2,h=>cases h
  ·have key:(∃ e,([(0,1)]:En)[t]?=some e/\(e.1=p∨e.2=p))↔t=0/\(p=0∨p=1):=by
    constructor
    ·rintro⟨e,h1,h2⟩
     match t,h1 with
     |0,h1=>cases h1;exact⟨rfl,h2.imp Eq.symm Eq.symm⟩
     |t+1,h1=>cases h1
    ·rintro⟨rfl,h2⟩
     exact⟨(0,1),rfl,h2.imp Eq.symm Eq.symm⟩
   rw[key]
   match p,h with
   |0,h=>cases h;simp
   |1,h=>cases h;simp
   |p+2,h=>cases h
 refine⟨W,⟨[[0,1]],⟨fun r hr=>?_,by decide,fun d hd=>?_⟩,rfl⟩,fun S hS p q hp hq sp=>?_⟩
 ·have:r = [0,1]:=by simpa using hr
  subst this
  exact⟨⟨0,[1],rfl,by decide,(by show fol [(0,1)] [[0],[0]] 1=0;decide)⟩,fun d hd=>by simp at hd ⊢;omega,by decide⟩
 ·have hd2:d<2:=hd
  simp
  omega
 ·have:=hS (0,1) (by simp)
  have h01:S 0↔S 1:=this
  have hp':p=0∨p=1:=by omega
  have hq':q=0∨q=1:=by omega
  rcases hp' with rfl | rfl<;>rcases hq' with rfl | rfl
  ·exact sp
  ·exact h01.mp sp
  ·exact h01.mpr sp
  ·exact sp
end K8
namespace K8
structure Bij(F:Nat->Nat)(n:Nat):Prop where
 lt:∀ k,k<n->F k<n
 inj:∀ a b,a<n->b<n->F a=F b->a=b
 sur:∀ y,y<n->∃ k,k<n/\F k=y
def ofL(o:List Nat)(k:Nat):Nat:=(o[k]?).getD 0
theorem BB{o:List Nat}{n:Nat}(hl:o.length=n)(nd:o.Nodup)(h:∀ x∈o,x<n):Bij (ofL o) n:=by
 have get:∀ k,k<n->o[k]?=some (ofL o k):=fun k hk=>by
  unfold ofL
  rw[JL (by omega)]
  rfl
 refine⟨fun k hk=>h _ (JM (get k hk)),fun a b ha hb e=>Bg nd (get a ha) (by rw[get b hb,e]),fun y hy=>?_⟩
 have hm:y∈o:=by
  by_cases z:y∈o
  ·exact z
  ·have:=d7 (a:=y::o) (N:=n) (Kc.mpr ⟨z,nd⟩) fun x hx=>by
    rcases JT.mp hx with u | u
    ·omega
    ·exact h x u
   rw[Kt]at this
   omega
 obtain⟨k,hk⟩:=KY.mp hm
 have hkl:=(JK.mp hk).1
 refine⟨k,by omega,?_⟩
 have:=get k (by omega)
 rw[hk]at this
 exact(JZ this).symm
theorem Be{F:Nat->Nat}:∀{l:List Nat},l.Nodup->(∀ x∈l,∀ y∈l,F x=F y->x=y)->(l.map F).Nodup
 |[],_,_=>Mf
 |a::l,nd,h=>by
  obtain⟨n1,n2⟩:=Kc.mp nd
  refine Kc.mpr ⟨fun z=>?_,Be n2 fun x hx y hy=>h x (J1 _ hx) y (J1 _ hy)⟩
  obtain⟨x,hx,e⟩:=Ke.mp z
  have:=h x (J1 _ hx) a (Kh ..) e
  exact n1 (this▸hx)
theorem Jd{F:Nat->Nat}{l:List Nat}{t:Nat}(ht:t∈l)(h:∀ x∈l,F x=F t->x=t):nxt (l.map F) (F t)=F (nxt l t):=by
 obtain⟨A,B,rfl,k⟩:=fN ht
 have k2:F t∉A.map F:=fun z=>by
  obtain⟨x,hx,e⟩:=Ke.mp z
  exact k (h x (by simp[hx]) e▸hx)
 rw[KD,KA,aX k2,aX k]
 cases B<;>cases A<;>rfl
theorem Jc{X Y:List Nat}{t:Nat}(nd:(X++Y).Nodup)(ht:t∈X++Y):nxt (Y++X) t=nxt (X++Y) t:=by
 obtain⟨n1,n2,n3⟩:=Kg.mp nd
 rcases JV.mp ht with z | z
 ·have tY:t∉Y:=fun y=>n3 t z t y rfl
  obtain⟨A,B,rfl,k⟩:=fN z
  have e1:Y++(A++t::B)=(Y++A)++t::B:=by simp
  have e2:(A++t::B)++Y=A++t::(B++Y):=by simp
  rw[e1,e2,aX (by simp[tY,k]),aX k]
  cases B<;>cases Y<;>cases A<;>rfl
 ·have tX:t∉X:=fun y=>n3 t y t z rfl
  obtain⟨A,B,rfl,k⟩:=fN z
  have e1:(A++t::B)++X=A++t::(B++X):=by simp
  have e2:X++(A++t::B)=(X++A)++t::B:=by simp
  rw[e1,e2,aX k,aX (by simp[tX,k])]
  cases B<;>cases X<;>cases A<;>rfl
structure Ren(m:Nat)(es es2:En)(ts ts2:List (List Nat))(π σ:Nat->Nat):Prop where
 pi:Bij π m
 si:Bij σ es.length
 l1:es2.length=es.length
 l2:ts2.length=m
 es:∀(k:Nat)(e:Nat×Nat),es[k]?=some e->es2[σ k]?=some (π e.1,π e.2)
 ts:∀(p:Nat)(l:List Nat),ts[p]?=some l->∃ X Y,l=X++Y/\ts2[π p]?=some ((Y++X).map σ)
section
variable{m:Nat}{es es2:En}{ts ts2:List (List Nat)}{π σ:Nat->Nat}
theorem Ren.es'(R:Ren m es es2 ts ts2 π σ){j:Nat}{x:Nat×Nat}(h:es2[j]?=some x):∃ k e,σ k=j/\es[k]?=some e/\x=(π e.1,π e.2):=by
 have hj:=(JK.mp h).1
 rw[R.l1]at hj
 obtain⟨k,hk,rfl⟩:=R.si.sur j hj
 have e1:es[k]?=some es[k]:=JL hk
 have:=R.es k _ e1
 rw[h]at this
 exact⟨k,_,rfl,e1,JZ this⟩
theorem Ren.ts'(R:Ren m es es2 ts ts2 π σ)(w:br m es ts){j:Nat}{L:List Nat}(h:ts2[j]?=some L):∃ p l X Y,p<m/\π p=j/\ts[p]?=some l/\l=X++Y/\L=(Y++X).map σ:=by
 have hj:=(JK.mp h).1
 rw[R.l2]at hj
 obtain⟨p,hp,rfl⟩:=R.pi.sur j hj
 have e1:ts[p]?=some (ts[p]'(by rw[w.len];exact hp)):=JL _
 obtain⟨X,Y,h1,h2⟩:=R.ts p _ e1
 rw[h]at h2
 exact⟨p,_,X,Y,hp,rfl,e1,h1,JZ h2⟩
theorem mw(w:br m es ts){p:Nat}{l:List Nat}(h:ts[p]?=some l){t:Nat}(ht:t∈l):t<es.length:=by
 obtain⟨x,hx,_⟩:=(w.mem p l h t).mp ht
 exact(JK.mp hx).1
theorem Ren.turn(R:Ren m es es2 ts ts2 π σ)(w:br m es ts):br m es2 ts2:=by
 refine⟨R.l2,fun x hx=>?_,fun j L h=>?_,fun j L h t=>?_⟩
 ·obtain⟨j,hj⟩:=KY.mp hx
  obtain⟨k,e,_,h1,rfl⟩:=R.es' hj
  obtain⟨a1,a2,a3⟩:=w.ends e (JM h1)
  exact⟨R.pi.lt _ a1,R.pi.lt _ a2,fun z=>a3 (R.pi.inj _ _ a1 a2 z)⟩
 ·obtain⟨p,l,X,Y,hp,rfl,h1,rfl,rfl⟩:=R.ts' w h
  have nd:=w.nd p _ h1
  obtain⟨n1,n2,n3⟩:=Kg.mp nd
  refine Be (Kg.mpr ⟨n2,n1,fun a ha b hb z=>n3 b hb a ha z.symm⟩) fun x hx y hy=>R.si.inj x y (mw w h1 ?_) (mw w h1 ?_)
  ·simp only[JV]at hx ⊢;exact hx.symm
  ·simp only[JV]at hy ⊢;exact hy.symm
 ·obtain⟨p,l,X,Y,hp,rfl,h1,rfl,rfl⟩:=R.ts' w h
  constructor
  ·intro z
   obtain⟨k,hk,rfl⟩:=Ke.mp z
   obtain⟨e,h2,h3⟩:=(w.mem p _ h1 k).mp (by simp only[JV]at hk ⊢;exact hk.symm)
   exact⟨_,R.es k e h2,h3.imp (congrArg π) (congrArg π)⟩
  ·rintro⟨x,h2,h3⟩
   obtain⟨k,e,rfl,h4,rfl⟩:=R.es' h2
   obtain⟨a1,a2,a3⟩:=w.ends e (JM h4)
   have hk:=(w.mem p _ h1 k).mpr ⟨e,h4,h3.imp (R.pi.inj _ _ a1 hp) (R.pi.inj _ _ a2 hp)⟩
   exact Ke.mpr ⟨k,by simp only[JV]at hk ⊢;exact hk.symm,rfl⟩
def Phi(σ:Nat->Nat)(d:Nat):Nat:=2*σ (d/2)+d%2
theorem oo(d:Nat):Phi σ d/2=σ (d/2):=by unfold Phi;omega
theorem Ren.hd(R:Ren m es es2 ts ts2 π σ){d:Nat}(hd':d<2*es.length):hd es2 (Phi σ d)=π (hd es d):=by
 have e1:es[d/2]?=some (es[d/2]'(by omega)):=JL _
 have e2:=R.es _ _ e1
 unfold K8.hd
 rw[oo,e1,e2]
 have hm:Phi σ d%2=d%2:=by unfold Phi;omega
 show(if Phi σ d%2=0 then π es[d/2].2 else π es[d/2].1)=π (if d%2=0 then es[d/2].2 else es[d/2].1)
 rw[hm]
 split<;>rfl
theorem Ren.fol(R:Ren m es es2 ts ts2 π σ)(w:br m es ts){d:Nat}(hd':d<2*es.length):fol es2 ts2 (Phi σ d)=Phi σ (fol es ts d):=by
 obtain⟨_,l,_,_,_,k4,k5,k6⟩:=w.at hd'
 obtain⟨X,Y,rfl,h2⟩:=R.ts _ _ k5
 have nd:=w.nd _ _ k5
 rw[fx (l:=(Y++X).map σ) (by rw[R.hd hd'];exact h2),fx k5,oo,R.hd hd']
 have k7:d/2∈Y++X:=by simp only[JV]at k6 ⊢;exact k6.symm
 rw[Jd k7 fun x hx=>R.si.inj x _ (mw w k5 (by simp only[JV]at hx ⊢;exact hx.symm)) (mw w k5 k6),Jc nd k6]
 have hn:=JM (gW k6)
 have hlt:=mw w k5 hn
 generalize nxt (X++Y) (d/2)=t at hlt
 have e1:es[t]?=some es[t]:=JL hlt
 have a1:=(w.ends _ (JM e1)).1
 unfold leave
 rw[R.es _ _ e1,e1]
 show(if π es[t].1=π (K8.hd es d) then 2*σ t else 2*σ t+1)=Phi σ (if es[t].1=K8.hd es d then 2*t else 2*t+1)
 by_cases z:es[t].1=K8.hd es d
 ·rw[if_pos z,if_pos (congrArg π z)]
  unfold Phi
  rw[show 2*t/2=t by omega]
  omega
 ·rw[if_neg z,if_neg (fun y=>z (R.pi.inj _ _ a1 k4 y))]
  unfold Phi
  rw[show(2*t+1)/2=t by omega]
  omega
theorem FJ(b:Bij σ es.length){x y:Nat}(hx:x<2*es.length)(hy:y<2*es.length)(e:Phi σ x=Phi σ y):x=y:=by
 have e1:σ (x/2)=σ (y/2):=by
  have h1:=oo (σ:=σ) x
  have h2:=oo (σ:=σ) y
  rw[e]at h1
  exact h1.symm.trans h2
 have:=b.inj _ _ (by omega) (by omega) e1
 unfold Phi at e
 omega
theorem Ren.gr(R:Ren m es es2 ts ts2 π σ)(g:Gr m es ts):Gr m es2 ts2:=by
 obtain⟨rs,p,cnt⟩:=g.part
 have flt:∀ d∈rs.flatten,d<2*es.length:=fun d hd=>by
  obtain⟨r,h1,h2⟩:=K0.mp hd
  exact(p.cr r h1).lt d h2
 have hfl:(rs.map (List.map (Phi σ))).flatten=rs.flatten.map (Phi σ):=List.map_flatten.symm
 refine⟨R.turn g.w,⟨rs.map (List.map (Phi σ)),⟨fun q hq=>?_,?_,fun d hd=>?_⟩,by rw[JS,R.l1];exact cnt⟩,fun S hS x y hx hy sx=>?_⟩
 ·obtain⟨r,hr,rfl⟩:=Ke.mp hq
  have c:=p.cr r hr
  obtain⟨x,l,rfl,ch⟩:=c.ch
  refine⟨⟨Phi σ x,l.map (Phi σ),rfl,xh ch fun t ht=>R.fol g.w (c.lt t ht)⟩,fun d hd=>?_,Be c.nd fun a ha b hb=>FJ R.si (c.lt a ha) (c.lt b hb)⟩
  obtain⟨t,ht,rfl⟩:=Ke.mp hd
  have h1:=c.lt t ht
  have h2:=R.si.lt (t/2) (by omega)
  rw[R.l1]
  unfold Phi
  omega
 ·rw[hfl]
  exact Be p.nd fun a ha b hb=>FJ R.si (flt a ha) (flt b hb)
 ·rw[R.l1]at hd
  obtain⟨k,hk,e⟩:=R.si.sur (d/2) (by omega)
  rw[hfl]
  refine Ke.mpr ⟨2*k+d%2,p.all _ (by omega),?_⟩
  unfold Phi
  rw[show(2*k+d%2)/2=k by omega,e]
  omega
 ·obtain⟨x',hx',rfl⟩:=R.pi.sur x hx
  obtain⟨y',hy',rfl⟩:=R.pi.sur y hy
  refine g.conn (fun p=>S (π p)) (fun e he=>?_) x' y' hx' hy' sx
  obtain⟨k,hk⟩:=KY.mp he
  exact hS (π e.1,π e.2) (JM (R.es k e hk))
end
end K8
namespace K8
open PySem L2
local macro_rules | `(tactic| walk_at "cc") => `(tactic| first | exact ⟨by decide, by decide⟩ | (show (0 : Int) < _; decide) | (show (0 : Int) < _; omega) | (show (0 : Int) ≤ _; omega) | exact ⟨by decide, by decide, by decide⟩ | exact ⟨by omega, by omega, by decide⟩ | exact Or.inl ⟨by decide, by decide⟩ | exact Or.inl ⟨by omega, by omega⟩)
local macro_rules | `(tactic| walk_at "rd") => `(tactic| repeat (first | refine ⟨_, rfl, ?_⟩ | refine ⟨_, _, rfl, rfl, ?_⟩ | refine ⟨rfl, ?_⟩ | (refine ⟨?cc, ?_⟩; (case cc => walk_at "cc"))))
def top(i:Nat):Stmt:=PySem.Challenge.pw_spinfloor_k70_worths_by_trial.main.body.getD i (.Pass ⟨0,0,0,0⟩)
abbrev fD:Stmt:=top 10
abbrev bO:Stmt:=top 12
abbrev dJ:Stmt:=top 14
abbrev dQ:Stmt:=top 15
abbrev iS:Stmt:=top 16
abbrev cJ:Stmt:=top 17
abbrev b8:Stmt:=top 19
abbrev cj:Stmt:=top 22
abbrev bu:Stmt:=top 23
abbrev iR:Stmt:=top 24
abbrev cn:Stmt:=lI (top 26) 0
abbrev dS:Stmt:=lI (top 26) 1
abbrev bw:Stmt:=lI (top 26) 2
abbrev cR:Stmt:=lI (top 26) 3
abbrev cS:Stmt:=lI (top 28) 0
abbrev qM:Stmt:=top 30
abbrev fE:Stmt:=top 31
abbrev dR:Stmt:=top 32
abbrev b9:Stmt:=top 33
abbrev cK:Stmt:=top 34
abbrev dI:Stmt:=top 35
abbrev bN:Stmt:=top 37
abbrev bF:Stmt:=top 38
abbrev bt:Stmt:=top 39
abbrev ck:Stmt:=lI (top 40) 0
abbrev dP:Stmt:=top 42
abbrev dN:Stmt:=top 43
abbrev cb:Stmt:=top 44
abbrev cM:Stmt:=top 45
abbrev cO:Stmt:=top 46
abbrev cN:Stmt:=top 47
abbrev bb:Stmt:=top 48
abbrev cP:Stmt:=top 49
abbrev fG:Stmt:=top 50
abbrev cL:Stmt:=top 51
abbrev dM:Stmt:=top 52
abbrev dO:Stmt:=top 53
abbrev cQ:Stmt:=top 54
abbrev sh:Stmt:=top 55
def tf(a b s:Int):List (Str×V):=putF "strength" (.int s) (putF "two" (.int b) (putF "one" (.int a) []))
theorem kc(a b s:Int):(tf a b s).lookup ("one" : Str)=some (.int a):=by
 unfold tf
 rw[aw,if_neg (by decide +kernel),aw,if_neg (by decide +kernel),aw,if_pos rfl]
theorem ox(a b s:Int):(tf a b s).lookup ("two" : Str)=some (.int b):=by
 unfold tf
 rw[aw,if_neg (by decide +kernel),aw,if_pos rfl]
theorem tf_str(a b s:Int):(tf a b s).lookup ("strength" : Str)=some (.int s):=by
 unfold tf
 rw[aw,if_pos rfl]
theorem FU(a b s:Int){m:Str} (h1:¬ m = "strength") (h2:¬ m = "two") (h3:¬ m = "one"):(tf a b s).lookup m=none:=by
 unfold tf
 rw[aw,if_neg h1,aw,if_neg h2,aw,if_neg h3]
 all_goals rfl
theorem f1_len(a:Int):(putF "one" (.int a) []).length<1000:=by show 1<1000;decide
theorem f2_len(a b:Int):(putF "two" (.int b) (putF "one" (.int a) [])).length<1000:=by
 have e:(putF "two" (.int b) (putF "one" (.int a) []):List (Str×V))=([("one",.int a),("two",.int b)]:List (Str×V)):=by
  show(if("one" : Str) = "two" then[(("one" : Str),V.int b)] else(("one" : Str),V.int a)::putF "two" (V.int b) [])=_
  rw[if_neg (by decide +kernel)]
  all_goals rfl
 rw[e]
 show 2<1000
 decide
structure CT(K:JN)(C:Addr):Prop where
 cl:Cls K C
 n1:fk K C "one"
 n2:fk K C "two"
 n3:fk K C "strength"
def qL(K:JN):Sp:=fun vs H Q _=>∃(p C dx:Addr)(a b s:Int),vs = [.ref p,.int a,.int b,.int s]/\H p=some (.ins C dx [])/\CT K C/\a≠b/\0<=a/\0<=b/\0<=s /\
 ∀ H',H' p=some (.ins C dx (tf a b s))->(∀ q o,H q=some o->q≠p->H' q=some o)->Q .non H'
theorem ao{H:Hp}{p:Addr}(h:H p=none)(o:HO):Same H (upd H p o):=fun b u q=>by rw[ak (ar q h)];exact q
theorem aW{H H2:Hp}{l:Addr}(h:Same H H2)(hl:H l=none)(o:HO):Same H (upd H2 l o):=fun b u q=>by rw[ak (ar q hl)];exact h b u q
def iV(p:Nat):V:=.int (p:Int)
theorem Jl{hs:List Nat}{k x:Nat}(h:hs[k]?=some x):atI (hs.map iV) (k:Int)=some (iV x):=aM (by rw[JR,h];rfl)
def cF(H:Hp)(ys:List V)(es:En):Prop:=ys.length=es.length/\∀(i:Nat)(e:Nat×Nat),es[i]?=some e->∃ p,ys[i]?=some (.ref p)/\H p=some (.tup [iV e.1,iV e.2])
theorem cF.mono{H H':Hp}{ys:List V}{es:En}(h:cF H ys es)(s:Same H H'):cF H' ys es:=⟨h.1,fun i e q=>by
 obtain⟨p,a,b⟩:=h.2 i e q
 exact⟨p,a,s _ _ b⟩⟩
def dv(K:JN)(H:Hp)(xs:List V)(es:En):Prop:=xs.length=es.length/\∀(i:Nat)(e:Nat×Nat),es[i]?=some e->∃ p C dx s,xs[i]?=some (.ref p)/\H p=some (.ins C dx (tf (e.1:Int) (e.2:Int) s))/\CT K C
theorem dv.mono{K:JN}{H H':Hp}{xs:List V}{es:En}(t:dv K H xs es)(h:Same H H'):dv K H' xs es:=⟨t.1,fun i e q=>by
 obtain⟨p,C,dx,s,a,b,d⟩:=t.2 i e q
 exact⟨p,C,dx,s,a,h _ _ b,d⟩⟩
def bE(H:Hp)(xs:List V)(ts:List (List Nat)):Prop:=xs.length=ts.length/\∀(i:Nat)(l:List Nat),ts[i]?=some l->∃ p,xs[i]?=some (.ref p)/\H p=some (.lst (l.map iV))
theorem bE.mono{H H':Hp}{xs:List V}{ts:List (List Nat)}(h:bE H xs ts)(s:Same H H'):bE H' xs ts:=⟨h.1,fun i e q=>by
 obtain⟨p,a,b⟩:=h.2 i e q
 exact⟨p,a,s _ _ b⟩⟩
theorem bE.snoc{H:Hp}{xs:List V}{ts:List (List Nat)}{q:Addr}{l:List Nat}(h:bE H xs ts)(e:H q=some (.lst (l.map iV))):bE H (xs++[.ref q]) (ts++[l]):=by
 refine⟨by rw[JO,JO,h.1];rfl,fun j k ej=>?_⟩
 by_cases hj:j<ts.length
 ·rw[JU hj]at ej
  obtain⟨p,a1,a2⟩:=h.2 j k ej
  exact⟨p,by rw[JU (by rw[h.1];exact hj)];exact a1,a2⟩
 ·rw[JP (by omega)]at ej
  have hj2:j=ts.length:=by
   have:=(JK.mp ej).1
   rw[JW]at this
   omega
  subst hj2
  rw[Kr]at ej
  cases ej
  exact⟨q,by rw[← h.1,JP (JQ _),Kr];rfl,e⟩
def cG(S:Addr->Prop)(H:Hp)(xs:List V)(ts:List (List Nat)):Prop:=xs.length=ts.length/\∀(i:Nat)(l:List Nat),ts[i]?=some l->∃ p,xs[i]?=some (.ref p)/\¬ S p/\H p=some (.lst (l.map iV))
theorem cG.mono{S:Addr->Prop}{H H':Hp}{xs:List V}{ts:List (List Nat)}(h:cG S H xs ts)(s:∀ b u,¬ S b->H b=some u->H' b=some u):cG S H' xs ts:=⟨h.1,fun i e q=>by
 obtain⟨p,a,n,b⟩:=h.2 i e q
 exact⟨p,a,n,s _ _ n b⟩⟩
theorem cG.off{S:Addr->Prop}{H:Hp}{xs:List V}{ts:List (List Nat)}(h:cG S H xs ts):bE H xs ts:=⟨h.1,fun i e q=>by
 obtain⟨p,a,n,b⟩:=h.2 i e q
 exact⟨p,a,b⟩⟩
theorem cG.snoc{S:Addr->Prop}{H:Hp}{xs:List V}{ts:List (List Nat)}{q:Addr}{l:List Nat}(h:cG S H xs ts)(n:¬ S q)(e:H q=some (.lst (l.map iV))):cG S H (xs++[.ref q]) (ts++[l]):=by
 refine⟨by rw[JO,JO,h.1];rfl,fun j k ej=>?_⟩
 by_cases hj:j<ts.length
 ·rw[JU hj]at ej
  obtain⟨p,a1,a2⟩:=h.2 j k ej
  exact⟨p,by rw[JU (by rw[h.1];exact hj)];exact a1,a2⟩
 ·rw[JP (by omega)]at ej
  have hj2:j=ts.length:=by
   have:=(JK.mp ej).1
   rw[JW]at this
   omega
  subst hj2
  rw[Kr]at ej
  cases ej
  exact⟨q,by rw[← h.1,JP (JQ _),Kr];rfl,n,e⟩
theorem t5{f:Nat->Nat}{N i:Nat}{rs:List (List Nat)}(w:eK f N i rs):rs.flatten.length<=N:=d7 w.nd fun x hx=>by
 obtain⟨r,h1,h2⟩:=K0.mp hx
 exact(w.ring r h1).lt x h2
theorem F7{f:Nat->Nat}{N i:Nat}{rs:List (List Nat)}(w:eK f N i rs):rs.length<=N:=by
 have h:∀(l:List (List Nat)),(∀ r∈l,0<r.length)->l.length<=l.flatten.length:=fun l=>by
  induction l with
  |nil=>intro _;exact JQ _
  |cons a l ih =>
   intro h
   rw[KO,JO,Kt]
   have h1:=h a (Kh ..)
   have h2:=ih fun r hr=>h r (J1 _ hr)
   omega
 exact KR (h rs fun r hr=>(w.ring r hr).ne) (t5 w)
structure TT(K:JN)(H:Hp)(a b:Addr)(m:Nat)(es:En)(ts:List (List Nat)):Prop where
 xs:∃ xs,SqL K H a xs/\dv K H xs es
 ys:∃ ys,SqL K H b ys/\bE H ys ts
 w:br m es ts
 few:es.length<=62
theorem TT.mono{K:JN}{H H':Hp}{a b:Addr}{m:Nat}{es:En}{ts:List (List Nat)}(t:TT K H a b m es ts)(s:Same H H'):TT K H' a b m es ts:=by
 obtain⟨⟨xs,h1,h2⟩,⟨ys,h3,h4⟩,w,f⟩:=t
 exact⟨⟨xs,s.seq h1,h2.mono s⟩,⟨ys,s.seq h3,h4.mono s⟩,w,f⟩
theorem iO{m:Nat}{es:En}{ts:List (List Nat)}(w:br m es ts)(f:es.length<=62){p:Nat}{l:List Nat}(h:ts[p]?=some l):(∀ t∈l,t<62)/\l.length<=62:=by
 have a:∀ t∈l,t<es.length:=fun t ht=>by
  obtain⟨e,he,_⟩:=(w.mem p l h t).mp ht
  exact(JK.mp he).1
 exact⟨fun t ht=>by have:=a t ht;omega,KR (d7 (w.nd p l h) a) f⟩
theorem perm{m:Nat}{es:En}{ts:List (List Nat)}(w:br m es ts):FK (fol es ts) (2*es.length):=⟨fun d h=>by
 obtain⟨_,_,_,_,_,_,_,_,z,_⟩:=w.foll h
 exact z,fun a b ha hb h=>w.inj ha hb h⟩
def Du(K:JN):Sp:=fun vs H Q _=>∃(a:Addr)(xs:List V)(es:En)(d:Nat),vs = [.ref a,.int (d:Int)]/\SqL K H a xs/\dv K H xs es/\d<2*es.length/\Q (iV (hd es d)) H
def Ds(K:JN):Sp:=fun vs H Q _=>∃(a:Addr)(xs:List V)(es:En)(t p:Nat)(e:Nat×Nat),vs = [.ref a,.int (t:Int),.int (p:Int)]/\SqL K H a xs/\dv K H xs es/\es[t]?=some e/\Q (iV (if e.1=p then 2*t else 2*t+1)) H
def Iw(K:JN):Sp:=fun vs H Q _=>∃(a b:Addr)(m:Nat)(es:En)(ts:List (List Nat))(d:Nat),vs = [.ref a,.ref b,.int (d:Int)]/\TT K H a b m es ts/\d<2*es.length/\Q (iV (fol es ts d)) H
def Dv(K:JN):Sp:=fun vs H Q _=>∃(a b:Addr)(m:Nat)(es:En)(ts:List (List Nat))(d:Nat),vs = [.ref a,.ref b,.int (d:Int)]/\TT K H a b m es ts/\d<2*es.length /\
 ∀ q r H',Same H H'->H q=none->H' q=some (.lst (r.map iV))->Path (fol es ts) (2*es.length) d r->Ring (fol es ts) (2*es.length) r->Q (.ref q) H'
def rM(K:JN):Sp:=fun vs H Q _=>∃(a b:Addr)(m:Nat)(es:En)(ts:List (List Nat)),vs = [.ref a,.ref b]/\TT K H a b m es ts /\
 ∀ q ys rs H',Same H H'->H' q=some (.lst ys)->bE H' ys rs->eK (fol es ts) (2*es.length) (2*es.length) rs->Q (.ref q) H'
def mh(H:Hp)(ys:List V)(n:Nat)(rs:List (List Nat)):Prop:=ys.length=n/\∀ i,i<n->∃ p a b r r',ys[i]?=some (.ref p)/\H p=some (.tup [iV a,iV b])/\rs[a]?=some r/\2*i∈r/\rs[b]?=some r'/\2*i+1∈r'
def x8(K:JN):Sp:=fun vs H Q _=>∃(a b:Addr)(xs ys:List V)(es:En)(f:Nat->Nat)(rs:List (List Nat)),vs = [.ref a,.ref b]/\SqL K H a xs/\dv K H xs es/\es.length<=62/\SqL K H b ys/\bE H ys rs/\eK f (2*es.length) (2*es.length) rs /\
 ∀ q zs H',Same H H'->H' q=some (.lst zs)->mh H' zs es.length rs->Q (.ref q) H'
def nI(ns:List Int)(k:Nat):Int:=ns.getD k 0
def AX(K:JN):Sp:=fun vs H Q _=>∃(a:Addr)(k:Nat)(ns:List Int),vs = [.ref a,.int (k:Int)]/\SqL K H a (ns.map V.int)/\Q (.int (nI ns k)) H
def rT(K:JN):Sp:=fun vs H Q _=>∃(a b:Addr)(ys xs:List V)(m:Nat)(es:En)(ts:List (List Nat))(d:Nat),vs = [.ref a,.ref b,.int (d:Int)]/\SqL K H a ys/\cF H ys es/\SqL K H b xs/\bE H xs ts/\br m es ts/\es.length<=62/\d<2*es.length/\Q (iV (fol es ts d)) H
def Iq:Sp:=fun vs H Q _=>∃ i:Int,vs = [.int i]/\Q (.bl true) H
def FZ(K:JN):Sp:=fun vs H Q _=>∃(a:Addr)(ns:List Int),vs = [.ref a]/\SqL K H a (ns.map V.int)/\ns.length<=63/\∀ H',Q (.bl true) H'
structure Txt(mg:Str->Option Value):Prop where
 n_max:mg "max" = none
 n_all:mg "all" = none
 n_zip:mg "zip" = none
 n_any:mg "any" = none
 n_len:mg "len" = none
 n_int:mg "int" = none
 n_bool:mg "bool" = none
 n_list:mg "list" = none
 n_tuple:mg "tuple" = none
 n_range:mg "range" = none
 n_enumerate:mg "enumerate" = none
 n_isinstance:mg "isinstance" = none
 n_min:mg "min" = none
 n_sum:mg "sum" = none
 n_sorted:mg "sorted" = none
section
variable{P:Program}{w:World}{K:JN}{mg:Str->Option Value}{base:Heap}
theorem DB:aC ["ties","dart","tie"] ["ties","dart"] (ai qM):=⟨rfl,rfl,rfl,by decide +kernel,rfl,by decide +kernel,by decide +kernel⟩
theorem IX{f:Addr}{fd:FuncData} (F:Fun K "head" "head" qM f fd):FnOk P w K mg base CX0 1 f fd ["ties","dart"] (Du K):=by
 refine F.ok DB (fun vs H Q E h=>?_) (fun cdv A outer s H vs Q E hr h=>?_)
 ·obtain⟨a,xs,es,d,rfl,_⟩:=h
  rfl
 obtain⟨a,xs,es,d,rfl,hS,hT,hdl,k⟩:=h
 have hl:d/2<es.length:=by omega
 have e1:es[d/2]?=some es[d/2]:=JL hl
 obtain⟨p,C,dx,s',x1,x2,x3⟩:=hT.2 _ _ e1
 have hh:hd es d=if d%2=0 then es[d/2].2 else es[d/2].1:=by unfold hd;rw[e1]
 have ed:(d:Int)/2=((d/2:Nat):Int):=by omega
 refine⟨_,(ag (av (i:=2) DB.nd rfl (Or.inl rfl) (aD aN (pv 0) (ay d6 (pv 1) ah) (fun _ _=>rfl)))
   (aq (aQ (sM (aL lj (ay bQ (pv 1) ah) ah (aU _)) (cy (pv 2) rfl) (cy (pv 2) rfl))))),?_⟩
 refine⟨_,rfl,_,rfl,_,_,rfl,rfl,⟨by decide,by decide⟩,a,xs,_,_,rfl,rfl,hS,(by rw[ed];exact aM x1),?_⟩
 refine⟨_,rfl,_,_,rfl,rfl,(by show(0:Int)<2;decide),rfl,_,rfl,?_⟩
 refine ite2 (fun q=>?_) (fun q=>?_)
 ·have q':(d:Int)%2=0:=V.int.inj (of_decide_eq_true q)
  refine⟨_,rfl,p,C,dx,_,_,rfl,x2,x3.cl,x3.n2,ox _ _ _,?_⟩
  rw[hh,if_pos (by omega)]at k
  exact k
 ·have q':¬ (d:Int)%2=0:=fun z=>q (decide_eq_true (congrArg V.int z))
  refine⟨_,rfl,p,C,dx,_,_,rfl,x2,x3.cl,x3.n1,kc _ _ _,?_⟩
  rw[hh,if_neg (by omega)]at k
  exact k
theorem BL:aC ["ties","number","place"] ["ties","number","place"] (ai fE):=⟨rfl,rfl,rfl,by decide +kernel,rfl,by decide +kernel,by decide +kernel⟩
theorem BW{f:Addr}{fd:FuncData} (F:Fun K "leaving" "leaving" fE f fd):FnOk P w K mg base CX0 1 f fd ["ties","number","place"] (Ds K):=by
 refine F.ok BL (fun vs H Q E h=>?_) (fun cdv A outer s H vs Q E hr h=>?_)
 ·obtain⟨a,xs,es,t,p,e,rfl,_⟩:=h
  rfl
 obtain⟨a,xs,es,t,pl,e,rfl,hS,hT,he,k⟩:=h
 obtain⟨p,C,dx,s',x1,x2,x3⟩:=hT.2 _ _ he
 have m2:CMul 2 (t:Int):=.inl ⟨by decide,by decide⟩
 refine⟨_,(aq (aQ (sM (aL lj (cy (aD aN (pv 0) (pv 1) (fun _ _=>rfl)) rfl) (pv 2) (aU _)) (ay fJ ah (pv 1)) (ay bR (ay fJ ah (pv 1)) ah)))),?_⟩
 refine⟨_,rfl,_,rfl,a,xs,_,_,rfl,rfl,hS,aM x1,p,C,dx,_,_,rfl,x2,x3.cl,x3.n1,kc _ _ _,_,rfl,rfl,_,rfl,?_⟩
 refine ite2 (fun q=>?_) (fun q=>?_)
 ·have q':(e.1:Int)=(pl:Int):=V.int.inj (of_decide_eq_true q)
  refine⟨_,rfl,_,_,rfl,rfl,m2,?_⟩
  rw[if_pos (by omega)]at k
  exact k
 ·have q':¬ (e.1:Int)=(pl:Int):=fun z=>q (decide_eq_true (congrArg V.int z))
  refine⟨_,rfl,_,_,rfl,rfl,m2,_,_,rfl,rfl,?_⟩
  rw[if_neg (by omega)]at k
  exact k
theorem fP:aC ["ties","turns","dart","place","about","behind"] ["ties","turns","dart"] (ai dR):=⟨rfl,rfl,rfl,by decide +kernel,rfl,by decide +kernel,by decide +kernel⟩
theorem yS{f fh fl:Addr}{fd fdh fdl:FuncData} (F:Fun K "follower" "follower" dR f fd) (T:Txt mg) (G_head:Cal P w K mg base 1 "head" ["ties","dart"] (Du K) fh fdh) (G_leaving:Cal P w K mg base 1 "leaving" ["ties","number","place"] (Ds K) fl fdl):FnOk P w K mg base CX0 2 f fd ["ties","turns","dart"] (Iw K):=by
 refine F.ok fP (fun vs H Q E h=>?_) (fun cdv A outer s H vs Q E hr h=>?_)
 ·obtain⟨a,b,m,es,ts,d,rfl,_⟩:=h
  rfl
 obtain⟨a,b,m,es,ts,d,rfl,tt,hdl,k⟩:=h
 obtain⟨⟨xs,h1,h2⟩,⟨ys,h3,h4⟩,w',few⟩:=tt
 obtain⟨l,e,p1,p2,p3,p4,p5,p6,p7,p8,p9⟩:=w'.foll hdl
 obtain⟨small,len⟩:=iO w' few p1
 obtain⟨q,y1,y2⟩:=h4.2 _ _ p1
 have ed:(d:Int)/2=((d/2:Nat):Int):=by omega
 refine⟨_,(ag (av (i:=3) fP.nd rfl (Or.inl rfl) (aH G_head.ok (hr.mono (by decide)) rfl G_head.mg G_head.kp G_head.bn .nil a9 (aa (pv 0) (aa (pv 2) aj))))
   (ag (av (i:=4) fP.nd rfl (Or.inl rfl) (aD aN (pv 1) (pv 3) (fun _ _=>rfl)))
   (ag (av (i:=5) fP.nd rfl (Or.inl rfl) (ay bQ (ay bR (fH Kk Mo Mn nU (pv 4) (aa (ay d6 (pv 2) ah) aj)) ah) (aE ax (by rfl) T.n_len bG (aa (pv 4) aj))))
   (aq (aQ (aH G_leaving.ok (hr.mono (by decide)) rfl G_leaving.mg G_leaving.kp G_leaving.bn .nil a9 (aa (pv 0) (aa (aD aN (pv 4) (pv 5) (fun _ _=>rfl)) (aa (pv 3) aj))))))))),?_⟩
 refine⟨_,rfl,_,rfl,a,xs,es,d,rfl,h1,h2,hdl,?_⟩
 refine⟨_,rfl,_,rfl,b,ys,_,_,rfl,rfl,h3,aM y1,?_⟩
 have hlen:(l.map iV).length=l.length:=JS _
 have hl0:0<l.length:=Mv p2
 have hmod:(((l.idxOf (d/2):Nat):Int)+1)%((l.map iV).length:Int)=(((l.idxOf (d/2)+1)%l.length:Nat):Int):=by rw[hlen];rfl
 refine⟨_,rfl,.inl ⟨rfl,_,SqL.of y2⟩,_,rfl,_,_,rfl,rfl,⟨by decide,by decide⟩,q,l,d/2,rfl,congrArg (fun z=>[V.int z]) ed,SqL.of y2,fun p hp=>by have:=small p hp;omega,by omega,p2,_,_,rfl,rfl,_,rfl,q,_,rfl,.inl (SqL.of y2),_,_,rfl,rfl,(by show(0:Int)<((l.map iV).length:Int);rw[hlen];omega),?_⟩
 refine⟨_,rfl,_,rfl,_,rfl,q,_,_,_,rfl,rfl,SqL.of y2,(by rw[hmod];exact Jl (gW p2)),_,rfl,a,xs,es,nxt l (d/2),hd es d,e,rfl,h1,h2,p3,?_⟩
 rw[p6]at k
 exact k
theorem dw:aC ["ties","turns","first","row","dart"] ["ties","turns","first"] (ai b9):=⟨rfl,rfl,rfl,by decide +kernel,rfl,by decide +kernel,by decide +kernel⟩
theorem IY{f ff:Addr}{fd fdf:FuncData} (F:Fun K "round_from" "round_from" b9 f fd) (G_follower:Cal P w K mg base 2 "follower" ["ties","turns","dart"] (Iw K) ff fdf):FnOk P w K mg base CX0 3 f fd ["ties","turns","first"] (Dv K):=by
 refine F.ok dw (fun vs H Q E h=>?_) (fun cdv A outer s H vs Q E hr h=>?_)
 ·obtain⟨a,b,m,es,ts,d,rfl,_⟩:=h
  rfl
 obtain⟨a,b,m,es,ts,d,rfl,tt,hdl,k⟩:=h
 have pm:=perm tt.w
 refine⟨_,(ag (av (i:=3) dw.nd rfl (Or.inl rfl) (d0 (aa (pv 2) aj)))
   (ag (av (i:=4) dw.nd rfl (Or.inl rfl) (aH G_follower.ok (hr.mono (by decide)) rfl G_follower.mg G_follower.kp G_follower.bn .nil a9 (aa (pv 0) (aa (pv 1) (aa (pv 2) aj)))))
   (ag (sq PassesOwn.never (aL oG (pv 4) (pv 2) (aU _)) (ag (bx (fH Kk KI KH bz (pv 3) (aa (pv 4) aj)))
   (aq (av (i:=4) dw.nd rfl (Or.inl rfl) (aH G_follower.ok (hr.mono (by decide)) rfl G_follower.mg G_follower.kp G_follower.bn .nil a9 (aa (pv 0) (aa (pv 1) (aa (pv 4) aj))))))))
   (aq (aQ (pv 3)))))),?_⟩
 refine⟨_,rfl,(by show 1<=sizeLine;decide),fun q hq=>?_⟩
 have s1:=ao hq (.lst [.int (d:Int)])
 refine⟨_,rfl,_,rfl,_,rfl,a,b,m,es,ts,d,rfl,tt.mono s1,hdl,?_⟩
 refine rD (fun σ H2=>∃(r:List Nat)(x:Nat),σ = [some (.ref a),some (.ref b),some (.int (d:Int)),some (.ref q),some (iV (fol es ts x))]/\Same H H2/\H2 q=some (.lst ((r++[x]).map iV))/\Path (fol es ts) (2*es.length) d (r++[x]))
  (fun σ H2=>match H2 q with | some (.lst xs)=>200-xs.length | _=>0) ⟨[],d,rfl,s1,ae,A6 hdl⟩ ?_ ?_
 ·rintro σ H2 ⟨r,x,rfl,s2,hq2,pa⟩
  refine⟨_,rfl,_,rfl,rfl,_,rfl,?_⟩
  have few:=tt.few
  have hlen:=d7 pa.nd pa.lt
  refine ite2 (fun c=>?_) (fun c=>?_)
  ·have c':fol es ts x≠d:=fun z=>by
    rw[decide_eq_true (show iV (fol es ts x)=V.int (d:Int) by rw[z];rfl)]at c
    cases c
   have pa2:=pa.snoc pm c'
   have hlen2:=d7 pa2.nd pa2.lt
   have lt2:fol es ts x<2*es.length:=pa2.lt _ (by simp)
   refine⟨_,rfl,.inl ⟨rfl,_,SqL.of hq2⟩,_,rfl,q,_,_,rfl,rfl,hq2,au (by rw[JS];omega),?_⟩
   have s3:=aW s2 hq (.lst ((r++[x]).map iV++[iV (fol es ts x)]))
   refine⟨_,rfl,_,rfl,_,rfl,a,b,m,es,ts,fol es ts x,rfl,tt.mono s3,lt2,?_⟩
   refine⟨⟨r++[x],fol es ts x,rfl,s3,?_,pa2⟩,?_⟩
   ·rw[ae,show((r++[x]++[fol es ts x]).map iV)=(r++[x]).map iV++[iV (fol es ts x)] from by rw[KD];rfl]
   ·show(match(upd H2 q (.lst ((r++[x]).map iV++[iV (fol es ts x)]))) q with | some (.lst xs)=>200-xs.length | _=>0)<(match H2 q with | some (.lst xs)=>200-xs.length | _=>0)
    rw[ae,hq2]
    show 200-((r++[x]).map iV++[iV (fol es ts x)]).length<200-((r++[x]).map iV).length
    rw[JO,JS,JW]
    omega
  ·have c':fol es ts x=d:=by
    by_cases z:fol es ts x=d
    ·exact z
    ·exact absurd (by rw[decide_eq_false (fun y=>z (by have:=V.int.inj y;omega))];rfl) c
   refine⟨_,rfl,?_⟩
   exact k q _ H2 s2 hq hq2 pa (pa.ring pm c')
 ·rintro σ H2 Q1 Q2 hi ⟨v',e,b',e2,z1,c',e3,q'⟩
  exact⟨v',e,b',e2,z1,c',e3,hi _ _ q'⟩
theorem b5:aC ["ties","turns","rounds","seen","dart","row","gone"] ["ties","turns"] (ai cK):=⟨rfl,rfl,rfl,by decide +kernel,rfl,by decide +kernel,by decide +kernel⟩
theorem DY{f ff:Addr}{fd fdf:FuncData} (F:Fun K "rounds_of" "rounds_of" cK f fd) (T:Txt mg) (G_round_from:Cal P w K mg base 3 "round_from" ["ties","turns","first"] (Dv K) ff fdf):FnOk P w K mg base CX0 4 f fd ["ties","turns"] (rM K):=by
 refine F.ok b5 (fun vs H Q E h=>?_) (fun cdv A outer s H vs Q E hr h=>?_)
 ·obtain⟨a,b,m,es,ts,rfl,_⟩:=h
  rfl
 obtain⟨a,b,m,es,ts,rfl,tt,k⟩:=h
 have hu:=Cv hr
 have pm:=perm tt.w
 have few:=tt.few
 obtain⟨xs,h1,h2⟩:=tt.xs
 refine⟨_,(ag (av (i:=2) b5.nd rfl (Or.inl rfl) (d0 aj))
   (ag (av (i:=3) b5.nd rfl (Or.inl rfl) ko)
   (ag (bV PassesOwn.never rfl (bW rfl T.n_range (aa (ay fJ ah (aE ax (by rfl) T.n_len bG (aa (pv 0) aj))) aj)) (aP (i:=4) b5.nd rfl (Or.inl rfl)) (aq (dz (Hk (vz hu (pv 4) (pv 3))) (ag (av (i:=5) b5.nd rfl (Or.inl rfl) (aH G_round_from.ok (hr.mono (by decide)) rfl G_round_from.mg G_round_from.kp G_round_from.bn .nil a9 (aa (pv 0) (aa (pv 1) (aa (pv 4) aj)))))
   (ag (bx (fH Kk KI KH bz (pv 2) (aa (pv 5) aj)))
   (aq (bV PassesOwn.never rfl (bD (pv 5)) (aP (i:=6) b5.nd rfl (Or.inl rfl)) (aq (sr hu (pv 3) (pv 6) DT rfl)))))) bg)))
   (aq (aQ (pv 2)))))),?_⟩
 refine⟨(by show 0<=sizeLine;decide),fun qr hqr=>fun qs hqs=>?_⟩
 have s1:=(ao hqr (.lst [])).trans (ao hqs (.dK []))
 have hqs0:H qs=none:=by
  cases z:H qs with
  |none=>rfl
  |some o=>rw[ao hqr (.lst []) qs o z]at hqs;cases hqs
 have hne:qr≠qs:=fun z=>by rw[← z,ae]at hqs;cases hqs
 have hxl:xs.length=es.length:=h2.1
 have hN:(2*(xs.length:Int)).toNat=2*es.length:=by omega
 refine⟨_,rfl,a,xs,rfl,.inl (s1.seq h1),_,_,rfl,rfl,.inl ⟨by decide,by decide⟩,_,rfl,by omega,by omega,de (n:=(2*(xs.length:Int)).toNat) (fun i σ H2=>∃ v4 v5 v6 ys rs kvs,σ = [some (.ref a),some (.ref b),some (.ref qr),some (.ref qs),v4,v5,v6]/\Same H H2/\H2 qr=some (.lst ys)/\cG (fun p=>p=qr∨p=qs) H2 ys rs/\H2 qs=some (.dK kvs)/\kvs.length<=rs.flatten.length/\(∀ d:Nat,(valV kvs (Sum.inl (d:Int))).isSome=true↔d∈rs.flatten)/\eK (fol es ts) (2*es.length) i rs)
  ⟨_,_,_,[],[],[],rfl,s1,by rw[ak hne,ae],⟨rfl,fun i l e=>by simp at e⟩,ae,JQ _,fun d=>by simp[valV],BN _ _⟩ ?_ ?_⟩
 ·rintro i σ H2 hi ⟨v4,v5,v6,ys,rs,kvs,rfl,s2,e1,rx,e2,kl,km,ro⟩
  rw[hN]at hi
  have e0:(0:Int)+(i:Int)=(i:Int):=Lb _
  rw[e0]
  have fl:=t5 ro
  have rl:=F7 ro
  refine⟨_,rfl,_,rfl,_,_,rfl,DGet.k (k:=Sum.inl (i:Int)) e2,_,rfl,?_⟩
  refine ite2 (fun c=>?_) (fun c=>?_)
  ·have hni:i∉rs.flatten:=fun z=>by
    rw[(km i).mpr z]at c
    cases c
   refine⟨_,rfl,_,rfl,_,rfl,a,b,m,es,ts,i,rfl,tt.mono s2,hi,fun q r H3 s3 hq hq3 pa ri=>?_⟩
   have s23:=s2.trans s3
   have nq:¬ (q=qr∨q=qs):=by
    rintro(z | z)
    ·rw[z,e1]at hq;cases hq
    ·rw[z,e2]at hq;cases hq
   refine⟨_,rfl,.inl ⟨rfl,_,SqL.of (s3 _ _ e1)⟩,_,rfl,qr,_,_,rfl,rfl,s3 _ _ e1,au (by rw[rx.1];omega),?_⟩
   have s4:=aW s23 hqr (.lst (ys++[.ref q]))
   have hrq:∀{H5:Hp},cG (fun p=>p=qr∨p=qs) H5 (ys++[.ref q]) (rs++[r])->H5 q=some (.lst (r.map iV)):=fun h=>by
    obtain⟨p,z1,_,z2⟩:=h.2 rs.length r (by rw[JP (JQ _),Kr];rfl)
    rw[← rx.1,JP (JQ _),Kr]at z1
    cases z1
    exact z2
   have rx4:cG (fun p=>p=qr∨p=qs) (upd H3 qr (.lst (ys++[.ref q]))) (ys++[.ref q]) (rs++[r]):=by
    refine(rx.mono fun p o n z=>?_).snoc nq ?_
    ·rw[ak (fun z=>n (.inl z))];exact s3 _ _ z
    ·rw[ak (fun z=>nq (.inl z))];exact hq3
   have rl:r.length<=2*es.length:=d7 ri.nd ri.lt
   refine⟨_,rfl,q,rfl,⟨_,SqL.of (hrq rx4)⟩,cZ (xs:=r.map iV) (fun j σ H5=>∃ v6 kvs',σ = [some (.ref a),some (.ref b),some (.ref qr),some (.ref qs),some (.int (i:Int)),some (.ref q),v6]/\Same H H5/\H5 qr=some (.lst (ys++[.ref q]))/\cG (fun p=>p=qr∨p=qs) H5 (ys++[.ref q]) (rs++[r])/\H5 qs=some (.dK kvs')/\kvs'.length<=rs.flatten.length+j/\∀ d:Nat,(valV kvs' (Sum.inl (d:Int))).isSome=true↔d∈rs.flatten∨d∈r.take j)
    ⟨_,kvs,rfl,s4,ae,rx4,by rw[ak hne.symm];exact s3 _ _ e2,kl,fun d=>by rw[km d];simp⟩ (fun j σ H5 _ p=>?_) ?_ ?_⟩
   ·obtain⟨_,_,_,_,_,z,_⟩:=p
    exact SqL.of (hrq z)
   ·rintro j x σ H5 hx ⟨v6,kvs',rfl,s5,f1,rx5,f2,kl5,km5⟩
    rw[JR]at hx
    obtain⟨g,hg,rfl⟩:=Kl.mp hx
    have hjl:j<r.length:=(JK.mp hg).1
    refine⟨_,rfl,_,rfl,qs,_,rfl,DPut.k (k:=Sum.inl (g:Int)) f2 (au (by omega)),?_⟩
    refine⟨_,_,rfl,aW s5 hqs0 _,by rw[ak hne];exact f1,rx5.mono fun p o n z=>by rw[ak (fun z=>n (.inr z))];exact z,ae,by have:=cW kvs' (Sum.inl (g:Int)) (V.bl true);omega,fun d=>?_⟩
    rw[rF]
    have tk:r.take (j+1)=r.take j++[g]:=by rw[Kw,hg];rfl
    rw[tk]
    by_cases z:d=g
    ·subst z
     simp
    ·rw[if_neg (fun y=>z (by have:=Sum.inl.inj y;omega)),km5 d]
     simp[z]
   ·rintro σ H5 ⟨v6,kvs',rfl,s5,f1,rx5,f2,kl5,km5⟩
    rw[JS]at kl5 km5
    refine⟨_,_,_,_,rs++[r],kvs',rfl,s5,f1,rx5,f2,by rw[Lf,JO];simpa using kl5,fun d=>?_,ro.put pm hni hi ri pa⟩
    rw[km5 d,KP,Lf,JV]
    simp
  ·have hii:i∈rs.flatten:=(km i).mp (by
    cases z:(valV kvs (Sum.inl (i:Int))).isSome with
    |true=>rfl
    |false=>exact absurd (by rw[z];rfl) c)
   exact⟨_,_,_,ys,rs,kvs,rfl,s2,e1,rx,e2,kl,km,ro.skip hii⟩
 ·rintro σ H2 ⟨v4,v5,v6,ys,rs,kvs,rfl,s2,e1,rx,e2,kl,km,ro⟩
  rw[hN]at ro
  exact⟨_,rfl,k qr ys rs H2 s2 e1 rx.off ro⟩
theorem dY:aC ["ties","rounds","number_at","number","row","dart"] ["ties","rounds"] (ai dI):=⟨rfl,rfl,rfl,by decide +kernel,rfl,by decide +kernel,by decide +kernel⟩
theorem Gv{f:Addr}{fd:FuncData} (F:Fun K "sides_of" "sides_of" dI f fd) (T:Txt mg):FnOk P w K mg base CX0 1 f fd ["ties","rounds"] (x8 K):=by
 refine F.ok dY (fun vs H Q E h=>?_) (fun cdv A outer s H vs Q E hr h=>?_)
 ·obtain⟨a,b,xs,ys,es,g,rs,rfl,_⟩:=h
  rfl
 obtain⟨a,b,xs,ys,es,g,rs,rfl,hS,hT,few,hB,hR,ro,k⟩:=h
 have hu:=Cv hr
 have fl:=t5 ro
 refine⟨_,(ag (av (i:=2) dY.nd rfl (Or.inr rfl) ko)
   (ag (bV PassesOwn.never rfl (DP rfl T.n_enumerate (aa (pv 1) aj)) (qP rfl (bP (aP (i:=3) dY.nd rfl (Or.inl rfl)) (bP (aP (i:=4) dY.nd rfl (Or.inl rfl)) lh))) (aq (bV PassesOwn.never rfl (bD (pv 4)) (aP (i:=5) dY.nd rfl (Or.inl rfl)) (aq (sr hu (pv 2) (pv 5) (pv 3) rfl)))))
   (aq (aQ (gU rfl (fr:=[("number_at",2)]) (by exact bX.one (by rfl) (by decide +kernel) (by rfl) (by decide +kernel) (by rfl) (by decide +kernel) (by rfl) (by rfl) (by decide +kernel) (by rfl)) (bW rfl T.n_range (aa (aE ax (by rfl) T.n_len bG (aa (pv 0) aj)) aj)) (fun C ex s H=>(gM (aa (sO hu (pv 1) (ay fJ ah (pv 0)) (fun _ _=>rfl)) (aa (sO hu (pv 1) (ay bR (ay fJ ah (pv 0)) ah) (fun _ _=>rfl)) aj))))))))),?_⟩
 intro q hq
 have s1:=ao hq (.dK [])
 have kF:∀ i,(rs.take i).flatten.length<=rs.flatten.length:=fun i=>by
  have:=congrArg (fun z=>z.flatten.length) (Km i rs)
  simp only[Lf,JO]at this
  omega
 refine⟨_,rfl,b,rfl,⟨_,s1.seq hB⟩,Bp (K:=K) (xs:=ys) (fun i σ H2=>∃ v3 v4 v5 kvs,σ = [some (.ref a),some (.ref b),some (.ref q),v3,v4,v5]/\Same H H2/\H2 q=some (.dK kvs)/\kvs.length<=(rs.take i).flatten.length/\∀(d c:Nat)(r:List Nat),c<i->rs[c]?=some r->d∈r->valV kvs (Sum.inl (d:Int))=some (iV c))
  ⟨_,_,_,[],rfl,s1,ae,K4 _,fun d c r z=>absurd z (MH _)⟩ (fun i σ H2 _ ⟨_,_,_,_,_,s2,_⟩=>s2.seq hB) ?_ ?_⟩
 ·rintro i x σ H2 T2 hx ⟨v3,v4,v5,kvs,rfl,s2,e1,kl,km⟩ hT2
  have hil:i<rs.length:=by
   have:=(JK.mp hx).1
   rw[hR.1]at this
   exact this
  have hr':rs[i]?=some rs[i]:=JL hil
  obtain⟨p,x1,x2⟩:=hR.2 i _ hr'
  rw[hx]at x1
  cases x1
  generalize rs[i]=r at hr' x2
  have s3:Same H (upd H2 T2 (.tup [.int (i:Int),.ref p])):=s2.trans (ao hT2 _)
  have f1:(rs.take (i+1)).flatten=(rs.take i).flatten++r:=by rw[Kw,hr'];simp
  have f2:=kF (i+1)
  rw[f1,JO]at f2
  refine⟨T2,_,rfl,SqT.of ae,rfl,_,_,rfl,_,_,rfl,rfl,?_⟩
  refine⟨_,rfl,p,rfl,⟨_,SqL.of (s3 _ _ x2)⟩,cZ (xs:=r.map iV) (fun j σ H5=>∃ v5 kvs',σ = [some (.ref a),some (.ref b),some (.ref q),some (.int (i:Int)),some (.ref p),v5]/\Same H H5/\H5 q=some (.dK kvs')/\kvs'.length<=(rs.take i).flatten.length+j/\(∀(d c:Nat)(r:List Nat),c<i->rs[c]?=some r->d∈r->valV kvs' (Sum.inl (d:Int))=some (iV c))/\∀ d∈r.take j,valV kvs' (Sum.inl (d:Int))=some (iV i))
   ⟨_,kvs,rfl,s3,ao hT2 _ _ _ e1,kl,km,fun d hd=>by simp at hd⟩ (fun j σ H5 _ ⟨_,_,_,z,_⟩=>SqL.of (z _ _ x2)) ?_ ?_⟩
  ·rintro j x σ H5 hx2 ⟨v5,kvs',rfl,s5,g1,kl5,km5,kn5⟩
   rw[JR]at hx2
   obtain⟨g,hg,rfl⟩:=Kl.mp hx2
   have hjl:j<r.length:=(JK.mp hg).1
   refine⟨_,rfl,_,rfl,_,rfl,q,_,rfl,DPut.k (k:=Sum.inl (g:Int)) g1 (au (by omega)),?_⟩
   refine⟨_,_,rfl,aW s5 hq _,ae,by have:=cW kvs' (Sum.inl (g:Int)) (V.int (i:Int));omega,fun d c r' hc hrc hd=>?_,fun d hd=>?_⟩
   ·rw[rF,if_neg (fun z=>?_)]
    ·exact km5 d c r' hc hrc hd
    ·have z':d=g:=by have:=Sum.inl.inj z;omega
     subst z'
     have:=Jr ro.nd hrc hr' hd (JM hg)
     omega
   ·rw[rF]
    by_cases z:d=g
    ·subst z
     rw[if_pos rfl]
     rfl
    ·rw[if_neg (fun y=>z (by have:=Sum.inl.inj y;omega))]
     refine kn5 d ?_
     rw[Kw,hg]at hd
     simpa[z] using hd
  ·rintro σ H5 ⟨v5,kvs',rfl,s5,g1,kl5,km5,kn5⟩
   rw[JS]at kl5 kn5
   rw[KP]at kn5
   refine⟨_,_,_,kvs',rfl,s5,g1,by rw[f1,JO];exact kl5,fun d c r' hc hrc hd=>?_⟩
   by_cases z:c=i
   ·subst z
    rw[hr']at hrc
    cases hrc
    exact kn5 d hd
   ·exact km5 d c r' (by omega) hrc hd
 ·rintro σ H2 ⟨v3,v4,v5,kvs,rfl,s2,e1,kl,km⟩
  rw[hR.1]at km
  have get:∀ d,d<2*es.length->∃ c r,rs[c]?=some r/\d∈r/\valV kvs (Sum.inl (d:Int))=some (iV c):=fun d hd=>by
   obtain⟨r,z1,z2⟩:=K0.mp (ro.all d hd)
   obtain⟨c,z3⟩:=KY.mp z1
   exact⟨c,r,z3,z2,km d c r (JK.mp z3).1 z3 z2⟩
  have hxl:xs.length=es.length:=hT.1
  refine⟨_,rfl,a,xs,rfl,.inl (s2.seq hS),_,rfl,by omega,by omega,qV (fun i zs H3=>Same H2 H3/\mh H3 zs i rs) (by rw[Kq,hxl];exact K2 (au (by omega))) ⟨fun _ _ e=>e,rfl,fun i hi=>absurd hi (MH _)⟩ ?_ ?_⟩
  ·rintro i zs H3 hi ⟨s3,sd⟩
   have e0:(0:Int)+(i:Int)=(i:Int):=Lb _
   rw[e0]
   rw[Kq,hxl]at hi
   obtain⟨c1,r1,z1,z2,z3⟩:=get (2*i) (by omega)
   obtain⟨c2,r2,y1,y2,y3⟩:=get (2*i+1) (by omega)
   have m2:CMul 2 (i:Int):=.inl ⟨by decide,by decide⟩
   have d1:DGet H3 q (V.int (2*(i:Int))) (some (iV c1)):=by
    rw[← z3,show((2*i:Nat):Int)=2*(i:Int) by omega]
    exact DGet.k (k:=Sum.inl (2*(i:Int))) (s3 _ _ e1)
   have d2:DGet H3 q (V.int (2*(i:Int)+1)) (some (iV c2)):=by
    rw[← y3,show((2*i+1:Nat):Int)=2*(i:Int)+1 by omega]
    exact DGet.k (k:=Sum.inl (2*(i:Int)+1)) (s3 _ _ e1)
   refine⟨_,rfl,_,rfl,_,_,rfl,rfl,m2,q,_,rfl,d1,_,rfl,_,rfl,_,_,rfl,rfl,m2,_,_,rfl,rfl,q,_,rfl,d2,(by show 2<=sizeLine;decide),fun t ht=>?_⟩
   have s4:=ao ht (.tup [iV c1,iV c2])
   refine⟨s3.trans s4,by rw[JO,sd.1];rfl,fun j hj=>?_⟩
   by_cases z:j=i
   ·subst z
    exact⟨t,c1,c2,r1,r2,by rw[← sd.1,JP (JQ _),Kr];rfl,ae,z1,z2,y1,y2⟩
   ·obtain⟨p,a',b',r,r',w1,w2,w3⟩:=sd.2 j (by omega)
    exact⟨p,a',b',r,r',by rw[JU (by rw[sd.1];omega)];exact w1,s4 _ _ w2,w3⟩
  ·rintro zs H3 hzl ⟨s3,sd⟩ D hD
   rw[Kq,hxl]at sd
   exact k D zs _ ((s2.trans s3).trans (ao hD _)) ae ⟨sd.1,fun i hi=>by
    obtain⟨p,a',b',r,r',w1,w2,w3⟩:=sd.2 i hi
    exact⟨p,a',b',r,r',w1,ao hD _ _ _ w2,w3⟩⟩
theorem se:aC ["self","one","two","strength"] ["self","one","two","strength"] (ai cn):=⟨rfl,rfl,rfl,by decide +kernel,rfl,by decide +kernel,by decide +kernel⟩
theorem IW{f:Addr}{fd:FuncData} (F:Fun K "__init__" "Tie.__init__" cn f fd):FnOk P w K mg base CX0 1 f fd ["self","one","two","strength"] (qL K):=by
 refine F.ok se (fun vs H Q E h=>?_) (fun cdv A outer s H vs Q E hr h=>?_)
 ·obtain⟨p,C,dx,a,b,s,rfl,_⟩:=h
  rfl
 obtain⟨p,C,dx,a,b,st,rfl,hp,T,hne,ha,hb,hs,k⟩:=h
 refine⟨_,(ag (dz (aL lj (pv 1) (pv 2) (aU _)) (aq fT) bg)
   (ag (dz (PW.pt (so (aL Gm (pv 1) ah (aU _)) (qN (aL Gm (pv 2) ah (aU _))))) (aq fT) bg)
   (ag (dz (aL Gm (pv 3) ah (aU _)) (aq fT) bg)
   (ag (mv (pv 0) (pv 1) rfl)
   (ag (mv (pv 0) (pv 2) rfl)
   (aq (mv (pv 0) (pv 3) rfl))))))),?_⟩
 walk_at "rd"
 refine ite2 (fun c=>absurd (V.int.inj (of_decide_eq_true c)) hne) (fun _=>?_)
 walk_at "rd"
 refine ite2 (fun c=>absurd (of_decide_eq_true c) (by omega)) (fun _=>?_)
 walk_at "rd"
 refine ite2 (fun c=>absurd (of_decide_eq_true c) (by omega)) (fun _=>?_)
 walk_at "rd"
 refine ite2 (fun c=>absurd (of_decide_eq_true c) (by omega)) (fun _=>?_)
 refine⟨_,rfl,_,rfl,p,C,dx,[],rfl,hp,T.cl,T.n1,(by show 0<1000;decide),?_⟩
 refine⟨_,rfl,_,rfl,p,C,dx,_,rfl,ae,T.cl,T.n2,f1_len a,?_⟩
 refine⟨_,rfl,_,rfl,p,C,dx,_,rfl,ae,T.cl,T.n3,f2_len a b,?_⟩
 exact k _ ae fun q o e hq=>by rw[ak hq,ak hq,ak hq];exact e
theorem yr:aC ["script","k"] ["script","k"] (ai dP):=⟨rfl,rfl,rfl,by decide +kernel,rfl,by decide +kernel,by decide +kernel⟩
theorem IZ{f:Addr}{fd:FuncData} (F:Fun K "_law_cell" "_law_cell" dP f fd) (T:Txt mg):FnOk P w K mg base CX0 1 f fd ["script","k"] (AX K):=by
 refine F.ok yr (fun vs H Q E h=>?_) (fun cdv A outer s H vs Q E hr h=>?_)
 ·obtain⟨a,k,ns,rfl,_⟩:=h
  rfl
 obtain⟨a,k,ns,rfl,hS,q⟩:=h
 refine⟨_,(ag (dz (aL Gm (pv 1) (aE ax (by rfl) T.n_len bG (aa (pv 0) aj)) (aU _)) (aq (aQ (aD aN (pv 0) (pv 1) (fun _ _=>rfl)))) bg)
   (aq (aQ ah))),?_⟩
 refine⟨_,rfl,_,rfl,a,_,rfl,.inl hS,_,_,rfl,rfl,_,rfl,?_⟩
 refine ite2 (fun c=>?_) (fun c=>?_)
 ·have c':(k:Int)<((ns.map V.int).length:Int):=of_decide_eq_true c
  rw[JS]at c'
  have hk:k<ns.length:=by omega
  have hat:atI (ns.map V.int) (k:Int)=some (.int (nI ns k)):=aM (by rw[JR,JL hk];unfold nI;rw[K3,JL hk];rfl)
  exact⟨_,rfl,_,rfl,a,_,_,_,rfl,rfl,hS,hat,q⟩
 ·have c':¬ (k:Int)<((ns.map V.int).length:Int):=fun z=>c (decide_eq_true z)
  rw[JS]at c'
  have e:nI ns k=0:=by unfold nI;rw[K3,LY (by omega)];rfl
  rw[e]at q
  exact q
theorem at0{u v:V}:atI [u,v] 0=some u:=rfl
theorem at1{u v:V}:atI [u,v] 1=some v:=rfl
theorem zm{H:Hp}{a:Addr}{ps:List Nat}(h:SqL K H a (ps.map iV)):RdD K H (.ref a) (.list ((ps.map fun(p:Nat)=>((p:Nat):Int)).map PyData.int)):=by
 refine RdD.lst h (by simp) fun i x d e1 e2=>?_
 rw[JR]at e1
 rw[JR,JR]at e2
 cases z:ps[i]? with
 |none=>rw[z]at e1;cases e1
 |some n =>
  rw[z]at e1 e2
  cases e1
  cases e2
  exact .int _
theorem EK(l:List Int):(PyData.list (l.map PyData.int)).canLay0=true/\(PyData.list (l.map PyData.int)).depth<=10:=by
 have h1:∀ d∈l.map PyData.int,d.canLay0=true/\d.depth<=1:=fun d hd=>by
  obtain⟨x,_,rfl⟩:=Ke.mp hd
  exact⟨by simp[PyData.canLay0],by simp[PyData.depth]⟩
 have h2:=iu fun d hd=>(h1 d hd).1
 have h3:=jM fun d hd=>(h1 d hd).2
 exact⟨by simp only[PyData.canLay0];exact h2,by simp only[PyData.depth];omega⟩
theorem jK(l:List Int):SeqAt.shaped (.list (l.map PyData.int))=true:=oB fun d hd=>by
 obtain⟨x,_,rfl⟩:=Ke.mp hd
 exact⟨by simp[PyData.canLay0],by simp[PyData.depth]⟩
theorem cF.put{H:Hp}{ys:List V}{es:En}{q:Addr}{zs:List V}{o:HO}(t:cF H ys es)(h:H q=some (.lst zs)):cF (upd H q o) ys es:=⟨t.1,fun i e z=>by
 obtain⟨p,a,b⟩:=t.2 i e z
 refine⟨p,a,?_⟩
 rw[ak (fun z=>by rw[z,h]at b;cases b)]
 exact b⟩
theorem cF.snoc{H:Hp}{xs:List V}{es:En}{e:Nat×Nat}{p:Addr}(t:cF H xs es)(h:H p=some (.tup [iV e.1,iV e.2])):cF H (xs++[.ref p]) (es++[e]):=by
 refine⟨by rw[JO,JO,t.1];rfl,fun j k ej=>?_⟩
 by_cases hj:j<es.length
 ·rw[JU hj]at ej
  obtain⟨p,a1,a2⟩:=t.2 j k ej
  exact⟨p,by rw[JU (by rw[t.1];exact hj)];exact a1,a2⟩
 ·rw[JP (by omega)]at ej
  have hj2:j=es.length:=by
   have:=(JK.mp ej).1
   rw[JW]at this
   omega
  subst hj2
  rw[Kr]at ej
  cases ej
  exact⟨p,by rw[← t.1,JP (JQ _),Kr];rfl,h⟩
theorem Jk{l:List Nat}{k n:Nat}:(ins l k n).length=l.length+1:=by
 unfold ins
 rw[JO,Kt,Ku,KL]
 omega
theorem Hw(X:Int)(n:Nat):0<=X%((n:Int)+1)/\X%((n:Int)+1)<=(n:Int):=⟨LZ _ (by omega),by have:=LU X (show(0:Int)<(n:Int)+1 by omega);omega⟩
def Dist(xs:List V):Prop:=∀(i j:Nat)(p:Addr),xs[i]?=some (.ref p)->xs[j]?=some (.ref p)->i=j
theorem cG.set{S:Addr->Prop}{H:Hp}{xs:List V}{ts:List (List Nat)}{i:Nat}{p:Addr}{l':List Nat}(h:cG S H xs ts)(D:Dist xs)(e:xs[i]?=some (.ref p)):cG S (upd H p (.lst (l'.map iV))) xs (ts.set i l'):=by
 refine⟨by rw[KQ];exact h.1,fun j l z=>?_⟩
 have hi:i<ts.length:=by rw[← h.1];exact(JK.mp e).1
 rw[KG]at z
 by_cases hj:i=j
 ·subst hj
  rw[if_pos rfl,if_pos hi]at z
  cases z
  obtain⟨p',a1,a2,a3⟩:=h.2 i _ (JL hi)
  rw[e]at a1
  cases a1
  exact⟨p,e,a2,ae⟩
 ·rw[if_neg hj]at z
  obtain⟨p',a1,a2,a3⟩:=h.2 j l z
  exact⟨p',a1,a2,by rw[ak (fun y=>by rw[y]at a1;exact hj (D i j p e a1))];exact a3⟩
theorem insV{l:List Nat}{k n:Nat}:(l.map iV).take k++V.int (n:Int)::(l.map iV).drop k=(ins l k n).map iV:=by
 unfold ins
 rw[KD,KA,NW,Nm]
 rfl
theorem DE{H:Hp}{a:Addr}{xs:List V}{ts:List (List Nat)}(h:SqL K H a xs)(hR:bE H xs ts):RdD K H (.ref a) (.list (ts.map fun l=>PyData.list ((l.map fun(p:Nat)=>((p:Nat):Int)).map PyData.int))):=by
 refine RdD.lst h (by rw[JS];exact hR.1) fun i x d e1 e2=>?_
 rw[JR]at e2
 obtain⟨l,hl,rfl⟩:=Kl.mp e2
 obtain⟨p,a1,a2⟩:=hR.2 i l hl
 rw[e1]at a1
 cases a1
 exact zm (SqL.of a2)
theorem yw(ts:List (List Nat)):SeqAt.shaped (.list (ts.map fun l=>PyData.list ((l.map fun(p:Nat)=>((p:Nat):Int)).map PyData.int)))=true:=oB fun d hd=>by
 obtain⟨l,_,rfl⟩:=Ke.mp hd
 exact EK _
end
end K8
namespace K8
open PySem L2
local macro_rules | `(tactic| walk_at "cc") => `(tactic| first | exact ⟨by decide, by decide⟩ | (show (0 : Int) < _; decide) | (show (0 : Int) < _; omega) | (show (0 : Int) ≤ _; omega) | exact ⟨by decide, by decide, by decide⟩ | exact ⟨by omega, by omega, by decide⟩ | exact Or.inl ⟨by decide, by decide⟩ | exact Or.inl ⟨by omega, by omega⟩)
local macro_rules | `(tactic| walk_at "rd") => `(tactic| repeat (first | refine ⟨_, rfl, ?_⟩ | refine ⟨_, _, rfl, rfl, ?_⟩ | refine ⟨rfl, ?_⟩ | (refine ⟨?cc, ?_⟩; (case cc => walk_at "cc"))))
def rQ(K:JN):Sp:=fun vs H Q _=>∃(a:Addr)(ys:List V)(es:En)(d:Nat),vs = [.ref a,.int (d:Int)]/\SqL K H a ys/\cF H ys es/\d<2*es.length/\Q (iV (hd es d)) H
def rP(K:JN):Sp:=fun vs H Q _=>∃(a b:Addr)(ys xs:List V)(m:Nat)(es:En)(ts:List (List Nat))(d:Nat),vs = [.ref a,.ref b,.int (d:Int)]/\SqL K H a ys/\cF H ys es/\SqL K H b xs/\bE H xs ts/\br m es ts/\es.length<=62/\d<2*es.length /\
 ∀ q r H',Same H H'->H q=none->H' q=some (.lst (r.map iV))->Path (fol es ts) (2*es.length) d r->Ring (fol es ts) (2*es.length) r->Q (.ref q) H'
section
variable{P:Program}{w:World}{K:JN}{mg:Str->Option Value}{base:Heap}
theorem yq:aC ["ends","dart"] ["ends","dart"] (ai dN):=⟨rfl,rfl,rfl,by decide +kernel,rfl,by decide +kernel,by decide +kernel⟩
theorem Gz{f:Addr}{fd:FuncData} (F:Fun K "_law_head" "_law_head" dN f fd):FnOk P w K mg base CX0 1 f fd ["ends","dart"] (rQ K):=by
 refine F.ok yq (fun vs H Q E h=>?_) (fun cdv A outer s H vs Q E hr h=>?_)
 ·obtain⟨a,ys,es,d,rfl,_⟩:=h
  rfl
 obtain⟨a,ys,es,d,rfl,hS,hE,hdl,k⟩:=h
 have hl:d/2<es.length:=by omega
 have e1:es[d/2]?=some es[d/2]:=JL hl
 obtain⟨p,x1,x2⟩:=hE.2 _ _ e1
 have hh:hd es d=if d%2=0 then es[d/2].2 else es[d/2].1:=by unfold hd;rw[e1]
 have ed:(d:Int)/2=((d/2:Nat):Int):=by omega
 have hat:atI [iV es[d/2].1,iV es[d/2].2] (1-(d:Int)%2)=some (iV (hd es d)):=by
  by_cases z:d%2=0
  ·rw[hh,if_pos z,show(1-(d:Int)%2)=1 by omega];rfl
  ·rw[hh,if_neg z,show(1-(d:Int)%2)=0 by omega];rfl
 refine⟨_,(aq (aQ (aD aJ (aD aN (pv 0) (ay d6 (pv 1) ah) (fun _ _=>rfl)) (ay vA ah (ay bQ (pv 1) ah)) (fun _ _=>rfl)))),?_⟩
 exact⟨_,rfl,_,rfl,_,_,rfl,rfl,⟨by decide,by decide⟩,a,ys,_,_,rfl,rfl,hS,(by rw[ed];exact aM x1),_,rfl,_,_,rfl,rfl,(by show(0:Int)<2;decide),_,_,rfl,rfl,p,_,_,_,rfl,rfl,SqT.of x2,hat,k⟩
theorem dy:aC ["ends","turns","dart","place","row","tie"] ["ends","turns","dart"] (ai cb):=⟨rfl,rfl,rfl,by decide +kernel,rfl,by decide +kernel,by decide +kernel⟩
theorem BX{f fh:Addr}{fd fdh:FuncData} (F:Fun K "_law_behind" "_law_behind" cb f fd) (T:Txt mg) (G_law_head:Cal P w K mg base 1 "_law_head" ["ends","dart"] (rQ K) fh fdh):FnOk P w K mg base CX0 2 f fd ["ends","turns","dart"] (rT K):=by
 refine F.ok dy (fun vs H Q E h=>?_) (fun cdv A outer s H vs Q E hr h=>?_)
 ·obtain⟨a,b,ys,xs,m,es,ts,d,rfl,_⟩:=h
  rfl
 obtain⟨a,b,ys,xs,m,es,ts,d,rfl,hS,hE,hB,hR,w',few,hdl,kk⟩:=h
 obtain⟨l,e,p1,p2,p3,p4,p5,p6,p7,p8,p9⟩:=w'.foll hdl
 obtain⟨small,len⟩:=iO w' few p1
 obtain⟨q,y1,y2⟩:=hR.2 _ _ p1
 obtain⟨p',x1',x2'⟩:=hE.2 _ _ p3
 have ed:(d:Int)/2=((d/2:Nat):Int):=by omega
 have hl0:0<l.length:=Mv p2
 have hlen:(l.map iV).length=l.length:=JS _
 have hmod:(((l.idxOf (d/2):Nat):Int)+1)%((l.map iV).length:Int)=(((l.idxOf (d/2)+1)%l.length:Nat):Int):=by rw[hlen];rfl
 have m2:CMul 2 ((nxt l (d/2):Nat):Int):=.inl ⟨by decide,by decide⟩
 refine⟨_,(ag (av (i:=3) dy.nd rfl (Or.inl rfl) (aH G_law_head.ok (hr.mono (by decide)) rfl G_law_head.mg G_law_head.kp G_law_head.bn .nil a9 (aa (pv 0) (aa (pv 2) aj))))
   (ag (av (i:=4) dy.nd rfl (Or.inl rfl) (aD aN (pv 1) (pv 3) (fun _ _=>rfl)))
   (ag (av (i:=5) dy.nd rfl (Or.inl rfl) (aD aN (pv 4) (ay bQ (ay bR (fH Kk Mo Mn nU (pv 4) (aa (ay d6 (pv 2) ah) aj)) ah) (aE ax (by rfl) T.n_len bG (aa (pv 4) aj))) (fun _ _=>rfl)))
   (aq (aQ (ay bR (ay fJ ah (pv 5)) (c9 Fx (by rfl) T.n_int HL (aa (DS oG (aD aJ (aD aN (pv 0) (pv 5) (fun _ _=>rfl)) ah (fun _ _=>rfl)) (pv 3) (aU _)) aj)))))))),?_⟩
 refine⟨_,rfl,_,rfl,a,ys,es,d,rfl,hS,hE,hdl,?_⟩
 refine⟨_,rfl,_,rfl,b,xs,_,_,rfl,rfl,hB,aM y1,?_⟩
 refine⟨_,rfl,_,rfl,.inl ⟨rfl,_,SqL.of y2⟩,_,rfl,_,_,rfl,rfl,⟨by decide,by decide⟩,q,l,d/2,rfl,congrArg (fun z=>[V.int z]) ed,SqL.of y2,fun p hp=>by have:=small p hp;omega,by omega,p2,_,_,rfl,rfl,_,rfl,q,_,rfl,.inl (SqL.of y2),_,_,rfl,rfl,(by show(0:Int)<((l.map iV).length:Int);rw[hlen];omega),q,_,_,_,rfl,rfl,SqL.of y2,(by rw[hmod];exact Jl (gW p2)),?_⟩
 refine⟨_,rfl,_,_,rfl,rfl,m2,_,rfl,_,rfl,a,ys,_,_,rfl,rfl,hS,aM x1',p',_,0,_,rfl,rfl,SqT.of x2',at0,_,rfl,rfl,.inr ⟨_,rfl,_,_,rfl,rfl,?_⟩⟩
 rw[p6]at kk
 by_cases c:e.1=hd es d
 ·rw[if_pos c]at kk
  rw[decide_eq_true (congrArg iV c)]
  simpa[iV] using kk
 ·rw[if_neg c]at kk
  rw[decide_eq_false (fun z=>c (by have:=V.int.inj z;omega))]
  simpa[iV] using kk
theorem eS:aC ["ends","turns","dart","row","at"] ["ends","turns","dart"] (ai cM):=⟨rfl,rfl,rfl,by decide +kernel,rfl,by decide +kernel,by decide +kernel⟩
theorem DZ{f ff:Addr}{fd fdf:FuncData} (F:Fun K "_law_round" "_law_round" cM f fd) (G_law_behind:Cal P w K mg base 2 "_law_behind" ["ends","turns","dart"] (rT K) ff fdf):FnOk P w K mg base CX0 3 f fd ["ends","turns","dart"] (rP K):=by
 refine F.ok eS (fun vs H Q E h=>?_) (fun cdv A outer s H vs Q E hr h=>?_)
 ·obtain⟨a,b,ys,xs,m,es,ts,d,rfl,_⟩:=h
  rfl
 obtain⟨a,b,ys,xs,m,es,ts,d,rfl,hS,hE,hB,hR,w',few,hdl,k⟩:=h
 have pm:=perm w'
 refine⟨_,(ag (av (i:=3) eS.nd rfl (Or.inl rfl) (d0 (aa (pv 2) aj)))
   (ag (av (i:=4) eS.nd rfl (Or.inl rfl) (aH G_law_behind.ok (hr.mono (by decide)) rfl G_law_behind.mg G_law_behind.kp G_law_behind.bn .nil a9 (aa (pv 0) (aa (pv 1) (aa (pv 2) aj)))))
   (ag (sq PassesOwn.never (aL oG (pv 4) (pv 2) (aU _)) (ag (bx (fH Kk KI KH bz (pv 3) (aa (pv 4) aj)))
   (aq (av (i:=4) eS.nd rfl (Or.inl rfl) (aH G_law_behind.ok (hr.mono (by decide)) rfl G_law_behind.mg G_law_behind.kp G_law_behind.bn .nil a9 (aa (pv 0) (aa (pv 1) (aa (pv 4) aj))))))))
   (aq (aQ (pv 3)))))),?_⟩
 refine⟨_,rfl,(by show 1<=sizeLine;decide),fun q hq=>?_⟩
 have s1:=ao hq (.lst [.int (d:Int)])
 refine⟨_,rfl,_,rfl,_,rfl,a,b,ys,xs,m,es,ts,d,rfl,s1.seq hS,hE.mono s1,s1.seq hB,hR.mono s1,w',few,hdl,?_⟩
 refine rD (fun σ H2=>∃(r:List Nat)(x:Nat),σ = [some (.ref a),some (.ref b),some (.int (d:Int)),some (.ref q),some (iV (fol es ts x))]/\Same H H2/\H2 q=some (.lst ((r++[x]).map iV))/\Path (fol es ts) (2*es.length) d (r++[x]))
  (fun σ H2=>match H2 q with | some (.lst xs)=>200-xs.length | _=>0) ⟨[],d,rfl,s1,ae,A6 hdl⟩ ?_ ?_
 ·rintro σ H2 ⟨r,x,rfl,s2,hq2,pa⟩
  refine⟨_,rfl,_,rfl,rfl,_,rfl,?_⟩
  have hlen:=d7 pa.nd pa.lt
  refine ite2 (fun c=>?_) (fun c=>?_)
  ·have c':fol es ts x≠d:=fun z=>by
    rw[decide_eq_true (show iV (fol es ts x)=V.int (d:Int) by rw[z];rfl)]at c
    cases c
   have pa2:=pa.snoc pm c'
   have hlen2:=d7 pa2.nd pa2.lt
   have lt2:fol es ts x<2*es.length:=pa2.lt _ (by simp)
   refine⟨_,rfl,.inl ⟨rfl,_,SqL.of hq2⟩,_,rfl,q,_,_,rfl,rfl,hq2,au (by rw[JS];omega),?_⟩
   have s3:=aW s2 hq (.lst ((r++[x]).map iV++[iV (fol es ts x)]))
   refine⟨_,rfl,_,rfl,_,rfl,a,b,ys,xs,m,es,ts,fol es ts x,rfl,s3.seq hS,hE.mono s3,s3.seq hB,hR.mono s3,w',few,lt2,?_⟩
   refine⟨⟨r++[x],fol es ts x,rfl,s3,?_,pa2⟩,?_⟩
   ·rw[ae,show((r++[x]++[fol es ts x]).map iV)=(r++[x]).map iV++[iV (fol es ts x)] from by rw[KD];rfl]
   ·show(match(upd H2 q (.lst ((r++[x]).map iV++[iV (fol es ts x)]))) q with | some (.lst xs)=>200-xs.length | _=>0)<(match H2 q with | some (.lst xs)=>200-xs.length | _=>0)
    rw[ae,hq2]
    show 200-((r++[x]).map iV++[iV (fol es ts x)]).length<200-((r++[x]).map iV).length
    rw[JO,JS,JW]
    omega
  ·have c':fol es ts x=d:=by
    by_cases z:fol es ts x=d
    ·exact z
    ·exact absurd (by rw[decide_eq_false (fun y=>z (by have:=V.int.inj y;omega))];rfl) c
   refine⟨_,rfl,?_⟩
   exact k q _ H2 s2 hq hq2 pa (pa.ring pm c')
 ·rintro σ H2 Q1 Q2 hi ⟨v',e,b',e2,z1,c',e3,q'⟩
  exact⟨v',e,b',e2,z1,c',e3,hi _ _ q'⟩
end
end K8
namespace K8
open PySem L2
local macro_rules | `(tactic| walk_at "cc") => `(tactic| first | exact ⟨by decide, by decide⟩ | (show (0 : Int) < _; decide) | (show (0 : Int) < _; omega) | (show (0 : Int) ≤ _; omega) | exact ⟨by decide, by decide, by decide⟩ | exact ⟨by omega, by omega, by decide⟩ | exact Or.inl ⟨by decide, by decide⟩ | exact Or.inl ⟨by omega, by omega⟩)
local macro_rules | `(tactic| walk_at "rd") => `(tactic| repeat (first | refine ⟨_, rfl, ?_⟩ | refine ⟨_, _, rfl, rfl, ?_⟩ | refine ⟨rfl, ?_⟩ | (refine ⟨?cc, ?_⟩; (case cc => walk_at "cc"))))
def rO:Sp:=fun vs H Q _=>∃(c:Int)(m:Nat),vs = [.int c,.int (m:Int)]/\m<=100/\∀(q:Addr)(o:List Nat)(H':Hp),Same H H'->H q=none->H' q=some (.lst (o.map iV))->o.length=m->o.Nodup->(∀ x∈o,x<m)->Q (.ref q) H'
def yc(K:JN):Sp:=fun vs H Q _=>∃(a:Addr)(cs:List Int),vs = [.ref a]/\SqL K H a (cs.map V.int)/\cs.length<=7 /\
 ∀(t pe pt:Addr)(ys xs:List V)(m:Nat)(es:En)(ts:List (List Nat))(H':Hp),Same H H'->H' t=some (.tup [.ref pe,.ref pt])->H' pe=some (.lst ys)->cF H' ys es->H' pt=some (.lst xs)->bE H' xs ts->Gr m es ts->es.length=cs.length+1->Q (.ref t) H'
def JJ(H:Hp)(a pe pt:Addr)(i:Nat)(σ:St)(H5:Hp):Prop:=∃ v3 v4 v5 v6 v7 v8 v9 v10 ys xs m es ts,σ = [some (.ref a),some (.ref pe),some (.ref pt),v3,v4,v5,v6,v7,v8,v9,v10]/\Same H H5/\H5 pe=some (.lst ys)/\cF H5 ys es/\H5 pt=some (.lst xs)/\cG (fun p=>p=pe∨p=pt∨H p≠none) H5 xs ts/\Dist xs/\Gr m es ts/\es.length=i+1
theorem n9{H H7:Hp}{a pe pt:Addr}{i m':Nat}{ys xs:List V}{es:En}{e:Nat×Nat}{ts':List (List Nat)}(npe:pe≠pt)(hpe:H pe=none)(s7:Same H H7)(h1:H7 pe=some (.lst ys))(h2:cF H7 ys es)(h3:H7 pt=some (.lst xs))(h4:cG (fun p=>p=pe∨p=pt∨H p≠none) H7 xs ts')(h5:Dist xs)(h6:Gr m' (es++[e]) ts')(hi:es.length=i+1)
  {t:Addr} (ht:H7 t=none) {x y:V} (hx:x=iV e.1) (hy:y=iV e.2) (v3 v4 v5 v6 v7 v8 v9 v10:Option V):JJ H a pe pt (i+1) [some (.ref a),some (.ref pe),some (.ref pt),v3,v4,v5,v6,v7,v8,v9,v10] (upd (upd H7 t (.tup [x,y])) pe (.lst (ys++[.ref t]))):=by
 subst hx hy
 have sn:=ao ht (.tup [iV e.1,iV e.2])
 refine⟨_,_,_,_,_,_,_,_,_,xs,m',es++[e],ts',rfl,aW (s7.trans sn) hpe _,ae,((h2.mono sn).snoc ae).put (sn _ _ h1),by rw[ak npe.symm];exact sn _ _ h3,h4.mono fun p o n z=>?_,h5,h6,by rw[JO,hi];rfl⟩
 rw[ak (fun z=>n (.inl z))]
 exact sn _ _ z
theorem wF{S:Addr->Prop}{H:Hp}{xs:List V}{ts:List (List Nat)}{q:Addr}(h:cG S H xs ts)(D:Dist xs)(hq:H q=none):Dist (xs++[.ref q]):=by
 have old:∀(j:Nat)(p:Addr),j<xs.length->(xs++[V.ref q])[j]?=some (.ref p)->xs[j]?=some (.ref p)/\p≠q:=fun j p hj e=>by
  rw[JU hj]at e
  obtain⟨p',a1,_,a3⟩:=h.2 j _ (JL (by rw[← h.1];exact hj))
  rw[e]at a1
  cases a1
  exact⟨e,ar a3 hq⟩
 have new:∀(j:Nat)(p:Addr),¬ j<xs.length->(xs++[V.ref q])[j]?=some (.ref p)->j=xs.length/\p=q:=fun j p hj e=>by
  have:=(JK.mp e).1
  rw[JO,JW]at this
  have hj2:j=xs.length:=by omega
  subst hj2
  rw[JP (JQ _),Kr]at e
  cases e
  exact⟨rfl,rfl⟩
 intro j k p e1 e2
 by_cases hj:j<xs.length
 ·obtain⟨u1,u2⟩:=old j p hj e1
  by_cases hk:k<xs.length
  ·exact D j k p u1 (old k p hk e2).1
  ·exact absurd (new k p hk e2).2 u2
 ·obtain⟨u1,u2⟩:=new j p hj e1
  by_cases hk:k<xs.length
  ·exact absurd u2 (old k p hk e2).2
  ·rw[u1,(new k p hk e2).1]
theorem qT{m:Nat}{es:En}{ts:List (List Nat)}(g:Gr m es ts):m<=es.length+2:=by
 obtain⟨rs,_,c⟩:=g.part
 omega
section
variable{P:Program}{w:World}{K:JN}{mg:Str->Option Value}{base:Heap}
theorem c8:aC ["cell","many","order","mixed","k"] ["cell","many"] (ai cN):=⟨rfl,rfl,rfl,by decide +kernel,rfl,by decide +kernel,by decide +kernel⟩
theorem Gy{f:Addr}{fd:FuncData} (F:Fun K "_law_order" "_law_order" cN f fd) (T:Txt mg):FnOk P w K mg base CX0 1 f fd ["cell","many"] rO:=by
 refine F.ok c8 (fun vs H Q E h=>?_) (fun cdv A outer s H vs Q E hr h=>?_)
 ·obtain⟨c,m,rfl,_⟩:=h
  rfl
 obtain⟨c,m,rfl,hm,k⟩:=h
 refine⟨_,(ag (av (i:=2) c8.nd rfl (Or.inl rfl) (d0 aj))
   (ag (av (i:=3) c8.nd rfl (Or.inl rfl) (ay bQ (pv 0) ah))
   (ag (bV PassesOwn.never rfl (bW rfl T.n_range (aa (pv 1) aj)) (aP (i:=4) c8.nd rfl (Or.inl rfl)) (ag (av (i:=3) c8.nd rfl (Or.inl rfl) (ay bQ (ay fJ (pv 3) ah) ah))
   (aq (bx (fH Kk MR MQ oJ (pv 2) (aa (ay bQ (pv 3) (ay bR (pv 4) ah)) (aa (pv 4) aj)))))))
   (aq (aQ (pv 2)))))),?_⟩
 refine⟨(by show 0<=sizeLine;decide),fun q hq=>?_⟩
 refine⟨_,rfl,_,_,rfl,rfl,(by show(0:Int)<1000000007;decide),?_⟩
 refine⟨_,rfl,_,rfl,by omega,by omega,de (n:=(m:Int).toNat) (fun i σ H2=>∃(M:Int),∃ v4 o,σ = [some (.int c),some (.int (m:Int)),some (.ref q),some (.int M),v4]/\Same H H2/\H2 q=some (.lst (o.map iV))/\o.length=i/\o.Nodup/\∀ x∈o,x<i) ⟨_,_,[],rfl,ao hq _,ae,rfl,Mf,fun x hx=>nomatch hx⟩ ?_ ?_⟩
 ·rintro i σ H2 hi ⟨M,v4,o,rfl,s2,hq2,ol,nd,lt⟩
  rw[Kq]at hi
  have e0:(0:Int)+(i:Int)=(i:Int):=Lb _
  rw[e0]
  have hlen:(o.map iV).length=i:=by rw[JS];exact ol
  refine⟨_,rfl,_,_,rfl,rfl,.inr ⟨by decide,by decide⟩,_,_,rfl,rfl,(by show(0:Int)<2147483647;decide),?_⟩
  refine⟨_,rfl,.inl ⟨rfl,_,SqL.of hq2⟩,_,rfl,_,rfl,_,_,rfl,rfl,_,_,rfl,rfl,(by show(0:Int)<(i:Int)+1;omega),_,rfl,q,_,_,_,rfl,rfl,hq2,(Hw _ _).1,(by rw[hlen];exact(Hw _ _).2),au (by omega),?_⟩
  rw[insV]
  refine⟨_,_,_,rfl,aW s2 hq _,ae,by rw[Jk,ol],EM nd fun z=>by have:=lt i z;omega,fun x hx=>?_⟩
  rcases zS.mp hx with z | z
  ·omega
  ·have:=lt x z;omega
 ·rintro σ H2 ⟨M,v4,o,rfl,s2,hq2,ol,nd,lt⟩
  rw[Kq]at ol lt
  exact⟨_,rfl,k q o H2 s2 hq hq2 ol nd lt⟩
theorem aR:aC ["cells","ends","turns","cell","mixed","fresh","left","row","right","one","two"] ["cells"] (ai cO):=⟨rfl,rfl,rfl,by decide +kernel,rfl,by decide +kernel,by decide +kernel⟩
theorem GA{f fr fh:Addr}{fd fdr fdh:FuncData} (F:Fun K "_law_grown" "_law_grown" cO f fd) (T:Txt mg) (G_law_round:Cal P w K mg base 3 "_law_round" ["ends","turns","dart"] (rP K) fr fdr) (G_law_head:Cal P w K mg base 1 "_law_head" ["ends","dart"] (rQ K) fh fdh) :
  FnOk P w K mg base CX0 4 f fd ["cells"] (yc K):=by
 refine F.ok aR (fun vs H Q E h=>?_) (fun cdv A outer s H vs Q E hr h=>?_)
 ·obtain⟨a,cs,rfl,_⟩:=h
  rfl
 obtain⟨a,cs,rfl,hS,h30,kk⟩:=h
 have hcl:(cs.map V.int).length=cs.length:=JS _
 refine⟨_,(ag (av (i:=1) aR.nd rfl (Or.inl rfl) (d0 (aa (gM (aa ah (aa ah aj))) aj)))
   (ag (av (i:=2) aR.nd rfl (Or.inl rfl) (d0 (aa (d0 (aa ah aj)) (aa (d0 (aa ah aj)) aj))))
   (ag (bV PassesOwn.never rfl (bD (pv 0)) (aP (i:=3) aR.nd rfl (Or.inl rfl)) (ag (av (i:=4) aR.nd rfl (Or.inl rfl) (ay bQ (ay fJ (ay bQ (pv 3) ah) ah) ah))
   (ag (av (i:=5) aR.nd rfl (Or.inl rfl) (aE ax (by rfl) T.n_len bG (aa (pv 1) aj)))
   (ag (av (i:=6) aR.nd rfl (Or.inl rfl) (ay bQ (ay d6 (pv 4) ah) (ay fJ ah (pv 5))))
   (ag (av (i:=7) aR.nd rfl (Or.inl rfl) (aH G_law_round.ok (hr.mono (by decide)) rfl G_law_round.mg G_law_round.kp G_law_round.bn .nil a9 (aa (pv 1) (aa (pv 2) (aa (pv 6) aj)))))
   (ag (av (i:=8) aR.nd rfl (Or.inl rfl) (aD aN (pv 7) (ay bQ (ay bQ (ay fJ (pv 4) (pv 4)) ah) (aE ax (by rfl) T.n_len bG (aa (pv 7) aj))) (fun _ _=>rfl)))
   (ag (av (i:=9) aR.nd rfl (Or.inl rfl) (aH G_law_head.ok (hr.mono (by decide)) rfl G_law_head.mg G_law_head.kp G_law_head.bn .nil a9 (aa (pv 1) (aa (pv 6) aj))))
   (ag (av (i:=10) aR.nd rfl (Or.inl rfl) (aH G_law_head.ok (hr.mono (by decide)) rfl G_law_head.mg G_law_head.kp G_law_head.bn .nil a9 (aa (pv 1) (aa (pv 8) aj))))
   (ag (bx (fH Kk MR MQ oJ (aD aN (pv 2) (pv 9) (fun _ _=>rfl)) (aa (ay bR (fH Kk Mo Mn nU (aD aN (pv 2) (pv 9) (fun _ _=>rfl)) (aa (ay d6 (pv 6) ah) aj)) ah) (aa (pv 5) aj))))
   (ag (dz (PW.pt (so (aL lj (ay bQ (pv 4) ah) ah (aU _)) (qN (aL lj (pv 9) (pv 10) (aU _))))) (ag (av (i:=10) aR.nd rfl (Or.inl rfl) (aE ax (by rfl) T.n_len bG (aa (pv 2) aj)))
   (aq (bx (fH Kk KI KH bz (pv 2) (aa (d0 (aa (pv 5) aj)) aj))))) (aq (bx (fH Kk MR MQ oJ (aD aN (pv 2) (pv 10) (fun _ _=>rfl)) (aa (ay bR (fH Kk Mo Mn nU (aD aN (pv 2) (pv 10) (fun _ _=>rfl)) (aa (ay d6 (pv 8) ah) aj)) ah) (aa (pv 5) aj))))))
   (aq (dz (aL lj (ay bQ (ay d6 (pv 3) ah) ah) ah (aU _)) (aq (bx (fH Kk KI KH bz (pv 1) (aa (gM (aa (pv 10) (aa (pv 9) aj))) aj)))) (aq (bx (fH Kk KI KH bz (pv 1) (aa (gM (aa (pv 9) (aa (pv 10) aj))) aj))))))))))))))))
   (aq (aQ (gM (aa (pv 1) (aa (pv 2) aj)))))))),?_⟩
 refine⟨(by show 2<=sizeLine;decide),fun t0 ht0=>⟨(by show 1<=sizeLine;decide),fun pe hpe=>?_⟩⟩
 have s1:=ao ht0 (.tup [.int 0,.int 1])
 have s2:=s1.trans (ao hpe (.lst [.ref t0]))
 refine⟨(by show 1<=sizeLine;decide),fun p0 hp0=>⟨(by show 1<=sizeLine;decide),fun p1 hp1=>⟨(by show 2<=sizeLine;decide),fun pt hpt=>?_⟩⟩⟩
 have s3:=ao hp0 (.lst [.int 0])
 have s4:=ao hp1 (.lst [.int 0])
 have s5:=ao hpt (.lst [.ref p0,.ref p1])
 have s05:=((s2.trans s3).trans s4).trans s5
 have none_of:∀{G:Hp}{p:Addr},Same H G->G p=none->H p=none:=fun{G p} sm z=>by
  cases y:H p with
  |none=>rfl
  |some o=>rw[sm _ _ y]at z;cases z
 have hpe0:=none_of s1 hpe
 have hpt0:=none_of ((s2.trans s3).trans s4) hpt
 have hp00:=none_of s2 hp0
 have hp10:=none_of (s2.trans s3) hp1
 have g1:=s3.trans (s4.trans s5)
 have hpe5:=g1 _ _ (ae (H:=upd H t0 (.tup [.int 0,.int 1])) (a:=pe) (o:=.lst [.ref t0]))
 have hp05:=(s4.trans s5) _ _ (ae (a:=p0) (o:=.lst [.int 0]))
 have hp15:=s5 _ _ (ae (a:=p1) (o:=.lst [.int 0]))
 have n01:p0≠p1:=ar (ae (a:=p0) (o:=.lst [.int 0])) hp1
 have npe:pe≠pt:=ar ((s3.trans s4) _ _ (ae (a:=pe) (o:=.lst [.ref t0]))) hpt
 have n0e:p0≠pe:=fun z=>by rw[z,ae]at hp0;cases hp0
 have n1e:p1≠pe:=fun z=>by rw[z,s3 _ _ (ae (a:=pe) (o:=.lst [.ref t0]))]at hp1;cases hp1
 have n0t:p0≠pt:=ar (s4 _ _ (ae (a:=p0) (o:=.lst [.int 0]))) hpt
 have n1t:p1≠pt:=ar (ae (a:=p1) (o:=.lst [.int 0])) hpt
 have init:JJ H a pe pt 0 [some (.ref a),some (.ref pe),some (.ref pt),none,none,none,none,none,none,none,none] (upd (upd (upd (upd (upd H t0 (.tup [.int 0,.int 1])) pe (.lst [.ref t0])) p0 (.lst [.int 0])) p1 (.lst [.int 0])) pt (.lst [.ref p0,.ref p1])):=by
  refine⟨_,_,_,_,_,_,_,_,[.ref t0],[.ref p0,.ref p1],2,[(0,1)],[[0],[0]],rfl,s05,hpe5,⟨rfl,fun i e z=>?_⟩,ae,⟨rfl,fun i l z=>?_⟩,fun i j p z1 z2=>?_,gr_two,rfl⟩
  ·match i,z with
   |0,z=>cases z;exact⟨t0,rfl,((ao hpe _).trans g1) _ _ ae⟩
   |i+1,z=>cases z
  ·match i,z with
   |0,z=>cases z;exact⟨p0,rfl,by rintro(y | y | y);exact n0e y;exact n0t y;exact y hp00,hp05⟩
   |1,z=>cases z;exact⟨p1,rfl,by rintro(y | y | y);exact n1e y;exact n1t y;exact y hp10,hp15⟩
   |i+2,z=>cases z
  ·match i,z1,j,z2 with
   |0,z1,0,z2=>rfl
   |1,z1,1,z2=>rfl
   |0,z1,1,z2=>cases z1;cases z2;exact absurd rfl n01
   |1,z1,0,z2=>cases z1;cases z2;exact absurd rfl n01
   |i+2,z1,_,_=>cases z1
   |0,_,j+2,z2=>cases z2
   |1,_,j+2,z2=>cases z2
 refine⟨_,rfl,a,rfl,⟨_,s05.seq hS⟩,cZ (xs:=cs.map V.int) (fun i σ H5=>JJ H a pe pt i σ H5) init (fun i σ H5 _ ⟨_,_,_,_,_,_,_,_,_,_,_,_,_,_,z,_⟩=>z.seq hS) ?_ ?_⟩
 ·rintro i x σ H5 hx ⟨v3,v4,v5,v6,v7,v8,v9,v10,ys,xs,m,es,ts,rfl,s5,hpe5,en,hpt5,rx5,D,g,hi⟩
  rw[JR]at hx
  obtain⟨c,hc,rfl⟩:=Kl.mp hx
  have hil:i<cs.length:=(JK.mp hc).1
  have hyl:ys.length=es.length:=en.1
  have few:es.length<=62:=by omega
  have w':=g.w
  have tlen:=w'.len
  have mfew:=qT g
  have o0:(0:Int)<=c%1000000007*48271%2147483647:=LZ _ (by decide)
  have o1:c%1000000007*48271%2147483647<2147483647:=LU _ (by decide)
  refine⟨_,rfl,_,_,rfl,rfl,(by show(0:Int)<1000000007;decide),_,_,rfl,rfl,.inr ⟨by decide,by decide⟩,_,_,rfl,rfl,(by show(0:Int)<2147483647;decide),?_⟩
  refine⟨_,rfl,pe,ys,rfl,.inl (SqL.of hpe5),?_⟩
  have hfr:(0:Int)<2*(ys.length:Int):=by omega
  refine⟨_,rfl,_,_,rfl,rfl,⟨by decide,by decide⟩,_,rfl,_,_,rfl,rfl,.inl ⟨by decide,by decide⟩,_,_,rfl,rfl,hfr,?_⟩
  have l0:=LZ (c%1000000007*48271%2147483647/2) (show 2*(ys.length:Int)≠0 by omega)
  have l1:=LU (c%1000000007*48271%2147483647/2) hfr
  obtain⟨L,hL⟩:∃ L:Nat,c%1000000007*48271%2147483647/2%(2*(ys.length:Int))=(L:Int):=⟨_,(MJ l0).symm⟩
  have hLl:L<2*es.length:=by omega
  refine⟨_,rfl,_,rfl,_,rfl,pe,pt,ys,xs,m,es,ts,L,congrArg (fun z=>[V.ref pe,V.ref pt,V.int z]) hL,SqL.of hpe5,en,SqL.of hpt5,rx5.off,w',few,hLl,fun q r H6 s6 hq hq6 pa ri=>?_⟩
  have hrlen:(r.map iV).length=r.length:=JS _
  have hr0:=ri.ne
  have hrp:(0:Int)<((r.map iV).length:Int):=by omega
  have j0:=LZ (c%1000000007*48271%2147483647*(c%1000000007*48271%2147483647)%1000003) (show((r.map iV).length:Int)≠0 by omega)
  have j1:=LU (c%1000000007*48271%2147483647*(c%1000000007*48271%2147483647)%1000003) hrp
  obtain⟨J,hJ⟩:∃ J:Nat,c%1000000007*48271%2147483647*(c%1000000007*48271%2147483647)%1000003%((r.map iV).length:Int)=(J:Int):=⟨_,(MJ j0).symm⟩
  have hJl:J<r.length:=by omega
  obtain⟨R,hR⟩:∃ R,r[J]?=some R:=⟨_,JL hJl⟩
  have hRm:=JM hR
  have hRl:=ri.lt R hRm
  refine⟨_,rfl,_,rfl,_,rfl,_,_,rfl,rfl,.inl ⟨by show -(2^64:Int)<c%1000000007*48271%2147483647;omega,by show c%1000000007*48271%2147483647<(2^64:Int);omega⟩,_,_,rfl,rfl,(by show(0:Int)<1000003;decide),_,rfl,q,_,rfl,.inl (SqL.of hq6),_,_,rfl,rfl,hrp,q,_,_,_,rfl,rfl,SqL.of hq6,(by rw[hJ];exact Jl hR),?_⟩
  have s06:=s5.trans s6
  have hpe6:=s6 _ _ hpe5
  have hpt6:=s6 _ _ hpt5
  have en6:=en.mono s6
  have rx6:cG (fun p=>p=pe∨p=pt∨H p≠none) H6 xs ts:=rx5.mono fun p o _ z=>s6 _ _ z
  refine⟨_,rfl,_,rfl,pe,ys,es,L,congrArg (fun z=>[V.ref pe,V.int z]) hL,SqL.of hpe6,en6,hLl,?_⟩
  refine⟨_,rfl,_,rfl,pe,ys,es,R,rfl,SqL.of hpe6,en6,hRl,?_⟩
  obtain⟨_,l,_,_,_,k4,k5,k6⟩:=w'.at hLl
  obtain⟨_,l',_,_,_,k4',k5',k6'⟩:=w'.at hRl
  obtain⟨p1,y1,y2,y3⟩:=rx6.2 _ _ k5
  obtain⟨p2,z1,z2,z3⟩:=rx6.2 _ _ k5'
  obtain⟨sm1,f1⟩:=iO w' few k5
  obtain⟨sm2,f2⟩:=iO w' few k5'
  have len1:(l.map iV).length=l.length:=JS _
  have len2:(l'.map iV).length=l'.length:=JS _
  have ix1:l.idxOf (L/2)<l.length:=NF k6
  have ix2:l'.idxOf (R/2)<l'.length:=NF k6'
  have ne_S:∀{p q:Addr},¬ (p=pe∨p=pt∨H p≠none)->(q=pe∨q=pt)->q≠p:=fun n y z=>n (by rw[← z];rcases y with y | y<;>simp[y])
  have no_S:∀{p:Addr},¬ (p=pe∨p=pt∨H p≠none)->H p=none:=fun{p} n=>by
   cases y:H p with
   |none=>rfl
   |some o=>exact absurd (.inr (.inr (by rw[y];exact fun z=>nomatch z))) n
  have hp1:=no_S y2
  have hp2:=no_S z2
  have eL:c%1000000007*48271%2147483647/2%(2*(ys.length:Int))/2=((L/2:Nat):Int):=by rw[hL];omega
  have eR:(R:Int)/2=((R/2:Nat):Int):=by omega
  refine⟨_,rfl,_,rfl,pt,xs,_,_,rfl,rfl,SqL.of hpt6,aM y1,.inl ⟨rfl,_,SqL.of y3⟩,_,rfl,_,rfl,pt,xs,_,_,rfl,rfl,SqL.of hpt6,aM y1,.inl ⟨rfl,_,SqL.of y3⟩,_,rfl,_,_,rfl,rfl,⟨by decide,by decide⟩,p1,l,L/2,rfl,congrArg (fun z=>[V.int z]) eL,SqL.of y3,fun p hp=>by have:=sm1 p hp;omega,by omega,k6,_,_,rfl,rfl,_,rfl,p1,_,_,_,rfl,rfl,y3,by omega,by omega,au (by omega),?_⟩
  rw[hyl,insV,show(((l.idxOf (L/2):Nat):Int)+1).toNat=l.idxOf (L/2)+1 by omega]
  have s07:=aW s06 hp1 (.lst ((ins l (l.idxOf (L/2)+1) es.length).map iV))
  have hpe7:(upd H6 p1 (.lst ((ins l (l.idxOf (L/2)+1) es.length).map iV))) pe=some (.lst ys):=by rw[ak (ne_S y2 (.inl rfl))];exact hpe6
  have hpt7:(upd H6 p1 (.lst ((ins l (l.idxOf (L/2)+1) es.length).map iV))) pt=some (.lst xs):=by rw[ak (ne_S y2 (.inr rfl))];exact hpt6
  have en7:=en6.put (o:=.lst ((ins l (l.idxOf (L/2)+1) es.length).map iV)) y3
  have rx7:=rx6.set (l':=ins l (l.idxOf (L/2)+1) es.length) D y1
  have z7:hd es L≠hd es R->(upd H6 p1 (.lst ((ins l (l.idxOf (L/2)+1) es.length).map iV))) p2=some (.lst (l'.map iV)):=fun n=>by
   rw[ak (fun y=>by rw[y]at z1;exact n (D _ _ p1 y1 z1))];exact z3
  generalize hH7:upd H6 p1 (.lst ((ins l (l.idxOf (L/2)+1) es.length).map iV))=H7 at s07 hpe7 hpt7 en7 rx7 z7
  obtain⟨x0,tail,rfl,ch⟩:=ri.cr.ch
  have hx0:x0=L:=by
   have:=pa.hd
   exact JZ this
  subst hx0
  have xl:xs.length=m:=by rw[rx5.1,tlen]
  have hcr:=ri.cr
  refine⟨_,rfl,_,_,rfl,rfl,(by show(0:Int)<2;decide),rfl,_,rfl,ite2 (fun c=>iteT ?_) (fun c=>⟨_,rfl,_,rfl,rfl,_,rfl,ite2 (fun c2=>?_) (fun c2=>?_)⟩)⟩
  rotate_left 2
  ·have n:hd es x0≠hd es R:=fun z=>c2 (decide_eq_true (by rw[z]))
   have z7:=z7 n
   refine⟨_,rfl,_,rfl,pt,xs,_,_,rfl,rfl,SqL.of hpt7,aM z1,.inl ⟨rfl,_,SqL.of z7⟩,_,rfl,_,rfl,pt,xs,_,_,rfl,rfl,SqL.of hpt7,aM z1,.inl ⟨rfl,_,SqL.of z7⟩,_,rfl,_,_,rfl,rfl,⟨by decide,by decide⟩,p2,l',R/2,rfl,congrArg (fun z=>[V.int z]) eR,SqL.of z7,fun p hp=>by have:=sm2 p hp;omega,by omega,k6',_,_,rfl,rfl,_,rfl,p2,_,_,_,rfl,rfl,z7,by omega,by omega,au (by omega),?_⟩
   rw[insV,show(((l'.idxOf (R/2):Nat):Int)+1).toNat=l'.idxOf (R/2)+1 by omega]
   have s08:=aW s07 hp2 (.lst ((ins l' (l'.idxOf (R/2)+1) es.length).map iV))
   have hpe8:(upd H7 p2 (.lst ((ins l' (l'.idxOf (R/2)+1) es.length).map iV))) pe=some (.lst ys):=by rw[ak (ne_S z2 (.inl rfl))];exact hpe7
   have hpt8:(upd H7 p2 (.lst ((ins l' (l'.idxOf (R/2)+1) es.length).map iV))) pt=some (.lst xs):=by rw[ak (ne_S z2 (.inr rfl))];exact hpt7
   have en8:=en7.put (o:=.lst ((ins l' (l'.idxOf (R/2)+1) es.length).map iV)) z7
   have rx8:=rx7.set (l':=ins l' (l'.idxOf (R/2)+1) es.length) D z1
   refine⟨_,rfl,_,_,rfl,rfl,⟨by decide,by decide⟩,_,_,rfl,rfl,(by show(0:Int)<2;decide),rfl,_,rfl,ite2 (fun _=>?_) (fun _=>?_)⟩
   ·refine⟨_,rfl,.inl ⟨rfl,_,SqL.of hpe8⟩,_,rfl,_,rfl,(by show 2<=sizeLine;decide),fun t ht=>⟨pe,ys,_,rfl,rfl,ao ht _ _ _ hpe8,au (by omega),?_⟩⟩
    exact n9 npe hpe0 s08 hpe8 en8 hpt8 rx8 D (g.join (e:=(hd es R,hd es x0)) hLl hcr ch hRm rfl rfl n (.inr rfl) k5 k5') hi ht rfl rfl _ _ _ _ _ _ _ _
   ·refine⟨_,rfl,.inl ⟨rfl,_,SqL.of hpe8⟩,_,rfl,_,rfl,(by show 2<=sizeLine;decide),fun t ht=>⟨pe,ys,_,rfl,rfl,ao ht _ _ _ hpe8,au (by omega),?_⟩⟩
    exact n9 npe hpe0 s08 hpe8 en8 hpt8 rx8 D (g.join (e:=(hd es x0,hd es R)) hLl hcr ch hRm rfl rfl n (.inl rfl) k5 k5') hi ht rfl rfl _ _ _ _ _ _ _ _
  all_goals
   refine⟨_,rfl,pt,xs,rfl,.inl (SqL.of hpt7),?_⟩
   refine⟨_,rfl,.inl ⟨rfl,_,SqL.of hpt7⟩,_,rfl,(by show 1<=sizeLine;decide),fun pn hpn=>⟨pt,xs,_,rfl,rfl,ao hpn _ _ _ hpt7,au (by omega),?_⟩⟩
   have sn:=ao hpn (.lst [V.int (es.length:Int)])
   have s08:=aW (s07.trans sn) hpt0 (.lst (xs++[.ref pn]))
   have hpe8:(upd (upd H7 pn (.lst [V.int (es.length:Int)])) pt (.lst (xs++[.ref pn]))) pe=some (.lst ys):=by rw[ak npe];exact sn _ _ hpe7
   have hpt8:(upd (upd H7 pn (.lst [V.int (es.length:Int)])) pt (.lst (xs++[.ref pn]))) pt=some (.lst (xs++[.ref pn])):=ae
   have en8:=(en7.mono sn).put (o:=.lst (xs++[.ref pn])) (sn _ _ hpt7)
   have npt:pn≠pt:=fun z=>by rw[z,hpt7]at hpn;cases hpn
   have npn:pn≠pe:=fun z=>by rw[z,hpe7]at hpn;cases hpn
   have hpn0:H pn=none:=none_of s07 hpn
   have rx8:cG (fun p=>p=pe∨p=pt∨H p≠none) (upd (upd H7 pn (.lst [V.int (es.length:Int)])) pt (.lst (xs++[.ref pn]))) (xs++[.ref pn]) (ts.set (hd es x0) (ins l (l.idxOf (x0/2)+1) es.length)++[[es.length]]):=by
    refine(rx7.mono fun p o n z=>?_).snoc (by rintro(y | y | y);exact npn y;exact npt y;exact y hpn0) ?_
    ·rw[ak (fun z=>n (.inr (.inl z)))];exact sn _ _ z
    ·rw[ak npt];exact ae
   have D8:=wF rx7 D hpn
   have hxm:V.int (xs.length:Int)=iV m:=by rw[xl];rfl
   refine⟨_,rfl,_,_,rfl,rfl,⟨by decide,by decide⟩,_,_,rfl,rfl,(by show(0:Int)<2;decide),rfl,_,rfl,ite2 (fun _=>?_) (fun _=>?_)⟩
   ·refine⟨_,rfl,.inl ⟨rfl,_,SqL.of hpe8⟩,_,rfl,_,rfl,(by show 2<=sizeLine;decide),fun t ht=>⟨pe,ys,_,rfl,rfl,ao ht _ _ _ hpe8,au (by omega),?_⟩⟩
    exact n9 npe hpe0 s08 hpe8 en8 hpt8 rx8 D8 (g.leaf (e:=(m,hd es x0)) hLl hcr ch rfl (.inr rfl) k5) hi ht hxm rfl _ _ _ _ _ _ _ _
   ·refine⟨_,rfl,.inl ⟨rfl,_,SqL.of hpe8⟩,_,rfl,_,rfl,(by show 2<=sizeLine;decide),fun t ht=>⟨pe,ys,_,rfl,rfl,ao ht _ _ _ hpe8,au (by omega),?_⟩⟩
    exact n9 npe hpe0 s08 hpe8 en8 hpt8 rx8 D8 (g.leaf (e:=(hd es x0,m)) hLl hcr ch rfl (.inl rfl) k5) hi ht rfl hxm _ _ _ _ _ _ _ _
 ·rintro σ H5 ⟨v3,v4,v5,v6,v7,v8,v9,v10,ys,xs,m,es,ts,rfl,s5,hpe5,en,hpt5,rx5,D,g,hi⟩
  rw[hcl]at hi
  refine⟨_,rfl,_,rfl,(by show 2<=sizeLine;decide),fun t ht=>?_⟩
  have s6:=ao ht (.tup [.ref pe,.ref pt])
  exact kk t pe pt ys xs m es ts _ (s5.trans s6) ae (s6 _ _ hpe5) (en.mono s6) (s6 _ _ hpt5) (rx5.off.mono s6) g hi
end
end K8
namespace K8
open PySem L2
local macro_rules | `(tactic| walk_at "cc") => `(tactic| first | exact ⟨by decide, by decide⟩ | (show (0 : Int) < _; decide) | (show (0 : Int) < _; omega) | (show (0 : Int) ≤ _; omega) | exact ⟨by decide, by decide, by decide⟩ | exact ⟨by omega, by omega, by decide⟩ | exact Or.inl ⟨by decide, by decide⟩ | exact Or.inl ⟨by omega, by omega⟩)
local macro_rules | `(tactic| walk_at "rd") => `(tactic| repeat (first | refine ⟨_, rfl, ?_⟩ | refine ⟨_, _, rfl, rfl, ?_⟩ | refine ⟨rfl, ?_⟩ | (refine ⟨?cc, ?_⟩; (case cc => walk_at "cc"))))
def cutp(c:Int)(p n:Nat):Nat:=(c%1009*((p:Int)+1)%(n:Int)).toNat
def rowN(c:Int)(o2:List Nat)(p:Nat)(l:List Nat):List Nat:=(l.drop (cutp c p l.length)++l.take (cutp c p l.length)).map (ofL o2)
def en2(o1 o2:List Nat)(es:En):En:=(KJ es.length).map fun j=>(ofL o1 ((es[o2.idxOf j]?).getD (0,0)).1,ofL o1 ((es[o2.idxOf j]?).getD (0,0)).2)
def ts2(c:Int)(o1 o2:List Nat)(ts:List (List Nat)):List (List Nat):=(KJ ts.length).map fun j=>rowN c o2 (o1.idxOf j) ((ts[o1.idxOf j]?).getD [])
theorem ER{o:List Nat}(nd:o.Nodup){k:Nat}(h:k<o.length):o.idxOf (ofL o k)=k:=by
 have e:o[k]?=some (ofL o k):=by unfold ofL;rw[JL h];rfl
 exact Bg nd (zT (JM e)) e
theorem ren_of{m:Nat}{es:En}{ts:List (List Nat)}{c:Int}{o1 o2:List Nat}(w:br m es ts)(l1:o1.length=m)(n1:o1.Nodup)(b1:∀ x∈o1,x<m)(l2:o2.length=es.length)(n2:o2.Nodup)(b2:∀ x∈o2,x<es.length) :
  Ren m es (en2 o1 o2 es) ts (ts2 c o1 o2 ts) (ofL o1) (ofL o2):=by
 have B1:=BB l1 n1 b1
 have B2:=BB l2 n2 b2
 refine⟨B1,B2,by simp[en2],by simp[ts2,w.len],fun k e h=>?_,fun p l h=>?_⟩
 ·have hk:=(JK.mp h).1
  unfold en2
  rw[JR,Mm (B2.lt k hk)]
  show some (ofL o1 ((es[o2.idxOf (ofL o2 k)]?).getD (0,0)).1,ofL o1 ((es[o2.idxOf (ofL o2 k)]?).getD (0,0)).2)=_
  rw[ER n2 (by omega),h]
  rfl
 ·have hp:p<m:=by rw[← w.len];exact(JK.mp h).1
  refine⟨l.take (cutp c p l.length),l.drop (cutp c p l.length),(Km _ _).symm,?_⟩
  unfold ts2
  rw[JR,Mm (by rw[w.len];exact B1.lt p hp)]
  show some (rowN c o2 (o1.idxOf (ofL o1 p)) ((ts[o1.idxOf (ofL o1 p)]?).getD []))=_
  rw[ER n1 (by omega),h]
  rfl
theorem Gr.rows{m:Nat}{es:En}{ts:List (List Nat)}(g:Gr m es ts)(h2:2<=m){p:Nat}{l:List Nat}(h:ts[p]?=some l):0<l.length:=by
 have hp:p<m:=by rw[← g.w.len];exact(JK.mp h).1
 cases l with
 |cons a l=>exact Nat.succ_pos _
 |nil =>
  exfalso
  have no:∀ e∈es,e.1≠p/\e.2≠p:=fun e he=>by
   obtain⟨t,ht⟩:=KY.mp he
   refine⟨fun z=>?_,fun z=>?_⟩
   ·exact nomatch (g.w.mem p [] h t).mpr ⟨e,ht,.inl z⟩
   ·exact nomatch (g.w.mem p [] h t).mpr ⟨e,ht,.inr z⟩
  have:=g.conn (fun x=>x=p) (fun e he=>⟨fun z=>absurd z (no e he).1,fun z=>absurd z (no e he).2⟩) p (if p=0 then 1 else 0) hp (by split<;>omega) rfl
  have this':(if p=0 then 1 else 0)=p:=this
  split at this'<;>omega
theorem cut_hi{xs:List V}{c:Nat}(h:c<=xs.length):cutV xs (some (c:Int)) none=xs.drop c:=by
 unfold cutV
 rw[HT.sIx_nat,Lx h]
 show(xs.drop c).take (xs.length-c)=_
 exact Kz (by rw[KL];exact JQ _)
theorem cut_lo{xs:List V}{c:Nat}(h:c<=xs.length):cutV xs none (some (c:Int))=xs.take c:=by
 unfold cutV
 rw[HT.sIx_nat,Lx h]
 show(xs.drop 0).take (c-0)=_
 rw[MP,Nat.sub_zero]
structure WebP(H:Hp)(pe pt:Addr)(m:Nat)(es:En)(ts:List (List Nat)):Prop where
 en:∃ ys,H pe=some (.lst ys)/\cF H ys es
 tu:∃ xs,H pt=some (.lst xs)/\bE H xs ts
 g:Gr m es ts
theorem WebP.mono{H H':Hp}{pe pt:Addr}{m:Nat}{es:En}{ts:List (List Nat)}(h:WebP H pe pt m es ts)(s:Same H H'):WebP H' pe pt m es ts:=by
 obtain⟨⟨ys,a,b⟩,⟨xs,c,d⟩,g⟩:=h
 exact⟨⟨ys,s _ _ a,b.mono s⟩,⟨xs,s _ _ c,d.mono s⟩,g⟩
def Ip:Sp:=fun vs H Q _=>∃(t pe pt:Addr)(c:Int)(m:Nat)(es:En)(ts:List (List Nat)),vs = [.ref t,.int c]/\H t=some (.tup [.ref pe,.ref pt])/\WebP H pe pt m es ts/\2<=m/\es.length<=31 /\
 ∀(t' pe' pt':Addr)(es':En)(ts':List (List Nat))(H':Hp),Same H H'->H' t'=some (.tup [.ref pe',.ref pt'])->WebP H' pe' pt' m es' ts'->es'.length=es.length->Q (.ref t') H'
section
variable{P:Program}{w:World}{K:JN}{mg:Str->Option Value}{base:Heap}
theorem aK:aC ["grown","cell","places","ties","ends","k","turns","p","row","cut"] ["grown","cell"] (ai bb):=⟨rfl,rfl,rfl,by decide +kernel,rfl,by decide +kernel,by decide +kernel⟩
theorem ok_ren{f fo:Addr}{fd fdo:FuncData} (F:Fun K "_law_renumbered" "_law_renumbered" bb f fd) (T:Txt mg) (G_law_order:Cal P w K mg base 1 "_law_order" ["cell","many"] rO fo fdo):FnOk P w K mg base CX0 2 f fd ["grown","cell"] Ip:=by
 refine F.ok aK (fun vs H Q E h=>?_) (fun cdv A outer s H vs Q E hr h=>?_)
 ·obtain⟨t,pe,pt,c,m,es,ts,rfl,_⟩:=h
  rfl
 obtain⟨t,pe,pt,c,m,es,ts,rfl,ht,⟨⟨ys,hpe,en⟩,⟨xs,hpt,tu⟩,g⟩,h2,h31,kk⟩:=h
 have w':=g.w
 have mf:=qT g
 have hyl:ys.length=es.length:=en.1
 have hxl:xs.length=m:=by rw[tu.1,w'.len]
 refine⟨_,(ag (av (i:=2) aK.nd rfl (Or.inl rfl) (aH G_law_order.ok (hr.mono (by decide)) rfl G_law_order.mg G_law_order.kp G_law_order.bn .nil a9 (aa (pv 1) (aa (aE ax (by rfl) T.n_len bG (aa (aD aJ (pv 0) ah (fun _ _=>rfl)) aj)) aj))))
   (ag (av (i:=3) aK.nd rfl (Or.inr rfl) (aH G_law_order.ok (hr.mono (by decide)) rfl G_law_order.mg G_law_order.kp G_law_order.bn .nil a9 (aa (ay d6 (pv 1) ah) (aa (aE ax (by rfl) T.n_len bG (aa (aD aJ (pv 0) ah (fun _ _=>rfl)) aj)) aj))))
   (ag (av (i:=4) aK.nd rfl (Or.inl rfl) (c9 cv (by rfl) T.n_list gG (aa (aD aJ (pv 0) ah (fun _ _=>rfl)) aj)))
   (ag (bV PassesOwn.never rfl (bW rfl T.n_range (aa (aE ax (by rfl) T.n_len bG (aa (aD aJ (pv 0) ah (fun _ _=>rfl)) aj)) aj)) (aP (i:=5) aK.nd rfl (Or.inl rfl)) (aq (Hl (gM (aa (aD aN (pv 2) (aD aJ (aD aN (aD aJ (pv 0) ah (fun _ _=>rfl)) (pv 5) (fun _ _=>rfl)) ah (fun _ _=>rfl)) (fun _ _=>rfl)) (aa (aD aN (pv 2) (aD aJ (aD aN (aD aJ (pv 0) ah (fun _ _=>rfl)) (pv 5) (fun _ _=>rfl)) ah (fun _ _=>rfl)) (fun _ _=>rfl)) aj))) (Hn (pv 4) (aD aN (pv 3) (pv 5) (fun _ _=>rfl)) AY))))
   (ag (av (i:=6) aK.nd rfl (Or.inl rfl) (c9 cv (by rfl) T.n_list gG (aa (aD aJ (pv 0) ah (fun _ _=>rfl)) aj)))
   (ag (bV PassesOwn.never rfl (bW rfl T.n_range (aa (aE ax (by rfl) T.n_len bG (aa (aD aJ (pv 0) ah (fun _ _=>rfl)) aj)) aj)) (aP (i:=7) aK.nd rfl (Or.inl rfl)) (ag (k9 (i:=8) rfl aK.nd rfl rfl (fr:=[("ties",3)]) (by exact bX.one (by rfl) (by decide +kernel) (by rfl) (by decide +kernel) (by rfl) (by decide +kernel) (by rfl) (by rfl) (by decide +kernel) (by rfl)) (bD (aD aN (aD aJ (pv 0) ah (fun _ _=>rfl)) (pv 7) (fun _ _=>rfl))) (fun C ex s H=>(aD (nZ (K:=K) rfl) (pv 1) (pv 0) (fun _ _=>rfl))))
   (ag (av (i:=9) aK.nd rfl (Or.inl rfl) (ay bQ (ay fJ (ay bQ (pv 1) ah) (ay bR (pv 7) ah)) (aE ax (by rfl) T.n_len bG (aa (pv 8) aj))))
   (aq (Hl (ay op_cat (sL yh (pv 8) (yA (pv 9)) yB) (sL yh (pv 8) yB (yA (pv 9)))) (Hn (pv 6) (aD aN (pv 2) (pv 7) (fun _ _=>rfl)) AY))))))
   (aq (aQ (gM (aa (pv 4) (aa (pv 6) aj))))))))))),?_⟩
 refine⟨_,rfl,_,rfl,t,_,1,_,rfl,rfl,SqT.of ht,at1,pt,xs,rfl,.inl (SqL.of hpt),c,m,(by rw[hxl];rfl),by omega,fun q1 o1 H1 s1 _ h1 l1 n1 b1=>?_⟩
 refine⟨_,rfl,_,_,rfl,rfl,⟨by decide,by decide⟩,_,rfl,t,_,0,_,rfl,rfl,SqT.of (s1 _ _ ht),at0,pe,ys,rfl,.inl (SqL.of (s1 _ _ hpe)),_,es.length,(by rw[hyl];rfl),by omega,fun q2 o2 H2 s2 _ h2' l2 n2 b2=>?_⟩
 have s12:=s1.trans s2
 have R:=ren_of (c:=c) w' l1 n1 b1 l2 n2 b2
 have h1':=s2 _ _ h1
 refine⟨_,rfl,t,_,0,_,rfl,rfl,SqT.of (s12 _ _ ht),at0,pe,ys,rfl,.inl (SqL.of (s12 _ _ hpe)),fun qe hqe=>?_⟩
 have s3:=ao hqe (.lst ys)
 have s13:=s12.trans s3
 have h23:=s3 _ _ h2'
 have h13:=s3 _ _ h1'
 have get1:∀ k,k<m->(o1.map iV)[k]?=some (iV (ofL o1 k)):=fun k hk=>by
  rw[JR];unfold ofL;rw[JL (by omega)];rfl
 have get2:∀ k,k<es.length->(o2.map iV)[k]?=some (iV (ofL o2 k)):=fun k hk=>by
  rw[JR];unfold ofL;rw[JL (by omega)];rfl
 have hqe0:H qe=none:=by
  cases y:H qe with
  |none=>rfl
  |some o=>rw[s12 _ _ y]at hqe;cases hqe
 refine⟨_,rfl,t,_,0,_,rfl,rfl,SqT.of (s13 _ _ ht),at0,pe,ys,rfl,.inl (SqL.of (s13 _ _ hpe)),_,rfl,by omega,by omega,de (n:=(ys.length:Int).toNat) (fun i σ H5=>∃ v5 v6 v7 v8 v9 zs,σ = [some (.ref t),some (.int c),some (.ref q1),some (.ref q2),some (.ref qe),v5,v6,v7,v8,v9]/\Same H2 H5/\H5 qe=some (.lst zs)/\zs.length=es.length/\∀(k:Nat)(e:Nat×Nat),k<i->es[k]?=some e->∃ p,zs[ofL o2 k]?=some (.ref p)/\H5 p=some (.tup [iV (ofL o1 e.1),iV (ofL o1 e.2)]))
  ⟨_,_,_,_,_,ys,rfl,s3,ae,hyl,fun k e z=>absurd z (MH _)⟩ ?_ ?_⟩
 ·rintro i σ H5 hi ⟨v5,v6,v7,v8,v9,zs,rfl,s5,hz,zl,inv⟩
  rw[Kq,hyl]at hi
  have e0:(0:Int)+(i:Int)=(i:Int):=Lb _
  rw[e0]
  have s15:=s12.trans s5
  obtain⟨e,he⟩:∃ e,es[i]?=some e:=⟨_,JL hi⟩
  obtain⟨p,x1,x2⟩:=(en.mono s15).2 i e he
  obtain⟨a1,a2,_⟩:=w'.ends e (JM he)
  have b2':=R.si.lt i hi
  refine⟨_,rfl,_,rfl,t,_,0,_,rfl,rfl,SqT.of (s15 _ _ ht),at0,_,rfl,pe,ys,_,_,rfl,rfl,SqL.of (s15 _ _ hpe),aM x1,p,_,0,_,rfl,rfl,SqT.of x2,at0,q1,_,_,_,rfl,rfl,SqL.of (s5 _ _ h1'),aM (get1 _ a1),_,rfl,_,rfl,t,_,0,_,rfl,rfl,SqT.of (s15 _ _ ht),at0,_,rfl,pe,ys,_,_,rfl,rfl,SqL.of (s15 _ _ hpe),aM x1,p,_,1,_,rfl,rfl,SqT.of x2,at1,q1,_,_,_,rfl,rfl,SqL.of (s5 _ _ h1'),aM (get1 _ a2),(by show 2<=sizeLine;decide),fun tt htt=>?_⟩
  have sn:=ao htt (.tup [iV (ofL o1 e.1),iV (ofL o1 e.2)])
  refine⟨_,rfl,_,rfl,_,rfl,q2,_,_,_,rfl,rfl,SqL.of (sn _ _ (s5 _ _ h2')),aM (get2 _ hi),qe,zs,_,ofL o2 i,rfl,rfl,sn _ _ hz,EC (by omega),?_⟩
  refine⟨_,_,_,_,_,_,rfl,aW (s5.trans sn) hqe _,ae,by rw[KQ];exact zl,fun k e' hk hek=>?_⟩
  by_cases z:k=i
  ·subst z
   rw[he]at hek
   cases hek
   exact⟨tt,by rw[KG,if_pos rfl,if_pos (by omega)],by rw[ak (fun z=>by rw[z,hz]at htt;cases htt)];exact ae⟩
  ·obtain⟨p',u1,u2⟩:=inv k e' (by omega) hek
   have hkl:k<es.length:=(JK.mp hek).1
   refine⟨p',by rw[KG,if_neg (fun y=>z (R.si.inj _ _ hkl hi y.symm))];exact u1,?_⟩
   rw[ak (fun z=>by rw[z,hz]at u2;cases u2)]
   exact sn _ _ u2
 rintro σ H5 ⟨v5,v6,v7,v8,v9,zs,rfl,s5,hz,zl,inv⟩
 rw[Kq,hyl]at inv
 have s15:=s12.trans s5
 have enN:cF H5 zs (en2 o1 o2 es):=⟨by rw[zl,R.l1],fun j x h=>by
  obtain⟨k,e,rfl,h4,rfl⟩:=R.es' h
  exact inv k e (JK.mp h4).1 h4⟩
 refine⟨_,rfl,t,_,1,_,rfl,rfl,SqT.of (s15 _ _ ht),at1,pt,xs,rfl,.inl (SqL.of (s15 _ _ hpt)),fun qt hqt=>?_⟩
 have s6:=ao hqt (.lst xs)
 have s16:=s15.trans s6
 refine⟨_,rfl,t,_,1,_,rfl,rfl,SqT.of (s16 _ _ ht),at1,pt,xs,rfl,.inl (SqL.of (s16 _ _ hpt)),_,rfl,by omega,by omega,de (n:=(xs.length:Int).toNat) (fun i σ H7=>∃ v5 v7 v8 v9 ws,σ = [some (.ref t),some (.int c),some (.ref q1),some (.ref q2),some (.ref qe),v5,some (.ref qt),v7,v8,v9]/\Same H5 H7/\H7 qt=some (.lst ws)/\ws.length=m/\∀(p:Nat)(l:List Nat),p<i->ts[p]?=some l->∃ q,ws[ofL o1 p]?=some (.ref q)/\H7 q=some (.lst ((rowN c o2 p l).map iV))/\q≠qt)
  ⟨_,_,_,_,xs,rfl,s6,ae,hxl,fun k e z=>absurd z (MH _)⟩ ?_ ?_⟩
 ·rintro i σ H7 hi ⟨w5,w7,w8,w9,ws,rfl,s7,hw,wl,inv2⟩
  rw[Kq,hxl]at hi
  have e0:(0:Int)+(i:Int)=(i:Int):=Lb _
  rw[e0]
  have s17:=s15.trans s7
  have s27:=s5.trans s7
  obtain⟨l,hl⟩:∃ l,ts[i]?=some l:=⟨_,JL (by rw[w'.len];exact hi)⟩
  obtain⟨p,x1,x2⟩:=(tu.mono s17).2 i l hl
  have lpos:=g.rows h2 hl
  have llt:∀ k∈l,k<es.length:=fun k hk=>mw w' hl hk
  have lle:l.length<=es.length:=d7 (w'.nd _ _ hl) llt
  have llen:(l.map iV).length=l.length:=JS _
  refine⟨_,rfl,t,_,1,_,rfl,rfl,SqT.of (s17 _ _ ht),at1,_,rfl,pt,xs,_,_,rfl,rfl,SqL.of (s17 _ _ hpt),aM x1,p,rfl,⟨_,SqL.of x2⟩,df (K:=K) (xs:=l.map iV) (fun j zs H8=>H8=H7/\zs=((l.map (ofL o2)).map iV).take j) (by rw[llen];exact K2 (au (by omega))) ⟨rfl,rfl⟩ (fun j zs H8 _ z=>z.1▸SqL.of x2) ?_ ?_⟩
  ·rintro j x zs H8 hx ⟨rfl,rfl⟩
   rw[JR]at hx
   obtain⟨k,hk,rfl⟩:=Kl.mp hx
   refine⟨_,rfl,_,rfl,q2,_,_,_,rfl,rfl,SqL.of (s27 _ _ h2'),aM (get2 _ (llt k (JM hk))),rfl,?_⟩
   rw[Kw,JR,JR,hk]
   rfl
  rintro zs H8 hzl ⟨rfl,rfl⟩ D hD
  rw[llen,Kz (by rw[JS,JS];exact JQ _)]
  have sD:=ao hD (.lst ((l.map (ofL o2)).map iV))
  have dlen:((l.map (ofL o2)).map iV).length=l.length:=by rw[JS,JS]
  have dpos:(0:Int)<(((l.map (ofL o2)).map iV).length:Int):=by omega
  have c0:=LZ c (show(1009:Int)≠0 by decide)
  have c1:=LU c (show(0:Int)<1009 by decide)
  refine⟨_,rfl,_,_,rfl,rfl,(by show(0:Int)<1009;decide),_,rfl,_,_,rfl,rfl,_,_,rfl,rfl,.inl ⟨by show -(2^64:Int)<c%1009;omega,by show c%1009<(2^64:Int);omega⟩,_,rfl,D,_,rfl,.inl (SqL.of ae),_,_,rfl,rfl,dpos,?_⟩
  have u0:=LZ (c%1009*((i:Int)+1)) (show(((l.map (ofL o2)).map iV).length:Int)≠0 by omega)
  have u1:=LU (c%1009*((i:Int)+1)) dpos
  have hcut:c%1009*((i:Int)+1)%(((l.map (ofL o2)).map iV).length:Int)=((cutp c i l.length:Nat):Int):=by
   unfold cutp
   rw[dlen]at u0 ⊢
   exact(MJ u0).symm
  have cle:cutp c i l.length<=((l.map (ofL o2)).map iV).length:=by omega
  refine⟨_,rfl,_,rfl,_,rfl,D,_,rfl,SqL.of ae,fun b1' hb1=>?_⟩
  rw[hcut,cut_hi cle]
  have sB:=ao hb1 (.lst (((l.map (ofL o2)).map iV).drop (cutp c i l.length)))
  refine⟨_,rfl,_,rfl,_,rfl,D,_,rfl,SqL.of (sB _ _ ae),fun b2' hb2=>?_⟩
  rw[hcut,cut_lo cle]
  have sC:=ao hb2 (.lst (((l.map (ofL o2)).map iV).take (cutp c i l.length)))
  refine⟨b1',b2',_,_,rfl,rfl,sC _ _ ae,ae,by rw[KL,Ku];exact K2 (au (by omega)),fun b3 hb3=>?_⟩
  have hrow:((l.map (ofL o2)).map iV).drop (cutp c i l.length)++((l.map (ofL o2)).map iV).take (cutp c i l.length)=(rowN c o2 i l).map iV:=by
   unfold rowN
   rw[KD,KD,Nm,Nm,NW,NW]
  rw[hrow]
  have sE:=ao hb3 (.lst ((rowN c o2 i l).map iV))
  have sAll:=((sD.trans sB).trans sC).trans sE
  refine⟨_,rfl,_,rfl,_,rfl,q1,_,_,_,rfl,rfl,SqL.of (sAll _ _ (s27 _ _ h1')),aM (get1 _ hi),qt,ws,_,ofL o1 i,rfl,rfl,sAll _ _ hw,EC (by rw[wl];exact R.pi.lt i hi),?_⟩
  have b3t:b3≠qt:=fun z=>by rw[z,((sD.trans sB).trans sC) _ _ hw]at hb3;cases hb3
  refine⟨_,_,_,_,_,rfl,aW (s7.trans sAll) hqt _,ae,by rw[KQ];exact wl,fun p' l' hp' hl'=>?_⟩
  by_cases z:p'=i
  ·subst z
   rw[hl]at hl'
   cases hl'
   exact⟨b3,by rw[KG,if_pos rfl,if_pos (by rw[wl];exact R.pi.lt p' hi)],by rw[ak b3t];exact ae,b3t⟩
  ·obtain⟨q,u1,u2,u3⟩:=inv2 p' l' (by omega) hl'
   have hpl:p'<m:=by rw[← w'.len];exact(JK.mp hl').1
   exact⟨q,by rw[KG,if_neg (fun y=>z (R.pi.inj _ _ hpl hi y.symm))];exact u1,by rw[ak u3];exact sAll _ _ u2,u3⟩
 rintro σ H7 ⟨w5,w7,w8,w9,ws,rfl,s7,hw,wl,inv2⟩
 rw[Kq,hxl]at inv2
 have tuN:bE H7 ws (ts2 c o1 o2 ts):=⟨by rw[wl,R.l2],fun j L h=>by
  have hj:j<m:=by rw[← R.l2];exact(JK.mp h).1
  obtain⟨p,hp,rfl⟩:=R.pi.sur j hj
  obtain⟨l,hl⟩:∃ l,ts[p]?=some l:=⟨_,JL (by rw[w'.len];exact hp)⟩
  obtain⟨q,z1,z2,_⟩:=inv2 p l hp hl
  refine⟨q,z1,?_⟩
  unfold ts2 at h
  rw[JR,Mm (by rw[w'.len];exact R.pi.lt p hp)]at h
  have h':some (rowN c o2 (o1.idxOf (ofL o1 p)) ((ts[o1.idxOf (ofL o1 p)]?).getD []))=some L:=h
  rw[ER n1 (by omega),hl]at h'
  cases h'
  exact z2⟩
 refine⟨_,rfl,_,rfl,(by show 2<=sizeLine;decide),fun t' ht'=>?_⟩
 have s8:=ao ht' (.tup [.ref qe,.ref qt])
 exact kk t' qe qt (en2 o1 o2 es) (ts2 c o1 o2 ts) _ ((s15.trans s7).trans s8) ae ⟨⟨zs,s8 _ _ (s7 _ _ hz),(enN.mono s7).mono s8⟩,⟨ws,s8 _ _ hw,tuN.mono s8⟩,R.gr g⟩ R.l1
end
end K8
namespace K8
open PySem L2
local macro_rules | `(tactic| walk_at "cc") => `(tactic| first | exact ⟨by decide, by decide⟩ | (show (0 : Int) < _; decide) | (show (0 : Int) < _; omega) | (show (0 : Int) ≤ _; omega) | exact ⟨by decide, by decide, by decide⟩ | exact ⟨by omega, by omega, by decide⟩ | exact Or.inl ⟨by decide, by decide⟩ | exact Or.inl ⟨by omega, by omega⟩)
local macro_rules | `(tactic| walk_at "rd") => `(tactic| repeat (first | refine ⟨_, rfl, ?_⟩ | refine ⟨_, _, rfl, rfl, ?_⟩ | refine ⟨rfl, ?_⟩ | (refine ⟨?cc, ?_⟩; (case cc => walk_at "cc"))))
theorem bt_min:bootBuiltins "min" = some (.builtin "min"):=by decide +kernel
abbrev Kn:=List (Int×Int)
def gQ(H:Hp)(ws:List V)(ks:Kn):Prop:=ws.length=ks.length/\∀(i:Nat)(k:Int×Int),ks[i]?=some k->(k.1=0∨k.1=1)/\0<=k.2/\∃ p,ws[i]?=some (.ref p)/\H p=some (.tup [.int k.1,.int k.2])
theorem gQ.mono{H H':Hp}{ws:List V}{ks:Kn}(h:gQ H ws ks)(s:Same H H'):gQ H' ws ks:=⟨h.1,fun i k z=>by
 obtain⟨a,b,p,c,d⟩:=h.2 i k z
 exact⟨a,b,p,c,s _ _ d⟩⟩
theorem gQ.put{H:Hp}{ws:List V}{ks:Kn}{q:Addr}{zs:List V}{o:HO}(t:gQ H ws ks)(h:H q=some (.lst zs)):gQ (upd H q o) ws ks:=⟨t.1,fun i e z=>by
 obtain⟨u,v,p,a,b⟩:=t.2 i e z
 refine⟨u,v,p,a,?_⟩
 rw[ak (fun z=>by rw[z,h]at b;cases b)]
 exact b⟩
theorem gQ.snoc{H:Hp}{ws:List V}{ks:Kn}{k:Int×Int}{p:Addr}(t:gQ H ws ks)(h:H p=some (.tup [.int k.1,.int k.2]))(h1:k.1=0∨k.1=1)(h2:0<=k.2):gQ H (ws++[.ref p]) (ks++[k]):=by
 refine⟨by rw[JO,JO,t.1];rfl,fun j x ej=>?_⟩
 by_cases hj:j<ks.length
 ·rw[JU hj]at ej
  obtain⟨u,v,p,a1,a2⟩:=t.2 j x ej
  exact⟨u,v,p,by rw[JU (by rw[t.1];exact hj)];exact a1,a2⟩
 ·rw[JP (by omega)]at ej
  have hj2:j=ks.length:=by
   have:=(JK.mp ej).1
   rw[JW]at this
   omega
  subst hj2
  rw[Kr]at ej
  cases ej
  exact⟨h1,h2,p,by rw[← t.1,JP (JQ _),Kr];rfl,h⟩
structure mV(H:Hp)(t pe pt pk:Addr)(m:Nat)(es:En)(ts:List (List Nat))(ks:Kn):Prop where
 t:H t=some (.tup [.ref pe,.ref pt,.ref pk])
 w:WebP H pe pt m es ts
 k:∃ ws,H pk=some (.lst ws)/\gQ H ws ks
 few:es.length<=7
 kl:ks.length=es.length
theorem mV.mono{H H':Hp}{t pe pt pk:Addr}{m:Nat}{es:En}{ts:List (List Nat)}{ks:Kn}(h:mV H t pe pt pk m es ts ks)(s:Same H H'):mV H' t pe pt pk m es ts ks:=by
 obtain⟨a,b,⟨ws,c,d⟩,e,f⟩:=h
 exact⟨s _ _ a,b.mono s,⟨ws,s _ _ c,d.mono s⟩,e,f⟩
theorem Gr.two{m:Nat}{es:En}{ts:List (List Nat)}(g:Gr m es ts)(h:0<es.length):2<=m:=by
 obtain⟨a,b,c⟩:=g.w.ends _ (JM (JL h))
 omega
def rR(K:JN):Sp:=fun vs H Q _=>∃(a:Addr)(ns:List Int),vs = [.ref a,.int 1,.int 7]/\SqL K H a (ns.map V.int)/\ns.length<=63 /\
 ∀(t pe pt pk:Addr)(m:Nat)(es:En)(ts:List (List Nat))(ks:Kn)(H':Hp),Same H H'->mV H' t pe pt pk m es ts ks->Q (.ref t) H'
section
variable{P:Program}{w:World}{K:JN}{mg:Str->Option Value}{base:Heap}
theorem at30{u v x:V}:atI [u,v,x] 0=some u:=rfl
theorem at31{u v x:V}:atI [u,v,x] 1=some v:=rfl
theorem at32{u v x:V}:atI [u,v,x] 2=some x:=rfl
theorem b7:aC ["script","first","most","cells","grown","told","k","cell"] ["script","first","most"] (ai cP):=⟨rfl,rfl,rfl,by decide +kernel,rfl,by decide +kernel,by decide +kernel⟩
theorem D3{f fg fr fc:Addr}{fd fdg fdr fdc:FuncData} (F:Fun K "_law_built" "_law_built" cP f fd) (T:Txt mg) (G_law_grown:Cal P w K mg base 4 "_law_grown" ["cells"] (yc K) fg fdg) (G_law_renumbered:Cal P w K mg base 2 "_law_renumbered" ["grown","cell"] Ip fr fdr) (G_law_cell:Cal P w K mg base 1 "_law_cell" ["script","k"] (AX K) fc fdc) :
  FnOk P w K mg base CX0 5 f fd ["script","first","most"] (rR K):=by
 refine F.ok b7 (fun vs H Q E h=>?_) (fun cdv A outer s H vs Q E hr h=>?_)
 ·obtain⟨a,ns,rfl,_⟩:=h
  rfl
 obtain⟨a,ns,rfl,hS,h63,kk⟩:=h
 have hlen:(ns.map V.int).length=ns.length:=JS _
 refine⟨_,(ag (k9 (i:=3) rfl b7.nd rfl rfl (fr:=[("script",0)]) (by exact bX.one (by rfl) (by decide +kernel) (by rfl) (by decide +kernel) (by rfl) (by decide +kernel) (by rfl) (by rfl) (by decide +kernel) (by rfl)) (DN rfl T.n_range (aa (ay bR (pv 1) ah) (aa (aE (Fv rfl) (by rfl) T.n_min bt_min (aa (ay vA (aE ax (by rfl) T.n_len bG (aa (pv 0) aj)) ah) (aa (ay vA (ay bR (pv 1) (ay fJ ah (pv 2))) ah) aj))) (aa ah aj)))) (fun C ex s H=>(aD (nZ (K:=K) rfl) (pv 1) (pv 0) (fun _ _=>rfl))))
   (ag (av (i:=4) b7.nd rfl (Or.inl rfl) (aH G_law_renumbered.ok (hr.mono (by decide)) rfl G_law_renumbered.mg G_law_renumbered.kp G_law_renumbered.bn .nil a9 (aa (aH G_law_grown.ok (hr.mono (by decide)) rfl G_law_grown.mg G_law_grown.kp G_law_grown.bn .nil a9 (aa (pv 3) aj)) (aa (aH G_law_cell.ok (hr.mono (by decide)) rfl G_law_cell.mg G_law_cell.kp G_law_cell.bn .nil a9 (aa (pv 0) (aa (pv 1) aj))) aj))))
   (ag (av (i:=5) b7.nd rfl (Or.inl rfl) (d0 aj))
   (ag (bV PassesOwn.never rfl (bW rfl T.n_range (aa (aE ax (by rfl) T.n_len bG (aa (aD aJ (pv 4) ah (fun _ _=>rfl)) aj)) aj)) (aP (i:=6) b7.nd rfl (Or.inl rfl)) (ag (av (i:=7) b7.nd rfl (Or.inl rfl) (aH G_law_cell.ok (hr.mono (by decide)) rfl G_law_cell.mg G_law_cell.kp G_law_cell.bn .nil a9 (aa (pv 0) (aa (ay bR (pv 1) (ay fJ ah (pv 6))) aj))))
   (aq (bx (fH Kk KI KH bz (pv 5) (aa (gM (aa (ay bQ (pv 7) ah) (aa (ay bQ (ay d6 (pv 7) ah) (ay bR (ay op_pow ah ah) ah)) aj))) aj))))))
   (aq (aQ (gM (aa (aD aJ (pv 4) ah (fun _ _=>rfl)) (aa (aD aJ (pv 4) ah (fun _ _=>rfl)) (aa (pv 5) aj)))))))))),?_⟩
 have hn:Builtin.Range.rangeSize (1+1) (if(1+2*7-2:Int)<((ns.map V.int).length:Int)-1 then 1+2*7-2 else((ns.map V.int).length:Int)-1) 2=(((Builtin.Range.rangeSize (1+1) (if(1+2*7-2:Int)<((ns.map V.int).length:Int)-1 then 1+2*7-2 else((ns.map V.int).length:Int)-1) 2).toNat:Nat):Int):=by
  refine(MJ ?_).symm
  unfold Builtin.Range.rangeSize
  rw[if_pos (by decide)]
  split<;>omega
 have hb:∀ i:Nat,i<(Builtin.Range.rangeSize (1+1) (if(1+2*7-2:Int)<((ns.map V.int).length:Int)-1 then 1+2*7-2 else((ns.map V.int).length:Int)-1) 2).toNat->i<6/\2+2*i<ns.length:=fun i hi=>by
  rw[hlen]at hi
  unfold Builtin.Range.rangeSize at hi
  rw[if_pos (by decide)]at hi
  split at hi<;>split at hi<;>omega
 have hz:(Builtin.Range.rangeSize (1+1) (if(1+2*7-2:Int)<((ns.map V.int).length:Int)-1 then 1+2*7-2 else((ns.map V.int).length:Int)-1) 2).toNat<=6:=by
  by_cases z:(Builtin.Range.rangeSize (1+1) (if(1+2*7-2:Int)<((ns.map V.int).length:Int)-1 then 1+2*7-2 else((ns.map V.int).length:Int)-1) 2).toNat<=6
  ·exact z
  ·have:=(hb 6 (by omega)).1;omega
 refine⟨_,rfl,_,_,rfl,rfl,_,rfl,a,_,rfl,.inl hS,_,_,rfl,rfl,_,rfl,_,rfl,_,_,rfl,rfl,.inl ⟨by decide,by decide⟩,_,_,rfl,rfl,_,_,rfl,rfl,_,_,rfl,_,_,_,_,rfl,by decide,by decide,(by split<;>omega),(by split<;>omega),⟨by decide,by decide⟩,hn,?_⟩
 generalize (Builtin.Range.rangeSize (1+1) (if(1+2*7-2:Int)<((ns.map V.int).length:Int)-1 then 1+2*7-2 else((ns.map V.int).length:Int)-1) 2).toNat=N at hb hz
 refine Ap (fun i ys H2=>H2=H/\∃ cs:List Int,ys=cs.map V.int/\cs.length=i) (K2 (au (by omega))) ⟨rfl,[],rfl,rfl⟩ ?_ ?_
 ·rintro i ys H2 hi ⟨rfl,cs,rfl,cl⟩
  have hb':=(hb i hi).2
  have e0:(1+1:Int)+(i:Int)*2=((2+2*i:Nat):Int):=by omega
  rw[e0]
  refine⟨_,rfl,_,rfl,a,_,_,_,rfl,rfl,hS,aM (v:=.int ns[2+2*i]) (by rw[JR,JL hb'];rfl),rfl,cs++[ns[2+2*i]],?_,by rw[JO,cl];rfl⟩
  rw[KD]
  rfl
 rintro ys H2 _ ⟨rfl,cs,rfl,cl⟩ b hb0
 have s1:=ao hb0 (.lst (cs.map V.int))
 refine⟨_,rfl,b,cs,rfl,SqL.of ae,by omega,fun t pe pt ys xs m es ts H3 s3 ht hpe hE hpt hR g hel=>?_⟩
 have s13:=s1.trans s3
 refine⟨_,rfl,_,rfl,a,1,ns,rfl,s13.seq hS,t,pe,pt,_,m,es,ts,rfl,ht,⟨⟨ys,hpe,hE⟩,⟨xs,hpt,hR⟩,g⟩,g.two (by omega),by omega,fun t' pe' pt' es' ts' H4 s4 ht' wp hel'=>?_⟩
 have s14:=s13.trans s4
 have hel2:es'.length<=7:=by omega
 refine⟨(by show 0<=sizeLine;decide),fun q hq=>?_⟩
 have s5:=ao hq (.lst [])
 obtain⟨zs,hz1,hz2⟩:=wp.en
 have hzl:zs.length=es'.length:=hz2.1
 refine⟨_,rfl,t',_,0,_,rfl,rfl,SqT.of (s5 _ _ ht'),at0,pe',zs,rfl,.inl (SqL.of (s5 _ _ hz1)),_,rfl,by omega,by omega,de (n:=(zs.length:Int).toNat) (fun i σ H5=>∃ v6 v7 ws ks,σ = [some (.ref a),some (.int 1),some (.int 7),some (.ref b),some (.ref t'),some (.ref q),v6,v7]/\Same H4 H5/\H5 q=some (.lst ws)/\gQ H5 ws ks/\ks.length=i) ⟨_,_,[],[],rfl,s5,ae,⟨rfl,fun i k z=>by simp at z⟩,rfl⟩ ?_ ?_⟩
 ·rintro i σ H5 hi ⟨v6,v7,ws,ks,rfl,s6,hw,tk,kl⟩
  rw[Kq,hzl]at hi
  have e0:(0:Int)+(i:Int)=(i:Int):=Lb _
  rw[e0]
  have wl:=tk.1
  refine⟨_,rfl,_,rfl,_,rfl,_,_,rfl,rfl,.inl ⟨by decide,by decide⟩,_,_,rfl,rfl,a,1+2*i,ns,(by rw[show((1+2*i:Nat):Int)=1+2*(i:Int) by omega];rfl),(s14.trans s6).seq hS,?_⟩
  refine⟨_,rfl,.inl ⟨rfl,_,SqL.of hw⟩,_,rfl,_,_,rfl,rfl,(by show(0:Int)<2;decide),_,rfl,_,_,rfl,rfl,⟨by decide,by decide⟩,_,_,rfl,rfl,⟨by decide,by decide,by decide⟩,_,_,rfl,rfl,_,_,rfl,rfl,(by show(0:Int)<10^(30:Int).toNat+1;decide),(by show 2<=sizeLine;decide),fun tt htt=>?_⟩
  have sn:=ao htt (.tup [.int (nI ns (1+2*i)%2),.int (nI ns (1+2*i)/2%(10^(30:Int).toNat+1))])
  refine⟨q,ws,_,rfl,rfl,sn _ _ hw,au (by omega),?_⟩
  refine⟨_,_,_,ks++[(nI ns (1+2*i)%2,nI ns (1+2*i)/2%(10^(30:Int).toNat+1))],rfl,aW (s6.trans sn) hq _,ae,((tk.mono sn).snoc ae (by show nI ns (1+2*i)%2=0∨nI ns (1+2*i)%2=1;omega) (LZ _ (by decide))).put (sn _ _ hw),by rw[JO,kl];rfl⟩
 ·rintro σ H5 ⟨v6,v7,ws,ks,rfl,s6,hw,tk,kl⟩
  rw[Kq,hzl]at kl
  refine⟨_,rfl,t',_,0,_,rfl,rfl,SqT.of (s6 _ _ ht'),at0,_,rfl,t',_,1,_,rfl,rfl,SqT.of (s6 _ _ ht'),at1,_,rfl,(by show 3<=sizeLine;decide),fun tt htt=>?_⟩
  have sn:=ao htt (.tup [.ref pe',.ref pt',.ref q])
  exact kk tt pe' pt' q m es' ts' ks _ ((s14.trans s6).trans sn) ⟨ae,(wp.mono s6).mono sn,⟨ws,sn _ _ hw,tk.mono sn⟩,hel2,kl⟩
end
end K8
namespace K8
open PySem L2
local macro_rules | `(tactic| walk_at "cc") => `(tactic| first | exact ⟨by decide, by decide⟩ | (show (0 : Int) < _; decide) | (show (0 : Int) < _; omega) | (show (0 : Int) ≤ _; omega) | exact ⟨by decide, by decide, by decide⟩ | exact ⟨by omega, by omega, by decide⟩ | exact Or.inl ⟨by decide, by decide⟩ | exact Or.inl ⟨by omega, by omega⟩)
local macro_rules | `(tactic| walk_at "rd") => `(tactic| repeat (first | refine ⟨_, rfl, ?_⟩ | refine ⟨_, _, rfl, rfl, ?_⟩ | refine ⟨rfl, ?_⟩ | (refine ⟨?cc, ?_⟩; (case cc => walk_at "cc"))))
theorem andN(a b:Nat):Builtin.bitAnd (a:Int) (b:Int)=((a&&&b:Nat):Int):=by
 rw[PyProof.Rows.bitAnd_pp (MN _) (MN _),Kq,Kq]
theorem orN(a b:Nat):Builtin.bitOr (a:Int) (b:Int)=((a|||b:Nat):Int):=by
 rw[PyProof.Rows.bitOr_and,andN]
 have q:=PyProof.Rows.nat_or_add_and a b
 omega
theorem shlN(p:Nat):(1:Int)*2^((p:Nat):Int).toNat=((2^p:Nat):Int):=by
 rw[Int.one_mul,Kq,Int.natCast_pow]
 rfl
theorem FR{M p q:Nat}:(M&&&(2^p|||2^q)=0↔M.testBit p=false/\M.testBit q=false)/\(M|||(2^p|||2^q)=M->M.testBit p=true/\M.testBit q=true):=by
 have b1:∀ i,(2^p|||2^q).testBit i=(decide (p=i)||decide (q=i)):=fun i=>by rw[Lu,K5,K5]
 refine⟨⟨fun h=>?_,fun⟨h1,h2⟩=>?_⟩,fun h=>?_⟩
 ·have h1:=congrArg (fun z=>NB z p) h
  have h2:=congrArg (fun z=>NB z q) h
  simp only[LF,b1,Lp]at h1 h2
  constructor
  ·simpa using h1
  ·simpa using h2
 ·refine Ls fun i=>?_
  rw[LF,b1,Lp]
  by_cases z1:p=i
  ·subst z1;rw[h1];rfl
  ·by_cases z2:q=i
   ·subst z2;rw[h2];rfl
   ·simp[z1,z2]
 ·have h1:=congrArg (fun z=>NB z p) h
  have h2:=congrArg (fun z=>NB z q) h
  simp only[Lu (x:=M),b1]at h1 h2
  constructor
  ·simpa using h1.symm
  ·simpa using h2.symm
theorem EZ{M m:Nat}(h:M<2^m)(k:∀ p,p<m->M.testBit p=true):M=2^m-1:=by
 refine Ls fun i=>?_
 rw[Nat.testBit_two_pow_sub_one]
 by_cases z:i<m
 ·rw[k i z,decide_eq_true z]
 ·rw[decide_eq_false z]
  exact Mu (Ky h (MD (by decide) (by omega)))
def x9(K:JN):Sp:=fun vs H Q _=>∃(a:Addr)(ys:List V)(m:Nat)(es:En)(ts:List (List Nat)),vs = [.int 0,.ref a]/\SqL K H a ys/\cF H ys es/\Gr m es ts/\2<=m/\m<=40/\Q (.int ((2^m-1:Nat):Int)) H
section
variable{P:Program}{w:World}{K:JN}{mg:Str->Option Value}{base:Heap}
theorem b6:aC ["start","pairs","mask","ahead","one","two","ends"] ["start","pairs"] (ai fD):=⟨rfl,rfl,rfl,by decide +kernel,rfl,by decide +kernel,by decide +kernel⟩
theorem BV{f:Addr}{fd:FuncData} (F:Fun K "reached" "reached" fD f fd):FnOk P w K mg base CX0 1 f fd ["start","pairs"] (x9 K):=by
 refine F.ok b6 (fun vs H Q E h=>?_) (fun cdv A outer s H vs Q E hr h=>?_)
 ·obtain⟨a,ys,m,es,ts,rfl,_⟩:=h
  rfl
 obtain⟨a,ys,m,es,ts,rfl,hS,hE,g,m2,m40,kk⟩:=h
 refine⟨_,(ag (av (i:=2) b6.nd rfl (Or.inl rfl) (ay jk ah (pv 0)))
   (ag (av (i:=3) b6.nd rfl (Or.inl rfl) ah)
   (ag (sq PassesOwn.never (aL oG (pv 2) (pv 3) (aU _)) (ag (av (i:=3) b6.nd rfl (Or.inl rfl) (pv 2))
   (aq (bV PassesOwn.never rfl (bD (pv 1)) (qP rfl (bP (aP (i:=4) b6.nd rfl (Or.inl rfl)) (bP (aP (i:=5) b6.nd rfl (Or.inl rfl)) lh))) (ag (av (i:=6) b6.nd rfl (Or.inl rfl) (ay yR (ay jk ah (pv 4)) (ay jk ah (pv 5))))
   (aq (dz (aL oG (ay qR (pv 2) (pv 6)) ah (aU _)) (aq (av (i:=2) b6.nd rfl (Or.inl rfl) (ay yR (pv 2) (pv 6)))) bg)))))))
   (aq (aQ (pv 2)))))),?_⟩
 refine⟨_,rfl,_,_,rfl,rfl,⟨by decide,by decide,by decide⟩,?_⟩
 have p2:∀ p,p<m->2^p<2^m:=fun p hp=>Nat.pow_lt_pow_right (by decide) hp
 refine rD (fun σ H2=>∃(M Ah:Nat),∃ v4 v5 v6,H2=H/\σ = [some (.int 0),some (.ref a),some (.int (M:Int)),some (.int (Ah:Int)),v4,v5,v6]/\M.testBit 0=true/\M<2^m/\(M=Ah->∀ e∈es,M.testBit e.1=M.testBit e.2))
  (fun σ _=>match σ with | [_,_,some (.int M),some (.int Ah),_,_,_]=>2*((2^m:Nat)-M).toNat+(if M=Ah then 0 else 1) | _=>0) ⟨1,0,_,_,_,rfl,rfl,by decide,Nat.one_lt_two_pow (by omega),fun z=>absurd z (by decide)⟩ ?_ ?_
 ·rintro σ H2 ⟨M,Ah,v4,v5,v6,rfl,rfl,b0,hM,cl⟩
  refine⟨_,rfl,_,rfl,rfl,_,rfl,?_⟩
  refine ite2 (fun c=>?_) (fun c=>?_)
  ·have c':M≠Ah:=fun z=>by
    rw[decide_eq_true (show V.int (M:Int)=V.int (Ah:Int) by rw[z])]at c
    cases c
   refine⟨_,rfl,?_⟩
   refine⟨_,rfl,a,rfl,⟨_,hS⟩,cZ (K:=K) (xs:=ys) (fun i σ H3=>∃(M':Nat),∃ v4 v5 v6,H3=H2/\σ = [some (.int 0),some (.ref a),some (.int (M':Int)),some (.int (M:Int)),v4,v5,v6]/\M'.testBit 0=true/\M'<2^m/\M<=M'/\(M'=M->∀(j:Nat)(e:Nat×Nat),j<i->es[j]?=some e->M.testBit e.1=M.testBit e.2)) ⟨M,_,_,_,rfl,rfl,b0,hM,JQ _,fun _ j e z=>absurd z (MH _)⟩ (fun i σ H3 _ ⟨_,_,_,_,z,_⟩=>z▸hS) ?_ ?_⟩
   ·rintro i x σ H3 hx ⟨M',v4,v5,v6,rfl,rfl,b0',hM',hle,cl'⟩
    have hi:i<es.length:=by rw[← hE.1];exact(JK.mp hx).1
    obtain⟨e,he⟩:∃ e,es[i]?=some e:=⟨_,JL hi⟩
    obtain⟨p,x1,x2⟩:=hE.2 i e he
    rw[hx]at x1
    cases x1
    obtain⟨e1,e2,_⟩:=g.w.ends e (JM he)
    obtain⟨t1,t2⟩:=FR (M:=M') (p:=e.1) (q:=e.2)
    refine⟨p,_,rfl,SqT.of x2,rfl,_,_,rfl,_,_,rfl,rfl,?_⟩
    refine⟨_,rfl,_,_,rfl,rfl,⟨by omega,by omega,by decide⟩,_,rfl,_,_,rfl,rfl,⟨by omega,by omega,by decide⟩,_,_,rfl,rfl,?_⟩
    have eo:Builtin.bitOr (1*2^((e.1:Nat):Int).toNat) (1*2^((e.2:Nat):Int).toNat)=((2^e.1|||2^e.2:Nat):Int):=by rw[shlN,shlN,orN]
    refine⟨_,rfl,_,rfl,_,_,rfl,rfl,rfl,_,rfl,?_⟩
    have step:∀ M'':Nat,M'<=M''->(M''=M'->M'.testBit e.1=M'.testBit e.2)->M''=M->∀(j:Nat)(x:Nat×Nat),j<i+1->es[j]?=some x->M.testBit x.1=M.testBit x.2:=fun M'' h1 h2 h3 j x hj hx'=>by
     have e3:M'=M:=by omega
     by_cases z:j=i
     ·subst z
      rw[he]at hx'
      cases hx'
      have:=h2 (by omega)
      rwa[e3]at this
     ·exact cl' e3 j x (by omega) hx'
    refine ite2 (fun c=>?_) (fun c=>?_)
    ·refine⟨_,rfl,_,rfl,_,_,rfl,rfl,?_⟩
     refine⟨M'|||(2^e.1|||2^e.2),some (iV e.1),some (iV e.2),some (V.int (Builtin.bitOr (1*2^((e.1:Nat):Int).toNat) (1*2^((e.2:Nat):Int).toNat))),rfl,?_,?_,Nat.or_lt_two_pow hM' (Nat.or_lt_two_pow (p2 _ e1) (p2 _ e2)),KR hle Nat.left_le_or,step _ Nat.left_le_or fun z=>?_⟩
     ·show[some (V.int 0),some (V.ref a),some (V.int (Builtin.bitOr (M':Int) (Builtin.bitOr (1*2^((e.1:Nat):Int).toNat) (1*2^((e.2:Nat):Int).toNat)))),some (V.int (M:Int)),some (iV e.1),some (iV e.2),some (V.int (Builtin.bitOr (1*2^((e.1:Nat):Int).toNat) (1*2^((e.2:Nat):Int).toNat)))]=_
      rw[eo,orN]
     ·rw[Lu,b0'];rfl
     ·obtain⟨u1,u2⟩:=t2 z
      rw[u1,u2]
    ·refine⟨M',_,_,_,rfl,rfl,b0',hM',hle,step M' (JQ _) fun _=>?_⟩
     have c3:M'&&&(2^e.1|||2^e.2)=0:=by
      by_cases z:M'&&&(2^e.1|||2^e.2)=0
      ·exact z
      ·refine absurd ?_ c
       rw[decide_eq_false (fun y=>z ?_)]
       ·rfl
       ·have y':=V.int.inj y
        rw[eo,andN]at y'
        omega
     obtain⟨u1,u2⟩:=t1.mp c3
     rw[u1,u2]
   ·rintro σ H3 ⟨M',v4,v5,v6,rfl,rfl,b0',hM',hle,cl'⟩
    rw[hE.1]at cl'
    refine⟨⟨M',M,_,_,_,rfl,rfl,b0',hM',fun z e he=>?_⟩,?_⟩
    ·obtain⟨j,hj⟩:=KY.mp he
     have:=cl' z j e (JK.mp hj).1 hj
     rw[z]
     exact this
    ·show 2*(((2^m:Nat):Int)-(M':Int)).toNat+(if(M':Int)=(M:Int) then 0 else 1)<2*(((2^m:Nat):Int)-(M:Int)).toNat+(if(M:Int)=(Ah:Int) then 0 else 1)
     rw[if_neg (show ¬ (M:Int)=(Ah:Int) from fun z=>c' (by omega))]
     have hMi:(M':Int)<((2^m:Nat):Int):=by exact_mod_cast hM'
     have hMj:(M:Int)<=(M':Int):=by omega
     generalize ((2^m:Nat):Int)=Z at hMi ⊢
     split<;>omega
  ·have c':M=Ah:=by
    by_cases z:M=Ah
    ·exact z
    ·exact absurd (by rw[decide_eq_false (fun y=>z (by have:=V.int.inj y;omega))];rfl) c
   have full:=EZ hM fun p hp=>by
    have:=g.conn (fun x=>M.testBit x=true) (fun e he=>by rw[cl c' e he]) 0 p (by omega) hp b0
    exact this
   refine⟨_,rfl,?_⟩
   rw[full]
   exact kk
 ·rintro σ H2 Q1 Q2 hi ⟨v',e,b',e2,z1,c',e3,q'⟩
  exact⟨v',e,b',e2,z1,c',e3,hi _ _ q'⟩
end
end K8
namespace K8
open PySem L2
local macro_rules | `(tactic| walk_at "cc") => `(tactic| first | exact ⟨by decide, by decide⟩ | (show (0 : Int) < _; decide) | (show (0 : Int) < _; omega) | (show (0 : Int) ≤ _; omega) | exact ⟨by decide, by decide, by decide⟩ | exact ⟨by omega, by omega, by decide⟩ | exact Or.inl ⟨by decide, by decide⟩ | exact Or.inl ⟨by omega, by omega⟩)
local macro_rules | `(tactic| walk_at "rd") => `(tactic| repeat (first | refine ⟨_, rfl, ?_⟩ | refine ⟨_, _, rfl, rfl, ?_⟩ | refine ⟨rfl, ?_⟩ | (refine ⟨?cc, ?_⟩; (case cc => walk_at "cc"))))
theorem kZ:∀{a b:List Int},a.Perm b->a.Pairwise (·<=·)->b.Pairwise (·<=·)->a=b
 |[],b,h,_,_=>(List.nil_perm.mp h).symm▸rfl
 |x::a,[],h,_,_=>absurd h.length_eq (by simp)
 |x::a,y::b,h,pa,pb=>by
  obtain⟨a1,a2⟩:=Nk.mp pa
  obtain⟨b1,b2⟩:=Nk.mp pb
  have h1:x<=y:=by
   rcases JT.mp (h.mem_iff.mpr (Kh ..):y∈x::a)with z | z
   ·rw[z];exact Lr _
   ·exact a1 y z
  have h2:y<=x:=by
   rcases JT.mp (h.mem_iff.mp (Kh ..):x∈y::b)with z | z
   ·rw[z];exact Lr _
   ·exact b1 x z
  have e:x=y:=Int.le_antisymm h1 h2
  subst e
  rw[kZ (List.Perm.cons_inv h) a2 b2]
def cI(l:List Nat):List Int:=l.map fun(p:Nat)=>((p:Nat):Int)
theorem cI_V(l:List Nat):(cI l).map V.int=l.map iV:=by unfold cI;rw[LK];rfl
theorem Iy{l r:List Nat}{out:List Int}(hp:out.Perm (cI l))(hs:out.Pairwise (·<=·))(nl:l.Nodup)(pr:r.Pairwise (· < ·))(hm:∀ t,t∈l↔t∈r):out=cI r:=by
 have nr:r.Nodup:=pr.imp fun h=>Kp h
 have q:(cI l).Perm (cI r):=((Lj nl nr).mpr hm).map _
 refine kZ (hp.trans q) hs ?_
 unfold cI
 exact M3.map _ (fun a b h=>by omega) pr
theorem EN{l:List Nat}{n:Nat}:ins l l.length n=l++[n]:=by
 unfold ins
 rw[KP,List.drop_length]
def yb(K:JN):Sp:=fun vs H Q _=>∃(a:Addr)(xs:List V)(m:Nat)(es:En),vs = [.int (m:Int),.ref a]/\SqL K H a xs/\dv K H xs es/\(∀ e∈es,e.1<m/\e.2<m)/\Q .non H
def rN(K:JN):Sp:=fun vs H Q _=>∃(a b:Addr)(xs zs:List V)(m:Nat)(es:En)(ts:List (List Nat)),vs = [.int (m:Int),.ref a,.ref b]/\SqL K H a xs/\dv K H xs es/\SqL K H b zs/\bE H zs ts/\br m es ts/\es.length<=7/\m<=40/\∀ H',Same H H'->Q .non H'
def ya(K:JN):Sp:=fun vs H Q _=>∃(a:Addr)(xs:List V)(m:Nat)(es:En)(ts:List (List Nat)),vs = [.int (m:Int),.ref a]/\SqL K H a xs/\dv K H xs es/\Gr m es ts/\2<=m/\m<=40/\es.length<=7/\∀ H',Same H H'->Q .non H'
section
variable{P:Program}{w:World}{K:JN}{mg:Str->Option Value}{base:Heap}
theorem jj:aC ["many","ties","tie"] ["many","ties"] (ai bN):=⟨rfl,rfl,rfl,by decide +kernel,rfl,by decide +kernel,by decide +kernel⟩
theorem Gx{f:Addr}{fd:FuncData} (F:Fun K "refuse_ends" "refuse_ends" bN f fd):FnOk P w K mg base CX0 1 f fd ["many","ties"] (yb K):=by
 refine F.ok jj (fun vs H Q E h=>?_) (fun cdv A outer s H vs Q E hr h=>?_)
 ·obtain⟨a,xs,m,es,rfl,_⟩:=h
  rfl
 obtain⟨a,xs,m,es,rfl,hS,hT,hm,k⟩:=h
 refine⟨_,(aq (bV PassesOwn.never rfl (bD (pv 1)) (aP (i:=2) jj.nd rfl (Or.inl rfl)) (aq (dz (PW.pt (so (aL op_ge (cy (pv 2) rfl) (pv 0) (aU _)) (qN (aL op_ge (cy (pv 2) rfl) (pv 0) (aU _))))) (aq fT) bg)))),?_⟩
 refine⟨_,rfl,a,rfl,⟨_,hS⟩,cZ (K:=K) (xs:=xs) (fun i σ H2=>∃ v2,σ = [some (.int (m:Int)),some (.ref a),v2]/\H2=H) ⟨_,rfl,rfl⟩ (fun i σ H2 _ ⟨_,_,z⟩=>z▸hS) ?_ ?_⟩
 ·rintro i x σ H2 hx ⟨v2,rfl,rfl⟩
  have hi:i<es.length:=by rw[← hT.1];exact(JK.mp hx).1
  obtain⟨e,he⟩:∃ e,es[i]?=some e:=⟨_,JL hi⟩
  obtain⟨p,C,dx,st,x1,x2,x3⟩:=hT.2 i e he
  rw[hx]at x1
  cases x1
  obtain⟨e1,e2⟩:=hm e (JM he)
  refine⟨_,rfl,p,C,dx,_,_,rfl,x2,x3.cl,x3.n1,kc _ _ _,_,rfl,_,_,rfl,rfl,_,rfl,?_⟩
  refine ite2 (fun c=>absurd (of_decide_eq_true c) (by omega)) (fun _=>?_)
  refine⟨_,rfl,p,C,dx,_,_,rfl,x2,x3.cl,x3.n2,ox _ _ _,_,rfl,_,_,rfl,rfl,_,rfl,?_⟩
  refine ite2 (fun c=>absurd (of_decide_eq_true c) (by omega)) (fun _=>?_)
  exact⟨_,rfl,rfl⟩
 ·rintro σ H2 ⟨v2,rfl,rfl⟩
  exact k
theorem cx:aC ["many","ties","turns","ending","number","tie"] ["many","ties","turns"] (ai bF):=⟨rfl,rfl,rfl,by decide +kernel,rfl,by decide +kernel,by decide +kernel⟩
theorem DX{f:Addr}{fd:FuncData} (F:Fun K "refuse_turns" "refuse_turns" bF f fd) (T:Txt mg):FnOk P w K mg base CX0 1 f fd ["many","ties","turns"] (rN K):=by
 refine F.ok cx (fun vs H Q E h=>?_) (fun cdv A outer s H vs Q E hr h=>?_)
 ·obtain⟨a,b,xs,zs,m,es,ts,rfl,_⟩:=h
  rfl
 obtain⟨a,b,xs,zs,m,es,ts,rfl,hS,hT,hB,hR,w',few,m40,kk⟩:=h
 have hu64:=hr.units
 refine⟨_,(ag (k9 (i:=3) rfl cx.nd rfl rfl (fr:=[]) (by exact bX.plain (by rfl) (by decide +kernel) (by rfl) (by decide +kernel) (by rfl) (by decide +kernel)) (bW rfl T.n_range (aa (pv 0) aj)) (fun C ex s H=>(d0 aj)))
   (ag (bV PassesOwn.never rfl (DP rfl T.n_enumerate (aa (pv 1) aj)) (qP rfl (bP (aP (i:=4) cx.nd rfl (Or.inl rfl)) (bP (aP (i:=5) cx.nd rfl (Or.inl rfl)) lh))) (ag (bx (fH Kk KI KH bz (aD aN (pv 3) (cy (pv 5) rfl) (fun _ _=>rfl)) (aa (pv 4) aj)))
   (aq (bx (fH Kk KI KH bz (aD aN (pv 3) (cy (pv 5) rfl) (fun _ _=>rfl)) (aa (pv 4) aj))))))
   (aq (dz (aL (Hv hu64) (gU rfl (fr:=[]) (by exact bX.plain (by rfl) (by decide +kernel) (by rfl) (by decide +kernel) (by rfl) (by decide +kernel)) (bD (pv 2)) (fun C ex s H=>(aE (xk (K:=K) rfl) (by rfl) T.n_sorted pI (aa (pv 0) aj)))) (pv 3) (aU _)) (aq fT) bg)))),?_⟩
 refine⟨_,rfl,_,rfl,by omega,by omega,qV (n:=(m:Int).toNat) (fun i ys H2=>Same H H2/\cG (fun p=>H p≠none) H2 ys (Me i [])/\Dist ys) (by rw[Kq];exact K2 (au (by omega))) ⟨fun _ _ e=>e,⟨rfl,fun i l e=>by simp at e⟩,fun i j p e=>by simp at e⟩ ?_ ?_⟩
 ·rintro i ys H2 hi ⟨s2,rx,D⟩
  refine⟨(by show 0<=sizeLine;decide),fun l hl=>?_⟩
  have s3:=ao hl (.lst [])
  refine⟨s2.trans s3,?_,wF rx D hl⟩
  rw[List.replicate_succ']
  refine(rx.mono fun b u _ z=>s3 _ _ z).snoc (fun z=>z ?_) ae
  cases y:H l with
  |none=>rfl
  |some o=>rw[s2 _ _ y]at hl;cases hl
 rintro ys H2 hyl ⟨s2,rx,D⟩ pn hpn
 rw[Kq]at rx
 have s3:=ao hpn (.lst ys)
 have hpn0:H pn=none:=by
  cases y:H pn with
  |none=>rfl
  |some o=>rw[s2 _ _ y]at hpn;cases hpn
 have rx3:cG (fun p=>p=pn∨H p≠none) (upd H2 pn (.lst ys)) ys (Me m []):=⟨rx.1,fun i l z=>by
  obtain⟨p,a1,a2,a3⟩:=rx.2 i l z
  have n2:p≠pn:=ar a3 hpn
  exact⟨p,a1,by rintro(y | y);exact n2 y;exact a2 y,s3 _ _ a3⟩⟩
 refine⟨_,rfl,a,rfl,⟨_,(s2.trans s3).seq hS⟩,Bp (K:=K) (xs:=xs) (fun i σ H5=>∃ v4 v5 rows,σ = [some (.int (m:Int)),some (.ref a),some (.ref b),some (.ref pn),v4,v5]/\Same H H5/\H5 pn=some (.lst ys)/\cG (fun p=>p=pn∨H p≠none) H5 ys rows/\br m (es.take i) rows/\∀ r∈rows,r.Pairwise (· < ·))
  ⟨_,_,_,rfl,s2.trans s3,ae,rx3,FT m,fun r hr=>by rw[(List.mem_replicate.mp hr).2];exact Nq⟩ (fun i σ H5 _ ⟨_,_,_,_,z,_⟩=>z.seq hS) ?_ ?_⟩
 ·rintro i x σ H5 T2 hx ⟨v4,v5,rows,rfl,s5,hpn5,rx5,w5,pw⟩ hT2
  have hi:i<es.length:=by rw[← hT.1];exact(JK.mp hx).1
  obtain⟨e,he⟩:∃ e,es[i]?=some e:=⟨_,JL hi⟩
  obtain⟨p,C,dx,st,x1,x2,x3⟩:=hT.2 i e he
  rw[hx]at x1
  cases x1
  have sT:=ao hT2 (.tup [.int (i:Int),.ref p])
  have s6:=s5.trans sT
  have x6:=s6 _ _ x2
  obtain⟨e1,e2,e3⟩:=w'.ends e (JM he)
  have til:(es.take i).length=i:=by rw[Ku];omega
  have rlen:=w5.len
  obtain⟨l,hl⟩:∃ l,rows[e.1]?=some l:=⟨_,JL (by omega)⟩
  obtain⟨l',hl'⟩:∃ l,rows[e.2]?=some l:=⟨_,JL (by omega)⟩
  have rx6:cG (fun p=>p=pn∨H p≠none) (upd H5 T2 (.tup [.int (i:Int),.ref p])) ys rows:=rx5.mono fun b u _ z=>sT _ _ z
  obtain⟨p1,y1,y2,y3⟩:=rx6.2 _ _ hl
  obtain⟨p2,z1,z2,z3⟩:=rx6.2 _ _ hl'
  have no_S:∀{p:Addr},¬ (p=pn∨H p≠none)->H p=none/\p≠pn:=fun{p} n=>by
   refine⟨?_,fun z=>n (.inl z)⟩
   cases y:H p with
   |none=>rfl
   |some o=>exact absurd (.inr (by rw[y];exact fun z=>nomatch z)) n
  obtain⟨hp1,np1⟩:=no_S y2
  obtain⟨hp2,np2⟩:=no_S z2
  have n12:p2≠p1:=fun y=>by rw[y]at z1;exact e3 (D _ _ p1 y1 z1)
  have ll:∀{q:Nat}{r:List Nat},rows[q]?=some r->∀ t∈r,t<i:=fun{q r} h t ht=>by
   have:=mw w5 h ht
   omega
  have lle:∀{q:Nat}{r:List Nat},rows[q]?=some r->r.length<=7:=fun{q r} h=>by
   have:=d7 (w5.nd _ _ h) (ll h)
   omega
  have f1:=lle hl
  have f2:=lle hl'
  have hpn6:=sT _ _ hpn5
  refine⟨T2,_,rfl,SqT.of ae,rfl,_,_,rfl,_,_,rfl,rfl,?_⟩
  refine⟨_,rfl,_,rfl,p,C,dx,_,_,rfl,x6,x3.cl,x3.n1,kc _ _ _,pn,ys,_,_,rfl,rfl,SqL.of hpn6,aM y1,.inl ⟨rfl,_,SqL.of y3⟩,_,rfl,p1,_,_,rfl,rfl,y3,au (by rw[JS];omega),?_⟩
  have e1':(l.map iV)++[V.int (i:Int)]=(l++[i]).map iV:=by rw[KD];rfl
  rw[e1']
  have x7:(upd (upd H5 T2 (.tup [.int (i:Int),.ref p])) p1 (.lst ((l++[i]).map iV))) p=some (.ins C dx (tf (e.1:Int) (e.2:Int) st)):=by rw[ak (fun z=>by rw[z]at x2;rw[x2]at hp1;cases hp1)];exact x6
  have hpn7:(upd (upd H5 T2 (.tup [.int (i:Int),.ref p])) p1 (.lst ((l++[i]).map iV))) pn=some (.lst ys):=by rw[ak np1.symm];exact hpn6
  have z7:(upd (upd H5 T2 (.tup [.int (i:Int),.ref p])) p1 (.lst ((l++[i]).map iV))) p2=some (.lst (l'.map iV)):=by rw[ak n12];exact z3
  refine⟨_,rfl,_,rfl,p,C,dx,_,_,rfl,x7,x3.cl,x3.n2,ox _ _ _,pn,ys,_,_,rfl,rfl,SqL.of hpn7,aM z1,.inl ⟨rfl,_,SqL.of z7⟩,_,rfl,p2,_,_,rfl,rfl,z7,au (by rw[JS];omega),?_⟩
  have e2':(l'.map iV)++[V.int (i:Int)]=(l'++[i]).map iV:=by rw[KD];rfl
  rw[e2']
  refine⟨_,_,(rows.set e.1 (l++[i])).set e.2 (l'++[i]),rfl,aW (aW s6 hp1 _) hp2 _,by rw[ak np2.symm];exact hpn7,(rx6.set D y1).set D z1,?_,fun r hr=>?_⟩
  ·have q:=w5.put (k:=l.length) (j:=l'.length) e1 e2 e3 hl hl'
   rw[EN,EN,til]at q
   rw[Kw,he]
   exact q
  ·have app:∀{q:Nat}{r:List Nat},rows[q]?=some r->(r++[i]).Pairwise (· < ·):=fun{q r} h=>KS.mpr ⟨pw r (JM h),Mp _ _,fun x hx y hy=>by
    have:=ll h x hx
    have:y=i:=by simpa using hy
    omega⟩
   rcases NM hr with z | z
   ·rcases NM z with z | z
    ·exact pw r z
    ·rw[z];exact app hl
   ·rw[z];exact app hl'
 rintro σ H5 ⟨v4,v5,rows,rfl,s5,hpn5,rx5,w5,pw⟩
 rw[hT.1,KP]at w5
 have hzl:zs.length=m:=by rw[hR.1,w'.len]
 refine⟨_,rfl,b,rfl,⟨_,s5.seq hB⟩,df (K:=K) (xs:=zs) (fun i vs H6=>Same H5 H6/\bE H6 vs (rows.take i)) (K2 (au (by omega))) ⟨fun _ _ e=>e,rfl,fun i l e=>by simp at e⟩ (fun i vs H6 _ z=>(s5.trans z.1).seq hB) ?_ ?_⟩
 ·rintro i x vs H6 hx ⟨s6,rz⟩
  have hi:i<ts.length:=by rw[← hR.1];exact(JK.mp hx).1
  obtain⟨l,hl⟩:∃ l,ts[i]?=some l:=⟨_,JL hi⟩
  obtain⟨r,hr'⟩:∃ r,rows[i]?=some r:=⟨_,JL (by rw[w5.len,← w'.len];exact hi)⟩
  obtain⟨p,a1,a2⟩:=(hR.mono (s5.trans s6)).2 i l hl
  rw[hx]at a1
  cases a1
  have hll:l.length<=7:=KR (d7 (w'.nd _ _ hl) fun t ht=>mw w' hl ht) few
  refine⟨_,rfl,p,cI l,rfl,(by rw[cI_V];exact SqL.of a2),(by unfold cI;rw[JS];omega),fun q out hq hp hs=>?_⟩
  have eo:=Iy hp hs (w'.nd _ _ hl) (pw r (JM hr')) fun t=>(w'.mem i l hl t).trans (w5.mem i r hr' t).symm
  subst eo
  have s7:=ao hq (.lst ((cI r).map V.int))
  refine⟨s6.trans s7,?_⟩
  rw[show rows.take (i+1)=rows.take i++[r] by rw[Kw,hr'];rfl]
  exact(rz.mono s7).snoc (by rw[ae,cI_V])
 rintro vs H6 _ ⟨s6,rz⟩ D' hD'
 rw[hzl,← w5.len,KP]at rz
 have s7:=ao hD' (.lst vs)
 have s67:=s6.trans s7
 refine⟨_,rfl,_,DE (SqL.of ae) (rz.mono s7),DE (SqL.of (s67 _ _ hpn5)) (rx5.off.mono s67),yw rows,_,rfl,iteF ?_⟩
 exact kk _ (s5.trans s67)
theorem mZ:aC ["many","ties"] ["many","ties"] (ai bt):=⟨rfl,rfl,rfl,by decide +kernel,rfl,by decide +kernel,by decide +kernel⟩
theorem Gw{f fr:Addr}{fd fdr:FuncData} (F:Fun K "refuse_parted" "refuse_parted" bt f fd) (G_reached:Cal P w K mg base 1 "reached" ["start","pairs"] (x9 K) fr fdr):FnOk P w K mg base CX0 2 f fd ["many","ties"] (ya K):=by
 refine F.ok mZ (fun vs H Q E h=>?_) (fun cdv A outer s H vs Q E hr h=>?_)
 ·obtain⟨a,xs,m,es,ts,rfl,_⟩:=h
  rfl
 obtain⟨a,xs,m,es,ts,rfl,hS,hT,g,m2,m40,few,kk⟩:=h
 have hul:xs.length=es.length:=hT.1
 refine⟨_,(aq (dz (aL oG (aH G_reached.ok (hr.mono (by decide)) rfl G_reached.mg G_reached.kp G_reached.bn .nil a9 (aa ah (aa (gU rfl (fr:=[]) (by exact bX.plain (by rfl) (by decide +kernel) (by rfl) (by decide +kernel) (by rfl) (by decide +kernel)) (bD (pv 1)) (fun C ex s H=>(gM (aa (sN (K:=K) rfl (pv 0) rfl) (aa (sN (K:=K) rfl (pv 0) rfl) aj))))) aj))) (ay vA (ay jk ah (pv 0)) ah) (aU _)) (aq fT) bg)),?_⟩
 refine⟨_,rfl,a,rfl,⟨_,hS⟩,df (K:=K) (xs:=xs) (fun i zs H11=>Same H H11/\cF H11 zs (es.take i)) (K2 (au (by omega))) ⟨fun _ _ e=>e,rfl,fun i l e=>by simp at e⟩ (fun i zs H11 _ z=>z.1.seq hS) ?_ ?_⟩
 ·rintro i x zs H11 hx ⟨s11,ez⟩
  have hi:i<es.length:=by rw[← hT.1];exact(JK.mp hx).1
  obtain⟨e,he⟩:∃ e,es[i]?=some e:=⟨_,JL hi⟩
  obtain⟨p,C,dx,st,a1,a2,a3⟩:=(hT.mono s11).2 i e he
  rw[hx]at a1
  cases a1
  refine⟨_,rfl,p,C,dx,_,_,rfl,a2,a3.cl,a3.n1,kc _ _ _,_,rfl,p,C,dx,_,_,rfl,a2,a3.cl,a3.n2,ox _ _ _,(by show 2<=sizeLine;decide),fun g hg=>?_⟩
  have s12:=ao hg (.tup [iV e.1,iV e.2])
  refine⟨s11.trans s12,?_⟩
  rw[show es.take (i+1)=es.take i++[e] by rw[Kw,he];rfl]
  exact(ez.mono s12).snoc ae
 rintro zs H11 _ ⟨s11,ez⟩ D hD
 rw[hT.1,KP]at ez
 have s12:=ao hD (.lst zs)
 refine⟨D,zs,m,es,ts,rfl,SqL.of ae,ez.mono s12,g,m2,m40,_,rfl,_,_,rfl,rfl,⟨by omega,by omega,by decide⟩,_,_,rfl,rfl,rfl,_,rfl,?_⟩
 refine EE ?_ (kk _ (s11.trans s12))
 show V.int _=V.int _
 rw[shlN]
 have:=Nat.two_pow_pos m
 congr 1
 omega
end
end K8
namespace K8
open PySem L2
local macro_rules | `(tactic| walk_at "cc") => `(tactic| first | exact ⟨by decide, by decide⟩ | (show (0 : Int) < _; decide) | (show (0 : Int) < _; omega) | (show (0 : Int) ≤ _; omega) | exact ⟨by decide, by decide, by decide⟩ | exact ⟨by omega, by omega, by decide⟩ | exact Or.inl ⟨by decide, by decide⟩ | exact Or.inl ⟨by omega, by omega⟩)
local macro_rules | `(tactic| walk_at "rd") => `(tactic| repeat (first | refine ⟨_, rfl, ?_⟩ | refine ⟨_, _, rfl, rfl, ?_⟩ | refine ⟨rfl, ?_⟩ | (refine ⟨?cc, ?_⟩; (case cc => walk_at "cc"))))
def cls(PL PS:Addr)(push:Bool):Addr:=if push=true then PS else PL
def uI(PL PS:Addr)(H:Hp)(xs:List V)(es:En)(ks:Kn):Prop:=xs.length=es.length/\∀(i:Nat)(e:Nat×Nat)(k:Int×Int),es[i]?=some e->ks[i]?=some k->∃ p dx,xs[i]?=some (.ref p)/\H p=some (.ins (cls PL PS (decide (k.1=1))) dx (tf (e.1:Int) (e.2:Int) k.2))
theorem uI.mono{PL PS:Addr}{H H':Hp}{xs:List V}{es:En}{ks:Kn}(t:uI PL PS H xs es ks)(h:Same H H'):uI PL PS H' xs es ks:=⟨t.1,fun i e k q r=>by
 obtain⟨p,dx,a,b⟩:=t.2 i e k q r
 exact⟨p,dx,a,h _ _ b⟩⟩
structure CW(K:JN)(C:Addr):Prop where
 cl:Cls K C
 n1:fk K C "many"
 n2:fk K C "ties"
 n3:fk K C "turns"
 n4:fk K C "rounds"
 n5:fk K C "sides"
theorem iT(k:Str)(v:V):∀ fs:List (Str×V),(putF k v fs).length<=fs.length+1
 |[]=>JQ _
 | (a,b)::r=>by
  show(if a=k then(a,v)::r else(a,b)::putF k v r).length<=_
  have:=iT k v r
  split<;>simp only[Kt]<;>omega
theorem none_of{H H':Hp}{b:Addr}(s:Same H H')(z:H' b=none):H b=none:=by
 cases y:H b with
 |none=>rfl
 |some o=>rw[s _ _ y]at z;cases z
structure WebG(S:Addr->Prop)(H:Hp)(fs:List (Str×V))(m:Nat)(es:En)(ts rs:List (List Nat)):Prop where
 many:fs.lookup ("many" : Str)=some (.int (m:Int))
 turns:∃ q z,fs.lookup ("turns" : Str)=some (.ref q)/\¬ S q/\H q=some (.lst z)/\cG S H z ts
 rounds:∃ q z,fs.lookup ("rounds" : Str)=some (.ref q)/\H q=some (.lst z)/\bE H z rs
 sides:∃ q z,fs.lookup ("sides" : Str)=some (.ref q)/\H q=some (.lst z)/\mh H z es.length rs
 part:eK (fol es ts) (2*es.length) (2*es.length) rs
theorem mh.mono{H H':Hp}{z:List V}{n:Nat}{rs:List (List Nat)}(h:mh H z n rs)(s:Same H H'):mh H' z n rs:=⟨h.1,fun i hi=>by
 obtain⟨t,a,b,r,r',y1,y2,y3⟩:=h.2 i hi
 exact⟨t,a,b,r,r',y1,s _ _ y2,y3⟩⟩
theorem WebG.mono{S S':Addr->Prop}{H H':Hp}{fs:List (Str×V)}{m:Nat}{es:En}{ts rs:List (List Nat)}(h:WebG S H fs m es ts rs)(s:Same H H')(i:∀ a,S' a->S a):WebG S' H' fs m es ts rs:=by
 obtain⟨a,⟨q,z,b1,b0,b2,b3⟩,⟨q',z',c1,c2,c3⟩,⟨q2,z2,d1,d2,d3⟩,e⟩:=h
 refine⟨a,⟨q,z,b1,fun y=>b0 (i _ y),s _ _ b2,b3.1,fun j l y=>?_⟩,⟨q',z',c1,s _ _ c2,c3.mono s⟩,⟨q2,z2,d1,s _ _ d2,d3.mono s⟩,e⟩
 obtain⟨r,y1,y2,y3⟩:=b3.2 j l y
 exact⟨r,y1,fun x=>y2 (i _ x),s _ _ y3⟩
def rK(K:JN):Sp:=fun vs H Q _=>∃(p C dx qt qh:Addr)(m:Nat)(xs zs:List V)(es:En)(ts:List (List Nat)),vs = [.ref p,.int (m:Int),.ref qt,.ref qh]/\H p=some (.ins C dx [])/\CW K C/\H qt=some (.lst xs)/\dv K H xs es/\H qh=some (.lst zs)/\bE H zs ts/\Gr m es ts/\0<es.length/\es.length<=7 /\
 ∀(fs:List (Str×V))(q1:Addr)(rs:List (List Nat))(H':Hp),H' p=some (.ins C dx fs)->WebG (fun a=>H a≠none) H' fs m es ts rs->H q1=none->fs.lookup ("ties" : Str)=some (.ref q1)->H' q1=some (.lst xs)->(∀ q o,H q=some o->q≠p->H' q=some o)->Q .non H'
theorem dv.keep{K:JN}{H G:Hp}{xs:List V}{es:En}{p C dx:Addr}(t:dv K H xs es)(hp:H p=some (.ins C dx []))(k:∀ q u,q≠p->H q=some u->G q=some u):dv K G xs es:=⟨t.1,fun i e z=>by
 obtain⟨q,C',dx',s,a,b,d⟩:=t.2 i e z
 refine⟨q,C',dx',s,a,k _ _ (fun z=>?_) b,d⟩
 rw[z,hp]at b
 have e1:([]:List (Str×V))=tf (e.1:Int) (e.2:Int) s:=by
  injection b with b
  injection b
 have e2:=kc (e.1:Int) (e.2:Int) s
 rw[← e1]at e2
 cases e2⟩
section
variable{P:Program}{w:World}{K:JN}{mg:Str->Option Value}{base:Heap}
theorem ki:aC ["self","many","ties","turns","rounds"] ["self","many","ties","turns"] (ai ck):=⟨rfl,rfl,rfl,by decide +kernel,rfl,by decide +kernel,by decide +kernel⟩
theorem Gq{f f1 f2 f3 f4 f5:Addr}{fd d1 d2 d3 d4 d5:FuncData} (F:Fun K "__init__" "Web.__init__" ck f fd) (T:Txt mg) (G_refuse_ends:Cal P w K mg base 1 "refuse_ends" ["many","ties"] (yb K) f1 d1) (G_refuse_turns:Cal P w K mg base 1 "refuse_turns" ["many","ties","turns"] (rN K) f2 d2) (G_refuse_parted:Cal P w K mg base 2 "refuse_parted" ["many","ties"] (ya K) f3 d3) (G_rounds_of:Cal P w K mg base 4 "rounds_of" ["ties","turns"] (rM K) f4 d4) (G_sides_of:Cal P w K mg base 1 "sides_of" ["ties","rounds"] (x8 K) f5 d5) :
  FnOk P w K mg base CX0 5 f fd ["self","many","ties","turns"] (rK K):=by
 refine F.ok ki (fun vs H Q E h=>?_) (fun cdv A outer s H vs Q E hr h=>?_)
 ·obtain⟨p,C,dx,qt,qh,m,xs,zs,es,ts,rfl,_⟩:=h
  rfl
 obtain⟨p,C,dx,qt,qh,m,xs,zs,es,ts,rfl,hp,cw,hqt,hT,hqh,hR,g,e0,few,kk⟩:=h
 have w':=g.w
 have m2:=g.two e0
 have mf:=qT g
 have hul:xs.length=es.length:=hT.1
 have hzl:zs.length=m:=by rw[hR.1,w'.len]
 have pl:∀{q:Addr}{ys:List V},H q=some (.lst ys)->q≠p:=fun{q ys} h z=>by rw[z,hp]at h;cases h
 refine⟨_,(ag (bx (aH G_refuse_ends.ok (hr.mono (by decide)) rfl G_refuse_ends.mg G_refuse_ends.kp G_refuse_ends.bn .nil a9 (aa (pv 1) (aa (pv 2) aj))))
   (ag (bx (aH G_refuse_turns.ok (hr.mono (by decide)) rfl G_refuse_turns.mg G_refuse_turns.kp G_refuse_turns.bn .nil a9 (aa (pv 1) (aa (pv 2) (aa (pv 3) aj)))))
   (ag (bx (aH G_refuse_parted.ok (hr.mono (by decide)) rfl G_refuse_parted.mg G_refuse_parted.kp G_refuse_parted.bn .nil a9 (aa (pv 1) (aa (pv 2) aj))))
   (ag (av (i:=4) ki.nd rfl (Or.inl rfl) (aH G_rounds_of.ok (hr.mono (by decide)) rfl G_rounds_of.mg G_rounds_of.kp G_rounds_of.bn .nil a9 (aa (pv 2) (aa (pv 3) aj))))
   (ag (dz (aL oG (ay bR (ay vA (pv 1) (aE ax (by rfl) T.n_len bG (aa (pv 2) aj))) (aE ax (by rfl) T.n_len bG (aa (pv 4) aj))) ah (aU _)) (aq fT) bg)
   (ag (mv (pv 0) (pv 1) rfl)
   (ag (mv (pv 0) (c9 cv (by rfl) T.n_list gG (aa (pv 2) aj)) rfl)
   (ag (mv (pv 0) (gU rfl (fr:=[]) (by exact bX.plain (by rfl) (by decide +kernel) (by rfl) (by decide +kernel) (by rfl) (by decide +kernel)) (bD (pv 3)) (fun C ex s H=>(c9 (q9 (K:=K) rfl) (by rfl) T.n_list gG (aa (pv 0) aj)))) rfl)
   (ag (mv (pv 0) (pv 4) rfl)
   (aq (mv (pv 0) (aH G_sides_of.ok (hr.mono (by decide)) rfl G_sides_of.mg G_sides_of.kp G_sides_of.bn .nil a9 (aa (pv 2) (aa (pv 4) aj))) rfl))))))))))),?_⟩
 refine⟨_,rfl,_,rfl,qt,xs,m,es,rfl,SqL.of hqt,hT,fun e he=>⟨(w'.ends e he).1,(w'.ends e he).2.1⟩,?_⟩
 refine⟨_,rfl,_,rfl,_,rfl,qt,qh,xs,zs,m,es,ts,rfl,SqL.of hqt,hT,SqL.of hqh,hR,w',few,by omega,fun H1 s1=>?_⟩
 refine⟨_,rfl,_,rfl,qt,xs,m,es,ts,rfl,SqL.of (s1 _ _ hqt),hT.mono s1,g,m2,by omega,few,fun H2 s2=>?_⟩
 have s12:=s1.trans s2
 refine⟨_,rfl,_,rfl,qt,qh,m,es,ts,rfl,⟨⟨xs,SqL.of (s12 _ _ hqt),hT.mono s12⟩,⟨zs,SqL.of (s12 _ _ hqh),hR.mono s12⟩,w',by omega⟩,fun qr vs rs H3 s3 hqr hrs ro=>?_⟩
 have s13:=s12.trans s3
 have cnt:m+rs.length=es.length+2:=by
  obtain⟨rs',p',c⟩:=g.part
  rw[← p'.same ro.part]
  exact c
 have hvl:vs.length=rs.length:=hrs.1
 refine⟨_,rfl,_,rfl,qt,xs,rfl,.inl (SqL.of (s13 _ _ hqt)),_,_,rfl,rfl,_,rfl,qr,vs,rfl,.inl (SqL.of hqr),_,_,rfl,rfl,rfl,_,rfl,?_⟩
 refine EE (congrArg V.int (by omega)) ?_
 have hp3:=s13 _ _ hp
 refine⟨_,rfl,_,rfl,p,C,dx,[],rfl,hp3,cw.cl,cw.n1,(by show 0<1000;decide),?_⟩
 have keep:∀{G:Hp}{o:HO}{q:Addr}{u:HO},q≠p->G q=some u->(upd G p o) q=some u:=fun n z=>by rw[ak n];exact z
 refine⟨_,rfl,qt,xs,rfl,.inl (SqL.of (keep (pl hqt) (s13 _ _ hqt))),fun q1 hq1=>?_⟩
 have n1p:q1≠p:=fun z=>by rw[z,ae]at hq1;cases hq1
 have t4:=ao hq1 (.lst xs)
 refine⟨_,rfl,p,C,dx,_,rfl,t4 _ _ ae,cw.cl,cw.n2,?_,?_⟩
 ·have:=iT "many" (.int (m:Int)) ([]:List (Str×V));simp only[LX]at this;omega
 have t1:∀ q u,q≠p->H3 q=some u->(upd (upd (upd H3 p (.ins C dx (putF "many" (.int (m:Int)) []))) q1 (.lst xs)) p (.ins C dx (putF "ties" (.ref q1) (putF "many" (.int (m:Int)) [])))) q=some u:=fun q u n z=>keep n (t4 _ _ (keep n z))
 have q1a:(upd (upd (upd H3 p (.ins C dx (putF "many" (.int (m:Int)) []))) q1 (.lst xs)) p (.ins C dx (putF "ties" (.ref q1) (putF "many" (.int (m:Int)) [])))) q1=some (.lst xs):=keep n1p ae
 have pa:(upd (upd (upd H3 p (.ins C dx (putF "many" (.int (m:Int)) []))) q1 (.lst xs)) p (.ins C dx (putF "ties" (.ref q1) (putF "many" (.int (m:Int)) [])))) p=some (.ins C dx (putF "ties" (.ref q1) (putF "many" (.int (m:Int)) []))):=ae
 generalize upd (upd (upd H3 p (.ins C dx (putF "many" (.int (m:Int)) []))) q1 (.lst xs)) p (.ins C dx (putF "ties" (.ref q1) (putF "many" (.int (m:Int)) [])))=H4 at t1 q1a pa
 have lk:(putF "ties" (.ref q1) (putF "many" (.int (m:Int)) []):List (Str×V)).lookup ("ties" : Str)=some (.ref q1):=by rw[aw,if_pos rfl]
 have ln:(putF "ties" (.ref q1) (putF "many" (.int (m:Int)) []):List (Str×V)).length<=2:=by
  have a1:=iT "many" (.int (m:Int)) ([]:List (Str×V))
  have a2:=iT "ties" (.ref q1) (putF "many" (.int (m:Int)) ([]:List (Str×V)))
  simp only[LX]at a1
  omega
 have lkm:(putF "ties" (.ref q1) (putF "many" (.int (m:Int)) []):List (Str×V)).lookup ("many" : Str)=some (.int (m:Int)):=by rw[aw,if_neg (by decide +kernel),aw,if_pos rfl]
 generalize (putF "ties" (.ref q1) (putF "many" (.int (m:Int)) []):List (Str×V))=fs at pa lk ln lkm
 have hqh4:=t1 _ _ (pl hqh) (s13 _ _ hqh)
 have new4:∀{b:Addr},H4 b=none->H b=none:=fun{b} z=>by
  cases y:H b with
  |none=>rfl
  |some o =>
   by_cases n:b=p
   ·rw[n,pa]at z;cases z
   ·rw[t1 _ _ n (s13 _ _ y)]at z;cases z
 have new1:H q1=none:=by
  cases y:H q1 with
  |none=>rfl
  |some o=>rw[keep n1p (s13 _ _ y)]at hq1;cases hq1
 refine⟨_,rfl,qh,rfl,⟨_,SqL.of hqh4⟩,df (K:=K) (xs:=zs) (fun i ys H5=>Same H4 H5/\cG (fun a=>H a≠none) H5 ys (ts.take i)) (K2 (au (by omega))) ⟨fun _ _ e=>e,rfl,fun i l e=>by simp at e⟩ (fun i _ H5 _ z=>SqL.of (z.1 _ _ hqh4)) ?_ ?_⟩
 ·rintro i x ys H5 hx ⟨s5,rz⟩
  have hi:i<ts.length:=by rw[← hR.1];exact(JK.mp hx).1
  obtain⟨l,hl⟩:∃ l,ts[i]?=some l:=⟨_,JL hi⟩
  obtain⟨r,a1,a2⟩:=hR.2 i l hl
  rw[hx]at a1
  cases a1
  refine⟨_,rfl,r,_,rfl,.inl (SqL.of (s5 _ _ (t1 _ _ (pl a2) (s13 _ _ a2)))),fun g hg=>⟨s5.trans (ao hg _),?_⟩⟩
  rw[show ts.take (i+1)=ts.take i++[l] by rw[Kw,hl];rfl]
  exact(rz.mono fun b u _ z=>ao hg _ _ _ z).snoc (fun z=>z (new4 (none_of s5 hg))) ae
 rintro ys H5 _ ⟨s5,rz⟩ D hD
 rw[hR.1,KP]at rz
 have hDp:D≠p:=fun z=>by rw[z,s5 _ _ pa]at hD;cases hD
 have s6:=s5.trans (ao hD (.lst ys))
 refine⟨_,rfl,p,C,dx,fs,rfl,s6 _ _ pa,cw.cl,cw.n3,by omega,?_⟩
 have ln1:=iT "turns" (.ref D) fs
 have lk1:(putF "turns" (.ref D) fs).lookup ("ties" : Str)=some (.ref q1):=by rw[aw,if_neg (by decide +kernel)];exact lk
 refine⟨_,rfl,_,rfl,p,C,dx,_,rfl,ae,cw.cl,cw.n4,by omega,?_⟩
 have ln2:=iT "rounds" (.ref qr) (putF "turns" (.ref D) fs)
 have lk2:(putF "rounds" (.ref qr) (putF "turns" (.ref D) fs)).lookup ("ties" : Str)=some (.ref q1):=by rw[aw,if_neg (by decide +kernel)];exact lk1
 have t7:∀ q u,q≠p->H3 q=some u->(upd (upd (upd H5 D (.lst ys)) p (.ins C dx (putF "turns" (.ref D) fs))) p (.ins C dx (putF "rounds" (.ref qr) (putF "turns" (.ref D) fs)))) q=some u:=fun q u n z=>keep n (keep n (s6 _ _ (t1 q u n z)))
 have q17:(upd (upd (upd H5 D (.lst ys)) p (.ins C dx (putF "turns" (.ref D) fs))) p (.ins C dx (putF "rounds" (.ref qr) (putF "turns" (.ref D) fs)))) q1=some (.lst xs):=keep n1p (keep n1p (s6 _ _ q1a))
 have p7:(upd (upd (upd H5 D (.lst ys)) p (.ins C dx (putF "turns" (.ref D) fs))) p (.ins C dx (putF "rounds" (.ref qr) (putF "turns" (.ref D) fs)))) p=some (.ins C dx (putF "rounds" (.ref qr) (putF "turns" (.ref D) fs))):=ae
 have D7:(upd (upd (upd H5 D (.lst ys)) p (.ins C dx (putF "turns" (.ref D) fs))) p (.ins C dx (putF "rounds" (.ref qr) (putF "turns" (.ref D) fs)))) D=some (.lst ys):=keep hDp (keep hDp ae)
 have u7:∀ q u,q≠p->H5 q=some u->(upd (upd (upd H5 D (.lst ys)) p (.ins C dx (putF "turns" (.ref D) fs))) p (.ins C dx (putF "rounds" (.ref qr) (putF "turns" (.ref D) fs)))) q=some u:=fun q u n z=>keep n (keep n (ao hD _ _ _ z))
 generalize upd (upd (upd H5 D (.lst ys)) p (.ins C dx (putF "turns" (.ref D) fs))) p (.ins C dx (putF "rounds" (.ref qr) (putF "turns" (.ref D) fs)))=H7 at t7 q17 p7 D7 u7
 have pl3:∀{q:Addr}{ys:List V},H3 q=some (.lst ys)->q≠p:=fun{q ys} h z=>by rw[z,hp3]at h;cases h
 have rs7:bE H7 vs rs:=⟨hrs.1,fun i l z=>by
  obtain⟨r,a1,a2⟩:=hrs.2 i l z
  exact⟨r,a1,t7 _ _ (pl3 a2) a2⟩⟩
 have T7:dv K H7 xs es:=(hT.mono s13).keep hp3 t7
 refine⟨_,rfl,_,rfl,qt,qr,xs,vs,es,_,rs,rfl,SqL.of (t7 _ _ (pl hqt) (s13 _ _ hqt)),T7,by omega,SqL.of (t7 _ _ (pl3 hqr) hqr),rs7,ro,fun q5 z5 H8 s8 hq5 hs5=>?_⟩
 refine⟨_,rfl,p,C,dx,_,rfl,s8 _ _ p7,cw.cl,cw.n5,by omega,?_⟩
 have n5p:q5≠p:=fun z=>by rw[z,s8 _ _ p7]at hq5;cases hq5
 have hqr7:=t7 _ _ (pl3 hqr) hqr
 refine kk _ q1 rs _ ae ⟨?_,⟨D,ys,?_,fun z=>z (new4 (none_of s5 hD)),keep hDp (s8 _ _ D7),rz.1,fun i l z=>?_⟩,⟨qr,vs,?_,keep (pl3 hqr) (s8 _ _ hqr7),hrs.1,fun i l z=>?_⟩,⟨q5,z5,?_,keep n5p hq5,hs5.1,fun i hi=>?_⟩,ro⟩ new1 (by rw[aw,if_neg (by decide +kernel)];exact lk2) (keep n1p (s8 _ _ q17)) fun q o z n=>keep n (s8 _ _ (t7 q o n (s13 _ _ z)))
 ·rw[aw,if_neg (by decide +kernel),aw,if_neg (by decide +kernel),aw,if_neg (by decide +kernel)]
  exact lkm
 ·rw[aw,if_neg (by decide +kernel),aw,if_neg (by decide +kernel),aw,if_pos rfl]
 ·obtain⟨r,a1,a0,a2⟩:=rz.2 i l z
  have nr:r≠p:=fun z=>by rw[z,s5 _ _ pa]at a2;cases a2
  exact⟨r,a1,a0,keep nr (s8 _ _ (u7 r _ nr a2))⟩
 ·rw[aw,if_neg (by decide +kernel),aw,if_pos rfl]
 ·obtain⟨r,a1,a2⟩:=hrs.2 i l z
  exact⟨r,a1,keep (pl3 a2) (s8 _ _ (t7 _ _ (pl3 a2) a2))⟩
 ·rw[aw,if_pos rfl]
 ·obtain⟨t,a,b,r,r',y1,y2,y3⟩:=hs5.2 i hi
  exact⟨t,a,b,r,r',y1,keep (fun z=>by rw[z,s8 _ _ p7]at y2;cases y2) y2,y3⟩
theorem uI.at{PL PS:Addr}{H:Hp}{xs:List V}{es:En}{ks:Kn}(t:uI PL PS H xs es ks)(kl:ks.length=es.length)(TL:CT K PL)(TS:CT K PS):dv K H xs es:=⟨t.1,fun i e z=>by
 have hi:=(JK.mp z).1
 obtain⟨k,hk⟩:∃ k,ks[i]?=some k:=⟨_,JL (by omega)⟩
 obtain⟨p,dx,a,b⟩:=t.2 i e k z hk
 refine⟨p,_,dx,k.2,a,b,?_⟩
 unfold cls
 split
 ·exact TS
 ·exact TL⟩
def WebF(S:Addr->Prop)(PL PS WC:Addr)(H:Hp)(p:Addr)(m:Nat)(es:En)(ts rs:List (List Nat))(ks:Kn):Prop:=∃ dx fs q1 xs,H p=some (.ins WC dx fs)/\WebG S H fs m es ts rs/\¬ S q1/\fs.lookup ("ties" : Str)=some (.ref q1)/\H q1=some (.lst xs)/\uI PL PS H xs es ks
def Dt(PL PS WC:Addr):Sp:=fun vs H Q _=>∃(t pe pt pk:Addr)(m:Nat)(es:En)(ts:List (List Nat))(ks:Kn),vs = [.ref t]/\mV H t pe pt pk m es ts ks/\0<es.length /\
 ∀(p:Addr)(rs:List (List Nat))(H':Hp),Same H H'->WebF (fun a=>H a≠none) PL PS WC H' p m es ts rs ks->Q (.ref p) H'
theorem iQ:aC ["built","ties","k","end"] ["built"] (ai fG):=⟨rfl,rfl,rfl,by decide +kernel,rfl,by decide +kernel,by decide +kernel⟩
theorem IV{f fI PL PS WC fW:Addr}{fd fdI fdW:FuncData} (F:Fun K "_law_web" "_law_web" fG f fd) (T:Txt mg) (M_Pull:Mak P w K mg base 1 "Pull" ["self","one","two","strength"] (qL K) PL fI fdI) (M_Push:Mak P w K mg base 1 "Push" ["self","one","two","strength"] (qL K) PS fI fdI) (TL:CT K PL) (TS:CT K PS)
  (M_Web:Mak P w K mg base 5 "Web" ["self","many","ties","turns"] (rK K) WC fW fdW) (cw:CW K WC):FnOk P w K mg base CX0 7 f fd ["built"] (Dt PL PS WC):=by
 refine F.ok iQ (fun vs H Q E h=>?_) (fun cdv A outer s H vs Q E hr h=>?_)
 ·obtain⟨t,pe,pt,pk,m,es,ts,ks,rfl,_⟩:=h
  rfl
 obtain⟨t,pe,pt,pk,m,es,ts,ks,rfl,bp,e0',kk⟩:=h
 obtain⟨ht,⟨⟨ys,hpe,hE⟩,⟨xs,hpt,hR⟩,g⟩,⟨ws,hpk,tk⟩,few,kl⟩:=bp
 have hyl:ys.length=es.length:=hE.1
 have mf:=qT g
 have hxm:xs.length=m:=by rw[hR.1,g.w.len]
 refine⟨_,(ag (av (i:=1) iQ.nd rfl (Or.inl rfl) (d0 aj))
   (ag (bV PassesOwn.never rfl (bW rfl T.n_range (aa (aE ax (by rfl) T.n_len bG (aa (aD aJ (pv 0) ah (fun _ _=>rfl)) aj)) aj)) (aP (i:=2) iQ.nd rfl (Or.inl rfl)) (ag (av (i:=3) iQ.nd rfl (Or.inl rfl) (aD aN (aD aJ (pv 0) ah (fun _ _=>rfl)) (pv 2) (fun _ _=>rfl)))
   (aq (dz (aL lj (aD aJ (aD aN (aD aJ (pv 0) ah (fun _ _=>rfl)) (pv 2) (fun _ _=>rfl)) ah (fun _ _=>rfl)) ah (aU _)) (aq (bx (fH Kk KI KH bz (pv 1) (aa (yQ M_Push.mkc M_Push.ok (hr.mono (by decide)) rfl M_Push.mg M_Push.bn .nil a9 (aa (aD aJ (pv 3) ah (fun _ _=>rfl)) (aa (aD aJ (pv 3) ah (fun _ _=>rfl)) (aa (aD aJ (aD aN (aD aJ (pv 0) ah (fun _ _=>rfl)) (pv 2) (fun _ _=>rfl)) ah (fun _ _=>rfl)) aj)))) aj)))) (aq (bx (fH Kk KI KH bz (pv 1) (aa (yQ M_Pull.mkc M_Pull.ok (hr.mono (by decide)) rfl M_Pull.mg M_Pull.bn .nil a9 (aa (aD aJ (pv 3) ah (fun _ _=>rfl)) (aa (aD aJ (pv 3) ah (fun _ _=>rfl)) (aa (aD aJ (aD aN (aD aJ (pv 0) ah (fun _ _=>rfl)) (pv 2) (fun _ _=>rfl)) ah (fun _ _=>rfl)) aj)))) aj))))))))
   (aq (aQ (yQ M_Web.mkc M_Web.ok (hr.mono (by decide)) rfl M_Web.mg M_Web.bn .nil a9 (aa (aE ax (by rfl) T.n_len bG (aa (aD aJ (pv 0) ah (fun _ _=>rfl)) aj)) (aa (pv 1) (aa (gU rfl (fr:=[]) (by exact bX.plain (by rfl) (by decide +kernel) (by rfl) (by decide +kernel) (by rfl) (by decide +kernel)) (bD (aD aJ (pv 0) ah (fun _ _=>rfl))) (fun C ex s H=>(c9 (q9 (K:=K) rfl) (by rfl) T.n_list gG (aa (pv 0) aj)))) aj)))))))),?_⟩
 refine⟨(by show 0<=sizeLine;decide),fun q hq=>?_⟩
 have s1:=ao hq (.lst [])
 refine⟨_,rfl,t,_,0,_,rfl,rfl,SqT.of (s1 _ _ ht),at30,pe,ys,rfl,.inl (SqL.of (s1 _ _ hpe)),_,rfl,by omega,by omega,de (n:=(ys.length:Int).toNat) (fun i σ H2=>∃ v2 v3 us,σ = [some (.ref t),some (.ref q),v2,v3]/\Same H H2/\H2 q=some (.lst us)/\uI PL PS H2 us (es.take i) ks) ⟨_,_,[],rfl,s1,ae,rfl,fun i e k z=>by simp at z⟩ ?_ ?_⟩
 ·rintro i σ H2 hi ⟨v2,v3,us,rfl,s2,hq2,tt⟩
  rw[Kq,hyl]at hi
  have e0:(0:Int)+(i:Int)=(i:Int):=Lb _
  rw[e0]
  obtain⟨e,he⟩:∃ e,es[i]?=some e:=⟨_,JL hi⟩
  obtain⟨k,hk⟩:∃ k,ks[i]?=some k:=⟨_,JL (by omega)⟩
  obtain⟨_,_,ne⟩:=g.w.ends e (JM he)
  obtain⟨p,x1,x2⟩:=(hE.mono s2).2 i e he
  obtain⟨k1,k2,pk',y1,y2⟩:=(tk.mono s2).2 i k hk
  have ul:us.length=i:=by rw[tt.1,Ku];omega
  refine⟨_,rfl,t,_,0,_,rfl,rfl,SqT.of (s2 _ _ ht),at30,_,rfl,pe,ys,_,_,rfl,rfl,SqL.of (s2 _ _ hpe),aM x1,?_⟩
  refine⟨_,rfl,t,_,2,_,rfl,rfl,SqT.of (s2 _ _ ht),at32,_,rfl,pk,ws,_,_,rfl,rfl,SqL.of (s2 _ _ hpk),aM y1,pk',_,0,_,rfl,rfl,SqT.of y2,at0,rfl,_,rfl,?_⟩
  have fin:∀(x dx:Addr)(H':Hp),Same H2 H'->H' x=some (.ins (cls PL PS (decide (k.1=1))) dx (tf (e.1:Int) (e.2:Int) k.2))->∃ v2 v3 zs,([some (.ref t),some (.ref q),some (.int (i:Int)),some (.ref p)]:St) = [some (.ref t),some (.ref q),v2,v3]/\Same H (upd H' q (.lst (us++[.ref x])))/\(upd H' q (.lst (us++[.ref x]))) q=some (.lst zs)/\uI PL PS (upd H' q (.lst (us++[.ref x]))) zs (es.take (i+1)) ks:=fun x dx H' s4 h1=>by
   refine⟨_,_,_,rfl,aW (s2.trans s4) hq _,ae,by rw[JO,ul,Ku];simp;omega,fun j e' k' hj hk'=>?_⟩
   have hqn:∀{b:Addr}{C dx:Addr}{fs:List (Str×V)},H' b=some (.ins C dx fs)->b≠q:=fun z y=>by rw[y,s4 _ _ hq2]at z;cases z
   rw[LA]at hj
   by_cases z:j<i
   ·rw[if_pos (by omega)]at hj
    obtain⟨p',dx',a1,a2⟩:=(tt.mono s4).2 j e' k' (by rw[LA,if_pos z];exact hj) hk'
    exact⟨p',dx',by rw[JU (by omega)];exact a1,by rw[ak (hqn a2)];exact a2⟩
   ·by_cases z2:j=i
    ·subst z2
     rw[if_pos (by omega),he]at hj
     cases hj
     rw[hk]at hk'
     cases hk'
     exact⟨x,dx,by rw[← ul,JP (JQ _),Kr];rfl,by rw[ak (hqn h1)];exact h1⟩
    ·rw[if_neg (by omega)]at hj
     cases hj
  refine ite2 (fun c=>?_) (fun c=>?_)
  ·have c':k.1=1:=V.int.inj (of_decide_eq_true c)
   refine⟨_,rfl,.inl ⟨rfl,_,SqL.of hq2⟩,_,rfl,p,_,0,_,rfl,rfl,SqT.of x2,at0,_,rfl,p,_,1,_,rfl,rfl,SqT.of x2,at1,_,rfl,t,_,2,_,rfl,rfl,SqT.of (s2 _ _ ht),at32,_,rfl,pk,ws,_,_,rfl,rfl,SqL.of (s2 _ _ hpk),aM y1,pk',_,1,_,rfl,rfl,SqT.of y2,at1,?_⟩
   intro x dx nx ndx nex
   refine⟨x,PS,dx,_,_,_,rfl,ae,TS,by omega,by omega,by omega,k2,fun H' h1 h2=>?_⟩
   have s4:Same H2 H':=fun b o z=>h2 b o (by rw[ak (ar z nx),ak (ar z ndx)];exact z) (ar z nx)
   refine⟨rfl,q,us,_,rfl,rfl,s4 _ _ hq2,au (by omega),fin x dx H' s4 ?_⟩
   rw[decide_eq_true c']
   exact h1
  ·have c':¬ k.1=1:=fun z=>c (decide_eq_true (by rw[z]))
   refine⟨_,rfl,.inl ⟨rfl,_,SqL.of hq2⟩,_,rfl,p,_,0,_,rfl,rfl,SqT.of x2,at0,_,rfl,p,_,1,_,rfl,rfl,SqT.of x2,at1,_,rfl,t,_,2,_,rfl,rfl,SqT.of (s2 _ _ ht),at32,_,rfl,pk,ws,_,_,rfl,rfl,SqL.of (s2 _ _ hpk),aM y1,pk',_,1,_,rfl,rfl,SqT.of y2,at1,?_⟩
   intro x dx nx ndx nex
   refine⟨x,PL,dx,_,_,_,rfl,ae,TL,by omega,by omega,by omega,k2,fun H' h1 h2=>?_⟩
   have s4:Same H2 H':=fun b o z=>h2 b o (by rw[ak (ar z nx),ak (ar z ndx)];exact z) (ar z nx)
   refine⟨rfl,q,us,_,rfl,rfl,s4 _ _ hq2,au (by omega),fin x dx H' s4 ?_⟩
   rw[decide_eq_false c']
   exact h1
 rintro σ H2 ⟨v2,v3,us,rfl,s2,hq2,tt⟩
 rw[Kq,hyl,KP]at tt
 have hpt2:=s2 _ _ hpt
 refine⟨_,rfl,t,_,1,_,rfl,rfl,SqT.of (s2 _ _ ht),at31,pt,xs,rfl,.inl (SqL.of hpt2),_,rfl,_,rfl,t,_,1,_,rfl,rfl,SqT.of (s2 _ _ ht),at31,pt,rfl,⟨_,SqL.of hpt2⟩,df (K:=K) (xs:=xs) (fun i zs H3=>Same H2 H3/\bE H3 zs (ts.take i)) (K2 (au (by omega))) ⟨fun _ _ e=>e,rfl,fun i l e=>by simp at e⟩ (fun i zs H3 _ z=>SqL.of (z.1 _ _ hpt2)) ?_ ?_⟩
 ·rintro i x zs H3 hx ⟨s3,rz⟩
  have hi:i<ts.length:=by rw[← hR.1];exact(JK.mp hx).1
  obtain⟨l,hl⟩:∃ l,ts[i]?=some l:=⟨_,JL hi⟩
  obtain⟨p,a1,a2⟩:=(hR.mono (s2.trans s3)).2 i l hl
  rw[hx]at a1
  cases a1
  refine⟨_,rfl,p,_,rfl,.inl (SqL.of a2),fun g hg=>?_⟩
  have s4:=ao hg (.lst (l.map iV))
  refine⟨s3.trans s4,?_⟩
  rw[show ts.take (i+1)=ts.take i++[l] by rw[Kw,hl];rfl]
  exact(rz.mono s4).snoc ae
 rintro zs H3 _ ⟨s3,rz⟩ D hD
 rw[hR.1,KP]at rz
 have s4:=ao hD (.lst zs)
 have s24:=s3.trans s4
 intro x dx nx ndx nex
 have up:∀ b o,(upd H3 D (.lst zs)) b=some o->(upd (upd (upd H3 D (.lst zs)) dx (.own x)) x (.ins WC dx [])) b=some o:=fun b o z=>by rw[ak (ar z nx),ak (ar z ndx)];exact z
 refine⟨x,WC,dx,q,D,m,us,zs,es,ts,(by rw[hxm];rfl),ae,cw,up _ _ (s24 _ _ hq2),((tt.at kl TL TS).mono s24).mono up,up _ _ ae,(rz.mono s4).mono up,g,e0',few,fun fs q1 rs H' h1 hg hn h2 h3 h4=>⟨rfl,?_⟩⟩
 have s5:Same H2 H':=fun b o z=>h4 b o (up _ _ (s24 _ _ z)) (ar (s24 _ _ z) nx)
 have up0:∀ a,H a≠none->(upd (upd (upd H3 D (.lst zs)) dx (.own x)) x (.ins WC dx [])) a≠none:=fun a z y=>z (by
  cases u:H a with
  |none=>rfl
  |some o=>rw[up _ _ (s24 _ _ (s2 _ _ u))]at y;cases y)
 exact kk x rs H' (s2.trans s5) ⟨dx,fs,q1,us,h1,hg.mono (fun _ _ z=>z) up0,fun z=>up0 _ z hn,h2,h3,tt.mono s5⟩
end
end K8
namespace K8
open PySem L2
local macro_rules | `(tactic| walk_at "cc") => `(tactic| first | exact ⟨by decide, by decide⟩ | (show (0 : Int) < _; decide) | (show (0 : Int) < _; omega) | (show (0 : Int) ≤ _; omega) | exact ⟨by decide, by decide, by decide⟩ | exact ⟨by omega, by omega, by decide⟩ | exact Or.inl ⟨by decide, by decide⟩ | exact Or.inl ⟨by omega, by omega⟩)
local macro_rules | `(tactic| walk_at "rd") => `(tactic| repeat (first | refine ⟨_, rfl, ?_⟩ | refine ⟨_, _, rfl, rfl, ?_⟩ | refine ⟨rfl, ?_⟩ | (refine ⟨?cc, ?_⟩; (case cc => walk_at "cc"))))
def bit(l a:Int):Int:=l/2^a.toNat%2
theorem bitN(N a:Nat):bit (N:Int) (a:Int)=if N.testBit a=true then 1 else 0:=by
 unfold bit
 rw[Kq,Nat.testBit_eq_decide_div_mod_eq]
 have e:((N:Int)/2^a%2)=((N/2^a%2:Nat):Int):=by
  rw[Int.natCast_emod,Int.natCast_ediv,Int.natCast_pow]
  rfl
 rw[e]
 by_cases z:N/2^a%2=1
 ·rw[z,decide_eq_true rfl];rfl
 ·rw[decide_eq_false z]
  have:N/2^a%2=0:=by omega
  rw[this]
  rfl
def WebT(PL PS WC:Addr)(H:Hp)(p:Addr)(m:Nat)(es:En)(ts:List (List Nat))(ks:Kn):Prop:=∃ dx fs q1 xs q3 z3,H p=some (.ins WC dx fs)/\fs.lookup ("many" : Str)=some (.int (m:Int))/\fs.lookup ("ties" : Str)=some (.ref q1)/\H q1=some (.lst xs)/\uI PL PS H xs es ks/\fs.lookup ("turns" : Str)=some (.ref q3)/\H q3=some (.lst z3)/\bE H z3 ts
theorem WebT.mono{PL PS WC p:Addr}{H H':Hp}{m:Nat}{es:En}{ts:List (List Nat)}{ks:Kn}(h:WebT PL PS WC H p m es ts ks)(s:Same H H'):WebT PL PS WC H' p m es ts ks:=by
 obtain⟨dx,fs,q1,xs,q3,z3,a,b,c,d,e,f,g,i⟩:=h
 exact⟨dx,fs,q1,xs,q3,z3,s _ _ a,b,c,s _ _ d,e.mono s,f,s _ _ g,i.mono s⟩
theorem WebF.t{S:Addr->Prop}{PL PS WC p:Addr}{H:Hp}{m:Nat}{es:En}{ts rs:List (List Nat)}{ks:Kn}(h:WebF S PL PS WC H p m es ts rs ks):WebT PL PS WC H p m es ts ks:=by
 obtain⟨dx,fs,q1,xs,a,b,_,c,d,e⟩:=h
 obtain⟨q3,z3,b1,_,b2,b3⟩:=b.turns
 exact⟨dx,fs,q1,xs,q3,z3,a,b.many,c,d,e,b1,b2,b3.off⟩
theorem and1(x:Int):Builtin.bitAnd x 1=x%2:=PySem.W.kbt_mask x 1
def nQ(K:JN):Sp:=fun vs H Q _=>∃(p C dx:Addr)(a b s l:Int),vs = [.ref p,.int l]/\H p=some (.ins C dx (tf a b s))/\CT K C/\0<=a/\0<=b/\Q (.int (bit l a+bit l b)) H
def atF(N x:Nat)(e:Nat×Nat):Bool:=(e.1 == x&&!N.testBit e.2)||(e.2 == x&&!N.testBit e.1)
def cE(es:En)(N M:Nat):Prop:=∀ x,M.testBit x=(N.testBit x&&es.any (atF N x))
theorem cE.z(N:Nat):cE [] N 0:=fun x=>by rw[Lp,List.any_nil,NO]
theorem Ih(a b x:Nat):(2^a|||2^b).testBit x=(a == x||b == x):=by
 rw[Lu,K5,K5]
 cases h:a == x<;>cases h':b == x<;>simp_all
theorem cE.put{es:En}{N M:Nat}{e:Nat×Nat}(h:cE es N M)(one:N.testBit e.1≠N.testBit e.2):cE (es++[e]) N (M|||(N&&&(2^e.1|||2^e.2))):=fun x=>by
 rw[Lu,h x,LF,Ih,List.any_append,M1,List.any_nil,M4]
 unfold atF
 by_cases h1:e.1=x
 ·by_cases h2:e.2=x
  ·rw[h1,h2]at one
   exact absurd rfl one
  ·rw[h1]at one
   have e1:(e.1 == x)=true:=by simpa using h1
   have e2:(e.2 == x)=false:=by simpa using h2
   rw[e1,e2]
   cases z:N.testBit x
   ·simp
   ·rw[z]at one
    have:N.testBit e.2=false:=by cases y:N.testBit e.2 with | false=>rfl | true=>rw[y]at one;exact absurd rfl one
    rw[this]
    simp
 ·have e1:(e.1 == x)=false:=by simpa using h1
  by_cases h2:e.2=x
  ·rw[h2]at one
   have e2:(e.2 == x)=true:=by simpa using h2
   rw[e1,e2]
   cases z:N.testBit x
   ·simp
   ·rw[z]at one
    have:N.testBit e.1=false:=by cases y:N.testBit e.1 with | false=>rfl | true=>rw[y]at one;exact absurd rfl one
    rw[this]
    simp
  ·have e2:(e.2 == x)=false:=by simpa using h2
   rw[e1,e2]
   simp
theorem cE.skip{es:En}{N M:Nat}{e:Nat×Nat}(h:cE es N M)(one:N.testBit e.1=N.testBit e.2):cE (es++[e]) N M:=fun x=>by
 rw[h x,List.any_append,M1,List.any_nil,M4]
 unfold atF
 cases z:N.testBit x
 ·simp
 ·by_cases h1:e.1=x
  ·rw[h1,z]at one
   have:(e.2 == x&&!N.testBit e.1)=false:=by rw[h1,z];simp
   rw[this,← one]
   simp
  ·have e1:(e.1 == x)=false:=by simpa using h1
   by_cases h2:e.2=x
   ·rw[h2,z]at one
    rw[e1,one]
    simp
   ·have e2:(e.2 == x)=false:=by simpa using h2
    rw[e1,e2]
    simp
theorem cE.one{es:En}{N M M':Nat}(h:cE es N M)(h':cE es N M'):M=M':=Ls fun x=>by rw[h x,h' x]
def yd(PL PS WC:Addr):Sp:=fun vs H Q _=>∃(p:Addr)(N m m0:Nat)(es:En)(ts:List (List Nat))(ks:Kn),vs = [.ref p,.int (N:Int)]/\WebT PL PS WC H p m0 es ts ks/\ks.length=es.length/\m<=40/\(∀ e∈es,e.1<m/\e.2<m)/\∀ M:Nat,cE es N M->Q (.int (M:Int)) H
section
variable{P:Program}{w:World}{K:JN}{mg:Str->Option Value}{base:Heap}
theorem qj:aC ["tie","patch"] ["tie","patch"] (ai bO):=⟨rfl,rfl,rfl,by decide +kernel,rfl,by decide +kernel,by decide +kernel⟩
theorem DV{f:Addr}{fd:FuncData} (F:Fun K "ends_within" "ends_within" bO f fd):FnOk P w K mg base CX0 1 f fd ["tie","patch"] (nQ K):=by
 refine F.ok qj (fun vs H Q E h=>?_) (fun cdv A outer s H vs Q E hr h=>?_)
 ·obtain⟨p,C,dx,a,b,s,l,rfl,_⟩:=h
  rfl
 obtain⟨p,C,dx,a,b,st,l,rfl,hp,T,ha,hb,kk⟩:=h
 refine⟨_,(aq (aQ (ay bR (ay qR (ay qQ (pv 1) (cy (pv 0) rfl)) ah) (ay qR (ay qQ (pv 1) (cy (pv 0) rfl)) ah)))),?_⟩
 refine⟨_,rfl,_,rfl,p,C,dx,_,_,rfl,hp,T.cl,T.n1,kc _ _ _,_,_,rfl,rfl,ha,_,_,rfl,rfl,_,rfl,_,rfl,p,C,dx,_,_,rfl,hp,T.cl,T.n2,ox _ _ _,_,_,rfl,rfl,hb,_,_,rfl,rfl,_,_,rfl,rfl,?_⟩
 show Q (V.int (Builtin.bitAnd (l/2^a.toNat) 1+Builtin.bitAnd (l/2^b.toNat) 1)) H
 rw[and1,and1]
 exact kk
theorem vd:aC ["found"] ["found"] (ai cL):=⟨rfl,rfl,rfl,by decide +kernel,rfl,by decide +kernel,by decide +kernel⟩
theorem Gs{f:Addr}{fd:FuncData} (F:Fun K "_law_whole" "_law_whole" cL f fd) (T:Txt mg):FnOk P w K mg base CX0 1 f fd ["found"] Iq:=by
 refine F.ok vd (fun vs H Q E h=>?_) (fun cdv A outer s H vs Q E hr h=>?_)
 ·obtain⟨i,rfl,_⟩:=h
  rfl
 obtain⟨i,rfl,k⟩:=h
 refine⟨_,(aq (aQ (Hu (aE oj (by rfl) T.n_isinstance dH (aa (pv 0) (aa (sP (v:=.ty "int") rfl T.n_int HL rfl) aj))) (Hq (pe_not (aE oj (by rfl) T.n_isinstance dH (aa (pv 0) (aa (sP (v:=.ty "bool") rfl T.n_bool JF rfl) aj)))))))),?_⟩
 refine⟨_,rfl,_,_,_,_,_,rfl,TyOf.int i,Or.inl ⟨_,rfl,rfl⟩,kit_ii K,_,rfl,iteT ?_⟩
 exact⟨_,rfl,_,_,_,_,_,rfl,TyOf.int i,Or.inl ⟨_,rfl,rfl⟩,kit_ib K,_,rfl,k⟩
theorem fO:aC ["web","behind","front","tie"] ["web","behind"] (ai dQ):=⟨rfl,rfl,rfl,by decide +kernel,rfl,by decide +kernel,by decide +kernel⟩
theorem GB{f fw PL PS WC:Addr}{fd fdw:FuncData} (F:Fun K "front_of" "front_of" dQ f fd) (cw:CW K WC) (TL:CT K PL) (TS:CT K PS) (G_ends_within:Cal P w K mg base 1 "ends_within" ["tie","patch"] (nQ K) fw fdw):FnOk P w K mg base CX0 2 f fd ["web","behind"] (yd PL PS WC):=by
 refine F.ok fO (fun vs H Q E h=>?_) (fun cdv A outer s H vs Q E hr h=>?_)
 ·obtain⟨p,N,m,m0,es,ts,ks,rfl,_⟩:=h
  rfl
 obtain⟨p,N,m,m0,es,ts,ks,rfl,⟨dx,fs,q1,xs,q3,z3,hp,_,hlk,hq1,tk,_⟩,kl,m40,hbd,kk⟩:=h
 have hxl:xs.length=es.length:=tk.1
 have ct:∀ b,CT K (cls PL PS b):=fun b=>by
  unfold cls
  split
  ·exact TS
  ·exact TL
 refine⟨_,(ag (av (i:=2) fO.nd rfl (Or.inl rfl) ah)
   (ag (bV PassesOwn.never rfl (bD (cy (pv 0) rfl)) (aP (i:=3) fO.nd rfl (Or.inl rfl)) (aq (dz (aL lj (aH G_ends_within.ok (hr.mono (by decide)) rfl G_ends_within.mg G_ends_within.kp G_ends_within.bn .nil a9 (aa (pv 3) (aa (pv 1) aj))) ah (aU _)) (aq (av (i:=2) fO.nd rfl (Or.inl rfl) (ay yR (pv 2) (ay qR (pv 1) (ay yR (ay jk ah (cy (pv 3) rfl)) (ay jk ah (cy (pv 3) rfl))))))) bg)))
   (aq (aQ (pv 2))))),?_⟩
 refine⟨_,rfl,p,WC,dx,fs,_,rfl,hp,cw.cl,cw.n2,hlk,q1,rfl,⟨_,SqL.of hq1⟩,cZ (K:=K) (xs:=xs) (fun i σ H2=>∃ v3 M,σ = [some (.ref p),some (.int (N:Int)),some (.int ((M:Nat):Int)),v3]/\H2=H/\cE (es.take i) N M) ⟨_,0,rfl,rfl,cE.z N⟩ (fun i σ H2 _ ⟨_,_,_,z,_⟩=>by rw[z];exact SqL.of hq1) ?_ ?_⟩
 ·rintro i x σ H2 hx ⟨v3,M,rfl,rfl,fr⟩
  have hi:i<es.length:=by rw[← tk.1];exact(JK.mp hx).1
  obtain⟨e,he⟩:∃ e,es[i]?=some e:=⟨_,JL hi⟩
  obtain⟨k,hk⟩:∃ k,ks[i]?=some k:=⟨_,JL (by omega)⟩
  obtain⟨p',dx',x1,x2⟩:=tk.2 i e k he hk
  rw[hx]at x1
  cases x1
  obtain⟨b1,b2⟩:=hbd e (JM he)
  have et:es.take (i+1)=es.take i++[e]:=by rw[Kw,he];rfl
  have hin:(bit (N:Int) (e.1:Int)+bit (N:Int) (e.2:Int)=1)↔N.testBit e.1≠N.testBit e.2:=by
   rw[bitN,bitN]
   cases N.testBit e.1<;>cases N.testBit e.2<;>decide
  refine⟨_,rfl,_,rfl,p',_,dx',_,_,_,_,rfl,x2,ct _,by omega,by omega,rfl,_,rfl,?_⟩
  refine ite2 (fun c=>?_) (fun c=>?_)
  ·have c':=hin.mp (V.int.inj (of_decide_eq_true c))
   refine⟨_,rfl,_,rfl,_,rfl,p',_,dx',_,_,rfl,x2,(ct _).cl,(ct _).n1,kc _ _ _,_,_,rfl,rfl,⟨by omega,by omega,by decide⟩,_,rfl,p',_,dx',_,_,rfl,x2,(ct _).cl,(ct _).n2,ox _ _ _,_,_,rfl,rfl,⟨by omega,by omega,by decide⟩,_,_,rfl,rfl,_,_,rfl,rfl,_,_,rfl,rfl,?_⟩
   refine⟨some (.ref p'),M|||(N&&&(2^e.1|||2^e.2)),?_,rfl,by rw[et];exact fr.put c'⟩
   have eo:Builtin.bitOr (M:Int) (Builtin.bitAnd (N:Int) (Builtin.bitOr (1*2^((e.1:Nat):Int).toNat) (1*2^((e.2:Nat):Int).toNat)))=((M|||(N&&&(2^e.1|||2^e.2)):Nat):Int):=by rw[shlN,shlN,orN,andN,orN]
   show[some (V.ref p),some (V.int (N:Int)),some (V.int (Builtin.bitOr (M:Int) (Builtin.bitAnd (N:Int) (Builtin.bitOr (1*2^((e.1:Nat):Int).toNat) (1*2^((e.2:Nat):Int).toNat))))),some (V.ref p')]=_
   rw[eo]
  ·have c':N.testBit e.1=N.testBit e.2:=by
    cases h1:N.testBit e.1<;>cases h2:N.testBit e.2
    ·rfl
    ·exact absurd (decide_eq_true (congrArg V.int (hin.mpr (by rw[h1,h2];decide)))) c
    ·exact absurd (decide_eq_true (congrArg V.int (hin.mpr (by rw[h1,h2];decide)))) c
    ·rfl
   exact⟨some (.ref p'),M,rfl,rfl,by rw[et];exact fr.skip c'⟩
 rintro σ H2 ⟨v3,M,rfl,rfl,fr⟩
 rw[hxl,KP]at fr
 exact⟨_,rfl,kk M fr⟩
end
end K8
namespace K8
open PySem L2
local macro_rules | `(tactic| walk_at "cc") => `(tactic| first | exact ⟨by decide, by decide⟩ | (show (0 : Int) < _; decide) | (show (0 : Int) < _; omega) | (show (0 : Int) ≤ _; omega) | exact ⟨by decide, by decide, by decide⟩ | exact ⟨by omega, by omega, by decide⟩ | exact Or.inl ⟨by decide, by decide⟩ | exact Or.inl ⟨by omega, by omega⟩)
local macro_rules | `(tactic| walk_at "rd") => `(tactic| repeat (first | refine ⟨_, rfl, ?_⟩ | refine ⟨_, _, rfl, rfl, ?_⟩ | refine ⟨rfl, ?_⟩ | (refine ⟨?cc, ?_⟩; (case cc => walk_at "cc"))))
def rI(m:Nat):List Int:=(KJ m).map fun(i:Nat)=>((i:Nat):Int)
theorem rI_V(m:Nat):((KJ m).map fun(i:Nat)=>V.int ((i:Nat):Int))=(rI m).map V.int:=by unfold rI;rw[LK];rfl
theorem rI_pw(m:Nat):(rI m).Pairwise (·<=·):=by
 unfold rI
 refine M3.map _ (fun a b h=>?_) List.pairwise_lt_range
 omega
theorem EJ{K:JN}{H:Hp}{a:Addr}{ns:List Int}(h:SqL K H a (ns.map V.int)):RdD K H (.ref a) (.list (ns.map PyData.int)):=by
 refine RdD.lst h (by rw[JS,JS]) fun i x d e1 e2=>?_
 rw[JR]at e1 e2
 cases q:ns[i]? with
 |none=>rw[q]at e1;cases e1
 |some z=>rw[q]at e1 e2;cases e1;cases e2;exact .int _
structure ErrC(K:JN)(mg:Str->Option Value)(x:Str)(C:Addr):Prop where
 mg:mg x=some (.ref C)
 ec:ExC K C
def Told(m:Nat)(v:V)(H:Hp)(ns:List Int):Prop:=(v=.non/\ns=rI m)∨∃ o,v=.ref o/\H o=some (.lst (ns.map V.int))/\ns.length<=50
theorem Told.mono{m:Nat}{v:V}{H H':Hp}{ns:List Int}(h:Told m v H ns)(s:Same H H'):Told m v H' ns:=by
 rcases h with h | ⟨o,a,b,c⟩
 ·exact .inl h
 ·exact .inr ⟨o,a,s _ _ b,c⟩
def AW(BO WC:Addr):Sp:=fun vs H Q E=>∃(p dx:Addr)(fs:List (Str×V))(m:Nat)(v:V)(ns:List Int),vs = [.ref p,v]/\H p=some (.ins WC dx fs)/\fs.lookup ("many" : Str)=some (.int (m:Int))/\m<=40/\Told m v H ns /\
 (¬ ns.Perm (rI m)->∀ H',Same H H'->E (.ref BO) none H')/\(ns.Perm (rI m)->∀ q H',Same H H'->H q=none->H' q=some (.lst (ns.map V.int))->Q (.ref q) H')
def mk(l:List Nat):Nat:=l.foldl (fun a x=>a|||2^x) 0
theorem Ed(l:List Nat)(x:Nat):mk (l++[x])=mk l|||2^x:=by unfold mk;rw[List.foldl_append];rfl
def xM(es:En)(od ms:List Nat):Prop:=ms.length=od.length+1/\∀ k M,ms[k]?=some M->cE es (mk (od.take k)) M
theorem HG(es:En):cE es 0 0:=fun x=>by rw[Lp];rfl
theorem xM.snoc{es:En}{od ms:List Nat}{x M:Nat}(h:xM es od ms)(hM:cE es (mk (od++[x])) M):xM es (od++[x]) (ms++[M]):=by
 refine⟨by rw[JO,JO,h.1];rfl,fun k N e=>?_⟩
 by_cases hk:k<ms.length
 ·rw[JU hk]at e
  have hk2:k<=od.length:=by have:=h.1;omega
  rw[MC hk2]
  exact h.2 k N e
 ·rw[JP (by omega)]at e
  have hk2:k=ms.length:=by
   have:=(JK.mp e).1
   rw[JW]at this
   omega
  subst hk2
  rw[Kr]at e
  cases e
  rw[Kz (by rw[JO,JW,h.1];exact JQ _)]
  exact hM
theorem A3{ns:List Int}{m:Nat}(h:ns.Perm (rI m)):∃ od:List Nat,ns=cI od/\∀ x∈od,x<m:=by
 have hb:∀ x∈ns,0<=x/\x<(m:Int):=fun x hx=>by
  have:=h.mem_iff.mp hx
  unfold rI at this
  obtain⟨i,hi,rfl⟩:=Ke.mp this
  have:=KU.mp hi
  omega
 refine⟨ns.map Int.toNat,?_,fun x hx=>?_⟩
 ·unfold cI
  rw[LK]
  symm
  refine(MI fun x hx=>?_).trans (List.map_id _)
  have:=hb x hx
  show((x.toNat:Nat):Int)=x
  omega
 ·obtain⟨y,hy,rfl⟩:=Ke.mp hx
  have:=hb y hy
  omega
def Iu(BO PL PS WC:Addr):Sp:=fun vs H Q E=>∃(p:Addr)(m:Nat)(es:En)(ts:List (List Nat))(ks:Kn)(v:V)(ns:List Int),vs = [.ref p,v]/\WebT PL PS WC H p m es ts ks/\ks.length=es.length/\(∀ e∈es,e.1<m/\e.2<m)/\m<=40/\Told m v H ns /\
 (¬ ns.Perm (rI m)->∀ H',Same H H'->E (.ref BO) none H')/\(∀ od:List Nat,ns=cI od->ns.Perm (rI m)->∀ q ms H',Same H H'->H' q=some (.lst (ms.map iV))->xM es od ms->Q (.ref q) H')
section
variable{P:Program}{w:World}{K:JN}{mg:Str->Option Value}{base:Heap}
theorem oE:aC ["web","order","places"] ["web","order"] (ai dJ):=⟨rfl,rfl,rfl,by decide +kernel,rfl,by decide +kernel,by decide +kernel⟩
theorem ok_ord{f BO WC:Addr}{fd:FuncData} (F:Fun K "order_of" "order_of" dJ f fd) (T:Txt mg) (cw:CW K WC) (X_BadOrder:ErrC K mg "BadOrder" BO):FnOk P w K mg base (CXr P w) 1 f fd ["web","order"] (AW BO WC):=by
 refine F.okX oE (fun vs H Q E h=>?_) (fun cdv A outer s H vs Q E hr h=>?_)
 ·obtain⟨p,dx,fs,m,v,ns,rfl,_⟩:=h
  rfl
 obtain⟨p,dx,fs,m,v,ns,rfl,hp,lk,m40,td,kb,k⟩:=h
 have hu64:=hr.units
 refine⟨_,(ag (av (i:=2) oE.nd rfl (Or.inl rfl) (vy rfl rfl T.n_list rfl T.n_range (cy (pv 0) rfl)))
   (ag (dz (aL op_isN (pv 1) Hr (aU _)) (aq (aQ (pv 2))) bg)
   (ag (dz (aL (op_neG hu64) (aE pE (by rfl) T.n_sorted pI (aa (pv 1) aj)) (pv 2) (aU _)) (aq (vh X_BadOrder.ec X_BadOrder.mg rfl mq rfl rfl (aa Ho aj))) bg)
   (aq (aQ (c9 cv (by rfl) T.n_list gG (aa (pv 1) aj))))))),?_⟩
 refine⟨_,rfl,p,WC,dx,fs,_,rfl,hp,cw.cl,cw.n1,lk,m,rfl,by omega,fun q hq=>?_⟩
 rw[rI_V]
 have s1:=ao hq (.lst ((rI m).map V.int))
 rcases td with⟨rfl,rfl⟩ | ⟨o,rfl,ho,hl⟩
 ·refine⟨_,rfl,rfl,_,rfl,iteT ?_⟩
  exact⟨_,rfl,k (MA _) q _ s1 hq ae⟩
 refine⟨_,rfl,rfl,_,rfl,iteF ?_⟩
 refine⟨_,rfl,o,ns,rfl,SqL.of (s1 _ _ ho),by omega,fun l out hl' hp' hs=>?_⟩
 have s2:=ao hl' (.lst (out.map V.int))
 have s12:=s1.trans s2
 refine⟨_,rfl,_,_,EJ (SqL.of ae),EJ (SqL.of (s2 _ _ ae)),jK _,jK _,_,rfl,?_⟩
 rw[GZ]
 refine ite2 (fun c=>?_) (fun c=>?_)
 ·have c':out≠rI m:=fun z=>by rw[decide_eq_true z]at c;cases c
  refine⟨(by decide:(1:Nat)<=sizeLine),kb (fun z=>c' (kZ (hp'.trans z) hs (rI_pw m))) _ s12⟩
 ·have c':out=rI m:=by
   by_cases z:out=rI m
   ·exact z
   ·exact absurd (by rw[decide_eq_false z];rfl) c
  refine⟨_,rfl,o,_,rfl,.inl (SqL.of (s12 _ _ ho)),fun r hr'=>?_⟩
  exact k (c'▸hp'.symm) r _ (s12.trans (ao hr' _)) (by
   cases y:H r with
   |none=>rfl
   |some u=>rw[s12 _ _ y]at hr';cases hr') ae
theorem gT:aC ["web","order","found","behind","place"] ["web","order"] (ai iS):=⟨rfl,rfl,rfl,by decide +kernel,rfl,by decide +kernel,by decide +kernel⟩
theorem D4{f fo ff BO PL PS WC:Addr}{fd fdo fdf:FuncData} (F:FunD K "fronts" "fronts" iS f fd #[.none]) (G_order_of:CalX P w K mg base 1 "order_of" ["web","order"] (AW BO WC) fo fdo) (G_front_of:Cal P w K mg base 2 "front_of" ["web","behind"] (yd PL PS WC) ff fdf):FnOk P w K mg base (CXr P w) 3 f fd ["web","order"] (Iu BO PL PS WC):=by
 refine F.okX gT (fun vs H Q E h=>?_) (fun cdv A outer s H vs Q E hr h=>?_)
 ·obtain⟨p,m,es,ts,ks,v,ns,rfl,_⟩:=h
  rfl
 obtain⟨p,m,es,ts,ks,v,ns,rfl,wm,kl,hbd,m40,td,kb,kk⟩:=h
 refine⟨_,(ag (av (i:=2) gT.nd rfl (Or.inl rfl) (d0 (aa ah aj)))
   (ag (av (i:=3) gT.nd rfl (Or.inl rfl) ah)
   (ag (DI rfl (bD (iU G_order_of.ok (hr.mono (by decide)) rfl G_order_of.mg G_order_of.kp G_order_of.bn .nil mq rfl (aa (pv 0) (aa (pv 1) aj)))) (aP (i:=4) gT.nd rfl (Or.inl rfl)) (ag (av (i:=3) gT.nd rfl (Or.inl rfl) (ay yR (pv 3) (ay jk ah (pv 4))))
   (aq (bx (fH Kk KI KH bz (pv 2) (aa (aH G_front_of.ok (hr.mono (by decide)) rfl G_front_of.mg G_front_of.kp G_front_of.bn .nil a9 (aa (pv 0) (aa (pv 3) aj))) aj))))))
   (aq (aQ (pv 2)))))),?_⟩
 refine⟨(by show 1<=sizeLine;decide),fun qf hqf=>?_⟩
 have s1:=ao hqf (.lst [.int 0])
 obtain⟨dx,fs,_,_,_,_,hp,lk,_⟩:=id wm
 refine⟨_,rfl,_,rfl,p,dx,fs,m,v,ns,rfl,s1 _ _ hp,lk,m40,td.mono s1,fun z H' s'=>kb z _ (s1.trans s'),fun pm q H2 s2 nq hq=>?_⟩
 obtain⟨od,rfl,ob⟩:=A3 pm
 have nqf:q≠qf:=fun z=>by rw[z,ae]at nq;cases nq
 have ol:(cI od).length=od.length:=by unfold cI;rw[JS]
 have s12:=s1.trans s2
 have ol40:od.length<=40:=by
  have:=pm.length_eq
  unfold rI at this
  rw[ol,JS,Lg]at this
  omega
 refine⟨q,rfl,⟨_,SqL.of hq⟩,cZ (K:=K) (xs:=(cI od).map V.int) (fun i σ H3=>∃ v4 ms,σ = [some (.ref p),some v,some (.ref qf),some (.int ((mk (od.take i):Nat):Int)),v4]/\Same H H3/\H3 q=some (.lst ((cI od).map V.int))/\H3 qf=some (.lst (ms.map iV))/\xM es (od.take i) ms) ⟨_,[0],rfl,s12,hq,s2 _ _ ae,rfl,fun k M e=>?_⟩ (fun i σ H3 _ ⟨_,_,_,_,z,_⟩=>SqL.of z) ?_ ?_⟩
 ·match k with
  |0=>cases e;exact HG es
  |k+1=>cases e
 ·rintro i x σ H3 hx ⟨v4,ms,rfl,s3,hq3,hf3,fr⟩
  rw[JR]at hx
  obtain⟨y,hy,rfl⟩:=Kl.mp hx
  unfold cI at hy
  rw[JR]at hy
  obtain⟨pl,hpl,rfl⟩:=Kl.mp hy
  have hb:=ob pl (JM hpl)
  have et:od.take (i+1)=od.take i++[pl]:=by rw[Kw,hpl];rfl
  have ml:ms.length<=41:=by
   have:=fr.1
   rw[Ku]at this
   omega
  refine⟨_,rfl,_,rfl,_,_,rfl,rfl,⟨by omega,by omega,by decide⟩,_,_,rfl,rfl,?_⟩
  have eo:Builtin.bitOr ((mk (od.take i):Nat):Int) (1*2^((pl:Nat):Int).toNat)=((mk (od.take (i+1)):Nat):Int):=by rw[et,Ed,shlN,orN]
  refine⟨_,rfl,.inl ⟨rfl,_,SqL.of hf3⟩,_,rfl,_,rfl,p,mk (od.take (i+1)),m,m,es,ts,ks,congrArg (fun z=>[V.ref p,V.int z]) eo,wm.mono s3,kl,m40,hbd,fun M hM=>?_⟩
  refine⟨qf,_,_,rfl,rfl,hf3,au (by rw[JS];omega),?_⟩
  refine⟨some (.int (pl:Int)),ms++[M],?_,aW s3 hqf _,by rw[ak nqf];exact hq3,by rw[ae,KD];rfl,by rw[et]at hM ⊢;exact fr.snoc hM⟩
  show[some (V.ref p),some v,some (V.ref qf),some (V.int (Builtin.bitOr ((mk (od.take i):Nat):Int) (1*2^((pl:Nat):Int).toNat))),some (V.int (pl:Int))]=_
  rw[eo]
 ·rintro σ H3 ⟨v4,ms,rfl,s3,hq3,hf3,fr⟩
  rw[JS,ol,KP]at fr
  exact⟨_,rfl,kk od rfl pm qf ms H3 s3 hf3 fr⟩
end
end K8
namespace K8
open PySem L2
local macro_rules | `(tactic| walk_at "cc") => `(tactic| first | exact ⟨by decide, by decide⟩ | (show (0 : Int) < _; decide) | (show (0 : Int) < _; omega) | (show (0 : Int) ≤ _; omega) | exact ⟨by decide, by decide, by decide⟩ | exact ⟨by omega, by omega, by decide⟩ | exact Or.inl ⟨by decide, by decide⟩ | exact Or.inl ⟨by omega, by omega⟩)
local macro_rules | `(tactic| walk_at "rd") => `(tactic| repeat (first | refine ⟨_, rfl, ?_⟩ | refine ⟨_, _, rfl, rfl, ?_⟩ | refine ⟨rfl, ?_⟩ | (refine ⟨?cc, ?_⟩; (case cc => walk_at "cc"))))
theorem pe_or{X:Cx}{e:Expr}{t1 t2:TE}(h1:PE X e t1)(h2:PE X e t2):PE X e (fun σ H Q=>t1 σ H Q∨t2 σ H Q):=fun pins s σ H Q I h=>h.elim (h1 pins s σ H Q I) (h2 pins s σ H Q I)
theorem Ib(x y:Int):Builtin.bitAnd (Builtin.bitXor x y) 1=(x%2+y%2)%2:=by
 have e:Builtin.bitAnd (Builtin.bitXor x y) 1=Builtin.bitXor x y%2:=PySem.W.kbt_mask _ 1
 rw[e,PyProof.Rows.bitXor_and]
 omega
def unp(push:Bool)(a b l:Int):Bool:=!decide (V.int ((bit l a+bit l b)%2)=V.int (if push=true then 1 else 0))
def uP(push:Bool):Sp:=fun vs H Q _=>∃ p,vs = [.ref p]/\Q (.int (if push=true then 1 else 0)) H
def TieAt(H:Hp)(p C:Addr)(a b s:Int):Prop:=∃ dx,H p=some (.ins C dx (tf a b s))
def AV(C:Addr)(push:Bool):Sp:=fun vs H Q _=>∃ p a b s l,vs = [.ref p,.int l]/\TieAt H p C a b s/\0<=a/\0<=b/\Q (.bl (unp push a b l)) H
def oz(C:Addr)(push:Bool):Sp:=fun vs H Q _=>∃ p a b s l,vs = [.ref p,.int l]/\TieAt H p C a b s/\0<=a/\0<=b/\Q (.int (if unp push a b l=true then s else 0)) H
def U(es:En)(ks:Kn)(l:Int)(t:Nat):Bool:=match es[t]?,ks[t]? with | some e,some k=>unp (decide (k.1=1)) (e.1:Int) (e.2:Int) l | _,_=>false
theorem U_at{es:En}{ks:Kn}{l:Int}{t:Nat}{e:Nat×Nat}{k:Int×Int}(h1:es[t]?=some e)(h2:ks[t]?=some k):U es ks l t=unp (decide (k.1=1)) (e.1:Int) (e.2:Int) l:=by unfold U;rw[h1,h2]
def stg(ks:Kn)(t:Nat):Int:=match ks[t]? with | some k=>k.2 | none=>0
section
variable{P:Program}{w:World}{K:JN}{mg:Str->Option Value}{base:Heap}
theorem yt:aC ["self"] ["self"] (ai dS):=⟨rfl,rfl,rfl,by decide +kernel,rfl,by decide +kernel,by decide +kernel⟩
theorem Gp{f:Addr}{fd:FuncData} (F:Fun K "wish" "Tie.wish" dS f fd):FnOk P w K mg base CX0 1 f fd ["self"] (uP false):=by
 refine F.ok yt (fun vs H Q E h=>?_) (fun cdv A outer s H vs Q E hr h=>?_)
 ·obtain⟨p,rfl,_⟩:=h
  rfl
 obtain⟨p,rfl,k⟩:=h
 exact⟨_,(aq (aQ ah)),k⟩
theorem vg:aC ["self"] ["self"] (ai cS):=⟨rfl,rfl,rfl,by decide +kernel,rfl,by decide +kernel,by decide +kernel⟩
theorem Gn{f:Addr}{fd:FuncData} (F:Fun K "wish" "Push.wish" cS f fd):FnOk P w K mg base CX0 1 f fd ["self"] (uP true):=by
 refine F.ok vg (fun vs H Q E h=>?_) (fun cdv A outer s H vs Q E hr h=>?_)
 ·obtain⟨p,rfl,_⟩:=h
  rfl
 obtain⟨p,rfl,k⟩:=h
 exact⟨_,(aq (aQ ah)),k⟩
theorem gL:aC ["self","laying","unlike"] ["self","laying"] (ai bw):=⟨rfl,rfl,rfl,by decide +kernel,rfl,by decide +kernel,by decide +kernel⟩
theorem DW{f C fw:Addr}{fd fdw:FuncData}{push:Bool} (F:Fun K "unpleased" "Tie.unpleased" bw f fd) (T:CT K C) (m_wish:Met P w K mg base 1 C "wish" ["self"] (uP push) fw fdw):FnOk P w K mg base CX0 2 f fd ["self","laying"] (AV C push):=by
 refine F.ok gL (fun vs H Q E h=>?_) (fun cdv A outer s H vs Q E hr h=>?_)
 ·obtain⟨p,a,b,s,l,rfl,_⟩:=h
  rfl
 obtain⟨p,a,b,st,l,rfl,⟨dx,hp⟩,ha,hb,k⟩:=h
 have CL:=T.cl
 refine⟨_,(ag (av (i:=2) gL.nd rfl (Or.inl rfl) (ay qR (ay op_xor (ay qQ (pv 1) (cy (pv 0) rfl)) (ay qQ (pv 1) (cy (pv 0) rfl))) ah))
   (aq (aQ (DS oG (pv 2) (Gi (pv 0) CL m_wish.me m_wish.ok (hr.mono (by decide)) m_wish.bn .nil a9) (aU _))))),?_⟩
 refine⟨_,rfl,_,rfl,p,C,dx,_,_,rfl,hp,T.cl,T.n1,kc _ _ _,_,_,rfl,rfl,ha,?_⟩
 refine⟨_,rfl,_,rfl,p,C,dx,_,_,rfl,hp,T.cl,T.n2,ox _ _ _,_,_,rfl,rfl,hb,?_⟩
 refine⟨_,_,rfl,rfl,_,_,rfl,rfl,?_⟩
 refine⟨_,rfl,_,rfl,p,dx,_,rfl,hp,FU _ _ _ (by decide +kernel) (by decide +kernel) (by decide +kernel),p,rfl,?_⟩
 refine⟨rfl,?_⟩
 have e:=Ib (l/2^a.toNat) (l/2^b.toNat)
 have k':Q (V.bl (unp push a b l)) H:=k
 unfold unp bit at k'
 rw[← e]at k'
 exact k'
theorem vf:aC ["self","laying"] ["self","laying"] (ai cR):=⟨rfl,rfl,rfl,by decide +kernel,rfl,by decide +kernel,by decide +kernel⟩
theorem A8{f C fw:Addr}{fd fdw:FuncData}{push:Bool} (F:Fun K "price" "Tie.price" cR f fd) (T:CT K C) (m_unpleased:Met P w K mg base 2 C "unpleased" ["self","laying"] (AV C push) fw fdw):FnOk P w K mg base CX0 3 f fd ["self","laying"] (oz C push):=by
 refine F.ok vf (fun vs H Q E h=>?_) (fun cdv A outer s H vs Q E hr h=>?_)
 ·obtain⟨p,a,b,s,l,rfl,_⟩:=h
  rfl
 obtain⟨p,a,b,st,l,rfl,⟨dx,hp⟩,ha,hb,k⟩:=h
 have CL:=T.cl
 refine⟨_,(aq (aQ (sM (AZ (yP (pv 0) CL m_unpleased.me m_unpleased.ok (hr.mono (by decide)) m_unpleased.bn .nil a9 (aa (pv 1) aj))) (cy (pv 0) rfl) ah))),?_⟩
 refine⟨_,rfl,p,dx,_,rfl,hp,FU _ _ _ (by decide +kernel) (by decide +kernel) (by decide +kernel),_,rfl,p,a,b,st,l,rfl,⟨dx,hp⟩,ha,hb,_,rfl,?_⟩
 refine ite2 (fun c=>?_) (fun c=>?_)
 ·refine⟨_,rfl,p,C,dx,_,_,rfl,hp,T.cl,T.n3,tf_str _ _ _,?_⟩
  rw[if_pos c]at k
  exact k
 ·rw[if_neg c]at k
  exact k
end
end K8
namespace K8
open PySem L2
local macro_rules | `(tactic| walk_at "cc") => `(tactic| first | exact ⟨by decide, by decide⟩ | (show (0 : Int) < _; decide) | (show (0 : Int) < _; omega) | (show (0 : Int) ≤ _; omega) | exact ⟨by decide, by decide, by decide⟩ | exact ⟨by omega, by omega, by decide⟩ | exact Or.inl ⟨by decide, by decide⟩ | exact Or.inl ⟨by omega, by omega⟩)
local macro_rules | `(tactic| walk_at "rd") => `(tactic| repeat (first | refine ⟨_, rfl, ?_⟩ | refine ⟨_, _, rfl, rfl, ?_⟩ | refine ⟨rfl, ?_⟩ | (refine ⟨?cc, ?_⟩; (case cc => walk_at "cc"))))
def sumL{α:Type}(l:List α)(f:α->Int):Int:=(l.map f).sum
theorem eQ{α:Type}(f:α->Int):sumL [] f=0:=rfl
theorem aB{α:Type}(x:α)(l:List α)(f:α->Int):sumL (x::l) f=f x+sumL l f:=by unfold sumL;rw[KA,NV]
theorem kh{α:Type}(l:List α)(f g:α->Int):sumL l (fun x=>f x+g x)=sumL l f+sumL l g:=by
 induction l with
 |nil=>rfl
 |cons x l ih=>rw[aB,aB,aB,ih];omega
theorem bH{α:Type}(l:List α):sumL l (fun _=>0)=0:=by
 induction l with
 |nil=>rfl
 |cons x l ih=>rw[aB,ih];rfl
theorem aF{α:Type}{l:List α}{f g:α->Int}(h:∀ x∈l,f x=g x):sumL l f=sumL l g:=by
 induction l with
 |nil=>rfl
 |cons x l ih=>rw[aB,aB,h x (by simp),ih fun y hy=>h y (by simp[hy])]
theorem ke{α β:Type}(l:List α)(r:List β)(f:α->β->Int):sumL l (fun x=>sumL r (f x))=sumL r (fun y=>sumL l (fun x=>f x y)):=by
 induction l with
 |nil=>rw[eQ];exact(bH r).symm
 |cons x l ih =>
  rw[aB,ih,← kh]
  exact aF fun y _=>(aB x l fun x=>f x y).symm
abbrev Pr:=Int×Int
def PrAt(H:Hp)(v:V)(p:Pr):Prop:=∃ t,v=.ref t/\H t=some (.tup [.int p.1,.int p.2])
theorem iP{α:Type}(l r:List α)(f:α->Int):sumL (l++r) f=sumL l f+sumL r f:=by
 induction l with
 |nil=>rw[Nc,eQ,Lb]
 |cons x l ih=>rw[List.cons_append,aB,aB,ih];omega
theorem FY{α β:Type}(l:List α)(g:α->β)(f:β->Int):sumL (l.map g) f=sumL l fun x=>f (g x):=by
 unfold sumL
 rw[LK]
 rfl
theorem kg{α β:Type} [DecidableEq β] (k:α->β):∀{l:List α}{x:α}(g:α->Int),(l.map k).Nodup->x∈l->sumL l (fun y=>if k x=k y then g y else 0)=g x
 |y::l,x,g,nd,h=>by
  rw[KA,Kc]at nd
  rw[aB]
  rcases JT.mp h with rfl | h
  ·rw[if_pos rfl]
   have z:sumL l (fun y=>if k x=k y then g y else 0)=0:=by
    refine(aF fun y hy=>?_).trans (bH l)
    rw[if_neg]
    intro e
    exact nd.1 (e▸Ke.mpr ⟨y,hy,rfl⟩)
   rw[z,Ld]
  ·have ne:¬ k x=k y:=fun e=>nd.1 (by rw[← e];exact Ke.mpr ⟨x,h,rfl⟩)
   rw[if_neg ne,Lb]
   exact kg k g nd.2 h
theorem Im{n:Nat}{l:List Nat}(nd:l.Nodup)(hl:∀ t∈l,t<n)(g:Nat->Int):sumL (KJ n) (fun t=>if t∈l then g t else 0)=sumL l g:=by
 have e:∀ t∈KJ n,(if t∈l then g t else 0)=sumL l fun u=>if t=u then g u else 0:=fun t _=>by
  by_cases h:t∈l
  ·rw[if_pos h]
   exact(kg (fun x=>x) g (by rw[List.map_id'];exact nd) h).symm
  ·rw[if_neg h]
   refine((aF fun u hu=>?_).trans (bH l)).symm
   have ne:¬ t=u:=fun e=>h (by rw[e];exact hu)
   rw[if_neg ne]
 rw[aF e,ke]
 refine aF fun u hu=>?_
 have q:=kg (fun x:Nat=>x) (l:=KJ n) (x:=u) g (by rw[List.map_id'];exact Lz) (KU.mpr (hl u hu))
 refine(aF fun t _=>?_).trans q
 by_cases h:t=u
 ·rw[if_pos h,if_pos h.symm,h]
 ·have ne:¬ u=t:=fun e=>h e.symm
  rw[if_neg h,if_neg ne]
def layK(ps:List Nat)(w:Nat):Nat->Nat
 |0=>0
 |k+1=>if w.testBit k=true then layK ps w k|||2^(ps.getD k 0) else layK ps w k
def wc(ps:List Nat)(w:Nat):Nat:=layK ps w ps.length
def lays(ps:List Nat):List Nat:=(KJ (2^ps.length)).map (wc ps)
theorem zE{ps qs:List Nat}{w v:Nat}:∀{k:Nat},(∀ i,i<k->ps.getD i 0=qs.getD i 0/\w.testBit i=v.testBit i)->layK ps w k=layK qs v k
 |0,_=>rfl
 |k+1,h=>by
  obtain⟨a,b⟩:=h k (Lq k)
  rw[layK,layK,a,b,zE fun i hi=>h i (Lw hi)]
theorem Bo{ps:List Nat}{p i:Nat}(h:i<ps.length):(ps++[p]).getD i 0=ps.getD i 0:=by
 rw[K3,K3,JU h]
theorem Jg{ps:List Nat}{p w:Nat}(hw:w<2^ps.length):wc (ps++[p]) w=wc ps w:=by
 unfold wc
 rw[JO,JW,layK,if_neg (by rw[Mu hw];exact Ka)]
 exact zE fun i hi=>⟨Bo hi,rfl⟩
theorem GP{ps:List Nat}{p w:Nat}(hw:w<2^ps.length):wc (ps++[p]) (2^ps.length+w)=wc ps w|||2^p:=by
 unfold wc
 rw[JO,JW,layK]
 have tb:(2^ps.length+w).testBit ps.length=true:=by
  rw[Nat.testBit_two_pow_add_eq,Mu hw];rfl
 have gp:(ps++[p]).getD ps.length 0=p:=by
  rw[K3,JP (JQ _),Kr];rfl
 rw[if_pos tb,gp]
 congr 1
 refine zE fun i hi=>⟨Bo hi,?_⟩
 exact Nat.testBit_two_pow_add_gt hi w
theorem kA(ps:List Nat)(p:Nat):lays (ps++[p])=lays ps++(lays ps).map (·|||2^p):=by
 unfold lays
 have e:2^(ps++[p]).length=2^ps.length+2^ps.length:=by rw[JO,JW,Nat.pow_succ];omega
 rw[e,List.range_add,KD,LK,LK]
 congr 1
 ·exact MI fun w hw=>Jg (KU.mp hw)
 ·exact MI fun w hw=>GP (KU.mp hw)
theorem FX(ps:List Nat)(p:Nat)(f:Nat->Int):sumL (lays (ps++[p])) f=sumL (lays ps) (fun L=>f L+f (L|||2^p)):=by
 rw[kA,iP,FY,kh]
theorem dq(l:List Nat)(x:Nat):(mk l).testBit x=decide (x∈l):=by
 have go:∀(l:List Nat)(a:Nat),(l.foldl (fun a x=>a|||2^x) a).testBit x=(a.testBit x||decide (x∈l)):=by
  intro l
  induction l with
  |nil=>intro a;simp
  |cons y l ih =>
   intro a
   rw[List.foldl_cons,ih,Lu,K5]
   by_cases h:y=x
   ·subst h;simp
   ·have h':¬ x=y:=fun e=>h e.symm
    simp[h,h',JT]
 unfold mk
 rw[go,Lp,Bool.false_or]
theorem nW{ps:List Nat}{L:Nat}(h:L∈lays ps){x:Nat}(hx:L.testBit x=true):x∈ps:=by
 unfold lays at h
 obtain⟨w,_,rfl⟩:=Ke.mp h
 unfold wc at hx
 have go:∀ k,k<=ps.length->(layK ps w k).testBit x=true->x∈ps:=fun k=>by
  induction k with
  |zero=>intro _ h;rw[layK,Lp]at h;cases h
  |succ k ih =>
   intro hk h
   rw[layK]at h
   split at h
   ·rw[Lu,K5]at h
    rcases Bool.or_eq_true_iff.mp h with h | h
    ·exact ih (by omega) h
    ·have e:ps.getD k 0=x:=of_decide_eq_true h
     rw[← e,K3,JL (by omega)]
     exact Li _
   ·exact ih (by omega) h
 exact go _ (JQ _) hx
def insT(es:En)(B t:Nat):Bool:=match es[t]? with | some e=>B.testBit e.1&&B.testBit e.2 | none=>false
theorem lH{es:En}{B t:Nat}{e:Nat×Nat}(h:es[t]?=some e):insT es B t=(B.testBit e.1&&B.testBit e.2):=by unfold insT;rw[h]
def cstB(es:En)(pr:Nat->Nat->Int)(B L:Nat):Int:=sumL (KJ es.length) fun t=>if insT es B t=true then pr t L else 0
def Loc(es:En)(pr:Nat->Nat->Int):Prop:=∀(t:Nat)(e:Nat×Nat),es[t]?=some e->∀ L L':Nat,L.testBit e.1=L'.testBit e.1->L.testBit e.2=L'.testBit e.2->pr t L=pr t L'
def ji(es:En)(B:Nat)(row:List Nat):List Nat:=row.filter (insT es B)
theorem kq(L p x:Nat)(b:Bool):(L|||(if b=true then 2^p else 0)).testBit x=(L.testBit x||(b&&decide (p=x))):=by
 rw[Lu]
 cases b
 ·simp
 ·simp[K5]
def hsg(s p:Nat)(b:Bool):Nat:=s|||(if b=true then 2^p else 0)
section
variable{m:Nat}{es:En}{ts:List (List Nat)}{pr:Nat->Nat->Int}{ps row:List Nat}{p F F' L:Nat}
theorem E1(h:cE es (mk ps) F)(h':cE es (mk (ps++[p])) F'){x:Nat}(hx:F'.testBit x=true):x=p∨F.testBit x=true:=by
 rw[h' x,dq]at hx
 rw[h x,dq]
 obtain⟨h1,h2⟩:=LC.mp hx
 by_cases e:x=p
 ·exact .inl e
 ·right
  have hm:x∈ps:=by
   rcases JV.mp (of_decide_eq_true h1)with z | z
   ·exact z
   ·exact absurd (Kj.mp z) e
  rw[decide_eq_true hm,Mb]
  obtain⟨t,ht,hat⟩:=LR.mp h2
  refine LR.mpr ⟨t,ht,?_⟩
  have dn:∀ y,(mk (ps++[p])).testBit y=false->(mk ps).testBit y=false:=fun y z=>by
   rw[dq]at z ⊢
   exact decide_eq_false fun q=>of_decide_eq_false z (Kv _ q)
  unfold atF at hat ⊢
  rcases Bool.or_eq_true_iff.mp hat with z | z
  ·obtain⟨a,b⟩:=LC.mp z
   have b':=dn t.2 (by simpa using b)
   rw[a,b'];rfl
  ·obtain⟨a,b⟩:=LC.mp z
   have b':=dn t.1 (by simpa using b)
   rw[a,b'];simp
theorem E2(h:cE es (mk ps) F)(h':cE es (mk (ps++[p])) F')(hp:p∉ps)(hL:L∈lays ps)(b:Bool):hsg (L&&&F) p b&&&F'=hsg L p b&&&F':=by
 apply Ls
 intro x
 unfold hsg
 rw[LF,LF,kq,kq,LF]
 cases z:F'.testBit x
 ·simp
 ·rcases E1 h h' z with e | e
  ·subst e
   have:L.testBit x=false:=by
    cases q:L.testBit x with
    |false=>rfl
    |true=>exact absurd (nW hL q) hp
   rw[this];rfl
  ·rw[e];simp
theorem BQ(T:br m es ts)(lc:Loc es pr)(h:cE es (mk ps) F)(hp:p∉ps)(hL:L∈lays ps)(b:Bool)(hrow:ts[p]?=some row){t:Nat}(ht:t∈ji es (mk (ps++[p])) row):pr t (hsg (L&&&F) p b)=pr t (hsg L p b):=by
 obtain⟨h1,h2⟩:=Mq.mp ht
 obtain⟨e,he,hep⟩:=(T.mem p row hrow t).mp h1
 obtain⟨_,_,hne⟩:=T.ends e (JM he)
 rw[lH he,dq,dq]at h2
 obtain⟨i1,i2⟩:=LC.mp h2
 have hpB:(mk ps).testBit p=false:=by rw[dq];exact decide_eq_false hp
 have inF:∀ y,y∈ps++[p]->y≠p->(e.1=y/\e.2=p∨e.1=p/\e.2=y)->F.testBit y=true:=fun y hy hn hc=>by
  have hy':y∈ps:=by
   rcases JV.mp hy with z | z
   ·exact z
   ·exact absurd (Kj.mp z) hn
  rw[h y,dq,decide_eq_true hy',Mb]
  refine LR.mpr ⟨e,JM he,?_⟩
  unfold atF
  rcases hc with⟨a,c⟩ | ⟨a,c⟩
  ·rw[a,c,hpB];simp
  ·rw[a,c,hpB];simp
 have pb:(L&&&F).testBit p=false/\L.testBit p=false:=by
  have:L.testBit p=false:=by
   cases q:L.testBit p with
   |false=>rfl
   |true=>exact absurd (nW hL q) hp
  exact⟨by rw[LF,this];rfl,this⟩
 have atp:(hsg (L&&&F) p b).testBit p=(hsg L p b).testBit p:=by unfold hsg;rw[kq,kq,pb.1,pb.2]
 have aty:∀ y,F.testBit y=true->(hsg (L&&&F) p b).testBit y=(hsg L p b).testBit y:=fun y hy=>by unfold hsg;rw[kq,kq,LF,hy,Bool.and_true]
 rcases hep with z | z
 ·refine lc t e he _ _ (by rw[z];exact atp) (aty _ (inF e.2 (of_decide_eq_true i2) (fun q=>hne (z.trans q.symm)) (.inr ⟨z,rfl⟩)))
 ·refine lc t e he _ _ (aty _ (inF e.1 (of_decide_eq_true i1) (fun q=>hne (q.trans z.symm)) (.inl ⟨rfl,z⟩))) (by rw[z];exact atp)
theorem Fp(T:br m es ts)(lc:Loc es pr)(h:cE es (mk ps) F)(hp:p∉ps)(hL:L∈lays ps)(b:Bool)(hrow:ts[p]?=some row) :
  cstB es pr (mk (ps++[p])) (hsg L p b)=cstB es pr (mk ps) L+sumL (ji es (mk (ps++[p])) row) (fun t=>pr t (hsg (L&&&F) p b)):=by
 have hb:∀ t∈ji es (mk (ps++[p])) row,t<es.length:=fun t ht=>by
  obtain⟨e,he,_⟩:=(T.mem p row hrow t).mp (Mq.mp ht).1
  exact(JK.mp he).1
 rw[aF (fun t ht=>BQ T lc h hp hL b hrow ht),← Im (show(ji es (mk (ps++[p])) row).Nodup from(T.nd p row hrow).filter _) hb]
 unfold cstB
 rw[← kh]
 refine aF fun t ht=>?_
 obtain⟨e,he⟩:∃ e,es[t]?=some e:=⟨_,JL (KU.mp ht)⟩
 have mb:t∈ji es (mk (ps++[p])) row↔(e.1=p∨e.2=p)/\insT es (mk (ps++[p])) t=true:=by
  unfold ji
  rw[Mq,T.mem p row hrow t]
  constructor
  ·rintro⟨⟨e',he',q⟩,z⟩
   rw[he]at he'
   cases he'
   exact⟨q,z⟩
  ·rintro⟨q,z⟩
   exact⟨⟨e,he,q⟩,z⟩
 by_cases hin:insT es (mk ps) t=true
 ·rw[if_pos hin]
  have hin0:=hin
  rw[lH he,dq,dq]at hin
  obtain⟨i1,i2⟩:=LC.mp hin
  have m1:=of_decide_eq_true i1
  have m2:=of_decide_eq_true i2
  have n1:e.1≠p:=fun z=>hp (z▸m1)
  have n2:e.2≠p:=fun z=>hp (z▸m2)
  have hin':insT es (mk (ps++[p])) t=true:=by
   rw[lH he,dq,dq,decide_eq_true (Kv _ m1),decide_eq_true (Kv _ m2)];rfl
  rw[if_pos hin',if_neg (fun z=>(mb.mp z).1.elim n1 n2),Ld]
  refine lc t e he _ _ ?_ ?_
  ·unfold hsg;rw[kq,decide_eq_false (fun z=>n1 z.symm),NO,M4]
  ·unfold hsg;rw[kq,decide_eq_false (fun z=>n2 z.symm),NO,M4]
 ·rw[if_neg hin,Lb]
  by_cases hin':insT es (mk (ps++[p])) t=true
  ·have hep:e.1=p∨e.2=p:=by
    rw[lH he,dq,dq]at hin hin'
    obtain⟨i1,i2⟩:=LC.mp hin'
    rcases JV.mp (of_decide_eq_true i1)with z1 | z1
    ·rcases JV.mp (of_decide_eq_true i2)with z2 | z2
     ·exact absurd (by rw[decide_eq_true z1,decide_eq_true z2];rfl) hin
     ·exact .inr (Kj.mp z2)
    ·exact .inl (Kj.mp z1)
   rw[if_pos hin',if_pos (mb.mpr ⟨hep,hin'⟩)]
  ·rw[if_neg hin',if_neg fun z=>hin' (mb.mp z).2]
end
theorem Et{ps:List Nat}{p L:Nat}(b:Bool)(h:L∈lays ps):hsg L p b∈lays (ps++[p]):=by
 rw[kA]
 unfold hsg
 cases b
 ·rw[if_neg Ka,Ni];exact Kv _ h
 ·rw[if_pos rfl];exact JY _ (Ke.mpr ⟨L,h,rfl⟩)
theorem Jf{ps:List Nat}{p L':Nat}(h:L'∈lays (ps++[p])):∃ L b,L∈lays ps/\L'=hsg L p b:=by
 rw[kA]at h
 rcases JV.mp h with h | h
 ·exact⟨L',false,h,by unfold hsg;rw[if_neg Ka,Ni]⟩
 ·obtain⟨L,hL,rfl⟩:=Ke.mp h
  exact⟨L,true,hL,by unfold hsg;rw[if_pos rfl]⟩
theorem rG{kvs:List (Key×V)}(nd:(kvs.map (·.1)).Nodup){k:Key}{v:V}(h:(k,v)∈kvs):valV kvs k=some v:=by
 induction kvs with
 |nil=>cases h
 |cons p r ih =>
  rw[KA,Kc]at nd
  rcases JT.mp h with e | h
  ·rw[← e];exact bL rfl
  ·have ne:¬ p.1=k:=fun z=>nd.1 (by rw[z];exact Ke.mpr ⟨_,h,rfl⟩)
   rw[bM ne]
   exact ih nd.2 h
theorem AR{kvs:List (Key×V)}{k:Key}{v:V}(h:valV kvs k=some v):∃ j:Nat,kvs[j]?=some (k,v):=by
 induction kvs with
 |nil=>cases h
 |cons p r ih =>
  by_cases e:p.1=k
  ·rw[bL e]at h
   cases h
   exact⟨0,by rw[← e];rfl⟩
  ·rw[bM e]at h
   obtain⟨j,hj⟩:=ih h
   exact⟨j+1,hj⟩
def DcAt{α:Type}(R:V->α->Prop)(kvs:List (Key×V))(T:List (Nat×α)):Prop:=kvs.length=T.length/\∀(i:Nat)(s:Nat)(a:α),T[i]?=some (s,a)->∃ v,kvs[i]?=some ((.inl (s:Int):Key),v)/\R v a
section
variable{α:Type}{R R':V->α->Prop}{kvs:List (Key×V)}{T:List (Nat×α)}{s:Nat}{a:α}{v:V}{i:Nat}
theorem DcAt.imp(h:DcAt R kvs T)(k:∀ v a,R v a->R' v a):DcAt R' kvs T:=⟨h.1,fun i s a e=>by
 obtain⟨v,e1,e2⟩:=h.2 i s a e
 exact⟨v,e1,k v a e2⟩⟩
theorem DcAt.nil:DcAt R [] ([]:List (Nat×α)):=⟨rfl,fun i s a e=>by simp at e⟩
theorem DcAt.keys(h:DcAt R kvs T):kvs.map (·.1)=(T.map (·.1)).map fun(x:Nat)=>(Sum.inl (x:Int):Key):=by
 apply LI
 intro i
 rw[JR,JR,JR]
 by_cases hi:i<T.length
 ·obtain⟨⟨s,a⟩,e⟩:∃ e,T[i]?=some e:=⟨_,JL hi⟩
  obtain⟨v,e1,_⟩:=h.2 i s a e
  rw[e,e1]
  rfl
 ·rw[LY (by have:=h.1;omega),LY (by omega)]
  rfl
theorem EO{x y:Nat}(h:(Sum.inl (x:Int):Key)=Sum.inl (y:Int)):x=y:=by
 have:=Sum.inl.inj h
 omega
theorem DcAt.nd(h:DcAt R kvs T)(n:(T.map (·.1)).Nodup):(kvs.map (·.1)).Nodup:=by
 rw[h.keys]
 exact M3.map _ (fun x y hne e=>hne (EO e)) n
theorem DcAt.atK(h:DcAt R kvs T){k:Key}(e:kvs[i]?=some (k,v)):∃(s:Nat)(a:α),k=.inl (s:Int)/\T[i]?=some (s,a)/\R v a:=by
 have hi:i<T.length:=by rw[← h.1];exact(JK.mp e).1
 obtain⟨⟨s,a⟩,e2⟩:∃ e,T[i]?=some e:=⟨_,JL hi⟩
 obtain⟨v',e3,r⟩:=h.2 i s a e2
 rw[e]at e3
 obtain⟨e4,e5⟩:=Prod.mk.inj (JZ e3)
 subst e5
 exact⟨s,a,e4,e2,r⟩
theorem DcAt.val(h:DcAt R kvs T)(e:valV kvs (.inl (s:Int))=some v):∃(i:Nat)(a:α),T[i]?=some (s,a)/\kvs[i]?=some ((.inl (s:Int):Key),v)/\R v a:=by
 obtain⟨i,hi⟩:=AR e
 obtain⟨s',a,e1,e2,r⟩:=h.atK hi
 have:=EO e1
 subst this
 exact⟨i,a,e2,hi,r⟩
theorem DcAt.no(h:DcAt R kvs T)(e:valV kvs (.inl (s:Int))=none):s∉T.map (·.1):=fun hm=>by
 have:=FP e
 rw[h.keys]at this
 exact this (Ke.mpr ⟨s,hm,rfl⟩)
theorem DcAt.get(h:DcAt R kvs T)(n:(T.map (·.1)).Nodup)(e:(s,a)∈T):∃ v,valV kvs (.inl (s:Int))=some v/\R v a:=by
 obtain⟨i,hi⟩:=K9 e
 obtain⟨v,e1,r⟩:=h.2 i s a hi
 exact⟨v,rG (h.nd n) (JM e1),r⟩
theorem DcAt.snoc(h:DcAt R kvs T)(r:R v a):DcAt R (kvs++[((.inl (s:Int):Key),v)]) (T++[(s,a)]):=by
 refine⟨by rw[JO,JO,h.1];rfl,fun j s' a' e=>?_⟩
 by_cases hj:j<T.length
 ·rw[JU hj]at e
  obtain⟨v',e1,r'⟩:=h.2 j s' a' e
  exact⟨v',by rw[JU (by rw[h.1];exact hj)];exact e1,r'⟩
 ·rw[JP (by omega)]at e
  have hj2:j=T.length:=by
   have:=(JK.mp e).1
   rw[JW]at this
   omega
  subst hj2
  rw[Kr]at e
  cases e
  exact⟨v,by rw[← h.1,JP (JQ _),Kr];rfl,r⟩
theorem DcAt.putN(h:DcAt R kvs T)(e:valV kvs (.inl (s:Int))=Option.none)(r:R v a):DcAt R (putK kvs (.inl (s:Int)) v) (T++[(s,a)]):=by
 rw[nR v e]
 exact h.snoc r
theorem F9{kvs:List (Key×V)}(nd:(kvs.map (·.1)).Nodup){k:Key}{u v:V}{i:Nat}(e:kvs[i]?=some (k,u)):putK kvs k v=kvs.set i (k,v):=by
 unfold putK
 rw[if_pos (by rw[LR];exact⟨_,JM e,decide_eq_true rfl⟩)]
 apply LI
 intro j
 rw[JR,KG]
 by_cases hj:i=j
 ·subst hj
  rw[if_pos rfl,if_pos (JK.mp e).1,e]
  simp
 ·rw[if_neg hj]
  cases hx:kvs[j]? with
  |none=>rfl
  |some q =>
   have:¬ q.1=k:=fun z=>hj (by
    have n1:(kvs.map (·.1))[i]?=some k:=by rw[JR,e];rfl
    have n2:(kvs.map (·.1))[j]?=some k:=by rw[JR,hx];exact congrArg some z
    obtain⟨h1,e1⟩:=JK.mp n1
    obtain⟨h2,e2⟩:=JK.mp n2
    rcases Nat.lt_trichotomy i j with z | z | z
    ·exact absurd (e1.trans e2.symm) (Ll.mp nd i j h1 h2 z)
    ·exact z
    ·exact absurd (e2.trans e1.symm) (Ll.mp nd j i h2 h1 z))
   show some (if q.1=k then(q.1,v) else q)=some q
   rw[if_neg this]
end
theorem F5{α:Type}{T:List (Nat×α)}{i s:Nat}{a a':α}(e:T[i]?=some (s,a)):(T.set i (s,a')).map (·.1)=T.map (·.1):=by
 apply LI
 intro j
 rw[JR,JR,KG]
 by_cases hj:i=j
 ·subst hj
  rw[if_pos rfl,if_pos (JK.mp e).1,e]
  rfl
 ·rw[if_neg hj]
theorem GN(ps:List Nat):(lays ps).length=2^ps.length:=by unfold lays;rw[JS,Lg]
theorem rH:∀(n:Nat)(qs:List Nat)(s:Nat),qs.length=n->(∀ x,s.testBit x=true->x∈qs)->s∈lays qs
 |0,qs,s,hn,h=>by
  have e:qs = []:=Mr.mp hn
  subst e
  have z:s=0:=Ls fun x=>by
   rw[Lp]
   cases q:s.testBit x with
   |false=>rfl
   |true=>exact absurd (h x q) (KW)
  subst z
  exact Ke.mpr ⟨0,KU.mpr (by decide),rfl⟩
 |n+1,qs,s,hn,h=>by
  have ne:qs≠[]:=fun e=>by rw[e]at hn;cases hn
  have eq:qs.dropLast++[qs.getLast ne]=qs:=Ny ne
  generalize qs.getLast ne=q at eq
  have hl:qs.dropLast.length=n:=by rw[List.length_dropLast,hn];rfl
  generalize qs.dropLast=r at eq hl
  subst eq
  by_cases b:s.testBit q=true
  ·have hs:s^^^2^q∈lays r:=rH n r _ hl fun x hx=>by
    rw[Nat.testBit_xor,K5]at hx
    by_cases e:q=x
    ·subst e
     rw[b]at hx
     simp at hx
    ·rw[decide_eq_false e,Bool.xor_false]at hx
     rcases JV.mp (h x hx)with z | z
     ·exact z
     ·exact absurd (Kj.mp z).symm e
   have e:s=hsg (s^^^2^q) q true:=Ls fun x=>by
    unfold hsg
    rw[kq,Nat.testBit_xor,K5]
    by_cases e:q=x
    ·subst e;rw[b];simp
    ·rw[decide_eq_false e];simp
   rw[e]
   exact Et true hs
  ·have hs:s∈lays r:=rH n r _ hl fun x hx=>by
    rcases JV.mp (h x hx)with z | z
    ·exact z
    ·exact absurd (by rw[← Kj.mp z];exact hx) b
   have:=Et (p:=q) false hs
   unfold hsg at this
   rw[if_neg Ka,Ni]at this
   exact this
theorem G4(es:En)(pr:Nat->Nat->Int)(L:Nat):cstB es pr 0 L=0:=by
 unfold cstB
 refine(aF fun t _=>?_).trans (bH _)
 rw[if_neg]
 unfold insT
 split
 ·rw[Lp];exact Ka
 ·exact Ka
section
variable{l:List Nat}{q:Nat->Prop} [DecidablePred q] {f:Nat->Int} {L:Nat} {v:Pr}
end
def prT(es:En)(ks:Kn)(t L:Nat):Int:=if U es ks (L:Int) t=true then stg ks t else 0
theorem IJ{es:En}{ks:Kn}(kl:ks.length=es.length):Loc es (prT es ks):=fun t e he L L' h1 h2=>by
 obtain⟨k,hk⟩:∃ k,ks[t]?=some k:=⟨_,JL (by have:=(JK.mp he).1;omega)⟩
 unfold prT
 rw[U_at he hk,U_at he hk]
 unfold unp
 rw[bitN,bitN,bitN,bitN,h1,h2]
def ra(PL PS:Addr)(H:Hp)(es:En)(ks:Kn)(xs:List V)(bk:List Nat):Prop:=xs.length=bk.length/\∀(j t:Nat),bk[j]?=some t->∃ e k p dx,es[t]?=some e/\ks[t]?=some k/\xs[j]?=some (.ref p)/\H p=some (.ins (cls PL PS (decide (k.1=1))) dx (tf ((e.1:Nat):Int) ((e.2:Nat):Int) k.2))
theorem ra.mono{PL PS:Addr}{H H':Hp}{es:En}{ks:Kn}{xs:List V}{bk:List Nat}(h:ra PL PS H es ks xs bk)(s:Same H H'):ra PL PS H' es ks xs bk:=⟨h.1,fun j t z=>by
 obtain⟨e,k,p,dx,a,b,c,d⟩:=h.2 j t z
 exact⟨e,k,p,dx,a,b,c,s _ _ d⟩⟩
def BM(ts:List (List Nat))(p:Nat):List Nat:=(ts[p]?).getD []
def dk(es:En)(ts:List (List Nat))(od:List Nat)(i:Nat):List (List Nat):=(KJ i).map fun j=>ji es (mk (od.take (j+1))) (BM ts (od.getD j 0))
theorem CN(es:En)(ts:List (List Nat))(od:List Nat)(i:Nat):dk es ts od (i+1)=dk es ts od i++[ji es (mk (od.take (i+1))) (BM ts (od.getD i 0))]:=by
 unfold dk
 rw[ND,KD]
 rfl
def Dw(PL PS WC:Addr):Sp:=fun vs H Q _=>∃(p o:Addr)(m:Nat)(es:En)(ts:List (List Nat))(ks:Kn)(od:List Nat),vs = [.ref p,.ref o]/\WebT PL PS WC H p m es ts ks/\ks.length=es.length/\br m es ts/\m<=40/\es.length<=100/\H o=some (.lst ((cI od).map V.int))/\(∀ x∈od,x<m)/\od.length<=40 /\
 ∀ q zs H',Same H H'->H' q=some (.lst zs)->bE H' zs (dk es ts od od.length)->Q (.ref q) H'
def x5:Sp:=fun vs H Q _=>∃ p s:Nat,vs = [.int (p:Int),.int (s:Int)]/\p<60/\∀ q,H q=none->Q (.ref q) (upd H q (.lst [.int (s:Int),.int ((s|||2^p:Nat):Int)]))
def prcB(es:En)(ks:Kn)(bk:List Nat)(h:Nat):Int:=sumL bk fun t=>prT es ks t h
theorem vV{H H':Hp}{b:Addr}(s:Same H H')(z:H' b=none):H b=none:=by
 cases y:H b with
 |none=>rfl
 |some o=>rw[s _ _ y]at z;cases z
section
variable{P:Program}{w:World}{K:JN}{mg:Str->Option Value}{base:Heap}
theorem c7:aC ["web","order","found","behind","place"] ["web","order"] (ai cJ):=⟨rfl,rfl,rfl,by decide +kernel,rfl,by decide +kernel,by decide +kernel⟩
theorem I8{f fw PL PS WC:Addr}{fd fdw:FuncData} (F:Fun K "ties_back" "ties_back" cJ f fd) (cw:CW K WC) (TL:CT K PL) (TS:CT K PS) (G_ends_within:Cal P w K mg base 1 "ends_within" ["tie","patch"] (nQ K) fw fdw):FnOk P w K mg base CX0 2 f fd ["web","order"] (Dw PL PS WC):=by
 refine F.ok c7 (fun vs H Q E h=>?_) (fun cdv A outer s H vs Q E hr h=>?_)
 ·obtain⟨p,o,m,es,ts,ks,od,rfl,_⟩:=h
  rfl
 obtain⟨p,o,m,es,ts,ks,od,rfl,⟨dx,fs,q1,xs,q3,z3,hp,lm,l1,h1,tk,l3,h3,rw3⟩,kl,tn,m40,e100,ho,ob,o40,kk⟩:=h
 have hxl:xs.length=es.length:=tk.1
 have ct:∀ b,CT K (cls PL PS b):=fun b=>by
  unfold cls
  split
  ·exact TS
  ·exact TL
 have ol:(cI od).length=od.length:=by unfold cI;rw[JS]
 refine⟨_,(ag (av (i:=2) c7.nd rfl (Or.inl rfl) (d0 aj))
   (ag (av (i:=3) c7.nd rfl (Or.inr rfl) ah)
   (ag (bV PassesOwn.never rfl (bD (pv 1)) (aP (i:=4) c7.nd rfl (Or.inl rfl)) (ag (av (i:=3) c7.nd rfl (Or.inr rfl) (ay yR (pv 3) (ay jk ah (pv 4))))
   (aq (bx (fH Kk KI KH bz (pv 2) (aa (Gk rfl (fr:=[("web",0),("behind",3)]) (xs:=["number"]) (xQ.of (by rfl) (by decide +kernel) (by rfl) (by decide +kernel) (by intro p hp;simp only[JT,KW,or_false]at hp;rcases hp with rfl | rfl<;>exact⟨rfl,rfl⟩) (by decide +kernel) (by intro p hp;simp only[JT,KW,or_false]at hp;rcases hp with rfl | rfl<;>rfl)) (bD (aD aN (cy (pv 0) rfl) (pv 4) (fun _ _=>rfl))) (fun C ex s H=>(aP (i:=0) (show(["number","web","behind"]:List Str).Nodup from by decide +kernel) rfl (Or.inl rfl))) (fun C ex s H=>(IG (aL lj (aH G_ends_within.ok (hr.mono (by decide)) rfl G_ends_within.mg G_ends_within.kp G_ends_within.bn .nil a9 (aa (aD (nZ (K:=K) rfl) (sN (K:=K) rfl (pv 1) rfl) (pv 0) (fun _ _=>rfl)) (aa (pv 2) aj))) ah (aU _)))) (fun C ex s H=>(pv 0))) aj))))))
   (aq (aQ (pv 2)))))),?_⟩
 refine⟨(by show 0<=sizeLine;decide),fun qf hqf=>?_⟩
 have s1:=ao hqf (.lst [])
 refine⟨_,rfl,o,rfl,⟨_,SqL.of (s1 _ _ ho)⟩,cZ (K:=K) (xs:=(cI od).map V.int) (fun i σ H3=>∃ v4 zs,σ = [some (.ref p),some (.ref o),some (.ref qf),some (.int ((mk (od.take i):Nat):Int)),v4]/\Same H H3/\H3 qf=some (.lst zs)/\cG (fun a=>a=qf) H3 zs (dk es ts od i)) ⟨_,[],rfl,s1,ae,rfl,fun i l e=>by simp[dk]at e⟩ (fun i σ H3 _ ⟨_,_,_,z,_⟩=>SqL.of (z _ _ ho)) ?_ ?_⟩
 ·rintro i x σ H3 hx ⟨v4,zs,rfl,s3,hf3,rx⟩
  rw[JR]at hx
  obtain⟨y,hy,rfl⟩:=Kl.mp hx
  unfold cI at hy
  rw[JR]at hy
  obtain⟨pl,hpl,rfl⟩:=Kl.mp hy
  have hb:=ob pl (JM hpl)
  have hi:i<od.length:=(JK.mp hpl).1
  have et:od.take (i+1)=od.take i++[pl]:=by rw[Kw,hpl];rfl
  have gd:od.getD i 0=pl:=by rw[K3,hpl];rfl
  refine⟨_,rfl,_,rfl,_,_,rfl,rfl,⟨by omega,by omega,by decide⟩,_,_,rfl,rfl,?_⟩
  have eo:Builtin.bitOr ((mk (od.take i):Nat):Int) (1*2^((pl:Nat):Int).toNat)=((mk (od.take (i+1)):Nat):Int):=by rw[et,Ed,shlN,orN]
  obtain⟨row,hrow⟩:∃ row,ts[pl]?=some row:=⟨_,JL (by rw[tn.len];exact hb)⟩
  obtain⟨r,r1,r2⟩:=rw3.2 pl row hrow
  have era:BM ts (od.getD i 0)=row:=by unfold BM;rw[gd,hrow];rfl
  have zl:zs.length=i:=by rw[rx.1];unfold dk;rw[JS,Lg]
  have rl:row.length<=es.length:=by
   refine d7 (tn.nd pl row hrow) fun t ht=>?_
   obtain⟨e,he,_⟩:=(tn.mem pl row hrow t).mp ht
   exact(JK.mp he).1
  refine⟨_,rfl,.inl ⟨rfl,_,SqL.of hf3⟩,_,rfl,p,WC,dx,fs,_,rfl,s3 _ _ hp,cw.cl,cw.n3,l3,_,rfl,q3,z3,_,_,rfl,rfl,SqL.of (s3 _ _ h3),aM r1,r,rfl,⟨_,SqL.of (s3 _ _ r2)⟩,CJ (K:=K) (xs:=row.map iV) (fun j ys H4=>H4=H3/\ys=(ji es (mk (od.take (i+1))) (row.take j)).map iV) (K2 (au (by rw[JS];omega))) ⟨rfl,rfl⟩ (fun j ys H4 _ z=>by rw[z.1];exact SqL.of (s3 _ _ r2)) ?_ ?_ ?_⟩
  ·rintro j x ys H4 hx ⟨rfl,rfl⟩
   rw[JR]at hx
   obtain⟨t,ht,rfl⟩:=Kl.mp hx
   obtain⟨e,he,_⟩:=(tn.mem pl row hrow t).mp (JM ht)
   obtain⟨k,hk⟩:∃ k,ks[t]?=some k:=⟨_,JL (by have:=(JK.mp he).1;omega)⟩
   obtain⟨p',dx',x1,x2⟩:=tk.2 t e k he hk
   have etk:row.take (j+1)=row.take j++[t]:=by rw[Kw,ht];rfl
   refine⟨rfl,_,rfl,p,WC,dx,fs,_,rfl,s3 _ _ hp,cw.cl,cw.n2,l1,_,rfl,q1,xs,_,_,rfl,rfl,SqL.of (s3 _ _ h1),aM x1,_,rfl,p',_,dx',_,_,_,_,rfl,s3 _ _ x2,ct _,by omega,by omega,rfl,_,rfl,?_⟩
   have hin:(bit (Builtin.bitOr ((mk (od.take i):Nat):Int) (1*2^((pl:Nat):Int).toNat)) (e.1:Int)+bit (Builtin.bitOr ((mk (od.take i):Nat):Int) (1*2^((pl:Nat):Int).toNat)) (e.2:Int)=2)↔insT es (mk (od.take (i+1))) t=true:=by
    rw[eo,bitN,bitN,lH he]
    cases (mk (od.take (i+1))).testBit e.1<;>cases (mk (od.take (i+1))).testBit e.2<;>decide
   refine ite2 (fun c=>?_) (fun c=>?_)
   ·have c':=hin.mp (V.int.inj (of_decide_eq_true c))
    refine⟨_,rfl,rfl,?_⟩
    unfold ji
    rw[etk,List.filter_append,List.filter_cons_of_pos c',KD]
    rfl
   ·have c':¬ insT es (mk (od.take (i+1))) t=true:=fun z=>c (decide_eq_true (congrArg V.int (hin.mpr z)))
    refine⟨rfl,?_⟩
    unfold ji
    rw[etk,List.filter_append,List.filter_cons_of_neg c',List.filter_nil,Mt]
  ·rintro ys H4 ⟨rfl,rfl⟩ D hD
   rw[JS,KP]
   have Dq:D≠qf:=fun z=>by rw[z,hf3]at hD;cases hD
   have s4:=ao hD (.lst ((ji es (mk (od.take (i+1))) row).map iV))
   refine⟨qf,zs,_,rfl,rfl,s4 _ _ hf3,au (by omega),?_⟩
   refine⟨some (.int (pl:Int)),zs++[.ref D],?_,aW (s3.trans s4) hqf _,ae,?_⟩
   ·show[some (V.ref p),some (V.ref o),some (V.ref qf),some (V.int (Builtin.bitOr ((mk (od.take i):Nat):Int) (1*2^((pl:Nat):Int).toNat))),some (V.int (pl:Int))]=_
    rw[eo]
   ·rw[CN,era]
    have r0:cG (fun a=>a=qf) (upd (upd H4 D (.lst ((ji es (mk (od.take (i+1))) row).map iV))) qf (.lst (zs++[.ref D]))) zs (dk es ts od i):=⟨rx.1,fun j l e=>by
     obtain⟨a,a1,a2,a3⟩:=rx.2 j l e
     exact⟨a,a1,a2,by rw[ak a2];exact s4 _ _ a3⟩⟩
    exact r0.snoc Dq (by rw[ak Dq];exact ae)
  ·rintro j ys H4 ⟨_,rfl⟩
   rw[JS]
   unfold ji
   exact KR (List.length_filter_le _ _) (by rw[Ku];exact Nat.min_le_left _ _)
 ·rintro σ H3 ⟨v4,zs,rfl,s3,hf3,rx⟩
  rw[JS,ol]at rx
  exact⟨_,rfl,kk qf zs H3 s3 hf3 rx.off⟩
theorem r9:aC ["place","signs"] ["place","signs"] (ai b8):=⟨rfl,rfl,rfl,by decide +kernel,rfl,by decide +kernel,by decide +kernel⟩
theorem Gu{f:Addr}{fd:FuncData} (F:Fun K "signs_with" "signs_with" b8 f fd):FnOk P w K mg base CX0 1 f fd ["place","signs"] x5:=by
 refine F.ok r9 (fun vs H Q E h=>?_) (fun cdv A outer s H vs Q E hr h=>?_)
 ·obtain⟨p,sg,rfl,_⟩:=h
  rfl
 obtain⟨p,sg,rfl,hp,kk⟩:=h
 refine⟨_,(aq (aQ (d0 (aa (pv 1) (aa (ay yR (pv 1) (ay jk ah (pv 0))) aj))))),?_⟩
 refine⟨_,rfl,_,rfl,_,rfl,_,_,rfl,rfl,⟨by omega,by omega,by decide⟩,_,_,rfl,rfl,(by show 2<=sizeLine;decide),fun q hq=>?_⟩
 have eo:Builtin.bitOr (sg:Int) (1*2^((p:Nat):Int).toNat)=((sg|||2^p:Nat):Int):=by rw[shlN,orN]
 have:=kk q hq
 rw[← eo]at this
 exact this
end
end K8
namespace K8
open PySem L2
local macro_rules | `(tactic| walk_at "cc") => `(tactic| first | exact ⟨by decide, by decide⟩ | (show (0 : Int) < _; decide) | (show (0 : Int) < _; omega) | (show (0 : Int) ≤ _; omega) | exact ⟨by decide, by decide, by decide⟩ | exact ⟨by omega, by omega, by decide⟩ | exact Or.inl ⟨by decide, by decide⟩ | exact Or.inl ⟨by omega, by omega⟩)
local macro_rules | `(tactic| walk_at "rd") => `(tactic| repeat (first | refine ⟨_, rfl, ?_⟩ | refine ⟨_, _, rfl, rfl, ?_⟩ | refine ⟨rfl, ?_⟩ | (refine ⟨?cc, ?_⟩; (case cc => walk_at "cc"))))
abbrev Hs:=List (Int×Int)
def repD(D:Hs):List (Key×V):=D.map fun e=>((.inl e.1:Key),V.int e.2)
structure Hst(D:Hs)(g:Int->Int):Prop where
 nd:(D.map (·.1)).Nodup
 ex:∀ x n,(x,n)∈D->n=g x/\0<n
 al:∀ x,g x≠0->x∈D.map (·.1)
theorem Hst.cg{D:Hs}{g g':Int->Int}(h:Hst D g)(e:∀ x,g x=g' x):Hst D g':=by
 have:g=g':=funext e
 rw[← this]
 exact h
theorem DF(D:Hs):(repD D).map (·.1)=(D.map (·.1)).map fun x=>(Sum.inl x:Key):=by
 unfold repD
 rw[LK,LK]
 rfl
theorem yx{D:Hs}(h:(D.map (·.1)).Nodup):((repD D).map (·.1)).Nodup:=by
 rw[DF]
 exact M3.map _ (fun x y hne e=>hne (Sum.inl.inj e)) h
theorem sk{D:Hs}{g:Int->Int}(h:Hst D g)(y:Int):(∃ i:Nat,D[i]?=some (y,g y)/\valV (repD D) (.inl y)=some (.int (g y))/\(repD D)[i]?=some ((.inl y:Key),.int (g y)))∨(y∉D.map (·.1)/\g y=0/\valV (repD D) (.inl y)=none):=by
 by_cases hy:y∈D.map (·.1)
 ·obtain⟨⟨x,n⟩,hm,e⟩:=Ke.mp hy
  have e':x=y:=e
  subst e'
  obtain⟨i,hi⟩:=K9 hm
  have en:=(h.ex x n hm).1
  subst en
  have hr:(repD D)[i]?=some ((.inl x:Key),.int (g x)):=by unfold repD;rw[JR,hi];rfl
  exact .inl ⟨i,hi,rG (yx h.nd) (JM hr),hr⟩
 ·have g0:g y=0:=by
   by_cases z:g y=0
   ·exact z
   ·exact absurd (h.al y z) hy
  refine .inr ⟨hy,g0,?_⟩
  cases z:valV (repD D) (.inl y) with
  |none=>rfl
  |some v =>
   obtain⟨j,hj⟩:=AR z
   exfalso
   refine hy ?_
   unfold repD at hj
   rw[JR]at hj
   obtain⟨e,he,e2⟩:=Kl.mp hj
   have:e.1=y:=Sum.inl.inj (Prod.mk.inj e2).1
   exact Ke.mpr ⟨e,JM he,this⟩
theorem Hst.bump{D:Hs}{g:Int->Int}(h:Hst D g)(y:Int){n:Int}(hn:0<n):∃ D':Hs,putK (repD D) (.inl y) (.int (g y+n))=repD D'/\D'.length<=D.length+1/\Hst D' (fun x=>g x+if x=y then n else 0):=by
 rcases sk h y with⟨i,hi,_,hr⟩ | ⟨ny,g0,hv⟩
 ·have hl:=(JK.mp hi).1
  have ks:(D.set i (y,g y+n)).map (·.1)=D.map (·.1):=by
   apply LI
   intro j
   rw[JR,JR,KG]
   by_cases hj:i=j
   ·subst hj
    rw[if_pos rfl,if_pos hl,hi]
    rfl
   ·rw[if_neg hj]
  refine⟨D.set i (y,g y+n),?_,by rw[KQ];omega,⟨by rw[ks];exact h.nd,fun x m hm=>?_,fun x hx=>?_⟩⟩
  ·rw[F9 (yx h.nd) hr]
   unfold repD
   rw[List.map_set]
  ·obtain⟨j,hj⟩:=K9 hm
   rw[KG]at hj
   by_cases e:i=j
   ·subst e
    rw[if_pos rfl,if_pos hl]at hj
    cases hj
    have:=(h.ex y (g y) (JM hi)).2
    exact⟨by rw[if_pos rfl],by omega⟩
   ·rw[if_neg e]at hj
    have q:=h.ex x m (JM hj)
    have nx:x≠y:=fun z=>by
     subst z
     have n1:(D.map (·.1))[i]?=some x:=by rw[JR,hi];rfl
     have n2:(D.map (·.1))[j]?=some x:=by rw[JR,hj];rfl
     exact e ((MV (JK.mp n1).1 h.nd).mp (n1.trans n2.symm))
    exact⟨by rw[if_neg nx,Ld];exact q.1,q.2⟩
  ·rw[ks]
   by_cases nx:x=y
   ·subst nx
    exact Ke.mpr ⟨_,JM hi,rfl⟩
   ·rw[if_neg nx,Ld]at hx
    exact h.al x hx
 ·refine⟨D++[(y,n)],?_,by rw[JO];exact JQ _,⟨?_,fun x m hm=>?_,fun x hx=>?_⟩⟩
  ·rw[nR _ hv,g0,Lb]
   unfold repD
   rw[KD]
   rfl
  ·rw[KD]
   refine Kg.mpr ⟨h.nd,by simp,fun a ha b hb e=>?_⟩
   have:b=y:=by simpa using hb
   rw[e,this]at ha
   exact ny ha
  ·rcases JV.mp hm with hm | hm
   ·have q:=h.ex x m hm
    have nx:x≠y:=fun z=>ny (by rw[← z];exact Ke.mpr ⟨_,hm,rfl⟩)
    exact⟨by rw[if_neg nx,Ld];exact q.1,q.2⟩
   ·cases Kj.mp hm
    exact⟨by rw[if_pos rfl,g0,Lb],hn⟩
  ·rw[KD]
   by_cases nx:x=y
   ·subst nx
    exact JY _ (by simp)
   ·rw[if_neg nx,Ld]at hx
    exact Kv _ (h.al x hx)
def cntL(E:Hs)(x:Int):Int:=sumL E fun e=>if e.1=x then e.2 else 0
theorem Hst.cnt{E:Hs}{g:Int->Int}(h:Hst E g)(x:Int):cntL E x=g x:=by
 unfold cntL
 by_cases hx:x∈E.map (·.1)
 ·obtain⟨e,he,ee⟩:=Ke.mp hx
  have q:=kg (fun y:Int×Int=>y.1) (l:=E) (x:=e) (fun y=>y.2) h.nd he
  have ee':e.1=x:=ee
  have cg:sumL E (fun e=>if e.1=x then e.2 else 0)=sumL E (fun y=>if e.1=y.1 then y.2 else 0):=aF fun y _=>by
   rw[ee']
   by_cases z:y.1=x
   ·rw[if_pos z,if_pos z.symm]
   ·rw[if_neg z,if_neg (Ne.symm z)]
  rw[cg,q,← ee']
  exact(h.ex e.1 e.2 he).1
 ·rw[aF (g:=fun _=>(0:Int)) fun e he=>if_neg fun z=>hx (Ke.mpr ⟨e,he,z⟩),bH]
  by_cases z:g x=0
  ·exact z.symm
  ·exact absurd (h.al x z) hx
def F1:Sp:=fun vs H Q _=>∃(c m:Addr)(pr:Int)(D E:Hs)(g h:Int->Int),vs = [.ref c,.int pr,.ref m]/\c≠m/\H c=some (.dK (repD D))/\Hst D g/\DRd H m (.dK (repD E))/\Hst E h/\D.length+E.length<=900 /\
 ∀(D':Hs)(o:Obj)(H':Hp),(∀ b u,b≠c->b≠m->H b=some u->H' b=some u)->H' c=some (.dK (repD D'))->H' m=some (.frz o (.dK (repD E)))->D'.length<=D.length+E.length->Hst D' (fun x=>g x+h (x-pr))->Q .non H'
section
variable{P:Program}{w:World}{K:JN}{mg:Str->Option Value}{base:Heap}
theorem fQ:aC ["counts","price","more","worth","many"] ["counts","price","more"] (ai cj):=⟨rfl,rfl,rfl,by decide +kernel,rfl,by decide +kernel,by decide +kernel⟩
theorem ok_add{f:Addr}{fd:FuncData} (F:Fun K "add_counts" "add_counts" cj f fd):FnOk P w K mg base CX0 1 f fd ["counts","price","more"] F1:=by
 refine F.ok fQ (fun vs H Q E h=>?_) (fun cdv A outer s H vs Q E hr h=>?_)
 ·obtain⟨c,m,pr,D,E,g,h,rfl,_⟩:=h
  rfl
 obtain⟨c,m,pr,D,Em,g,hh,rfl,cm,hc,hD,hm,hE,l9,kk⟩:=h
 have hu:=Cv hr
 refine⟨_,(aq (bV PassesOwn.never rfl (DO (DR (pv 2))) (qP rfl (bP (aP (i:=3) fQ.nd rfl (Or.inl rfl)) (bP (aP (i:=4) fQ.nd rfl (Or.inl rfl)) lh))) (aq (sr hu (pv 0) (ay bR (pv 3) (pv 1)) (ay bR (A5 hu (pv 0) (ay bR (pv 3) (pv 1)) ah ⟨rfl,rfl,rfl,rfl⟩) (pv 4)) rfl)))),?_⟩
 refine⟨_,rfl,m,_,rfl,hm,fun vw hvw=>?_⟩
 have vm:vw≠m:=fun z=>by
  rcases hm.2 with q | ⟨o,q⟩<;>(rw[← z,hvw]at q;cases q)
 have vc:vw≠c:=fun z=>by rw[z,hc]at hvw;cases hvw
 have hm1:DRd (upd H vw (dr vw m)) m (.dK (repD Em)):=⟨hm.1,by rw[ak (Ne.symm vm)];exact hm.2⟩
 refine⟨vw,m,_,rfl,ae,hm1,fun o _=>?_⟩
 refine wD (u:=.dK (repD Em)) (d:=m) (o:=o) (fun i σ H4=>∃ v3 v4 D',σ = [some (.ref c),some (.int pr),some (.ref m),v3,v4]/\(∀ b u,b≠c->b≠m->H b=some u->H4 b=some u)/\H4 m=some (.frz o (.dK (repD Em)))/\H4 c=some (.dK (repD D'))/\D'.length<=D.length+i/\Hst D' (fun x=>g x+cntL (Em.take i) (x-pr))) ⟨_,_,D,rfl,fun b u _ n q=>by rw[ak n,ak (ar q hvw)];exact q,ae,by rw[ak cm,ak (Ne.symm vc)];exact hc,by omega,hD.cg fun x=>by show g x=g x+0;rw[Ld]⟩ (fun i σ H4 _ ⟨_,_,_,_,_,z,_⟩=>z) ?_ ?_
 ·rintro i x y σ H4 T4 hi hkv ⟨v3,v4,D',rfl,s4,hm4,hc4,dl,hst⟩ hT4
  obtain⟨kvs',k,eu,hki,ex⟩:∃ kvs' k,HO.dK (repD Em)=HO.dK kvs'/\kvs'[i]?=some (k,y)/\x=kV k:=by
   rcases hkv with z | ⟨_,_,_,z,_⟩
   ·exact z
   ·cases z
  obtain rfl:=HO.dK.inj eu
  unfold repD at hki
  rw[JR]at hki
  obtain⟨e,he,e2⟩:=Kl.mp hki
  cases e2
  subst ex
  have ci:T4≠c:=fun z=>by rw[z,hc4]at hT4;cases hT4
  have mi:T4≠m:=fun z=>by rw[z,hm4]at hT4;cases hT4
  refine⟨T4,_,rfl,SqT.of ae,rfl,_,_,rfl,_,_,rfl,rfl,?_⟩
  have s5:=ao hT4 (.tup [kV (.inl e.1),.int e.2])
  generalize upd H4 T4 (.tup [kV (.inl e.1),.int e.2])=H5 at s5
  have hc5:=s5 _ _ hc4
  have il:i<Em.length:=(JK.mp he).1
  have epos:=(hE.ex e.1 e.2 (JM he)).2
  obtain⟨D2,ep,dl2,hst2⟩:=hst.bump (e.1+pr) epos
  have hv:(valV (repD D') (.inl (e.1+pr))).getD (.int 0)=.int (g (e.1+pr)+cntL (Em.take i) (e.1+pr-pr)):=by
   rcases sk hst (e.1+pr) with⟨_,_,q,_⟩ | ⟨_,q0,q⟩
   ·rw[q];rfl
   ·rw[q]
    exact congrArg V.int q0.symm
  have l2:(repD D').length<sizeLine:=by unfold repD;rw[JS];exact au (by omega)
  refine⟨_,rfl,c,rfl,.inl ⟨_,.inl hc5⟩,_,rfl,_,rfl,_,_,rfl,rfl,_,DGet.k (k:=.inl (e.1+pr)) hc5,_,rfl,_,_,hv,rfl,?_⟩
  refine⟨_,rfl,_,rfl,_,rfl,_,_,rfl,rfl,c,_,rfl,DPut.k (k:=.inl (e.1+pr)) hc5 l2,?_⟩
  refine⟨_,_,D2,rfl,fun b u n1 n2 q=>by rw[ak n1];exact s5 _ _ (s4 b u n1 n2 q),by rw[ak (Ne.symm cm)];exact s5 _ _ hm4,?_,by omega,hst2.cg fun x=>?_⟩
  ·rw[ae]
   exact congrArg (fun z=>some (HO.dK z)) ep
  ·have et:Em.take (i+1)=Em.take i++[e]:=by rw[Kw,he];rfl
   rw[et]
   unfold cntL
   rw[iP,aB,eQ,Ld]
   by_cases z:x=e.1+pr
   ·rw[if_pos z,if_pos (by omega)];omega
   ·rw[if_neg z,if_neg (by omega)];omega
 ·rintro σ H4 ⟨v3,v4,D',rfl,s4,hm4,hc4,dl,hst⟩
  have ll:(repD Em).length=Em.length:=by unfold repD;rw[JS]
  have dl':dlen (.dK (repD Em))=Em.length:=ll
  rw[dl']at dl hst
  rw[KP]at hst
  exact kk D' o H4 s4 hc4 hm4 dl (hst.cg fun x=>by rw[hE.cnt])
end
end K8
namespace K8
open PySem L2
local macro_rules | `(tactic| walk_at "cc") => `(tactic| first | exact ⟨by decide, by decide⟩ | (show (0 : Int) < _; decide) | (show (0 : Int) < _; omega) | (show (0 : Int) ≤ _; omega) | exact ⟨by decide, by decide, by decide⟩ | exact ⟨by omega, by omega, by decide⟩ | exact Or.inl ⟨by decide, by decide⟩ | exact Or.inl ⟨by omega, by omega⟩)
local macro_rules | `(tactic| walk_at "rd") => `(tactic| repeat (first | refine ⟨_, rfl, ?_⟩ | refine ⟨_, _, rfl, rfl, ?_⟩ | refine ⟨rfl, ?_⟩ | (refine ⟨?cc, ?_⟩; (case cc => walk_at "cc"))))
structure FndD(S:Addr->Prop)(H:Hp)(f:Addr)(kvs:List (Key×V))(G:List (Nat×Hs)):Prop where
 d:H f=some (.dK kvs)
 w:DcAt (fun v D=>∃ a,v=.ref a/\¬ S a/\H a=some (.dK (repD D))) kvs G
 ds:∀(i j:Nat)(k l:Key)(a:Addr),kvs[i]?=some (k,.ref a)->kvs[j]?=some (l,.ref a)->i=j
section
variable{S:Addr->Prop}{H H':Hp}{f:Addr}{kvs:List (Key×V)}{G:List (Nat×Hs)}
theorem FndD.keep(h:FndD S H f kvs G)(k:∀ b u,(b=f∨¬ S b)->H b=some u->H' b=some u):FndD S H' f kvs G :=
 ⟨k _ _ (.inl rfl) h.d,h.w.imp fun v w ⟨a,e,n,z⟩=>⟨a,e,n,k _ _ (.inr n) z⟩,h.ds⟩
theorem FndD.app{s i:Nat}{D D':Hs}{a:Addr}(h:FndD S H f kvs G)(hG:G[i]?=some (s,D))(hk:kvs[i]?=some ((.inl (s:Int):Key),.ref a))(hS:¬ S a)(fa:f≠a)(keep:∀ b u,b≠a->(b=f∨¬ S b)->H b=some u->H' b=some u)(ha:H' a=some (.dK (repD D'))) :
  FndD S H' f kvs (G.set i (s,D')):=by
 refine⟨keep _ _ fa (.inl rfl) h.d,⟨by rw[KQ];exact h.w.1,fun j s' w' e'=>?_⟩,h.ds⟩
 rw[KG]at e'
 by_cases hj:i=j
 ·subst hj
  rw[if_pos rfl,if_pos (JK.mp hG).1]at e'
  cases e'
  exact⟨.ref a,hk,a,rfl,hS,ha⟩
 ·rw[if_neg hj]at e'
  obtain⟨v,e1,b,rfl,n,z⟩:=h.w.2 j s' w' e'
  exact⟨.ref b,e1,b,rfl,n,keep _ _ (fun q=>hj (h.ds i j _ _ a hk (q▸e1))) (.inr n) z⟩
theorem FndD.key{s:Nat}{l:Addr}(h:FndD S H f kvs G)(hv:valV kvs (.inl (s:Int))=none)(lf:l≠f)(hl:H l=some (.dK []))(hS:¬ S l)(nw:∀ (i:Nat) (k:Key),kvs[i]?≠some (k,.ref l))(nf:∀ (i:Nat) (k:Key),kvs[i]?≠some (k,.ref f)) :
  FndD S (upd H f (.dK (putK kvs (.inl (s:Int)) (.ref l)))) f (putK kvs (.inl (s:Int)) (.ref l)) (G++[(s,[])]):=by
 have w2:DcAt (fun v D=>∃ a,v=.ref a/\¬ S a/\upd H f (.dK (putK kvs (.inl (s:Int)) (.ref l))) a=some (.dK (repD D))) kvs G:=⟨h.w.1,fun i s' D e=>by
  obtain⟨v,e1,a,rfl,n,z⟩:=h.w.2 i s' D e
  refine⟨.ref a,e1,a,rfl,n,?_⟩
  rw[ak (fun q=>nf i _ (q▸e1))]
  exact z⟩
 refine⟨ae,w2.putN hv ⟨l,rfl,hS,by rw[ak lf];exact hl⟩,?_⟩
 rw[nR _ hv]
 intro i j k k' a e1 e2
 have one:∀(i:Nat)(k:Key)(a:Addr),(kvs++[((.inl (s:Int):Key),V.ref l)])[i]?=some (k,.ref a)->(i<kvs.length/\kvs[i]?=some (k,.ref a))∨(i=kvs.length/\a=l):=fun i k a e=>by
  by_cases hi:i<kvs.length
  ·rw[JU hi]at e
   exact .inl ⟨hi,e⟩
  ·rw[JP (by omega)]at e
   have hi2:i=kvs.length:=by
    have:=(JK.mp e).1
    rw[JW]at this
    omega
   subst hi2
   rw[Kr]at e
   have:=(Prod.mk.inj (JZ e)).2
   exact .inr ⟨rfl,(V.ref.inj this).symm⟩
 rcases one i k a e1 with⟨a1,a2⟩ | ⟨a1,a2⟩
 ·rcases one j k' a e2 with⟨b1,b2⟩ | ⟨b1,b2⟩
  ·exact h.ds i j _ _ a a2 b2
  ·exact absurd (b2▸a2) (nw i k)
 ·rcases one j k' a e2 with⟨b1,b2⟩ | ⟨b1,b2⟩
  ·exact absurd (a2▸b2) (nw j k')
  ·omega
end
def gH(F':Nat)(Z:List (Nat×Int×Hs))(s:Nat)(x:Int):Int:=sumL Z fun z=>if z.1&&&F'=s then cntL z.2.2 (x-z.2.1) else 0
def lenZ(Z:List (Nat×Int×Hs)):Nat:=(Z.map fun z=>z.2.2.length).sum
structure GrpH(F':Nat)(Z:List (Nat×Int×Hs))(G:List (Nat×Hs)):Prop where
 nd:(G.map (·.1)).Nodup
 has:∀ z∈Z,z.1&&&F'∈G.map (·.1)
 hs:∀ s D,(s,D)∈G->Hst D (gH F' Z s)/\D.length<=lenZ Z
 ln:G.length<=Z.length
theorem GrpH.nil(F':Nat):GrpH F' [] []:=⟨Mf,fun z hz=>(by cases hz),fun s w h=>(by cases h),JQ _⟩
theorem tZ(F':Nat)(Z:List (Nat×Int×Hs))(z:Nat×Int×Hs)(s:Nat)(x:Int):gH F' (Z++[z]) s x=gH F' Z s x+if z.1&&&F'=s then cntL z.2.2 (x-z.2.1) else 0:=by
 unfold gH
 rw[iP,aB,eQ,Ld]
theorem ku(Z:List (Nat×Int×Hs))(z:Nat×Int×Hs):lenZ (Z++[z])=lenZ Z+z.2.2.length:=by
 unfold lenZ
 rw[KD,NC]
 simp
theorem GrpH.old{F':Nat}{Z:List (Nat×Int×Hs)}{G:List (Nat×Hs)}{z:Nat×Int×Hs}{i:Nat}{D D':Hs}(h:GrpH F' Z G)(e:G[i]?=some (z.1&&&F',D))(hD:Hst D' (fun x=>gH F' Z (z.1&&&F') x+cntL z.2.2 (x-z.2.1)))(hl:D'.length<=D.length+z.2.2.length):GrpH F' (Z++[z]) (G.set i (z.1&&&F',D')):=by
 have ks:=F5 (a':=D') e
 refine⟨by rw[ks];exact h.nd,fun y hy=>?_,fun s E hE=>?_,by rw[KQ,JO];exact Ma h.ln⟩
 ·rw[ks]
  rcases JV.mp hy with hy | hy
  ·exact h.has y hy
  ·rw[Kj.mp hy]
   exact Ke.mpr ⟨_,JM e,rfl⟩
 ·obtain⟨j,hj⟩:=K9 hE
  rw[KG]at hj
  by_cases ij:i=j
  ·subst ij
   rw[if_pos rfl,if_pos (JK.mp e).1]at hj
   cases hj
   have q:=(h.hs _ D (JM e)).2
   refine⟨hD.cg fun x=>by rw[tZ,if_pos rfl],?_⟩
   rw[ku]
   omega
  ·rw[if_neg ij]at hj
   have q:=h.hs s E (JM hj)
   have ns:z.1&&&F'≠s:=fun zz=>by
    have n1:(G.map (·.1))[i]?=some s:=by rw[JR,e,← zz];rfl
    have n2:(G.map (·.1))[j]?=some s:=by rw[JR,hj];rfl
    exact ij ((MV (JK.mp n1).1 h.nd).mp (n1.trans n2.symm))
   refine⟨q.1.cg fun x=>by rw[tZ,if_neg ns,Ld],?_⟩
   rw[ku]
   omega
theorem GrpH.zero{F':Nat}{Z:List (Nat×Int×Hs)}{G:List (Nat×Hs)}{s:Nat}(h:GrpH F' Z G)(n:s∉G.map (·.1))(x:Int):gH F' Z s x=0:=by
 unfold gH
 have cg:sumL Z (fun z=>if z.1&&&F'=s then cntL z.2.2 (x-z.2.1) else 0)=sumL Z (fun _=>(0:Int)):=aF fun z hz=>if_neg fun e=>n (by rw[← e];exact h.has z hz)
 rw[cg,bH]
theorem GrpH.new{F':Nat}{Z:List (Nat×Int×Hs)}{G:List (Nat×Hs)}{z:Nat×Int×Hs}{D':Hs}(h:GrpH F' Z G)(n:z.1&&&F'∉G.map (·.1))(hD:Hst D' (fun x=>cntL z.2.2 (x-z.2.1)))(hl:D'.length<=z.2.2.length):GrpH F' (Z++[z]) (G++[(z.1&&&F',D')]):=by
 refine⟨?_,fun y hy=>?_,fun s' E hE=>?_,by rw[JO,JO];exact Nat.succ_le_succ h.ln⟩
 ·rw[KD]
  refine Kg.mpr ⟨h.nd,by simp,fun a ha b hb e=>?_⟩
  have:b=z.1&&&F':=by simpa using hb
  rw[e,this]at ha
  exact n ha
 ·rw[KD]
  rcases JV.mp hy with hy | hy
  ·exact Kv _ (h.has y hy)
  ·rw[Kj.mp hy]
   exact JY _ (by simp)
 ·rcases JV.mp hE with hE | hE
  ·have q:=h.hs s' E hE
   have ns:z.1&&&F'≠s':=fun e=>n (by rw[e];exact Ke.mpr ⟨_,hE,rfl⟩)
   refine⟨q.1.cg fun x=>by rw[tZ,if_neg ns,Ld],?_⟩
   rw[ku]
   omega
  ·cases Kj.mp hE
   refine⟨hD.cg fun x=>by rw[tZ,if_pos rfl,h.zero n,Lb],?_⟩
   rw[ku]
   omega
theorem ES:Hst [] (fun _=>0):=⟨Mf,fun x m hm=>(by cases hm),fun x hx=>absurd rfl hx⟩
end K8
namespace K8
open PySem L2
local macro_rules | `(tactic| walk_at "cc") => `(tactic| first | exact ⟨by decide, by decide⟩ | (show (0 : Int) < _; decide) | (show (0 : Int) < _; omega) | (show (0 : Int) ≤ _; omega) | exact ⟨by decide, by decide, by decide⟩ | exact ⟨by omega, by omega, by decide⟩ | exact Or.inl ⟨by decide, by decide⟩ | exact Or.inl ⟨by omega, by omega⟩)
local macro_rules | `(tactic| walk_at "rd") => `(tactic| repeat (first | refine ⟨_, rfl, ?_⟩ | refine ⟨_, _, rfl, rfl, ?_⟩ | refine ⟨rfl, ?_⟩ | (refine ⟨?cc, ?_⟩; (case cc => walk_at "cc"))))
def bC(p:Nat)(prc:Nat->Int)(T:List (Nat×Hs)):List (Nat×Int×Hs):=T.flatMap fun e=>[(hsg e.1 p false,prc (hsg e.1 p false),e.2),(hsg e.1 p true,prc (hsg e.1 p true),e.2)]
theorem CM(p:Nat)(prc:Nat->Int)(T:List (Nat×Hs))(e:Nat×Hs):bC p prc (T++[e])=bC p prc T++[(hsg e.1 p false,prc (hsg e.1 p false),e.2),(hsg e.1 p true,prc (hsg e.1 p true),e.2)]:=by
 unfold bC
 rw[List.flatMap_append,MX,List.flatMap_nil,Mt]
def lenT(T:List (Nat×Hs)):Nat:=(T.map fun e=>e.2.length).sum
theorem tH(Z W:List (Nat×Int×Hs)):lenZ (Z++W)=lenZ Z+lenZ W:=by unfold lenZ;rw[KD,NC]
theorem Bn(Z W:List (Nat×Hs)):lenT (Z++W)=lenT Z+lenT W:=by unfold lenT;rw[KD,NC]
theorem lu(p:Nat)(prc:Nat->Int):∀ T:List (Nat×Hs),lenZ (bC p prc T)=2*lenT T
 |[]=>rfl
 |e::T=>by
  have ih:=lu p prc T
  have e1:bC p prc (e::T) = [(hsg e.1 p false,prc (hsg e.1 p false),e.2),(hsg e.1 p true,prc (hsg e.1 p true),e.2)]++bC p prc T:=by unfold bC;rw[MX]
  have e2:lenT (e::T)=e.2.length+lenT T:=by unfold lenT;rw[KA,NV]
  rw[e1,tH,ih,e2]
  show e.2.length+(e.2.length+0)+_=_
  omega
theorem lV(p:Nat)(prc:Nat->Int):∀ T:List (Nat×Hs),(bC p prc T).length=2*T.length
 |[]=>rfl
 |e::T=>by
  have ih:=lV p prc T
  unfold bC at ih ⊢
  rw[MX,JO,ih,Kt,Kt,Kt,LX]
  omega
theorem oP(T:List (Nat×Hs))(i:Nat):lenT (T.take i)<=lenT T:=by
 have:=Bn (T.take i) (T.drop i)
 rw[Km]at this
 omega
theorem GL{T:List (Nat×Hs)}{e:Nat×Hs}(h:e∈T):e.2.length<=lenT T:=by
 obtain⟨i,hi⟩:=K9 h
 have a:=oP T (i+1)
 have et:T.take (i+1)=T.take i++[e]:=by rw[Kw,hi];rfl
 rw[et,Bn]at a
 have:lenT [e]=e.2.length:=by unfold lenT;simp
 omega
def isIn(kvs:List (Key×V))(b:Addr):Prop:=∃(i:Nat)(k:Key),kvs[i]?=some (k,.ref b)
theorem G1{H H':Hp}{a:Addr}{u:HO}(h:DRd H a u)(s:Same H H'):DRd H' a u:=⟨h.1,h.2.elim (fun z=>.inl (s _ _ z)) fun⟨o,z⟩=>.inr ⟨o,s _ _ z⟩⟩
def InAt(H:Hp)(v:V)(D:Hs):Prop:=∃ a,v=.ref a/\DRd H a (.dK (repD D))
theorem InAt.mono{H H':Hp}{v:V}{D:Hs}(h:InAt H v D)(s:Same H H'):InAt H' v D:=let ⟨a,e,z⟩:=h;⟨a,e,G1 z s⟩
theorem InAt.add{H H':Hp}{c m:Addr}{o:Obj}{E:Hs}{v:V}{D:Hs}(h:InAt H v D)(hm:DRd H m (.dK (repD E)))(nc:∀ a,v=.ref a->a≠c)(k:∀ b u,b≠c->b≠m->H b=some u->H' b=some u)(hm':H' m=some (.frz o (.dK (repD E)))):InAt H' v D:=by
 obtain⟨a,e,z⟩:=h
 refine⟨a,e,z.1,?_⟩
 by_cases am:a=m
 ·subst am
  have eq:repD D=repD E:=by
   rcases z.2 with q | ⟨o1,q⟩
   ·rcases hm.2 with r | ⟨o2,r⟩
    ·exact HO.dK.inj (JZ (q.symm.trans r))
    ·exact HO.noConfusion (JZ (q.symm.trans r))
   ·rcases hm.2 with r | ⟨o2,r⟩
    ·exact HO.noConfusion (JZ (q.symm.trans r))
    ·exact HO.dK.inj (HO.frz.inj (JZ (q.symm.trans r))).2
  rw[eq]
  exact .inr ⟨o,hm'⟩
 ·rcases z.2 with q | ⟨o1,q⟩
  ·exact .inl (k a _ (nc a e) am q)
  ·exact .inr ⟨o1,k a _ (nc a e) am q⟩
def spCB(PL PS:Addr):Sp:=fun vs H Q _=>∃(d qt:Addr)(p F:Nat)(kvs:List (Key×V))(T:List (Nat×Hs))(xs:List V)(es:En)(ks:Kn)(bk:List Nat),vs = [.ref d,.int (p:Int),.ref qt,.int (F:Int)]/\H d=some (.dK kvs)/\DcAt (fun v D=>∃ a,v=.ref a/\a≠d/\H a=some (.dK (repD D))) kvs T/\(∀ s D,(s,D)∈T->∃ g,Hst D g)/\lenT T<=256/\T.length<=256/\p<60/\H qt=some (.lst xs)/\ra PL PS H es ks xs bk/\bk.length<=100 /\
 ∀(g:Addr)(kv2:List (Key×V))(G:List (Nat×Hs))(H':Hp),(∀ b o,b≠d->¬ isIn kvs b->H b=some o->H' b=some o)->H g=none->FndD (fun a=>H a≠none∨a=g) H' g kv2 G->GrpH F (bC p (prcB es ks bk) T) G->Q (.ref g) H'
section
variable{P:Program}{w:World}{K:JN}{mg:Str->Option Value}{base:Heap}
theorem ba:aC ["counts","place","ties","front","found","signs","sums","here","price"] ["counts","place","ties","front"] (ai bu):=⟨rfl,rfl,rfl,by decide +kernel,rfl,by decide +kernel,by decide +kernel⟩
theorem ok_cb{f f1 f2 f0' f1' PL PS:Addr}{fd d1 d2 d0' d1':FuncData} (F:Fun K "counts_behind" "counts_behind" bu f fd) (T:Txt mg) (TL:CT K PL) (TS:CT K PS) (r0:Met P w K mg base 3 PL "price" ["self","laying"] (oz PL false) f0' d0') (r1:Met P w K mg base 3 PS "price" ["self","laying"] (oz PS true) f1' d1')
  (G_signs_with:Cal P w K mg base 1 "signs_with" ["place","signs"] x5 f1 d1) (G_add_counts:Cal P w K mg base 1 "add_counts" ["counts","price","more"] F1 f2 d2):FnOk P w K mg base CX0 4 f fd ["counts","place","ties","front"] (spCB PL PS):=by
 refine F.ok ba (fun vs H Q E h=>?_) (fun cdv A outer s H vs Q E hr h=>?_)
 ·obtain⟨d,qt,p,Fr,kvs,T,xs,es,ks,bk,rfl,_⟩:=h
  rfl
 obtain⟨d,qt,p,Fr,kvs,Tt,xs,es,ks,bk,rfl,hd,dc,hh,l256,t256,hp,hqt,tr,b100,kk⟩:=h
 have hu:=Cv hr
 have CL0:=TL.cl
 have CL1:=TS.cl
 have kvl:kvs.length=Tt.length:=dc.1
 refine⟨_,(ag (av (i:=4) ba.nd rfl (Or.inl rfl) ko)
   (ag (bV PassesOwn.never rfl (Gg (Ht LN LL M0 Bh (pv 0))) (qP rfl (bP (aP (i:=5) ba.nd rfl (Or.inl rfl)) (bP (aP (i:=6) ba.nd rfl (Or.inl rfl)) lh))) (aq (bV PassesOwn.never rfl (bD (aH G_signs_with.ok (hr.mono (by decide)) rfl G_signs_with.mg G_signs_with.kp G_signs_with.bn .nil a9 (aa (pv 1) (aa (pv 5) aj)))) (aP (i:=7) ba.nd rfl (Or.inr rfl)) (ag (av (i:=8) ba.nd rfl (Or.inl rfl) (aE (BA rfl) (by rfl) T.n_sum HK (aa (gU rfl (fr:=[("here",7)]) (by exact bX.one (by rfl) (by decide +kernel) (by rfl) (by decide +kernel) (by rfl) (by decide +kernel) (by rfl) (by rfl) (by decide +kernel) (by rfl)) (bD (pv 2)) (fun C ex s H=>(pe_or (yP (pv 0) CL0 r0.me r0.ok (hr.mono (by decide)) r0.bn .nil a9 (aa (pv 1) aj)) (yP (pv 0) CL1 r1.me r1.ok (hr.mono (by decide)) r1.bn .nil a9 (aa (pv 1) aj))))) aj)))
   (aq (bx (aH G_add_counts.ok (hr.mono (by decide)) rfl G_add_counts.mg G_add_counts.kp G_add_counts.bn .nil a9 (aa (IQ (pv 4) (ay qR (pv 7) (pv 3)) ko ⟨rfl,rfl,rfl,rfl⟩) (aa (pv 8) (aa (pv 6) aj))))))))))
   (aq (aQ (pv 4))))),?_⟩
 intro f hf
 have sf:=ao hf (.dK [])
 refine⟨_,rfl,.inr (.inr (.inl ⟨rfl,.inl ⟨_,sf _ _ hd⟩⟩)),d,.dK kvs,rfl,rfl,sf _ _ hd,trivial,fun vw hvw=>?_⟩
 have sv:=ao hvw (dr vw d)
 refine⟨vw,d,.dK kvs,rfl,ae,sv _ _ (sf _ _ hd),trivial,fun o=>?_⟩
 have fd':f≠d:=fun z=>by rw[z,hd]at hf;cases hf
 have vwd:vw≠d:=fun z=>by rw[z,sf _ _ hd]at hvw;cases hvw
 have vwf:vw≠f:=fun z=>by rw[z,ae]at hvw;cases hvw
 have hvw0:H vw=none:=vV sf hvw
 obtain⟨B,hB⟩:∃ B:Hp,B=upd (upd H vw (dr vw d)) d (.frz o (.dK kvs)):=⟨_,rfl⟩
 have Bd:B d=some (.frz o (.dK kvs)):=by rw[hB];exact ae
 have Bf:B f=none:=by rw[hB,ak fd',ak (Ne.symm vwf)];exact hf
 have HB:∀ b u,b≠d->H b=some u->B b=some u:=fun b u n z=>by rw[hB,ak n,ak (ar z hvw0)];exact z
 have sB:Same B (upd (upd (upd H f (.dK [])) vw (dr vw d)) d (.frz o (.dK kvs))):=fun b u z=>by
  rw[hB]at z
  by_cases n:b=d
  ·subst n;rw[ae]at z ⊢;exact z
  ·rw[ak n]at z ⊢
   by_cases n2:b=vw
   ·subst n2;rw[ae]at z ⊢;exact z
   ·rw[ak n2]at z ⊢
    rw[ak (ar z hf)]
    exact z
 have hf3:(upd (upd (upd H f (.dK [])) vw (dr vw d)) d (.frz o (.dK kvs))) f=some (.dK []):=by rw[ak fd',ak (Ne.symm vwf)];exact ae
 generalize upd (upd (upd H f (.dK [])) vw (dr vw d)) d (.frz o (.dK kvs))=H3 at sB hf3
 have trB:ra PL PS B es ks xs bk:=⟨tr.1,fun j t z=>by
  obtain⟨e,k,p',dx,a,b,c,q⟩:=tr.2 j t z
  exact⟨e,k,p',dx,a,b,c,HB _ _ (fun y=>by rw[y,hd]at q;cases q) q⟩⟩
 have qtB:B qt=some (.lst xs):=HB _ _ (fun y=>by rw[y,hd]at hqt;cases hqt) hqt
 have dcB:DcAt (fun v D=>∃ a,v=.ref a/\B a=some (.dK (repD D))) kvs Tt:=dc.imp fun v e ⟨t,e1,n,e2⟩=>⟨t,e1,HB _ _ n e2⟩
 have inB:∀ b,isIn kvs b->∃ D,B b=some (.dK (repD D)):=fun b ⟨i,k,e⟩=>by
  obtain⟨_,D,_,_,a,e1,e2⟩:=dcB.atK e
  cases e1
  exact⟨D,e2⟩
 have nIn:∀{b u},B b=some u->(∀ D,u≠.dK (repD D))->¬ isIn kvs b:=fun{b u} e n z=>by
  obtain⟨D,q⟩:=inB b z
  rw[e]at q
  exact n D (JZ q)
 have inBd:¬ isIn kvs d:=nIn Bd fun D z=>by cases z
 have inQt:¬ isIn kvs qt:=nIn qtB fun D z=>by cases z
 have inN:∀{b},B b=none->¬ isIn kvs b:=fun{b} e z=>by
  obtain⟨D,q⟩:=inB b z
  rw[e]at q
  cases q
 have HB0:∀ b,B b=none->H b=none:=fun b z=>by
  cases y:H b with
  |none=>rfl
  |some u =>
   by_cases n:b=d
   ·rw[n,Bd]at z;cases z
   ·rw[HB b u n y]at z;cases z
 clear hB
 have xsl:xs.length<=100:=by rw[tr.1];exact b100
 refine wD (u:=.dK kvs) (d:=d) (o:=o) (fun i σ H4=>∃ v5 v6 v7 v8 v9 kv G,σ = [some (.ref d),some (.int (p:Int)),some (.ref qt),some (.int (Fr:Int)),some (.ref f),v5,v6,v7,v8]/\(∀ b u,¬ isIn kvs b->B b=some u->H4 b=some u)/\DcAt (InAt H4) kvs Tt/\FndD (fun a=>B a≠none∨a=f) H4 f kv G/\GrpH Fr (bC p (prcB es ks bk) (Tt.take i)) G/\v9=()) ⟨_,_,_,_,(),[],[],rfl,fun b u _ z=>sB _ _ z,dcB.imp fun v D ⟨a,e,z⟩=>⟨a,e,trivial,.inl (sB _ _ z)⟩,⟨hf3,DcAt.nil,fun i j k l a e=>by simp at e⟩,GrpH.nil Fr,rfl⟩ (fun i σ H4 _ z=>?_) ?_ ?_
 ·obtain⟨_,_,_,_,_,_,_,_,z,_⟩:=z
  exact z _ _ inBd Bd
 ·rintro i x y σ H4 T4 hi hkv ⟨v5,v6,v7,v8,_,kv,G,rfl,sx,dcx,fn,gr,_⟩ hT4
  obtain⟨kvs',k,eu,hki,ex⟩:∃ kvs' k,HO.dK kvs=HO.dK kvs'/\kvs'[i]?=some (k,y)/\x=kV k:=by
   rcases hkv with z | ⟨_,_,_,z,_⟩
   ·exact z
   ·cases z
  obtain rfl:=HO.dK.inj eu
  obtain⟨sg,Dm,rfl,hTi,a,rfl,hdr⟩:=dcx.atK hki
  subst ex
  obtain⟨gm,hgm⟩:=hh sg Dm (JM hTi)
  have ain:isIn kvs a:=⟨i,_,hki⟩
  have Ba:B a≠none:=fun z=>inN z ain
  have lDm:Dm.length<=256:=KR (GL (JM hTi)) l256
  have eti:Tt.take (i+1)=Tt.take i++[(sg,Dm)]:=by rw[Kw,hTi];rfl
  have s5:=ao hT4 (.tup [kV (.inl (sg:Int)),.ref a])
  refine⟨T4,_,rfl,SqT.of ae,rfl,_,_,rfl,_,_,rfl,rfl,?_⟩
  have fn5:=fn.keep (H':=upd H4 T4 (.tup [kV (.inl (sg:Int)),.ref a])) fun b u _ z=>s5 _ _ z
  have dc5:DcAt (InAt (upd H4 T4 (.tup [kV (.inl (sg:Int)),.ref a]))) kvs Tt:=dcx.imp fun v D z=>z.mono s5
  have sx5:∀ b u,¬ isIn kvs b->B b=some u->upd H4 T4 (.tup [kV (.inl (sg:Int)),.ref a]) b=some u:=fun b u n z=>s5 _ _ (sx b u n z)
  generalize upd H4 T4 (.tup [kV (.inl (sg:Int)),.ref a])=H5 at s5 fn5 dc5 sx5
  refine⟨_,rfl,_,rfl,p,sg,rfl,hp,fun q hq=>?_⟩
  have s6:=ao hq (.lst [.int (sg:Int),.int ((sg|||2^p:Nat):Int)])
  have noT:∀{b:Addr}{Hx:Hp},(∀ b u,¬ isIn kvs b->B b=some u->Hx b=some u)->DcAt (InAt Hx) kvs Tt->Hx b=none->B b=none:=fun{b Hx} k1 k2 z=>by
   cases y:B b with
   |none=>rfl
   |some u =>
    by_cases n:isIn kvs b
    ·obtain⟨j,kj,ej⟩:=n
     obtain⟨_,D,_,_,b',eb,z1⟩:=k2.atK ej
     cases eb
     rcases z1.2 with q | ⟨_,q⟩<;>(rw[z]at q;cases q)
    ·rw[k1 b u n y]at z;cases z
  have Bq:B q=none:=noT sx5 dc5 hq
  obtain⟨two,htwo⟩:∃ two:List (Nat×Int×Hs),two = [(hsg sg p false,prcB es ks bk (hsg sg p false),Dm),(hsg sg p true,prcB es ks bk (hsg sg p true),Dm)]:=⟨_,rfl⟩
  have ebr:bC p (prcB es ks bk) (Tt.take (i+1))=bC p (prcB es ks bk) (Tt.take i)++two:=by rw[eti,CM,htwo]
  have zlen:lenZ (bC p (prcB es ks bk) (Tt.take i))<=512:=by rw[lu];have:=oP Tt i;omega
  have fq:f≠q:=fun z=>by have:=fn5.d;rw[z,hq]at this;cases this
  have fn6:FndD (fun b=>(B b≠none∨b=f)∨b=q) (upd H5 q (.lst [.int (sg:Int),.int ((sg|||2^p:Nat):Int)])) f kv G :=
   ⟨s6 _ _ fn5.d,fn5.w.imp fun v D ⟨b,e,n,z⟩=>⟨b,e,fun(y:(B b≠none∨b=f)∨b=q)=>y.elim n fun y=>(by rw[y,hq]at z;cases z),s6 _ _ z⟩,fn5.ds⟩
  refine⟨q,rfl,⟨_,SqL.of ae⟩,cZ (K:=K) (xs:=[.int (sg:Int),.int ((sg|||2^p:Nat):Int)]) (fun j σ H6=>∃ v7 v8 kv G,σ = [some (.ref d),some (.int (p:Int)),some (.ref qt),some (.int (Fr:Int)),some (.ref f),some (.int (sg:Int)),some (.ref a),v7,v8]/\(∀ b u,¬ isIn kvs b->B b=some u->H6 b=some u)/\DcAt (InAt H6) kvs Tt/\H6 q=some (.lst [.int (sg:Int),.int ((sg|||2^p:Nat):Int)])/\FndD (fun b=>(B b≠none∨b=f)∨b=q) H6 f kv G/\GrpH Fr (bC p (prcB es ks bk) (Tt.take i)++two.take j) G) ⟨_,_,kv,G,rfl,fun b u n z=>s6 _ _ (sx5 b u n z),dc5.imp fun v D z=>z.mono s6,ae,fn6,by rw[NL,Mt];exact gr⟩ (fun j σ H6 _ ⟨_,_,_,_,_,_,_,z,_⟩=>SqL.of z) ?_ ?_⟩
  ·rintro j x σ H6 hx ⟨w7,w8,kv',G',rfl,sx6,dc6,hq6,fn',gr'⟩
   obtain⟨hv,e2,rfl⟩:∃ hv:Nat,two[j]?=some (hv,prcB es ks bk hv,Dm)/\x=.int (hv:Int):=by
    match j,hx with
    |0,hx=>exact⟨hsg sg p false,by rw[htwo];rfl,by cases hx;unfold hsg;rw[if_neg Ka,Ni]⟩
    |1,hx=>exact⟨hsg sg p true,by rw[htwo];rfl,by cases hx;unfold hsg;rw[if_pos rfl]⟩
    |j+2,hx=>cases hx
   have etw:two.take (j+1)=two.take j++[(hv,prcB es ks bk hv,Dm)]:=by rw[Kw,e2];rfl
   have zl2:lenZ (bC p (prcB es ks bk) (Tt.take i)++two.take j)<=512:=by
    have lt2:lenZ (bC p (prcB es ks bk) (Tt.take i)++two)<=512:=by rw[← ebr,lu];have:=oP Tt (i+1);omega
    have:=tH (two.take j) (two.drop j)
    rw[Km]at this
    rw[tH]at lt2 ⊢
    omega
   have qt6:H6 qt=some (.lst xs):=sx6 _ _ inQt qtB
   refine⟨_,rfl,qt,rfl,⟨_,SqL.of qt6⟩,df (K:=K) (xs:=xs) (fun i ys H7=>H7=H6/\ys=((bk.take i).map fun t=>prT es ks t hv).map V.int) (K2 (au (by omega))) ⟨rfl,rfl⟩ (fun i ys H7 _ z=>by rw[z.1];exact SqL.of qt6) ?_ ?_⟩
   ·rintro n x ys H7 hx' ⟨rfl,rfl⟩
    obtain⟨tn,htn⟩:∃ tn,bk[n]?=some tn:=⟨_,JL (by rw[← tr.1];exact(JK.mp hx').1)⟩
    obtain⟨e,k,p',dx',he,hk,x1,x2⟩:=trB.2 n tn htn
    rw[hx']at x1
    cases x1
    replace x2:=sx6 _ _ (nIn x2 fun D z=>by cases z) x2
    have hU:=U_at (l:=(hv:Int)) he hk
    have hs:stg ks tn=k.2:=by unfold stg;rw[hk]
    have tail:∀ v:Int,v=prT es ks tn hv->H7=H7/\((bk.take n).map fun t=>prT es ks t hv).map V.int++[V.int v]=((bk.take (n+1)).map fun t=>prT es ks t hv).map V.int:=fun v hv'=>by
     rw[Kw,htn,hv',KD,KD]
     exact⟨rfl,rfl⟩
    by_cases c:k.1=1
    ·rw[decide_eq_true c]at x2 hU
     refine .inr ⟨_,rfl,p',dx',_,rfl,x2,FU _ _ _ (by decide +kernel) (by decide +kernel) (by decide +kernel),_,rfl,p',_,_,_,(hv:Int),rfl,⟨dx',x2⟩,by omega,by omega,?_⟩
     exact tail _ (by unfold prT;rw[hU,hs])
    ·rw[decide_eq_false c]at x2 hU
     refine .inl ⟨_,rfl,p',dx',_,rfl,x2,FU _ _ _ (by decide +kernel) (by decide +kernel) (by decide +kernel),_,rfl,p',_,_,_,(hv:Int),rfl,⟨dx',x2⟩,by omega,by omega,?_⟩
     exact tail _ (by unfold prT;rw[hU,hs])
   rintro ys H7 _ ⟨rfl,rfl⟩ D hD
   rw[tr.1,KP]
   have s7:=ao hD (.lst ((bk.map fun t=>prT es ks t hv).map V.int))
   refine⟨D,_,rfl,SqL.of ae,?_⟩
   have fn7:=fn'.keep (H':=upd H7 D (.lst ((bk.map fun t=>prT es ks t hv).map V.int))) fun b u _ z=>s7 _ _ z
   have dc7:DcAt (InAt (upd H7 D (.lst ((bk.map fun t=>prT es ks t hv).map V.int)))) kvs Tt:=dc6.imp fun v D z=>z.mono s7
   have sx7:∀ b u,¬ isIn kvs b->B b=some u->upd H7 D (.lst ((bk.map fun t=>prT es ks t hv).map V.int)) b=some u:=fun b u n z=>s7 _ _ (sx6 b u n z)
   have hq7:=s7 _ _ hq6
   generalize upd H7 D (.lst ((bk.map fun t=>prT es ks t hv).map V.int))=H8 at s7 fn7 dc7 sx7 hq7
   have ek:V.int (Builtin.bitAnd (hv:Int) (Fr:Int))=kV (.inl ((hv&&&Fr:Nat):Int)):=congrArg V.int (andN hv Fr)
   have kvl':kv'.length=G'.length:=fn'.w.1
   have gl:=gr'.ln
   have gl2:G'.length<=514:=by
    rw[JO,lV,Ku,Ku]at gl
    have:two.length=2:=by rw[htwo];rfl
    omega
   refine⟨_,rfl,f,rfl,.inl ⟨_,.inl fn7.d⟩,_,rfl,_,rfl,_,_,rfl,rfl,fun l hl=>?_⟩
   have s8:=ao hl (.dK [])
   have fn8:=fn7.keep (H':=upd H8 l (.dK [])) fun b u _ z=>s8 _ _ z
   have dc8:DcAt (InAt (upd H8 l (.dK []))) kvs Tt:=dc7.imp fun v D z=>z.mono s8
   have sx8:∀ b u,¬ isIn kvs b->B b=some u->upd H8 l (.dK []) b=some u:=fun b u n z=>s8 _ _ (sx7 b u n z)
   have hq8:=s8 _ _ hq7
   have Bl:B l=none:=noT sx7 dc7 hl
   have hl8:upd H8 l (.dK []) l=some (.dK []):=ae
   have lf:l≠f:=fun z=>by have:=fn7.d;rw[← z,hl]at this;cases this
   have lq:l≠q:=fun z=>by rw[z,hq7]at hl;cases hl
   have lno:∀(i:Nat)(k:Key),kv'[i]?≠some (k,.ref l):=fun i k e=>by
    obtain⟨_,D,_,_,b,eb,_,z⟩:=fn7.w.atK e
    cases eb
    rw[hl]at z
    cases z
   generalize upd H8 l (.dK [])=H9 at s8 fn8 dc8 sx8 hq8 hl8
   have hm9:DRd H9 a (.dK (repD Dm)):=by
    obtain⟨v,e1,b,eb,z⟩:=dc8.2 i sg Dm hTi
    rw[hki]at e1
    cases e1
    cases eb
    exact z
   have fin:∀(kv2:List (Key×V))(G2:List (Nat×Hs))(c n:Nat)(D1:Hs)(g1:Int->Int)(Hx:Hp)(w7' w8':Option V)(Dn:Ends),(B c=none/\c≠f/\c≠q)->(∀ b u,¬ isIn kvs b->B b=some u->Hx b=some u)->DcAt (InAt Hx) kvs Tt->Hx q=some (.lst [.int (sg:Int),.int ((sg|||2^p:Nat):Int)])->DRd Hx a (.dK (repD Dm))->FndD (fun b=>(B b≠none∨b=f)∨b=q) Hx f kv2 G2->G2[n]?=some (hv&&&Fr,D1)->kv2[n]?=some ((.inl ((hv&&&Fr:Nat):Int):Key),.ref c)->Hx c=some (.dK (repD D1))->Hst D1 g1->D1.length<=512 ->
     (∀ D',Hst D' (fun x=>g1 x+cntL Dm (x-prcB es ks bk hv))->D'.length<=D1.length+Dm.length->GrpH Fr (bC p (prcB es ks bk) (Tt.take i)++two.take (j+1)) (G2.set n (hv&&&Fr,D'))) ->
     (∀ σ' H',(∃ v7 v8 kv G,σ' = [some (.ref d),some (.int (p:Int)),some (.ref qt),some (.int (Fr:Int)),some (.ref f),some (.int (sg:Int)),some (.ref a),v7,v8]/\(∀ b u,¬ isIn kvs b->B b=some u->H' b=some u)/\DcAt (InAt H') kvs Tt/\H' q=some (.lst [.int (sg:Int),.int ((sg|||2^p:Nat):Int)])/\FndD (fun b=>(B b≠none∨b=f)∨b=q) H' f kv G/\GrpH Fr (bC p (prcB es ks bk) (Tt.take i)++two.take (j+1)) G)->Dn.nx σ' H') ->
     F1 [.ref c,.int (prcB es ks bk hv),.ref a] Hx (fun _ H'=>Dn.nx [some (.ref d),some (.int (p:Int)),some (.ref qt),some (.int (Fr:Int)),some (.ref f),some (.int (sg:Int)),some (.ref a),w7',w8'] H') E0:=fun kv2 G2 c n D1 g1 Hx w7' w8' Dn ⟨Bc,cf,cq⟩ sxx dcx' hqx hmx fnx hGn hkn hcx h1 hl1 hgr hD=>by
    have ca:c≠a:=fun z=>Ba (z▸Bc)
    refine⟨c,a,prcB es ks bk hv,D1,Dm,g1,gm,rfl,ca,hcx,h1,hmx,hgm,by omega,fun D' o' H' k1 k2 k3 k4 k5=>hD _ _ ⟨w7',w8',kv2,_,rfl,fun b u nb z=>?_,⟨dcx'.1,fun i' s' D'' e'=>?_⟩,?_,fnx.app hGn hkn (fun y=>y.elim (fun y=>y.elim (fun y=>y Bc) cf) cq) (Ne.symm cf) (fun b u nb hb z=>?_) k2,hgr D' (k5.cg fun x=>by rw[hgm.cnt]) k4⟩⟩
    ·exact k1 b u (fun y=>by rw[y,Bc]at z;cases z) (fun y=>nb (y▸ain)) (sxx b u nb z)
    ·obtain⟨v,e1,z⟩:=dcx'.2 i' s' D'' e'
     exact⟨v,e1,z.add hmx (fun b eb=>fun y=>inN (y▸Bc) ⟨i',_,eb▸e1⟩) k1 k3⟩
    ·exact k1 q _ (Ne.symm cq) (fun y=>Ba (y▸Bq)) hqx
    ·refine k1 b u nb (fun y=>?_) z
     rcases hb with hb | hb
     ·exact Ba (y▸hb▸Bf)
     ·exact hb (.inl (.inl (y▸Ba)))
   refine⟨kv',_,fn8.d,ek,au (by omega),fun u hu'=>?_,fun hn=>?_⟩
   ·obtain⟨n,D1,hG,hk,c,rfl,nS,hc⟩:=fn8.w.val hu'
    have Bc:B c=none:=by
     cases z:B c with
     |none=>rfl
     |some u=>exact absurd (.inl (.inl (by rw[z];exact fun y=>by cases y))) nS
    have mem:=gr'.hs _ _ (JM hG)
    exact⟨_,rfl,_,rfl,fin kv' G' c n D1 _ H9 _ _ _ ⟨Bc,fun y=>nS (.inl (.inr y)),fun y=>nS (.inr y)⟩ sx8 dc8 hq8 hm9 fn8 hG hk hc mem.1 (KR mem.2 zl2) (fun D' h1 h2=>by rw[etw,← KC];exact gr'.old (z:=(hv,prcB es ks bk hv,Dm)) hG h1 h2) (fun σ' H' z=>z)⟩
   ·have nokey:hv&&&Fr∉G'.map (·.1):=fn8.w.no hn
    have nfk:∀(i:Nat)(k:Key),kv'[i]?≠some (k,.ref f):=fun i k e=>by
     obtain⟨_,D,_,_,b,eb,nb,z⟩:=fn8.w.atK e
     cases eb
     exact nb (.inl (.inr rfl))
    have fnN:=fn8.key hn lf hl8 (fun y=>y.elim (fun y=>y.elim (fun y=>y Bl) lf) lq) lno nfk
    have af:a≠f:=fun y=>Ba (y▸Bf)
    have hkN:(putK kv' (.inl ((hv&&&Fr:Nat):Int)) (.ref l))[G'.length]?=some ((.inl ((hv&&&Fr:Nat):Int):Key),.ref l):=by
     rw[nR _ hn,← kvl',JP (JQ _),Kr]
     rfl
    refine⟨_,rfl,_,rfl,fin _ (G'++[(hv&&&Fr,[])]) l G'.length [] (fun _=>0) _ _ _ _ ⟨Bl,lf,lq⟩ (fun b u nb z=>?_) ⟨dc8.1,fun i' s' D'' e'=>?_⟩ ?_ ?_ fnN ?_ hkN ?_ ES (K4 _) (fun D' h1 h2=>?_) (fun σ' H' z=>z)⟩
    ·rw[ak (fun y=>by rw[y,Bf]at z;cases z)]
     exact sx8 b u nb z
    ·obtain⟨v,e1,b,eb,z⟩:=dc8.2 i' s' D'' e'
     refine⟨v,e1,b,eb,z.1,?_⟩
     have bf:b≠f:=fun y=>inN (y▸Bf) ⟨i',_,eb▸e1⟩
     rw[ak bf]
     exact z.2
    ·rw[ak (Ne.symm fq)]
     exact hq8
    ·exact⟨hm9.1,by rw[ak af];exact hm9.2⟩
    ·rw[JP (JQ _),Kr]
     rfl
    ·rw[ak lf]
     exact hl8
    ·have esG:(G'++[(hv&&&Fr,([]:Hs))]).set G'.length (hv&&&Fr,D')=G'++[(hv&&&Fr,D')]:=by
      rw[Na _ _ (JQ _),Kr]
      rfl
     rw[esG,etw,← KC]
     exact gr'.new (z:=(hv,prcB es ks bk hv,Dm)) nokey (h1.cg fun x=>by rw[Lb]) (by simpa using h2)
  ·rintro σ H6 ⟨w7,w8,kv',G',rfl,sx6,dc6,hq6,fn6',gr6⟩
   have t2:two.take 2=two:=by rw[htwo];rfl
   have gr7:GrpH Fr (bC p (prcB es ks bk) (Tt.take (i+1))) G':=by
    rw[ebr,← t2]
    exact gr6
   exact⟨_,_,_,_,(),kv',G',rfl,sx6,dc6,⟨fn6'.d,fn6'.w.imp fun v D ⟨b,e,n,z⟩=>⟨b,e,fun y=>n (.inl y),z⟩,fn6'.ds⟩,gr7,rfl⟩
 ·rintro σ H4 ⟨v5,v6,v7,v8,_,kv,G,rfl,sx,dcx,fn,gr,_⟩
  have dl:dlen (.dK kvs)=Tt.length:=kvl
  rw[dl,KP]at gr
  refine⟨_,rfl,kk f kv G H4 (fun b u n1 n2 z=>sx b u n2 (HB b u n1 z)) hf ⟨fn.d,fn.w.imp fun v D ⟨b,e,n,z⟩=>⟨b,e,fun y=>n (y.elim (fun y=>.inl fun y2=>y (HB0 b y2)) .inr),z⟩,fn.ds⟩ gr⟩
end
end K8
namespace K8
open PySem L2
local macro_rules | `(tactic| walk_at "cc") => `(tactic| first | exact ⟨by decide, by decide⟩ | (show (0 : Int) < _; decide) | (show (0 : Int) < _; omega) | (show (0 : Int) ≤ _; omega) | exact ⟨by decide, by decide, by decide⟩ | exact ⟨by omega, by omega, by decide⟩ | exact Or.inl ⟨by decide, by decide⟩ | exact Or.inl ⟨by omega, by omega⟩)
local macro_rules | `(tactic| walk_at "rd") => `(tactic| repeat (first | refine ⟨_, rfl, ?_⟩ | refine ⟨_, _, rfl, rfl, ?_⟩ | refine ⟨rfl, ?_⟩ | (refine ⟨?cc, ?_⟩; (case cc => walk_at "cc"))))
def ind(c:Bool):Int:=if c=true then 1 else 0
def hL(l:List Nat)(F:Nat)(f:Nat->Int)(s:Nat)(x:Int):Int:=sumL l fun L=>ind (decide (L&&&F=s)&&decide (f L=x))
structure TblH(l:List Nat)(F:Nat)(f:Nat->Int)(T:List (Nat×Hs)):Prop where
 nd:(T.map (·.1)).Nodup
 has:∀ L∈l,L&&&F∈T.map (·.1)
 hs:∀ s D,(s,D)∈T->Hst D (hL l F f s)
theorem qK{p:Nat}{prc:Nat->Int}(g:Nat×Int×Hs->Int):∀ T:List (Nat×Hs),sumL (bC p prc T) g=sumL T fun e=>g (hsg e.1 p false,prc (hsg e.1 p false),e.2)+g (hsg e.1 p true,prc (hsg e.1 p true),e.2)
 |[]=>rfl
 |e::T=>by
  have ih:=qK (p:=p) (prc:=prc) g T
  have e1:bC p prc (e::T) = [(hsg e.1 p false,prc (hsg e.1 p false),e.2),(hsg e.1 p true,prc (hsg e.1 p true),e.2)]++bC p prc T:=by unfold bC;rw[MX]
  rw[e1,iP,ih,aB,aB,aB,eQ,Ld]
theorem A7{ps:List Nat}{p F F' s':Nat}{f f' prc:Nat->Int}{T:List (Nat×Hs)}(h:TblH (lays ps) F f T)(b:Bool)(hk:∀ L∈lays ps,hsg (L&&&F) p b&&&F'=hsg L p b&&&F')(hc:∀ L∈lays ps,f' (hsg L p b)=f L+prc (hsg (L&&&F) p b))(x:Int) :
  (sumL T fun e=>if hsg e.1 p b&&&F'=s' then cntL e.2 (x-prc (hsg e.1 p b)) else 0)=sumL (lays ps) fun L=>ind (decide (hsg L p b&&&F'=s')&&decide (f' (hsg L p b)=x)):=by
 have e1:(sumL T fun e=>if hsg e.1 p b&&&F'=s' then cntL e.2 (x-prc (hsg e.1 p b)) else 0)=sumL T fun e=>sumL (lays ps) fun L=>if(L&&&F)=e.1 then ind (decide (hsg e.1 p b&&&F'=s')&&decide (f L=x-prc (hsg e.1 p b))) else 0:=aF fun e he=>by
  rw[(h.hs e.1 e.2 he).cnt]
  unfold hL
  by_cases c:hsg e.1 p b&&&F'=s'
  ·rw[if_pos c]
   refine aF fun L _=>?_
   rw[decide_eq_true c,Mb]
   by_cases z:L&&&F=e.1
   ·rw[if_pos z,decide_eq_true z,Mb]
   ·rw[if_neg z,decide_eq_false z,Mi]
    rfl
  ·rw[if_neg c]
   refine(bH (lays ps)).symm.trans (aF fun L _=>?_)
   rw[decide_eq_false c,Mi]
   by_cases z:L&&&F=e.1
   ·rw[if_pos z];rfl
   ·rw[if_neg z]
 rw[e1,ke]
 refine aF fun L hL=>?_
 obtain⟨e,he,ee⟩:=Ke.mp (h.has L hL)
 have ee':e.1=L&&&F:=ee
 have q:=kg (fun y:Nat×Hs=>y.1) (l:=T) (x:=e) (fun y=>ind (decide (hsg y.1 p b&&&F'=s')&&decide (f L=x-prc (hsg y.1 p b)))) h.nd he
 rw[ee']at q
 rw[q,hk L hL]
 congr 1
 have:(f L=x-prc (hsg (L&&&F) p b))↔(f' (hsg L p b)=x):=by rw[hc L hL];omega
 rw[decide_eq_decide.mpr this]
theorem Dj{ps:List Nat}{p F F':Nat}{f f' prc:Nat->Int}{T:List (Nat×Hs)}{G:List (Nat×Hs)}(h:TblH (lays ps) F f T)(hk:∀ L∈lays ps,∀ b,hsg (L&&&F) p b&&&F'=hsg L p b&&&F')(hc:∀ L∈lays ps,∀ b,f' (hsg L p b)=f L+prc (hsg (L&&&F) p b))(gr:GrpH F' (bC p prc T) G):TblH (lays (ps++[p])) F' f' G where
 nd:=gr.nd
 has:=fun L' hL'=>by
  obtain⟨L,b,hL,rfl⟩:=Jf hL'
  obtain⟨e,he,ee⟩:=Ke.mp (h.has L hL)
  have ee':e.1=L&&&F:=ee
  rw[← hk L hL b,← ee']
  refine gr.has (hsg e.1 p b,prc (hsg e.1 p b),e.2) ?_
  unfold bC
  refine List.mem_flatMap.mpr ⟨e,he,?_⟩
  cases b
  ·exact Kh
  ·exact J1 _ Kh
 hs:=fun s' D hD=>(gr.hs s' D hD).1.cg fun x=>by
  unfold gH hL
  rw[qK,kh,A7 h false (fun L hL=>hk L hL false) (fun L hL=>hc L hL false),A7 h true (fun L hL=>hk L hL true) (fun L hL=>hc L hL true),FX,kh]
  have h0:∀ L,hsg L p false=L:=fun L=>by unfold hsg;rw[if_neg Ka,Ni]
  have h1:∀ L,hsg L p true=L|||2^p:=fun L=>by unfold hsg;rw[if_pos rfl]
  simp only[h0,h1]
theorem oy{α:Type}{l:List α}{f g:α->Int}(h:∀ x∈l,f x<=g x):sumL l f<=sumL l g:=by
 induction l with
 |nil=>exact Lr _
 |cons x l ih =>
  rw[aB,aB]
  have a:=h x Kh
  have b:=ih fun y hy=>h y (J1 _ hy)
  omega
theorem DU{α β:Type} [DecidableEq β] (k:α->β) (y:β):∀{l:List α},(l.map k).Nodup->sumL l (fun e=>ind (decide (y=k e)))<=1
 |[],_=>(by decide:(0:Int)<=1)
 |x::l,nd=>by
  rw[KA,Kc]at nd
  rw[aB]
  by_cases h:y=k x
  ·have z:sumL l (fun e=>ind (decide (y=k e)))=0:=by
    refine(aF fun e he=>?_).trans (bH l)
    rw[decide_eq_false (fun q=>nd.1 (by rw[← h,q];exact Ke.mpr ⟨e,he,rfl⟩))]
    rfl
   rw[z,decide_eq_true h]
   decide
  ·have:=DU k y nd.2
   rw[decide_eq_false h]
   show(0:Int)+_<=1
   omega
theorem AU{α:Type}(l:List α):sumL l (fun _=>(1:Int))=(l.length:Int):=by
 induction l with
 |nil=>rfl
 |cons x l ih=>rw[aB,ih,Kt];omega
theorem Jn{D:Hs}{l:List Nat}{F s:Nat}{f:Nat->Int}(h:Hst D (hL l F f s)):(D.length:Int)<=sumL l fun L=>ind (decide (L&&&F=s)):=by
 have a:(D.length:Int)<=sumL D fun e=>hL l F f s e.1:=by
  rw[← AU]
  refine oy fun e he=>?_
  obtain⟨q1,q2⟩:=h.ex e.1 e.2 he
  omega
 refine Nu a ?_
 unfold hL
 rw[ke]
 refine oy fun L _=>?_
 by_cases z:L&&&F=s
 ·have e1:(sumL D fun e=>ind (decide (L&&&F=s)&&decide (f L=e.1)))=sumL D fun e=>ind (decide (f L=e.1)):=aF fun e _=>by rw[decide_eq_true z,Mb]
  rw[e1,decide_eq_true z]
  exact DU (fun e:Int×Int=>e.1) (f L) h.nd
 ·have e1:(sumL D fun e=>ind (decide (L&&&F=s)&&decide (f L=e.1)))=0:=by
   refine(aF fun e _=>?_).trans (bH D)
   rw[decide_eq_false z,Mi]
   rfl
  rw[e1,decide_eq_false z]
  exact Lr _
theorem GK(T:List (Nat×Hs)):((lenT T:Nat):Int)=sumL T fun e=>((e.2.length:Nat):Int):=by
 induction T with
 |nil=>rfl
 |cons e T ih =>
  have e2:lenT (e::T)=e.2.length+lenT T:=by unfold lenT;rw[KA,NV]
  rw[e2,aB,← ih]
  omega
theorem TblH.len{l:List Nat}{F:Nat}{f:Nat->Int}{T:List (Nat×Hs)}(h:TblH l F f T):lenT T<=l.length:=by
 have a:((lenT T:Nat):Int)<=(l.length:Int):=by
  rw[GK,← AU]
  refine Nu (oy fun e he=>Jn (h.hs e.1 e.2 he)) ?_
  rw[ke]
  refine oy fun L _=>?_
  exact DU (fun e:Nat×Hs=>e.1) (L&&&F) h.nd
 omega
theorem FV(es:En)(pr:Nat->Nat->Int):TblH (lays []) 0 (cstB es pr (mk [])) [(0,[(0,1)])] where
 nd:=by simp
 has:=fun L _=>by rw[Nr];exact Kh
 hs:=fun s D hD=>by
  cases Kj.mp hD
  have l1:lays [] = [0]:=rfl
  have g:∀ x:Int,hL (lays []) 0 (cstB es pr (mk [])) 0 x=if x=0 then 1 else 0:=fun x=>by
   unfold hL
   rw[l1,aB,eQ,Ld]
   have c0:cstB es pr (mk []) 0=0:=G4 es pr 0
   rw[c0,Nr,decide_eq_true rfl,Mb]
   by_cases z:x=0
   ·rw[if_pos z,decide_eq_true z.symm];rfl
   ·rw[if_neg z,decide_eq_false (Ne.symm z)];rfl
  refine⟨by simp,fun x n hn=>?_,fun x hx=>?_⟩
  ·cases Kj.mp hn
   rw[g,if_pos rfl]
   exact⟨rfl,by decide⟩
  ·rw[g]at hx
   by_cases z:x=0
   ·subst z;exact Kh
   ·rw[if_neg z]at hx
    exact absurd rfl hx
end K8
set_option maxHeartbeats 1000000
namespace K8
open PySem L2
local macro_rules | `(tactic| walk_at "cc") => `(tactic| first | exact ⟨by decide, by decide⟩ | (show (0 : Int) < _; decide) | (show (0 : Int) < _; omega) | (show (0 : Int) ≤ _; omega) | exact ⟨by decide, by decide, by decide⟩ | exact ⟨by omega, by omega, by decide⟩ | exact Or.inl ⟨by decide, by decide⟩ | exact Or.inl ⟨by omega, by omega⟩)
local macro_rules | `(tactic| walk_at "rd") => `(tactic| repeat (first | refine ⟨_, rfl, ?_⟩ | refine ⟨_, _, rfl, rfl, ?_⟩ | refine ⟨rfl, ?_⟩ | (refine ⟨?cc, ?_⟩; (case cc => walk_at "cc"))))
def totC(es:En)(ks:Kn)(L:Nat):Int:=sumL (KJ es.length) fun t=>prT es ks t L
theorem nV{od:List Nat}{m:Nat}(pm:od.Perm (KJ m)){L:Nat}:L∈lays od↔L<2^m:=by
 constructor
 ·intro h
  refine Nat.lt_pow_two_of_testBit L fun x hx=>?_
  cases z:L.testBit x with
  |false=>rfl
  |true =>
   have:=KU.mp (pm.mem_iff.mp (nW h z))
   omega
 ·intro h
  refine rH _ od L rfl fun x hx=>pm.mem_iff.mpr (KU.mpr ?_)
  by_cases c:x<m
  ·exact c
  ·have:=Mu (Ky h (MD (by decide) (show m<=x by omega)))
   rw[this]at hx
   cases hx
theorem tI:∀(n:Nat)(qs:List Nat),qs.length=n->qs.Nodup->(lays qs).Nodup
 |0,qs,hn,_=>by
  rw[Mr.mp hn]
  decide
 |n+1,qs,hn,nd=>by
  have ne:qs≠[]:=fun e=>by rw[e]at hn;cases hn
  have eq:qs.dropLast++[qs.getLast ne]=qs:=Ny ne
  generalize qs.getLast ne=q at eq
  have hl:qs.dropLast.length=n:=by rw[List.length_dropLast,hn];rfl
  generalize qs.dropLast=r at eq hl
  subst eq
  rw[Kg]at nd
  have ih:=tI n r hl nd.1
  have nq:∀ L∈lays r,L.testBit q=false:=fun L hL=>by
   cases z:L.testBit q with
   |false=>rfl
   |true=>exact absurd rfl (nd.2.2 q (nW hL z) q (Kj.mpr rfl))
  rw[kA,Kg]
  refine⟨ih,?_,fun a ha b hb e=>?_⟩
  ·refine LG.mpr (NS (fun{a b} ha hb hne e=>?_) ih)
   exact hne (Ls fun x=>by
    have:=congrArg (fun z=>z.testBit x) e
    simp only[Lu,K5]at this
    by_cases hx:q=x
    ·subst hx;rw[nq a ha,nq b hb]
    ·simpa[hx] using this)
  ·obtain⟨L,hL,rfl⟩:=Ke.mp hb
   have h1:=nq a ha
   rw[e,Lu,K5]at h1
   simp at h1
theorem Es{od:List Nat}{m:Nat}(pm:od.Perm (KJ m)):(lays od).Perm (lays (KJ m)) :=
 (Lj (tI _ od rfl (pm.nodup_iff.mpr Lz)) (tI _ _ rfl Lz)).mpr fun L=>by rw[nV pm,nV (MA _)]
theorem uO{l r:List Nat}(p:l.Perm r)(f:Nat->Int):sumL l f=sumL r f:=by
 induction p with
 |nil=>rfl
 |cons x _ ih=>rw[aB,aB,ih]
 |swap x y l=>rw[aB,aB,aB,aB];omega
 |trans _ _ a b=>exact a.trans b
theorem JD{es:En}{ks:Kn}{od:List Nat}{m:Nat}(pm:od.Perm (KJ m))(hbd:∀ e∈es,e.1<m/\e.2<m)(L:Nat):cstB es (prT es ks) (mk od) L=totC es ks L:=by
 unfold cstB totC
 refine aF fun t ht=>?_
 obtain⟨e,he⟩:∃ e,es[t]?=some e:=⟨_,JL (KU.mp ht)⟩
 obtain⟨b1,b2⟩:=hbd e (JM he)
 rw[lH he,dq,dq,decide_eq_true (pm.mem_iff.mpr (KU.mpr b1)),decide_eq_true (pm.mem_iff.mpr (KU.mpr b2))]
 rfl
structure TxtM(mg:Str->Option Value):Prop extends Txt mg where
 most:∃ t,mg "MOST_PLACES" = some (.int 16 t)
def hA(es:En)(ks:Kn)(m:Nat)(x:Int):Int:=sumL (lays (KJ m)) fun L=>ind (decide (totC es ks L=x))
structure Hist(es:En)(ks:Kn)(m:Nat)(D:Hs):Prop where
 up:D.Pairwise fun x y=>x.1<y.1
 hs:Hst D (hA es ks m)
def spWs(PL PS WC:Addr):Sp:=fun vs H Q _=>∃(p:Addr)(m:Nat)(es:En)(ts:List (List Nat))(ks:Kn)(v:V)(ns:List Int),vs = [.ref p,v]/\WebT PL PS WC H p m es ts ks/\ks.length=es.length/\br m es ts/\es.length<=100/\m<=9/\Told m v H ns/\ns.Perm (rI m) /\
 ∀(q:Addr)(rows:List V)(D:Hs)(H':Hp),Same H H'->H q=none->H' q=some (.lst rows)->LsAt PrAt H' rows D->Hist es ks m D->Q (.ref q) H'
theorem G3(xs:List V):cutV xs (some 1) none=xs.drop 1:=by
 unfold cutV
 have q:=HT.sIx_nat xs.length 0 1
 rw[show((1:Nat):Int)=(1:Int) from rfl]at q
 rw[q,HT.sIx_none]
 rw[Kz (by rw[KL];omega)]
 by_cases h:1<=xs.length
 ·rw[Lx h]
 ·have e:xs = []:=Mr.mp (by omega)
  subst e
  rfl
theorem Gj{X:Cx}{x:Str}{n:Int}{pos:Pos}(hg:Gl X x)(hm:∃ t,X.mg x=some (.int n t)) (hd:(x == ("__debug__" : Str))=false:=by decide):PE X (.Name x pos) (tC (.int n)):=by
 obtain⟨t,h⟩:=hm
 exact IS hg h ⟨t,rfl⟩ hd
theorem Hst.perm{D D':Hs}{g:Int->Int}(h:Hst D g)(p:D'.Perm D):Hst D' g :=
 ⟨(p.map (·.1)).nodup_iff.mpr h.nd,fun x n hn=>h.ex x n (p.mem_iff.mp hn),fun x hx=>(p.map (·.1)).mem_iff.mpr (h.al x hx)⟩
theorem E3{es:En}{od:List Nat}{m:Nat}(pm:od.Perm (KJ m))(hbd:∀ e∈es,e.1<m/\e.2<m):cE es (mk od) 0:=fun x=>by
 rw[Lp]
 cases c:(mk od).testBit x with
 |false=>rfl
 |true =>
  rw[Mb]
  cases q:es.any (atF (mk od) x) with
  |false=>rfl
  |true =>
   obtain⟨e,he,ha⟩:=LR.mp q
   have all:∀ y,y<m->(mk od).testBit y=true:=fun y hy=>by
    rw[dq]
    exact decide_eq_true (pm.mem_iff.mpr (KU.mpr hy))
   obtain⟨b1,b2⟩:=hbd e he
   unfold atF at ha
   rw[all _ b1,all _ b2]at ha
   simp at ha
section
variable{P:Program}{w:World}{K:JN}{mg:Str->Option Value}{base:Heap}
theorem dX:aC ["web","order","places","counts","place","back","front"] ["web","order"] (ai iR):=⟨rfl,rfl,rfl,by decide +kernel,rfl,by decide +kernel,by decide +kernel⟩
theorem ok_ws{f f1 f2 f3 f4 BO TW PL PS WC:Addr}{fd d1 d2 d3 d4:FuncData} (F:FunD K "worths" "worths" iR f fd #[.none]) (T:TxtM mg) (cw:CW K WC) (X_TooWide:ErrC K mg "TooWide" TW) (G_order_of:CalX P w K mg base 1 "order_of" ["web","order"] (AW BO WC) f1 d1)
  (G_fronts:CalX P w K mg base 3 "fronts" ["web","order"] (Iu BO PL PS WC) f2 d2) (G_ties_back:Cal P w K mg base 2 "ties_back" ["web","order"] (Dw PL PS WC) f3 d3) (G_counts_behind:Cal P w K mg base 4 "counts_behind" ["counts","place","ties","front"] (spCB PL PS) f4 d4):FnOk P w K mg base (CXr P w) 5 f fd ["web","order"] (spWs PL PS WC):=by
 refine F.okX dX (fun vs H Q E h=>?_) (fun cdv A outer s H vs Q E hr h=>?_)
 ·obtain⟨p,m,es,ts,ks,v,ns,rfl,_⟩:=h
  rfl
 obtain⟨p,m,es,ts,ks,v,ns,rfl,wt,kl,tn,e100,m9,td,pm,kk⟩:=h
 have hu:=Cv hr
 obtain⟨dx,fs,q1,xs,q3,z3,hp,lm,l1,h1,tk,l3,h3,rw3⟩:=id wt
 have hbd:∀ e∈es,e.1<m/\e.2<m:=fun e he=>⟨(tn.ends e he).1,(tn.ends e he).2.1⟩
 refine⟨_,WSs.ok (nN (Hc (i:=2) dX.nd rfl (Or.inl rfl) (iU G_order_of.ok (hr.mono (by decide)) rfl G_order_of.mg G_order_of.kp G_order_of.bn .nil mq rfl (aa (pv 0) (aa (pv 1) aj))))
   (nN (ws_if (aL op_gt (cy (pv 0) rfl) (Gj rfl T.most) (aU _)) (xU (C6 X_TooWide.ec X_TooWide.mg rfl mq rfl rfl (aa Ho aj))) Ic)
   (nN (FN (n:=3) dX.nd rfl (Or.inl rfl) (.inl rfl))
   (nN (Ie rfl (IM rfl T.n_zip (aa (pv 2) (aa (aH G_ties_back.ok (hr.mono (by decide)) rfl G_ties_back.mg G_ties_back.kp G_ties_back.bn .nil a9 (aa (pv 0) (aa (pv 2) aj))) (aa (sL yh (iU G_fronts.ok (hr.mono (by decide)) rfl G_fronts.mg G_fronts.kp G_fronts.bn .nil mq rfl (aa (pv 0) (aa (pv 2) aj))) (yA ah) yB) aj)))) (qP rfl (bP (aP (i:=4) dX.nd rfl (Or.inl rfl)) (bP (aP (i:=5) dX.nd rfl (Or.inl rfl)) (bP (aP (i:=6) dX.nd rfl (Or.inl rfl)) lh)))) (xU (Hc (i:=3) dX.nd rfl (Or.inl rfl) (aH G_counts_behind.ok (hr.mono (by decide)) rfl G_counts_behind.mg G_counts_behind.kp G_counts_behind.bn .nil a9 (aa (pv 3) (aa (pv 4) (aa (gU rfl (fr:=[("web",0)]) (by exact bX.one (by rfl) (by decide +kernel) (by rfl) (by decide +kernel) (by rfl) (by decide +kernel) (by rfl) (by rfl) (by decide +kernel) (by rfl)) (bD (pv 5)) (fun C ex s H=>(aD (nZ (K:=K) rfl) (sN (K:=K) rfl (pv 1) rfl) (pv 0) (fun _ _=>rfl)))) (aa (pv 6) aj))))))))
   (xU (ws_ret (aE (CK rfl) (by rfl) T.n_sorted pI (aa (Ht LN LL M0 Bh (sO hu (pv 3) ah (fun _ _=>rfl))) aj)))))))),?_⟩
 refine⟨_,rfl,_,rfl,p,dx,fs,m,v,ns,rfl,hp,lm,by omega,td,fun z=>absurd pm z,fun _ q H1 s1 nq hq=>?_⟩
 obtain⟨od,rfl,ob⟩:=A3 pm
 have ol:(cI od).length=od.length:=by unfold cI;rw[JS]
 have om:od.length=m:=by
  have:=pm.length_eq
  unfold rI at this
  rwa[ol,JS,Lg]at this
 have ond:od.Nodup:=by
  have:(cI od).Nodup:=pm.nodup_iff.mpr (by
   unfold rI
   exact M3.map _ (fun a b h e=>h (by omega)) Lz)
  unfold cI at this
  exact(LG.mp this).imp fun h e=>h (by rw[e])
 have opm:od.Perm (KJ m):=by
  refine(Lj ond Lz).mpr fun x=>⟨fun h=>KU.mpr (ob x h),fun h=>?_⟩
  have:(x:Int)∈cI od:=pm.mem_iff.mpr (by unfold rI;exact Ke.mpr ⟨x,h,rfl⟩)
  unfold cI at this
  obtain⟨y,hy,e⟩:=Ke.mp this
  have:y=x:=by omega
  rw[← this];exact hy
 refine⟨_,rfl,p,WC,dx,fs,_,rfl,s1 _ _ hp,cw.cl,cw.n1,lm,_,_,rfl,rfl,_,rfl,ite2 (fun c=>absurd (of_decide_eq_true c:(16:Int)<(m:Int)) (by omega)) (fun _=>?_)⟩
 intro d hd
 intro t ht
 have dt:d≠t:=fun z=>by rw[← z,ae]at ht;cases ht
 have ht1:H1 t=none:=by rw[ak (Ne.symm dt)]at ht;exact ht
 refine⟨ae,[(.inl (0:Int),.int 1)],rfl,(by show 1<=15;decide),?_⟩
 refine⟨by rw[ak dt,ak dt];exact ae,[(.inl ((0:Nat):Int),.ref t)],rfl,(by show 1<=15;decide),?_⟩
 obtain⟨H6,eH6⟩:∃ H6:Hp,H6=upd (upd (upd (upd H1 d (.dK [])) t (.dK [])) t (.dK (oK [] [(.inl (0:Int),.int 1)]))) d (.dK (oK [] [(.inl ((0:Nat):Int),.ref t)])):=⟨_,rfl⟩
 rw[← eH6]
 have h6:H6 d=some (.dK [(.inl ((0:Nat):Int),.ref t)]):=by rw[eH6];exact ae
 have t6:H6 t=some (.dK (repD [(0,1)])):=by rw[eH6,ak (Ne.symm dt)];exact ae
 have s6:Same H1 H6:=fun b u z=>by
  rw[eH6,ak (ar z hd),ak (ar z ht1),ak (ar z ht1),ak (ar z hd)]
  exact z
 clear eH6
 have s16:=s1.trans s6
 have hq6:=s6 _ _ hq
 refine⟨_,rfl,_,rfl,_,rfl,p,q,m,es,ts,ks,od,rfl,wt.mono s16,kl,tn,by omega,e100,hq6,ob,by omega,fun q7 zs H7 s7 hq7 rb=>?_⟩
 have s17:=s16.trans s7
 refine⟨_,rfl,_,rfl,p,m,es,ts,ks,.ref q,cI od,rfl,wt.mono s17,kl,hbd,by omega,.inr ⟨q,rfl,s7 _ _ hq6,by omega⟩,fun z=>absurd pm z,fun od' eo _ q2 ms H8 s8 hq2 fr=>?_⟩
 have eod:od'=od:=by
  have:cI od'=cI od:=eo.symm
  unfold cI at this
  exact(List.map_inj_right (fun a b e=>by omega)).mp this
 subst eod
 refine⟨_,rfl,q2,_,rfl,SqL.of hq2,fun q8 hq8=>?_⟩
 rw[G3,← Nm]
 have s9:=ao hq8 (.lst ((ms.drop 1).map iV))
 have h8:(upd H8 q8 (.lst ((ms.drop 1).map iV))) q8=some (.lst ((ms.drop 1).map iV)):=ae
 have s69:=(s7.trans s8).trans s9
 have hd9:=s69 _ _ h6
 have ht9:=s69 _ _ t6
 have hq7':=(s8.trans s9) _ _ hq7
 have rb9:=rb.mono (s8.trans s9)
 have s19:=s6.trans s69
 generalize upd H8 q8 (.lst ((ms.drop 1).map iV))=H9 at s9 h8 s69 hd9 ht9 hq7' rb9 s19
 have msl:ms.length=m+1:=by rw[fr.1,om]
 have zl:((ms.drop 1).map iV).length=m:=by rw[JS,KL];omega
 have zsl:zs.length=m:=by rw[rb.1];unfold dk;rw[JS,Lg,om]
 obtain⟨C,hC⟩:∃ C:Hp,C=fun b=>if b=d∨b=t then none else H9 b:=⟨_,rfl⟩
 have CH:∀ b u,b≠d->b≠t->H9 b=some u->C b=some u:=fun b u n n2 z=>by rw[hC];show(if b=d∨b=t then none else H9 b)=_;rw[if_neg (fun y=>y.elim n n2)];exact z
 have Cd:C d=none:=by rw[hC];show(if d=d∨d=t then none else H9 d)=_;rw[if_pos (.inl rfl)]
 have Ct:C t=none:=by rw[hC];show(if t=d∨t=t then none else H9 t)=_;rw[if_pos (.inr rfl)]
 have sC:Same C H9:=fun b u z=>by
  rw[hC]at z
  have z':(if b=d∨b=t then none else H9 b)=some u:=z
  by_cases n:b=d∨b=t
  ·rw[if_pos n]at z';cases z'
  ·rw[if_neg n]at z';exact z'
 have s1C:Same H1 C:=fun b u z=>CH b u (ar z hd) (ar z ht1) (s19 _ _ z)
 have nl:∀{b:Addr}{ys:List V},H9 b=some (.lst ys)->b≠d/\b≠t:=fun{b ys} z=>⟨fun y=>(by rw[y,hd9]at z;cases z),fun y=>(by rw[y,ht9]at z;cases z)⟩
 have C8:=CH _ _ (nl h8).1 (nl h8).2 h8
 have Cq7:=CH _ _ (nl hq7').1 (nl hq7').2 hq7'
 have Cq:=s1C _ _ hq
 have rbC:bE C zs (dk es ts od' od'.length):=⟨rb9.1,fun i l e=>by
  obtain⟨a,a1,a2⟩:=rb9.2 i l e
  exact⟨a,a1,CH _ _ (nl a2).1 (nl a2).2 a2⟩⟩
 have wtC:=wt.mono (s1.trans s1C)
 have tkC:=tk.mono (s1.trans s1C)
 have hpC:=(s1.trans s1C) _ _ hp
 have h1C:=(s1.trans s1C) _ _ h1
 refine⟨q,q7,q8,rfl,⟨_,SqL.of (s19 _ _ hq)⟩,⟨_,SqL.of hq7'⟩,⟨_,SqL.of h8⟩,GY (K:=K) (xs:=(cI od').map V.int) (ys:=zs) (zs:=(ms.drop 1).map iV) m (fun i σ HA=>∃ v6 v7 v8 d9 kv T9,σ = [some (.ref p),some v,some (.ref q),some (.ref d9),v6,v7,v8]/\Same C HA/\C d9=none/\HA d9=some (.dK kv)/\DcAt (fun u D=>∃ a,u=.ref a/\a≠d9/\C a=none/\HA a=some (.dK (repD D))) kv T9/\T9.length<=2^i/\(∀ M,cE es (mk (od'.take i)) M->TblH (lays (od'.take i)) M (cstB es (prT es ks) (mk (od'.take i))) T9)) ⟨_,_,_,d,_,[(0,[(0,1)])],rfl,sC,Cd,hd9,⟨rfl,fun i s a e=>?_⟩,JQ _,fun M hM=>?_⟩ (by rw[JS];omega) (by omega) zl (fun i σ HA _ ⟨_,_,_,_,_,_,_,z,_⟩=>⟨SqL.of (z _ _ Cq),SqL.of (z _ _ Cq7),SqL.of (z _ _ C8)⟩) ?_ ?_⟩
 ·match i,e with
  |0,e=>cases e;exact⟨.ref t,rfl,t,rfl,Ne.symm dt,Ct,ht9⟩
  |i+1,e=>cases e
 ·have e0:M=0:=cE.one hM (HG es)
  rw[e0,NL]
  exact FV es (prT es ks)
 ·rintro i x y z σ HA T9' hx hy hz ⟨v6,v7,v8,d9,kv,T9,rfl,sA,nd9,hd9,dc9,tl9,tb9⟩ hT
  rw[JR]at hx hz
  obtain⟨x',hx',rfl⟩:=Kl.mp hx
  obtain⟨F',hF',rfl⟩:=Kl.mp hz
  unfold cI at hx'
  rw[JR]at hx'
  obtain⟨pl,hpl,rfl⟩:=Kl.mp hx'
  rw[LS]at hF'
  have hi:i<m:=by
   have:=(JK.mp hF').1
   omega
  have hFm:ms[i+1]?=some F':=by
   rw[Nat.add_comm]
   exact hF'
  have hb:=ob pl (JM hpl)
  have et:od'.take (i+1)=od'.take i++[pl]:=by rw[Kw,hpl];rfl
  have gd:od'.getD i 0=pl:=by rw[K3,hpl];rfl
  obtain⟨row,hrow⟩:∃ row,ts[pl]?=some row:=⟨_,JL (by rw[tn.len];exact hb)⟩
  have era:BM ts (od'.getD i 0)=row:=by unfold BM;rw[gd,hrow];rfl
  obtain⟨bk,hbk⟩:∃ bk,bk=ji es (mk (od'.take (i+1))) row:=⟨_,rfl⟩
  have hbr:(dk es ts od' od'.length)[i]?=some bk:=by
   unfold dk
   rw[JR,Mm (by omega),hbk,← era]
   rfl
  obtain⟨r,r1,r2⟩:=rbC.2 i bk hbr
  rw[hy]at r1
  cases r1
  have fr':cE es (mk (od'.take (i+1))) F':=fr.2 (i+1) F' hFm
  obtain⟨F0,hF0⟩:∃ F0,ms[i]?=some F0:=⟨_,JL (by omega)⟩
  have fr0:cE es (mk (od'.take i)) F0:=fr.2 i F0 hF0
  have tb:=tb9 F0 fr0
  have hpn:pl∉od'.take i:=fun z=>by
   obtain⟨j,hj⟩:=K9 z
   rw[LA]at hj
   split at hj
   ·rename_i hji
    obtain⟨a1,a2⟩:=JK.mp hj
    obtain⟨b1,b2⟩:=JK.mp hpl
    exact absurd (a2.trans b2.symm) (Ll.mp ond j i a1 b1 hji)
   ·cases hj
  have p256:2^i<=256:=KR (MD (by decide) (show i<=8 by omega)) (by decide)
  have T256:T9.length<=256:=KR tl9 p256
  have L256:lenT T9<=256:=by
   have:=tb.len
   rw[GN,Ku,Lx (by omega)]at this
   exact KR this p256
  have bkl:bk.length<=100:=by
   have h1:bk.length<=row.length:=by rw[hbk];unfold ji;exact List.length_filter_le _ _
   have h2:row.length<=es.length:=by
    refine d7 (tn.nd pl row hrow) fun t ht=>?_
    obtain⟨e,he,_⟩:=(tn.mem pl row hrow t).mp ht
    exact(JK.mp he).1
   omega
  have sT:=ao hT (.tup [.int ((pl:Nat):Int),.ref r,iV F'])
  have s9T:=sA.trans sT
  have hd9T:=sT _ _ hd9
  have dc9T:DcAt (fun u D=>∃ a,u=.ref a/\a≠d9/\C a=none/\upd HA T9' (.tup [.int ((pl:Nat):Int),.ref r,iV F']) a=some (.dK (repD D))) kv T9:=dc9.imp fun v D ⟨a,e1,e2,e3,e4⟩=>⟨a,e1,e2,e3,sT _ _ e4⟩
  refine⟨T9',_,rfl,SqT.of ae,rfl,_,_,rfl,_,_,rfl,_,_,rfl,rfl,?_⟩
  generalize upd HA T9' (.tup [.int ((pl:Nat):Int),.ref r,iV F'])=HA at sT s9T hd9T dc9T
  refine⟨_,rfl,_,rfl,_,rfl,r,rfl,⟨_,SqL.of (s9T _ _ r2)⟩,df (K:=K) (xs:=bk.map iV) (fun j ys HB=>HB=HA/\ra PL PS HA es ks ys (bk.take j)) (K2 (au (by rw[JS];omega))) ⟨rfl,rfl,fun j t e=>by simp at e⟩ (fun j ys HB _ z=>by rw[z.1];exact SqL.of (s9T _ _ r2)) ?_ ?_⟩
  ·rintro j x ys HB hx ⟨rfl,tr⟩
   rw[JR]at hx
   obtain⟨t,ht,rfl⟩:=Kl.mp hx
   have htm:t∈row:=by
    have:=JM ht
    rw[hbk]at this
    exact(Mq.mp this).1
   obtain⟨e,he,_⟩:=(tn.mem pl row hrow t).mp htm
   obtain⟨k,hk⟩:∃ k,ks[t]?=some k:=⟨_,JL (by have:=(JK.mp he).1;omega)⟩
   obtain⟨p',dx',x1,x2⟩:=(tkC.mono s9T).2 t e k he hk
   refine⟨_,rfl,p,WC,dx,fs,_,rfl,s9T _ _ hpC,cw.cl,cw.n2,l1,_,rfl,q1,xs,_,_,rfl,rfl,SqL.of (s9T _ _ h1C),aM x1,rfl,?_⟩
   refine⟨by rw[JO,tr.1,Kw,ht,JO];rfl,fun n u e2=>?_⟩
   rw[Kw,ht]at e2
   have bl':(bk.take j).length=ys.length:=tr.1.symm
   by_cases hn:n<(bk.take j).length
   ·rw[JU hn]at e2
    obtain⟨e',k',p2,dx2,y1,y2,y3,y4⟩:=tr.2 n u e2
    exact⟨e',k',p2,dx2,y1,y2,by rw[JU (by omega)];exact y3,y4⟩
   ·rw[JP (by omega)]at e2
    have e3:n=(bk.take j).length:=by
     have:=(JK.mp e2).1
     rw[show(Option.toList (some t)).length=1 from rfl]at this
     omega
    subst e3
    rw[Kr]at e2
    cases e2
    exact⟨e,k,p',dx',he,hk,by rw[bl',JP (JQ _),Kr];rfl,x2⟩
  rintro ys HB _ ⟨rfl,tr⟩ D hD
  rw[JS,KP]at tr
  have sD:=ao hD (.lst ys)
  refine⟨_,rfl,d9,D,pl,F',kv,T9,ys,es,ks,bk,rfl,sD _ _ hd9T,dc9T.imp fun v D' ⟨a,e1,e2,_,e4⟩=>⟨a,e1,e2,sD _ _ e4⟩,fun s' D' hD'=>⟨_,tb.hs s' D' hD'⟩,L256,T256,by omega,ae,tr.mono sD,bkl,fun g kv2 G HC sX gn fn gr=>?_⟩
  have inC:∀ b,isIn kv b->C b=none:=fun b ⟨j,k,e⟩=>by
   obtain⟨_,_,_,_,a,e1,_,e3,_⟩:=dc9T.atK e
   cases e1
   exact e3
  have sCC:Same C HC:=fun b u z=>sX b u (fun y=>by rw[y,nd9]at z;cases z) (fun y=>by rw[inC b y]at z;cases z) (sD _ _ (s9T _ _ z))
  have bk0:∀ b,upd HB D (.lst ys) b=none->C b=none:=fun b z=>by
   cases y:C b with
   |none=>rfl
   |some u=>rw[sD _ _ (s9T _ _ y)]at z;cases z
  refine⟨_,_,_,g,kv2,G,rfl,sCC,bk0 g gn,fn.d,fn.w.imp fun v D' ⟨a,e1,e2,e3⟩=>⟨a,e1,fun y=>e2 (.inr y),bk0 a ?_,e3⟩,?_,fun M hM=>?_⟩
  ·cases y:upd HB D (.lst ys) a with
   |none=>rfl
   |some u=>exact absurd (.inl (by rw[y];exact fun z=>by cases z)) e2
  ·have:=gr.ln
   rw[lV]at this
   rw[Nat.pow_succ]
   omega
  ·have eM:M=F':=cE.one hM fr'
   subst eM
   rw[et]at hM hbk ⊢
   refine Dj (prc:=prcB es ks bk) tb (fun L hL b=>E2 fr0 hM hpn hL b) (fun L hL b=>?_) gr
   rw[Fp tn (IJ kl) fr0 hpn hL b hrow,← hbk]
   rfl
 rintro σ HA ⟨v6,v7,v8,d9,kv,T9,rfl,sA,nd9,hd9,dc9,tl9,tb9⟩
 have etm:od'.take m=od':=Kz (by omega)
 rw[etm]at tb9
 have tb:=tb9 0 (E3 opm hbd)
 obtain⟨⟨s0,D0⟩,hD0,es0⟩:=Ke.mp (tb.has 0 ((nV opm).mpr (Nat.two_pow_pos m)))
 have es0':s0=0:=by rw[Nr]at es0;exact es0
 subst es0'
 have hst:=tb.hs 0 D0 hD0
 have hst2:Hst D0 (hA es ks m):=hst.cg fun x=>by
  unfold hL hA
  rw[uO (Es opm)]
  refine aF fun L _=>?_
  rw[Nr,decide_eq_true rfl,Mb,JD opm hbd]
 obtain⟨u,hu',a,rfl,ad,Ca,ha⟩:=dc9.get tb.nd hD0
 refine⟨_,rfl,d9,.ref a,rfl,.inl ⟨kv,.inl ((0:Nat):Int),.inl hd9,rfl,hu'.symm⟩,.inr (.inr (.inl ⟨rfl,.inl ⟨_,ha⟩⟩)),a,.dK (repD D0),rfl,rfl,ha,trivial,fun vw hvw=>?_⟩
 have sv:=ao hvw (dr vw a)
 refine⟨vw,a,_,D0,rfl,ae,sv _ _ ha,rfl,hst2.nd,fun l out ps' H' k1 nl hl pm' up ol rd=>?_⟩
 have sHA:Same H HA:=(s1.trans s1C).trans sA
 have sF:Same H H':=(sHA.trans sv).trans k1
 refine kk l out ps' H' sF ?_ hl ⟨ol,fun i e he=>?_⟩ ⟨up,hst2.perm pm'⟩
 ·exact vV (sHA.trans sv) nl
 ·obtain⟨t',e1,e2⟩:=rd i e he
  exact⟨.ref t',e1,t',rfl,e2⟩
end
end K8
namespace K8
open PySem L2
local macro_rules | `(tactic| walk_at "cc") => `(tactic| first | exact ⟨by decide, by decide⟩ | (show (0 : Int) < _; decide) | (show (0 : Int) < _; omega) | (show (0 : Int) ≤ _; omega) | exact ⟨by decide, by decide, by decide⟩ | exact ⟨by omega, by omega, by decide⟩ | exact Or.inl ⟨by decide, by decide⟩ | exact Or.inl ⟨by omega, by omega⟩)
local macro_rules | `(tactic| walk_at "rd") => `(tactic| repeat (first | refine ⟨_, rfl, ?_⟩ | refine ⟨_, _, rfl, rfl, ?_⟩ | refine ⟨rfl, ?_⟩ | (refine ⟨?cc, ?_⟩; (case cc => walk_at "cc"))))
theorem bitD(N p:Nat):((N:Int)/2^((p:Nat):Int).toNat)%2=if N.testBit p=true then 1 else 0:=by
 have:=bitN N p
 unfold bit at this
 exact this
theorem II{es:En}{ks:Kn}{t L:Nat}{e:Nat×Nat}{k:Int×Int}(he:es[t]?=some e)(hk:ks[t]?=some k)(h01:k.1=0∨k.1=1):prT es ks t L=if((L:Int)/2^((e.1:Nat):Int).toNat+(L:Int)/2^((e.2:Nat):Int).toNat+k.1)%2=1 then k.2 else 0:=by
 have hs:stg ks t=k.2:=by unfold stg;rw[hk]
 unfold prT
 rw[U_at he hk,hs]
 have b1:=bitD L e.1
 have b2:=bitD L e.2
 have key:(unp (decide (k.1=1)) (e.1:Int) (e.2:Int) (L:Int)=true)↔((L:Int)/2^((e.1:Nat):Int).toNat+(L:Int)/2^((e.2:Nat):Int).toNat+k.1)%2=1:=by
  unfold unp bit
  generalize (L:Int)/2^((e.1:Nat):Int).toNat=x at b1 ⊢
  generalize (L:Int)/2^((e.2:Nat):Int).toNat=y at b2 ⊢
  rcases h01 with z | z
  ·rw[z,decide_eq_false (show ¬ ((0:Int)=1) by decide)]
   show(!decide (V.int ((x%2+y%2)%2)=V.int 0))=true↔_
   by_cases c:(x%2+y%2)%2=0
   ·rw[decide_eq_true (congrArg V.int c)]
    constructor
    ·intro q;cases q
    ·intro q;omega
   ·rw[decide_eq_false (fun q=>c (V.int.inj q))]
    constructor
    ·intro _;omega
    ·intro _;rfl
  ·rw[z,decide_eq_true (show((1:Int)=1) from rfl)]
   show(!decide (V.int ((x%2+y%2)%2)=V.int 1))=true↔_
   by_cases c:(x%2+y%2)%2=1
   ·rw[decide_eq_true (congrArg V.int c)]
    constructor
    ·intro q;cases q
    ·intro q;omega
   ·rw[decide_eq_false (fun q=>c (V.int.inj q))]
    constructor
    ·intro _;omega
    ·intro _;rfl
 by_cases c:unp (decide (k.1=1)) (e.1:Int) (e.2:Int) (L:Int)=true
 ·rw[if_pos c,if_pos (key.mp c)]
 ·rw[if_neg c,if_neg fun z=>c (key.mpr z)]
def Ir:Sp:=fun vs H Q _=>∃(t pe pt pk:Addr)(m L:Nat)(es:En)(ts:List (List Nat))(ks:Kn),vs = [.ref t,.int (L:Int)]/\mV H t pe pt pk m es ts ks/\Q (.int (totC es ks L)) H
def Dr:Sp:=fun vs H Q _=>∃(v:V)(p:Pr),vs = [v]/\PrAt H v p/\Q (.bl true) H
def Dx(PL PS WC:Addr):Sp:=fun vs H Q _=>∃(p o:Addr)(b:Int)(m:Nat)(es:En)(ts:List (List Nat))(ks:Kn)(od:List Nat),vs = [.ref p,.int b,.ref o]/\WebT PL PS WC H p m es ts ks/\ks.length=es.length/\br m es ts/\es.length<=100/\m<=9/\H o=some (.lst (od.map iV))/\od.Perm (KJ m) /\
 ∀(q:Addr)(rows:List V)(D:Hs)(H':Hp),Same H H'->H q=none->H' q=some (.lst rows)->LsAt PrAt H' rows D->Hist es ks m D->Q (.ref q) H'
section
variable{P:Program}{w:World}{K:JN}{mg:Str->Option Value}{base:Heap}
theorem yp:aC ["found"] ["found"] (ai dM):=⟨rfl,rfl,rfl,by decide +kernel,rfl,by decide +kernel,by decide +kernel⟩
theorem IU{f fw:Addr}{fd fdw:FuncData} (F:Fun K "_law_pair" "_law_pair" dM f fd) (T:Txt mg) (G_law_whole:Cal P w K mg base 1 "_law_whole" ["found"] Iq fw fdw):FnOk P w K mg base CX0 2 f fd ["found"] Dr:=by
 refine F.ok yp (fun vs H Q E h=>?_) (fun cdv A outer s H vs Q E hr h=>?_)
 ·obtain⟨v,p,rfl,_⟩:=h
  rfl
 obtain⟨v,p,rfl,⟨t,rfl,ht⟩,k⟩:=h
 refine⟨_,(ag (dz (PW.pt (so (DH (AZ (aE oj (by rfl) T.n_isinstance dH (aa (pv 0) (aa (sP (v:=.ty "tuple") rfl T.n_tuple G6 rfl) aj))))) (qN (aL oG (aE ax (by rfl) T.n_len bG (aa (pv 0) aj)) ah (aU _))))) (aq (aQ DT)) bg)
   (aq (aQ (Hu (aH G_law_whole.ok (hr.mono (by decide)) rfl G_law_whole.mg G_law_whole.kp G_law_whole.bn .nil a9 (aa (aD aJ (pv 0) ah (fun _ _=>rfl)) aj)) (Hq (aH G_law_whole.ok (hr.mono (by decide)) rfl G_law_whole.mg G_law_whole.kp G_law_whole.bn .nil a9 (aa (aD aJ (pv 0) ah (fun _ _=>rfl)) aj))))))),?_⟩
 refine⟨_,rfl,_,_,_,_,_,rfl,TyOf.tup ht,Or.inl ⟨_,rfl,rfl⟩,kit_tt K,_,rfl,iteF ?_⟩
 refine⟨_,rfl,t,_,rfl,.inr (SqT.of ht),rfl,_,rfl,EE rfl ?_⟩
 refine⟨_,rfl,t,_,0,_,rfl,rfl,SqT.of ht,at0,p.1,rfl,_,rfl,iteT ?_⟩
 exact⟨_,rfl,t,_,1,_,rfl,rfl,SqT.of ht,at1,p.2,rfl,k⟩
theorem ve:aC ["web","way","order"] ["web","way","order"] (ai cQ):=⟨rfl,rfl,rfl,by decide +kernel,rfl,by decide +kernel,by decide +kernel⟩
theorem ok_ask{f f2 PL PS WC:Addr}{fd d2:FuncData} (F:Fun K "_law_asked" "_law_asked" cQ f fd) (G_worths:CalX P w K mg base 5 "worths" ["web","order"] (spWs PL PS WC) f2 d2) (bn1:iL K d2 ["web","order"] [.none]):FnOk P w K mg base (CXr P w) 6 f fd ["web","way","order"] (Dx PL PS WC):=by
 refine F.okX ve (fun vs H Q E h=>?_) (fun cdv A outer s H vs Q E hr h=>?_)
 ·obtain⟨p,o,b,m,es,ts,ks,od,rfl,_⟩:=h
  rfl
 obtain⟨p,o,b,m,es,ts,ks,od,rfl,wt,kl,tn,e100,m9,ho,pm,kk⟩:=h
 have pmI:(cI od).Perm (rI m):=pm.map _
 have ol:od.length=m:=by rw[pm.length_eq,Lg]
 have fin:∀ v ns,Told m v H ns->ns.Perm (rI m)->spWs PL PS WC [.ref p,v] H Q E:=fun v ns hv hn=>⟨p,m,es,ts,ks,v,ns,rfl,wt,kl,tn,e100,m9,hv,hn,kk⟩
 refine⟨_,(ag (dz (aL lj (pv 1) ah (aU _)) (aq (aQ (iU G_worths.ok (hr.mono (by decide)) rfl G_worths.mg G_worths.kp bn1 (dvs:=[.non]) (.cons rfl .nil) mq rfl (aa (pv 0) aj)))) bg)
   (ag (dz (aL lj (pv 1) ah (aU _)) (aq (aQ (iU G_worths.ok (hr.mono (by decide)) rfl G_worths.mg G_worths.kp G_worths.bn .nil mq rfl (aa (pv 0) (aa Hr aj))))) bg)
   (aq (aQ (iU G_worths.ok (hr.mono (by decide)) rfl G_worths.mg G_worths.kp G_worths.bn .nil mq rfl (aa (pv 0) (aa (pv 2) aj))))))),?_⟩
 have bare:=fin .non (rI m) (.inl ⟨rfl,rfl⟩) (MA _)
 refine⟨_,rfl,rfl,_,rfl,ite2 (fun c=>?_) (fun c=>?_)⟩
 ·exact⟨_,rfl,bare⟩
 refine⟨_,rfl,rfl,_,rfl,ite2 (fun c=>?_) (fun c=>?_)⟩
 ·exact⟨_,rfl,bare⟩
 exact⟨_,rfl,_,rfl,fin (.ref o) (cI od) (.inr ⟨o,rfl,by rw[cI_V];exact ho,by unfold cI;rw[JS];omega⟩) pmI⟩
theorem dZ:aC ["built","laying","total","k","down"] ["built","laying"] (ai dO):=⟨rfl,rfl,rfl,by decide +kernel,rfl,by decide +kernel,by decide +kernel⟩
theorem ok_lc2{f:Addr}{fd:FuncData} (F:Fun K "_law_cost" "_law_cost" dO f fd) (T:Txt mg):FnOk P w K mg base CX0 1 f fd ["built","laying"] Ir:=by
 refine F.ok dZ (fun vs H Q E h=>?_) (fun cdv A outer s H vs Q E hr h=>?_)
 ·obtain⟨t,pe,pt,pk,m,L,es,ts,ks,rfl,_⟩:=h
  rfl
 obtain⟨t,pe,pt,pk,m,L,es,ts,ks,rfl,bp,kk⟩:=h
 have few:=bp.few
 have kl:=bp.kl
 obtain⟨ht,⟨⟨ys,hpe,hE⟩,_,g⟩,⟨ws,hpk,hT⟩,_,_⟩:=id bp
 have hyl:ys.length=es.length:=hE.1
 have hwl:ws.length=ks.length:=hT.1
 refine⟨_,(ag (av (i:=2) dZ.nd rfl (Or.inl rfl) ah)
   (ag (bV PassesOwn.never rfl (bW rfl T.n_range (aa (aE ax (by rfl) T.n_len bG (aa (aD aJ (pv 0) ah (fun _ _=>rfl)) aj)) aj)) (aP (i:=3) dZ.nd rfl (Or.inl rfl)) (ag (av (i:=4) dZ.nd rfl (Or.inl rfl) (ay bR (ay qQ (pv 1) (aD aJ (aD aN (aD aJ (pv 0) ah (fun _ _=>rfl)) (pv 3) (fun _ _=>rfl)) ah (fun _ _=>rfl))) (ay qQ (pv 1) (aD aJ (aD aN (aD aJ (pv 0) ah (fun _ _=>rfl)) (pv 3) (fun _ _=>rfl)) ah (fun _ _=>rfl)))))
   (aq (dz (aL lj (ay bQ (ay bR (pv 4) (aD aJ (aD aN (aD aJ (pv 0) ah (fun _ _=>rfl)) (pv 3) (fun _ _=>rfl)) ah (fun _ _=>rfl))) ah) ah (aU _)) (aq (av (i:=2) dZ.nd rfl (Or.inl rfl) (ay bR (pv 2) (aD aJ (aD aN (aD aJ (pv 0) ah (fun _ _=>rfl)) (pv 3) (fun _ _=>rfl)) ah (fun _ _=>rfl))))) bg))))
   (aq (aQ (pv 2))))),?_⟩
 refine⟨_,rfl,t,_,0,_,rfl,rfl,SqT.of ht,at30,pe,ys,rfl,.inl (SqL.of hpe),_,rfl,by omega,by omega,de (n:=(ys.length:Int).toNat) (fun i σ H2=>∃ v4 v5,σ = [some (.ref t),some (.int (L:Int)),some (.int (sumL (KJ i) fun t=>prT es ks t L)),v4,v5]/\H2=H) ⟨_,_,rfl,rfl⟩ ?_ ?_⟩
 ·rintro i σ H2 hi ⟨v4,v5,rfl,rfl⟩
  rw[Kq,hyl]at hi
  have e0:(0:Int)+(i:Int)=(i:Int):=Lb _
  rw[e0]
  obtain⟨e,he⟩:∃ e,es[i]?=some e:=⟨_,JL hi⟩
  obtain⟨k,hk⟩:∃ k,ks[i]?=some k:=⟨_,JL (by omega)⟩
  obtain⟨t1,y1,y2⟩:=hE.2 i e he
  obtain⟨k01,_,t2,z1,z2⟩:=hT.2 i k hk
  have sx:(sumL (KJ (i+1)) fun t=>prT es ks t L)=(sumL (KJ i) fun t=>prT es ks t L)+prT es ks i L:=by
   rw[ND,iP,aB,eQ,Ld]
  have pv:=II (L:=L) he hk k01
  refine⟨_,rfl,_,rfl,t,_,0,_,rfl,rfl,SqT.of ht,at30,_,rfl,pe,ys,_,_,rfl,rfl,SqL.of hpe,aM y1,t1,_,0,_,rfl,rfl,SqT.of y2,at0,_,_,rfl,rfl,by omega,?_⟩
  refine⟨_,rfl,_,rfl,t,_,0,_,rfl,rfl,SqT.of ht,at30,_,rfl,pe,ys,_,_,rfl,rfl,SqL.of hpe,aM y1,t1,_,1,_,rfl,rfl,SqT.of y2,at1,_,_,rfl,rfl,by omega,?_⟩
  refine⟨_,_,rfl,rfl,_,rfl,_,rfl,t,_,2,_,rfl,rfl,SqT.of ht,at32,_,rfl,pk,ws,_,_,rfl,rfl,SqL.of hpk,aM z1,t2,_,0,_,rfl,rfl,SqT.of z2,at0,_,_,rfl,rfl,_,_,rfl,rfl,(by show(0:Int)<2;decide),rfl,_,rfl,?_⟩
  refine ite2 (fun c2=>?_) (fun c2=>?_)
  ·have c2':=V.int.inj (of_decide_eq_true c2)
   rw[if_pos c2']at pv
   refine⟨_,rfl,_,rfl,t,_,2,_,rfl,rfl,SqT.of ht,at32,_,rfl,pk,ws,_,_,rfl,rfl,SqL.of hpk,aM z1,t2,_,1,_,rfl,rfl,SqT.of z2,at1,_,_,rfl,rfl,?_⟩
   refine⟨some (.int (i:Int)),some (.int ((L:Int)/2^((e.1:Nat):Int).toNat+(L:Int)/2^((e.2:Nat):Int).toNat)),?_,rfl⟩
   rw[sx,pv]
   rfl
  ·have c2':¬ _:=fun z=>c2 (decide_eq_true (congrArg V.int z))
   rw[if_neg c2']at pv
   refine⟨some (.int (i:Int)),some (.int ((L:Int)/2^((e.1:Nat):Int).toNat+(L:Int)/2^((e.2:Nat):Int).toNat)),?_,rfl⟩
   rw[sx,pv,Ld]
   rfl
 ·rintro σ H2 ⟨v4,v5,rfl,rfl⟩
  rw[Kq,hyl]
  exact⟨_,rfl,kk⟩
end
end K8
namespace K8
open PySem L2
local macro_rules | `(tactic| walk_at "cc") => `(tactic| first | exact ⟨by decide, by decide⟩ | (show (0 : Int) < _; decide) | (show (0 : Int) < _; omega) | (show (0 : Int) ≤ _; omega) | exact ⟨by decide, by decide, by decide⟩ | exact ⟨by omega, by omega, by decide⟩ | exact Or.inl ⟨by decide, by decide⟩ | exact Or.inl ⟨by omega, by omega⟩)
local macro_rules | `(tactic| walk_at "rd") => `(tactic| repeat (first | refine ⟨_, rfl, ?_⟩ | refine ⟨_, _, rfl, rfl, ?_⟩ | refine ⟨rfl, ?_⟩ | (refine ⟨?cc, ?_⟩; (case cc => walk_at "cc"))))
theorem IP{o:List Nat}{m:Nat}(ol:o.length=m)(nd:o.Nodup)(ob:∀ x∈o,x<m):o.Perm (KJ m):=by
 refine(Lj nd Lz).mpr fun x=>⟨fun h=>KU.mpr (ob x h),fun h=>?_⟩
 by_cases z:x∈o
 ·exact z
 ·exfalso
  have:=d7 (Kc.mpr ⟨z,nd⟩) (N:=m) fun y hy=>by
   rcases JT.mp hy with u | u
   ·rw[u];exact KU.mp h
   ·exact ob y u
  rw[Kt]at this
  omega
theorem Hst.sub{D E:Hs}{g:Int->Int}(h:Hst D g)(k:Hst E g):∀ e∈D,e∈E:=fun e he=>by
 obtain⟨a,b⟩:=h.ex e.1 e.2 he
 obtain⟨y,hy,ey⟩:=Ke.mp (k.al e.1 (by omega))
 have ey':y.1=e.1:=ey
 have:=(k.ex y.1 y.2 hy).1
 rw[ey',← a]at this
 have:y=e:=Prod.ext ey' this
 rw[← this]
 exact hy
theorem Hst.ndp{D:Hs}{g:Int->Int}(h:Hst D g):D.Nodup:=(LG.mp h.nd).imp fun n e=>n (by rw[e])
theorem Hst.two{D E:Hs}{g:Int->Int}(h:Hst D g)(k:Hst E g):D.Perm E:=(Lj h.ndp k.ndp).mpr fun e=>⟨h.sub k e,k.sub h e⟩
theorem Il{α:Type}{l:List α}{f:α->Int}(h:∀ x∈l,0<=f x):0<=sumL l f:=by
 have:=oy (l:=l) (f:=fun _=>(0:Int)) (g:=f) h
 rw[bH]at this
 exact this
theorem tot_nn{es:En}{ks:Kn}(k0:∀ (t:Nat) (k:Int×Int),ks[t]?=some k->0<=k.2)(L:Nat):0<=totC es ks L:=by
 unfold totC
 refine Il fun t _=>?_
 unfold prT
 split
 ·unfold stg
  cases z:ks[t]? with
  |none=>exact Lr _
  |some k=>exact k0 t k z
 ·exact Lr _
theorem hA_ex{es:En}{ks:Kn}{m:Nat}{x:Int}(h:hA es ks m x≠0):∃ L∈lays (KJ m),totC es ks L=x:=by
 by_cases z:∃ L∈lays (KJ m),totC es ks L=x
 ·exact z
 ·refine absurd ?_ h
  unfold hA
  refine(aF fun L hL=>?_).trans (bH (lays (KJ m)))
  rw[decide_eq_false fun y=>z ⟨L,hL,y⟩]
  rfl
theorem Hist.nn{es:En}{ks:Kn}{m:Nat}{D:Hs}(h:Hist es ks m D)(k0:∀ (t:Nat) (k:Int×Int),ks[t]?=some k->0<=k.2):∀ e∈D,0<=e.1/\0<e.2:=fun e he=>by
 obtain⟨a,b⟩:=h.hs.ex e.1 e.2 he
 obtain⟨L,_,q⟩:=hA_ex (show hA es ks m e.1≠0 by omega)
 rw[← q]
 exact⟨tot_nn k0 L,b⟩
theorem BP(m:Nat):(KJ (2^m)).Perm (lays (KJ m)) :=
 (Lj Lz (tI _ _ rfl Lz)).mpr fun L=>by rw[nV (MA _),KU]
def restA(K:JN):TS:=fun D σ H=>∃(a t pe pt pk:Addr)(c:Int)(ns:List Int)(m:Nat)(es:En)(ts:List (List Nat))(ks:Kn),σ = [some (.ref a),some (.int c),some (.ref t),none,none,none,none,none,none,none,none,none] /\
 SqL K H a (ns.map V.int)/\mV H t pe pt pk m es ts ks/\0<es.length/\∀ H',D.rt (.bl true) H'
def restB(K:JN):TS:=fun D σ H=>∃(a t pe pt pk d:Addr)(c:Int)(ns:List Int)(m:Nat)(es:En)(ts:List (List Nat))(ks:Kn)(Dd:Hs)(v5 v6:Option V),σ = [some (.ref a),some (.int c),some (.ref t),some (.int (m:Int)),some (.ref d),v5,v6,none,none,none,none,none] /\
 SqL K H a (ns.map V.int)/\mV H t pe pt pk m es ts ks/\0<es.length/\H d=some (.dK (repD Dd))/\Hst Dd (hA es ks m)/\∀ H',D.rt (.bl true) H'
def restC(K:JN):TS:=fun D σ H=>∃(a t d qo qh qf:Addr)(c:Int)(m:Nat)(od:List Nat)(rows:List V)(Dd De:Hs)(g:Int->Int)(v5 v6:Option V),σ = [some (.ref a),some (.int c),some (.ref t),some (.int (m:Int)),some (.ref d),v5,v6,some (.ref qo),some (.ref qh),some (.ref qf),none,none] /\
 H qo=some (.lst (od.map iV))/\H qh=some (.lst (od.map iV))/\H d=some (.dK (repD Dd))/\Hst Dd g/\H qf=some (.lst rows)/\LsAt PrAt H rows De/\Hst De g/\(De.Pairwise fun x y=>x.1<y.1)/\(∀ e∈De,0<=e.1)/\∀ H',D.rt (.bl true) H'
section
variable{P:Program}{w:World}{K:JN}{mg:Str->Option Value}{base:Heap}
theorem eU:aC ["script","way","built","many","due","laying","cost","order","handed","found","last","row"] ["script"] (ai sh):=⟨rfl,rfl,rfl,by decide +kernel,rfl,by decide +kernel,by decide +kernel⟩
theorem ok_law{f fB fC fo fW fF fc fp PL PS WC:Addr}{fd dB dC do' dW dF dc dp:FuncData} (F:Fun K "law" "law" sh f fd) (T:Txt mg) (G_law_built:Cal P w K mg base 5 "_law_built" ["script","first","most"] (rR K) fB dB) (G_law_cell:Cal P w K mg base 1 "_law_cell" ["script","k"] (AX K) fC dC) (G_law_order:Cal P w K mg base 1 "_law_order" ["cell","many"] rO fo do')
  (G_law_web:Cal P w K mg base 7 "_law_web" ["built"] (Dt PL PS WC) fW dW) (G_law_asked:CalX P w K mg base 6 "_law_asked" ["web","way","order"] (Dx PL PS WC) fF dF)
  (G_law_cost:Cal P w K mg base 1 "_law_cost" ["built","laying"] Ir fc dc) (G_law_pair:Cal P w K mg base 2 "_law_pair" ["found"] Dr fp dp):FnOk P w K mg base CX0 8 f fd ["script"] (FZ K):=by
 refine F.ok eU (fun vs H Q E h=>?_) (fun cdv A outer s H vs Q E hr h=>?_)
 ·obtain⟨a,ns,rfl,_⟩:=h
  rfl
 obtain⟨a,ns,rfl,hS,h63,kk⟩:=h
 have hu64:=hr.units
 have hu:=Cv hr
 refine⟨_,(ag (av (i:=1) eU.nd rfl (Or.inl rfl) (aH G_law_cell.ok (hr.mono (by decide)) rfl G_law_cell.mg G_law_cell.kp G_law_cell.bn .nil a9 (aa (pv 0) (aa ah aj))))
   (ag (av (i:=2) eU.nd rfl (Or.inl rfl) (aH G_law_built.ok (hr.mono (by decide)) rfl G_law_built.mg G_law_built.kp G_law_built.bn .nil a9 (aa (pv 0) (aa ah (aa ah aj)))))
   (ag (dz (aL lj (ay bQ (pv 1) ah) ah (aU _)) (aq (av (i:=2) eU.nd rfl (Or.inl rfl) (gM (aa (aD aJ (pv 2) ah (fun _ _=>rfl)) (aa (aD aJ (pv 2) ah (fun _ _=>rfl)) (aa (gU rfl (fr:=[]) (by exact bX.plain (by rfl) (by decide +kernel) (by rfl) (by decide +kernel) (by rfl) (by decide +kernel)) (bD (aD aJ (pv 2) ah (fun _ _=>rfl))) (fun C ex s H=>(gM (aa (aD (ED (K:=K) rfl) (pv 0) ah (fun _ _=>rfl)) (aa (ay bQ (aD (ED (K:=K) rfl) (pv 0) ah (fun _ _=>rfl)) ah) aj))))) aj)))))) bg)
   (yz (t2:=restA K) (ag (av (i:=3) eU.nd rfl (Or.inl rfl) (aE ax (by rfl) T.n_len bG (aa (aD aJ (pv 2) ah (fun _ _=>rfl)) aj)))
   (ag (av (i:=4) eU.nd rfl (Or.inl rfl) ko)
   (ag (bV PassesOwn.never rfl (bW rfl T.n_range (aa (ay jk ah (pv 3)) aj)) (aP (i:=5) eU.nd rfl (Or.inl rfl)) (ag (av (i:=6) eU.nd rfl (Or.inl rfl) (aH G_law_cost.ok (hr.mono (by decide)) rfl G_law_cost.mg G_law_cost.kp G_law_cost.bn .nil a9 (aa (pv 2) (aa (pv 5) aj))))
   (aq (sr hu (pv 4) (pv 6) (ay bR (A5 hu (pv 4) (pv 6) ah ⟨rfl,rfl,rfl,rfl⟩) ah) rfl))))
   (yz (t2:=restB K) (ag (av (i:=7) eU.nd rfl (Or.inl rfl) (aH G_law_order.ok (hr.mono (by decide)) rfl G_law_order.mg G_law_order.kp G_law_order.bn .nil a9 (aa (aE (BA rfl) (by rfl) T.n_sum HK (aa (pv 0) aj)) (aa (pv 3) aj))))
   (ag (av (i:=8) eU.nd rfl (Or.inl rfl) (c9 cv (by rfl) T.n_list gG (aa (pv 7) aj)))
   (ag (av (i:=9) eU.nd rfl (Or.inl rfl) (aH G_law_asked.ok (hr.mono (by decide)) rfl G_law_asked.mg G_law_asked.kp G_law_asked.bn .nil pass0r (aa (aH G_law_web.ok (hr.mono (by decide)) rfl G_law_web.mg G_law_web.kp G_law_web.bn .nil a9 (aa (pv 2) aj)) (aa (ay bQ (ay d6 (pv 1) ah) ah) (aa (pv 8) aj)))))
   (yz (t2:=restC K) (ag (dz (PW.pt (so (aL (Hv hu64) (pv 8) (pv 7) (aU _)) (so (DH (AZ (aE oj (by rfl) T.n_isinstance dH (aa (pv 9) (aa (sP (v:=.ty "list") rfl T.n_list gG rfl) aj))))) (qN (aL oG (aE ax (by rfl) T.n_len bG (aa (pv 9) aj)) (aE Fw (by rfl) T.n_len bG (aa (pv 4) aj)) (aU _)))))) (aq (aQ DT)) bg)
   (ag (av (i:=10) eU.nd rfl (Or.inl rfl) (pe_un un_neg ah))
   (ag (bV PassesOwn.never rfl (bD (pv 9)) (aP (i:=11) eU.nd rfl (Or.inl rfl)) (ag (dz (PW.pt (so (DH (AZ (aH G_law_pair.ok (hr.mono (by decide)) rfl G_law_pair.mg G_law_pair.kp G_law_pair.bn .nil a9 (aa (pv 11) aj)))) (so (aL op_le (aD aJ (pv 11) ah (fun _ _=>rfl)) (pv 10) (aU _)) (so (Hk (vz hu (aD aJ (pv 11) ah (fun _ _=>rfl)) (pv 4))) (qN (aL oG (sO hu (pv 4) (aD aJ (pv 11) ah (fun _ _=>rfl)) (fun _ _=>rfl)) (aD aJ (pv 11) ah (fun _ _=>rfl)) (aU _))))))) (aq (aQ DT)) bg)
   (aq (av (i:=10) eU.nd rfl (Or.inl rfl) (aD aJ (pv 11) ah (fun _ _=>rfl))))))
   (aq (aQ DT))))) (fun D0 S0 H0 h0=>?restc))))) (fun D0 S0 H0 h0=>?restb))))) (fun D0 S0 H0 h0=>?resta))))),?_⟩
 case restc =>
  obtain⟨a,t,d,qo,qh,qf,c,m,od,rows,Dd,De,g,v5,v6,rfl,hqo,hqh,hd,hDd,hqf,ls,hDe,up,nn,kk⟩:=h0
  have two:=hDe.two hDd
  have rl:rows.length=(repD Dd).length:=by rw[ls.1,two.length_eq];unfold repD;rw[JS]
  refine⟨_,rfl,_,rfl,_,zm (SqL.of hqh),zm (SqL.of hqo),jK _,_,rfl,iteF ?_⟩
  refine⟨_,rfl,_,_,_,_,_,rfl,TyOf.lst hqf,Or.inl ⟨_,rfl,rfl⟩,kit_ll K,_,rfl,iteF ?_⟩
  refine⟨_,rfl,qf,_,rfl,.inl (SqL.of hqf),_,rfl,d,_,rfl,hd,rfl,_,rfl,EE (congrArg V.int (by omega +splitDisjunctions)) ?_⟩
  refine⟨_,rfl,_,rfl,qf,rfl,⟨_,SqL.of hqf⟩,cZ (K:=K) (xs:=rows) (fun i σ H3=>∃(la:Int)(v11:Option V),σ = [some (.ref a),some (.int c),some (.ref t),some (.int (m:Int)),some (.ref d),v5,v6,some (.ref qo),some (.ref qh),some (.ref qf),some (.int la),v11]/\Same H0 H3/\∀(j:Nat)(e:Int×Int),i<=j->De[j]?=some e->la<e.1) ⟨-1,_,rfl,fun _ _ z=>z,fun j e _ hj=>by have:=nn e (JM hj);omega +splitDisjunctions⟩ (fun i σ H3 _ ⟨_,_,_,z,_⟩=>SqL.of (z _ _ hqf)) ?_ ?_⟩
  ·rintro i x σ H3 hx ⟨la,v11,rfl,s3,hla⟩
   obtain⟨e,he,tr,rfl,htr⟩:=ls.get hx
   have ht3:=s3 _ _ htr
   have lt:=hla i e (JQ _) he
   have hin:=two.mem_iff.mp (JM he)
   have hval:valV (repD Dd) (.inl e.1)=some (.int e.2):=rG (yx hDd.nd) (Ke.mpr ⟨e,hin,rfl⟩)
   refine⟨_,rfl,.ref tr,e,rfl,⟨tr,rfl,ht3⟩,_,rfl,iteF ?_⟩
   refine⟨_,rfl,tr,_,0,_,rfl,rfl,SqT.of ht3,at0,_,rfl,_,_,rfl,rfl,_,rfl,ite2 (fun z=>absurd (of_decide_eq_true z) (by omega +splitDisjunctions)) (fun _=>?_)⟩
   refine⟨_,rfl,tr,_,0,_,rfl,rfl,SqT.of ht3,at0,_,rfl,d,_,rfl,DGet.k (k:=.inl e.1) (s3 _ _ hd),_,rfl,?_⟩
   rw[hval]
   refine iteF ?_
   refine⟨_,rfl,_,rfl,tr,_,0,_,rfl,rfl,SqT.of ht3,at0,d,.int e.2,rfl,.inl ⟨_,.inl e.1,.inl (s3 _ _ hd),rfl,hval.symm⟩,_,rfl,tr,_,1,_,rfl,rfl,SqT.of ht3,at1,rfl,_,rfl,EE rfl ?_⟩
   refine⟨_,rfl,tr,_,0,_,rfl,rfl,SqT.of ht3,at0,?_⟩
   refine⟨e.1,_,rfl,s3,fun j e' hij hj=>?_⟩
   obtain⟨h1,e1⟩:=JK.mp he
   obtain⟨h2,e2⟩:=JK.mp hj
   have:=Ll.mp up i j h1 h2 (by omega +splitDisjunctions)
   rw[e1,e2]at this
   exact this
  ·rintro σ H3 ⟨la,v11,rfl,_,_⟩
   exact kk _
 case restb =>
  obtain⟨a,t,pe,pt,pk,d,c,ns,m,es,ts,ks,Dd,v5,v6,rfl,hS,bp,e0,hd,hDd,kk⟩:=h0
  have g:=bp.w.g
  have mf:=qT g
  have few:=bp.few
  have kl:=bp.kl
  obtain⟨_,_,⟨ws,hpk,hT⟩,_,_⟩:=id bp
  have k0:∀(n:Nat)(k:Int×Int),ks[n]?=some k->0<=k.2:=fun n k hk=>(hT.2 n k hk).2.1
  refine⟨_,rfl,a,ns,rfl,hS,_,rfl,_,m,rfl,by omega +splitDisjunctions,fun qo o H3 s3 nq hqo ol nd ob=>?_⟩
  have pm:=IP ol nd ob
  refine⟨_,rfl,qo,_,rfl,.inl (SqL.of hqo),fun qh hqh=>?_⟩
  have s4:=ao hqh (.lst (o.map iV))
  have hh4:(upd H3 qh (.lst (o.map iV))) qh=some (.lst (o.map iV)):=ae
  generalize upd H3 qh (.lst (o.map iV))=H4 at s4 hh4
  refine⟨_,rfl,t,pe,pt,pk,m,es,ts,ks,rfl,bp.mono (s3.trans s4),e0,fun p rs H5 s5 wf=>?_⟩
  have s35:=s4.trans s5
  refine⟨_,rfl,_,_,rfl,rfl,⟨by decide,by decide⟩,_,_,rfl,rfl,(by show(0:Int)<3;decide),_,rfl,p,qh,_,m,es,ts,ks,o,rfl,wf.t,kl,g.w,by omega +splitDisjunctions,by omega +splitDisjunctions,s5 _ _ hh4,pm,fun q rows De H6 s6 _ hq ls hi=>?_⟩
  have s36:=s35.trans s6
  exact⟨a,t,d,qo,qh,q,c,m,o,rows,Dd,De,_,_,_,rfl,s36 _ _ hqo,(s5.trans s6) _ _ hh4,(s3.trans s36) _ _ hd,hDd,hq,ls,hi.hs,hi.up,fun e he=>(hi.nn k0 e he).1,kk⟩
 case resta =>
  obtain⟨a,t,pe,pt,pk,c,ns,m,es,ts,ks,rfl,hS,bp,e0,kk⟩:=h0
  have g:=bp.w.g
  have mf:=qT g
  have few:=bp.few
  obtain⟨ht,⟨_,⟨xs,hpt,hR⟩,_⟩,_,_,_⟩:=id bp
  have hxm:xs.length=m:=by rw[hR.1,g.w.len]
  refine⟨_,rfl,t,_,1,_,rfl,rfl,SqT.of ht,at31,pt,xs,rfl,.inl (SqL.of hpt),?_⟩
  rw[hxm]
  intro d hd
  have sd:=ao hd (.dK [])
  have p2:(2:Nat)^m<=2^9:=MD (by decide) (by omega +splitDisjunctions)
  have e9:(2:Nat)^9=512:=by decide
  have pc2:((2^m:Nat):Int)<=512:=by
   have:((2^m:Nat):Int)<=((2^9:Nat):Int):=Int.ofNat_le.mpr p2
   rw[e9]at this
   exact this
  have pc0:(0:Int)<=((2^m:Nat):Int):=MN _
  have eshl:(1:Int)*2^((m:Nat):Int).toNat=((2^m:Nat):Int):=shlN m
  refine⟨_,rfl,_,_,rfl,rfl,⟨by omega +splitDisjunctions,by omega +splitDisjunctions,by decide⟩,?_⟩
  refine⟨((2^m:Nat):Int),congrArg (fun z=>[V.int z]) eshl,by omega +splitDisjunctions,by omega +splitDisjunctions,de (n:=((2^m:Nat):Int).toNat) (fun i σ H5=>∃ v5 v6 Dd,σ = [some (.ref a),some (.int c),some (.ref t),some (.int (m:Int)),some (.ref d),v5,v6,none,none,none,none,none]/\Same H0 H5/\H5 d=some (.dK (repD Dd))/\Dd.length<=i/\Hst Dd (fun x=>sumL (KJ i) fun L=>ind (decide (totC es ks L=x)))) ⟨_,_,[],rfl,sd,ae,JQ _,ES⟩ ?_ ?_⟩
  ·rintro i σ H5 hi ⟨v5,v6,Dd,rfl,s5,hd5,dl,hD⟩
   rw[Kq]at hi
   have e1:(0:Int)+(i:Int)=(i:Int):=Lb _
   rw[e1]
   refine⟨_,rfl,_,rfl,t,pe,pt,pk,m,i,es,ts,ks,rfl,bp.mono s5,?_⟩
   obtain⟨co,hco⟩:∃ co,co=totC es ks i:=⟨_,rfl⟩
   rw[← hco]
   obtain⟨D2,ep,dl2,hst2⟩:=hD.bump co (show(0:Int)<1 by decide)
   have hv:(valV (repD Dd) (.inl co)).getD (.int 0)=.int (sumL (KJ i) fun L=>ind (decide (totC es ks L=co))):=by
    rcases sk hD co with⟨_,_,q,_⟩ | ⟨_,q0,q⟩
    ·rw[q];rfl
    ·rw[q]
     exact congrArg V.int q0.symm
   have l2:(repD Dd).length<sizeLine:=by unfold repD;rw[JS];exact au (by omega +splitDisjunctions)
   refine⟨_,rfl,d,rfl,.inl ⟨_,.inl hd5⟩,_,rfl,_,DGet.k (k:=.inl co) hd5,_,_,hv,rfl,?_⟩
   refine⟨_,rfl,_,rfl,d,_,rfl,DPut.k (k:=.inl co) hd5 l2,?_⟩
   refine⟨_,_,D2,rfl,aW s5 hd _,?_,by omega +splitDisjunctions,hst2.cg fun x=>?_⟩
   ·rw[ae]
    exact congrArg (fun z=>some (HO.dK z)) ep
   ·rw[ND,iP,aB,eQ,Ld,← hco]
    congr 1
    unfold ind
    by_cases z:x=co
    ·rw[if_pos z,decide_eq_true z.symm,if_pos rfl]
    ·rw[if_neg z,decide_eq_false (Ne.symm z),if_neg Ka]
  ·rintro σ H5 ⟨v5,v6,Dd,rfl,s5,hd5,dl,hD⟩
   rw[Kq]at hD
   exact⟨a,t,pe,pt,pk,d,c,ns,m,es,ts,ks,Dd,v5,v6,rfl,s5.seq hS,bp.mono s5,e0,hd5,hD.cg fun x=>uO (BP m) _,kk⟩
 refine⟨_,rfl,a,0,ns,rfl,hS,?_⟩
 refine⟨_,rfl,a,ns,rfl,hS,h63,fun t pe pt pk m es ts ks H1 s1 bp=>?_⟩
 have g:=bp.w.g
 have few:=bp.few
 have kl:=bp.kl
 obtain⟨ht,wp,⟨ws,hpk,hT⟩,_,_⟩:=id bp
 have hwl:ws.length=ks.length:=hT.1
 have e0:0<es.length:=by
  cases es with
  |nil =>
   exfalso
   obtain⟨rs,p,c⟩:=g.part
   have:rs.length=0∨0<rs.length:=by omega +splitDisjunctions
   rcases this with z | z
   ·have m2:m=2:=by simpa[z] using c
    have:=g.conn (fun x=>x=0) (fun e he=>nomatch he) 0 1 (by omega +splitDisjunctions) (by omega +splitDisjunctions) rfl
    cases this
   ·obtain⟨d,hd⟩:=(p.cr _ (JM (JL z))).ne
    have:=(p.cr _ (JM (JL z))).lt d hd
    cases this
  |cons e es=>exact Nat.succ_pos _
 generalize nI ns 0=c
 refine⟨_,rfl,_,_,rfl,rfl,(by show(0:Int)<2;decide),rfl,_,rfl,?_⟩
 refine ite2 (fun c1=>?_) (fun c1=>?_)
 ·refine⟨_,rfl,t,_,0,_,rfl,rfl,SqT.of ht,at30,_,rfl,t,_,1,_,rfl,rfl,SqT.of ht,at31,_,rfl,t,_,2,_,rfl,rfl,SqT.of ht,at32,pk,rfl,⟨_,SqL.of hpk⟩,df (K:=K) (xs:=ws) (fun i zs H2=>∃ k2:Kn,Same H1 H2/\gQ H2 zs k2/\k2.length=i) (K2 (au (by omega +splitDisjunctions))) ⟨[],fun _ _ z=>z,⟨rfl,fun i k e=>by simp at e⟩,rfl⟩ (fun i zs H2 _ ⟨_,z,_⟩=>SqL.of (z _ _ hpk)) ?_ ?_⟩
  ·rintro i x zs H2 hx ⟨k2,s2,td,kl2⟩
   obtain⟨k,hk⟩:∃ k,ks[i]?=some k:=⟨_,JL (by rw[← hwl];exact(JK.mp hx).1)⟩
   obtain⟨k01,k0,t2,z1,z2⟩:=hT.2 i k hk
   rw[hx]at z1
   cases z1
   refine⟨_,rfl,t2,_,0,_,rfl,rfl,SqT.of (s2 _ _ z2),at0,_,rfl,t2,_,1,_,rfl,rfl,SqT.of (s2 _ _ z2),at1,_,_,rfl,rfl,(by show(0:Int)<3;decide),(by show 2<=sizeLine;decide),fun t3 ht3=>?_⟩
   have s3:=ao ht3 (.tup [.int k.1,.int (k.2%3)])
   exact⟨k2++[(k.1,k.2%3)],s2.trans s3,(td.mono s3).snoc ae k01 (by show 0<=k.2%3;omega +splitDisjunctions),by rw[JO,kl2];rfl⟩
  rintro zs H2 zl ⟨k2,s2,td,kl2⟩ D hD
  have sD:=ao hD (.lst zs)
  refine⟨(by show 3<=sizeLine;decide),fun t4 ht4=>?_⟩
  have s4:=ao ht4 (.tup [.ref pe,.ref pt,.ref D])
  have s24:=(s2.trans sD).trans s4
  refine⟨a,t4,pe,pt,D,c,ns,m,es,ts,k2,rfl,(s1.trans s24).seq hS,⟨ae,wp.mono s24,⟨zs,s4 _ _ ae,(td.mono sD).mono s4⟩,few,by omega +splitDisjunctions⟩,e0,fun H'=>kk H'⟩
 ·exact⟨a,t,pe,pt,pk,c,ns,m,es,ts,ks,rfl,s1.seq hS,bp,e0,fun H'=>kk H'⟩
end
end K8
namespace K8
open PySem L2
theorem all_mk{l:NA}{w:World}{K:JN}{h:Heap}{mg:Str->Option Value}{fa fm dU kU bq bo eP kG dG i9 je oh gs e8 fj cD og bB fK aZ b4 eB Bt kH jf fe gu i8 dE c6 cC cp jd jb fi gy gA gz bZ gB kJ gw ja jc gC Js:Addr}(X:K.In h)(G:h.Ns mainGlobals mg) (hfa:mg "law" = some (.ref fa))
  {BY C1 qp qG yU AD yZ AI D9 FG vB xA sR uA sV uD ng nL D6 FF sY uF y7 AK nh nM vJ xI vK xJ Ja JH BZ C2 y6 AJ sS uB vC xB yT AB qm qF oH pN m8 nK sW uE yY AH yW AF sU uC vE xD vG xF vF xE lp lW vH xG B0 C3 vD xC yV AE yX AG vI xH od_law HM:Option Addr} {BG qi yg ym Dz uT rW rZ mX Dy r8 yo mY u5 u6 Iz BH yn rX uU yf qg oA mW r6 yl yj rY uW uY uX k8 uZ BI uV yi yk u4 sl_law:Array (Option Value)} {B3 Cr CA BR qW CD qu qy qB ql jm qD y9 zJ z0 yF ph Ag zg zP Ab yK pB Am Eb EA Fb DM xj Fo vL we wG vi mC wU sZ tM uc su kL uj tq tP uf sH kP uo nj nz nC m6 gO nG Ea Ez E9 DL xi Fn tD tR uh sJ kR uu zj zR Ad yM pD Ao nk nA nE m7 gP nH vT wy wQ vv mK xb vU wz wR vx mL xc Jb Jj JA IL Ft JC B4 Cs CB BS qX CF zh zQ Ac yL pC An tj tN ud sy kM uk vM wg wH vj mD wV y8 zI zZ yE pf Af qq qx qA qk jl qC oI oZ o8 oF ir o9 ni nv nB m5 gN nF tw tQ ug sI kQ ur zf zN Aa yJ pA Al zd zL z8 yH pq Aj tm tO ue sG kN um vO wk wJ vn mF wX vQ wq wM vp mH wZ vP wo wK vo mG wY lr lG lK lg fM lL vR wu wN vq mI w4 B5 Cu CC BU qY CG vN wj wI vk mE wW zc zK z6 yG pj Ai ze zM z9 yI pz Ak vS wx wO vt mJ w6 oc_law Hz HI Hm Fs HJ:Value}
  {ti_most:Tok}
  {Bx:Addr} {Fm:Value} {Fj:Option Addr} {Fh:Nat} {Ff:Array (Option Value)}
  {Bw:Addr} {Fl:Value} {Fi:Option Addr} {Fg:Nat} {Fe:Array (Option Value)}
  (gK:J2 K mainGlobals "FloorError" = some (some (.ref fm)))
  (j7:J2 K mainGlobals "BadOrder" = some (some (.ref dU)))
  (md:J2 K mainGlobals "TooWide" = some (some (.ref kU)))
  (AM:J2 K mainGlobals "Pull" = some (some (.ref bq)))
  (AL:J2 K mainGlobals "Push" = some (some (.ref bo)))
  (FI:J2 K mainGlobals "Web" = some (some (.ref eP)))
  (g9:Ks K (.ref bq) "__init__" = some (some (.ref bB)))
  (g8:Ks K (.ref bq) "wish" = some (some (.ref fK)))
  (cV:Ks K (.ref bq) "unpleased" = some (some (.ref aZ)))
  (fX:Ks K (.ref bq) "price" = some (some (.ref b4)))
  (g7:Ks K (.ref bo) "__init__" = some (some (.ref bB)))
  (gZ:Ks K (.ref bo) "wish" = some (some (.ref eB)))
  (cU:Ks K (.ref bo) "unpleased" = some (some (.ref aZ)))
  (fV:Ks K (.ref bo) "price" = some (some (.ref b4)))
  (jz:Ks K (.ref eP) "__init__" = some (some (.ref cp)))
  (pO:J2 K mainGlobals "reached" = some (some (.ref kG)))
  (oV:K.lookup kG=some ⟨B3,BY,.func (Kd "reached" "reached" (aA fD) (az fD) (ai fD) .none Cr CA BR C1 qW CD),BG⟩)
  (pF:Kb K qW "reached" = true)
  (kB:JX K (.ref kG)=true)
  (gJ:J2 K mainGlobals "ends_within" = some (some (.ref dG)))
  (f6:K.lookup dG=some ⟨qu,qp,.func (Kd "ends_within" "ends_within" (aA bO) (az bO) (ai bO) .none qy qB ql qG jm qD),qi⟩)
  (gF:Kb K jm "ends_within" = true)
  (dD:JX K (.ref dG)=true)
  (lY:J2 K mainGlobals "order_of" = some (some (.ref i9)))
  (ly:K.lookup i9=some ⟨y9,yU,.func (Kd "order_of" "order_of" (aA dJ) (az dJ) (ai dJ) .none zJ z0 yF AD ph Ag),yg⟩)
  (lN:Kb K ph "order_of" = true)
  (iX:JX K (.ref i9)=true)
  (l8:J2 K mainGlobals "front_of" = some (some (.ref je)))
  (lD:K.lookup je=some ⟨zg,yZ,.func (Kd "front_of" "front_of" (aA dQ) (az dQ) (ai dQ) .none zP Ab yK AI pB Am),ym⟩)
  (lS:Kb K pB "front_of" = true)
  (i5:JX K (.ref je)=true)
  (uH:J2 K mainGlobals "fronts" = some (some (.ref oh)))
  (tL:K.lookup oh=some ⟨Eb,D9,.func (Kd "fronts" "fronts" (aA iS) (az iS) (ai iS) (.ref Bx) EA Fb DM FG xj Fo),Dz⟩)
  (oU:K.lookup Bx=some ⟨Fm,Fj,.seq #[.none] Fh,Ff⟩)
  (ux:Kb K xj "fronts" = true)
  (nY:JX K (.ref oh)=true)
  (jX:J2 K mainGlobals "ties_back" = some (some (.ref gs)))
  (jA:K.lookup gs=some ⟨vL,vB,.func (Kd "ties_back" "ties_back" (aA cJ) (az cJ) (ai cJ) .none we wG vi xA mC wU),uT⟩)
  (jN:Kb K mC "ties_back" = true)
  (f7:JX K (.ref gs)=true)
  (iE:J2 K mainGlobals "signs_with" = some (some (.ref e8)))
  (hV:K.lookup e8=some ⟨sZ,sR,.func (Kd "signs_with" "signs_with" (aA b8) (az b8) (ai b8) .none tM uc su uA kL uj),rW⟩)
  (iw:Kb K kL "signs_with" = true)
  (eV:JX K (.ref e8)=true)
  (iH:J2 K mainGlobals "add_counts" = some (some (.ref fj)))
  (h7:K.lookup fj=some ⟨tq,sV,.func (Kd "add_counts" "add_counts" (aA cj) (az cj) (ai cj) .none tP uf sH uD kP uo),rZ⟩)
  (iA:Kb K kP "add_counts" = true)
  (eY:JX K (.ref fj)=true)
  (eJ:J2 K mainGlobals "counts_behind" = some (some (.ref cD)))
  (eg:K.lookup cD=some ⟨nj,ng,.func (Kd "counts_behind" "counts_behind" (aA bu) (az bu) (ai bu) .none nz nC m6 nL gO nG),mX⟩)
  (eF:Kb K gO "counts_behind" = true)
  (cA:JX K (.ref cD)=true)
  (uG:J2 K mainGlobals "worths" = some (some (.ref og)))
  (tK:K.lookup og=some ⟨Ea,D6,.func (Kd "worths" "worths" (aA iR) (az iR) (ai iR) (.ref Bw) Ez E9 DL FF xi Fn),Dy⟩)
  (oR:K.lookup Bw=some ⟨Fl,Fi,.seq #[.none] Fg,Fe⟩)
  (uw:Kb K xi "worths" = true)
  (nX:JX K (.ref og)=true)
  (ic:K.lookup bB=some ⟨tD,sY,.func (Kd "__init__" "Tie.__init__" (aA cn) (az cn) (ai cn) .none tR uh sJ uF kR uu),r8⟩)
  (iC:Kb K kR "Tie.__init__" = true)
  (ig:JX K (.ref bB)=true)
  (eZ:LV K (.ref bB)=true)
  (lF:K.lookup fK=some ⟨zj,y7,.func (Kd "wish" "Tie.wish" (aA dS) (az dS) (ai dS) .none zR Ad yM AK pD Ao),yo⟩)
  (lU:Kb K pD "Tie.wish" = true)
  (i7:JX K (.ref fK)=true)
  (lJ:LV K (.ref fK)=true)
  (eh:K.lookup aZ=some ⟨nk,nh,.func (Kd "unpleased" "Tie.unpleased" (aA bw) (az bw) (ai bw) .none nA nE m7 nM gP nH),mY⟩)
  (eG:Kb K gP "Tie.unpleased" = true)
  (bK:JX K (.ref aZ)=true)
  (cB:LV K (.ref aZ)=true)
  (jI:K.lookup b4=some ⟨vT,vJ,.func (Kd "price" "Tie.price" (aA cR) (az cR) (ai cR) .none wy wQ vv xI mK xb),u5⟩)
  (jV:Kb K mK "Tie.price" = true)
  (eA:JX K (.ref b4)=true)
  (gq:LV K (.ref b4)=true)
  (jJ:K.lookup eB=some ⟨vU,vK,.func (Kd "wish" "Push.wish" (aA cS) (az cS) (ai cS) .none wz wR vx xJ mL xc),u6⟩)
  (jW:Kb K mL "Push.wish" = true)
  (gk:JX K (.ref eB)=true)
  (jL:LV K (.ref eB)=true)
  (FH:J2 K mainGlobals "head" = some (some (.ref Bt)))
  (Eu:K.lookup Bt=some ⟨Jb,Ja,.func (Kd "head" "head" (aA qM) (az qM) (ai qM) .none Jj JA IL JH Ft JC),Iz⟩)
  (Fy:Kb K Ft "head" = true)
  (k_head:JX K (.ref Bt)=true)
  (pP:J2 K mainGlobals "leaving" = some (some (.ref kH)))
  (oW:K.lookup kH=some ⟨B4,BZ,.func (Kd "leaving" "leaving" (aA fE) (az fE) (ai fE) .none Cs CB BS C2 qX CF),BH⟩)
  (pG:Kb K qX "leaving" = true)
  (kC:JX K (.ref kH)=true)
  (ma:J2 K mainGlobals "follower" = some (some (.ref jf)))
  (lE:K.lookup jf=some ⟨zh,y6,.func (Kd "follower" "follower" (aA dR) (az dR) (ai dR) .none zQ Ac yL AJ pC An),yn⟩)
  (lT:Kb K pC "follower" = true)
  (i6:JX K (.ref jf)=true)
  (iF:J2 K mainGlobals "round_from" = some (some (.ref fe)))
  (hX:K.lookup fe=some ⟨tj,sS,.func (Kd "round_from" "round_from" (aA b9) (az b9) (ai b9) .none tN ud sy uB kM uk),rX⟩)
  (iy:Kb K kM "round_from" = true)
  (eW:JX K (.ref fe)=true)
  (jY:J2 K mainGlobals "rounds_of" = some (some (.ref gu)))
  (jB:K.lookup gu=some ⟨vM,vC,.func (Kd "rounds_of" "rounds_of" (aA cK) (az cK) (ai cK) .none wg wH vj xB mD wV),uU⟩)
  (jO:Kb K mD "rounds_of" = true)
  (f9:JX K (.ref gu)=true)
  (lX:J2 K mainGlobals "sides_of" = some (some (.ref i8)))
  (lx:K.lookup i8=some ⟨y8,yT,.func (Kd "sides_of" "sides_of" (aA dI) (az dI) (ai dI) .none zI zZ yE AB pf Af),yf⟩)
  (lM:Kb K pf "sides_of" = true)
  (iW:JX K (.ref i8)=true)
  (gI:J2 K mainGlobals "refuse_ends" = some (some (.ref dE)))
  (fZ:K.lookup dE=some ⟨qq,qm,.func (Kd "refuse_ends" "refuse_ends" (aA bN) (az bN) (ai bN) .none qx qA qk qF jl qC),qg⟩)
  (gE:Kb K jl "refuse_ends" = true)
  (dA:JX K (.ref dE)=true)
  (fz:J2 K mainGlobals "refuse_turns" = some (some (.ref c6)))
  (fu:K.lookup c6=some ⟨oI,oH,.func (Kd "refuse_turns" "refuse_turns" (aA bF) (az bF) (ai bF) .none oZ o8 oF pN ir o9),oA⟩)
  (fy:Kb K ir "refuse_turns" = true)
  (cY:JX K (.ref c6)=true)
  (eI:J2 K mainGlobals "refuse_parted" = some (some (.ref cC)))
  (d8:K.lookup cC=some ⟨ni,m8,.func (Kd "refuse_parted" "refuse_parted" (aA bt) (az bt) (ai bt) .none nv nB m5 nK gN nF),mW⟩)
  (eE:Kb K gN "refuse_parted" = true)
  (cz:JX K (.ref cC)=true)
  (h9:K.lookup cp=some ⟨tw,sW,.func (Kd "__init__" "Web.__init__" (aA ck) (az ck) (ai ck) .none tQ ug sI uE kQ ur),r6⟩)
  (iB:Kb K kQ "Web.__init__" = true)
  (ie:JX K (.ref cp)=true)
  (ik:LV K (.ref cp)=true)
  (l7:J2 K mainGlobals "_law_cell" = some (some (.ref jd)))
  (lC:K.lookup jd=some ⟨zf,yY,.func (Kd "_law_cell" "_law_cell" (aA dP) (az dP) (ai dP) .none zN Aa yJ AH pA Al),yl⟩)
  (lR:Kb K pA "_law_cell" = true)
  (i4:JX K (.ref jd)=true)
  (l5:J2 K mainGlobals "_law_head" = some (some (.ref jb)))
  (lA:K.lookup jb=some ⟨zd,yW,.func (Kd "_law_head" "_law_head" (aA dN) (az dN) (ai dN) .none zL z8 yH AF pq Aj),yj⟩)
  (lP:Kb K pq "_law_head" = true)
  (iZ:JX K (.ref jb)=true)
  (iG:J2 K mainGlobals "_law_behind" = some (some (.ref fi)))
  (hZ:K.lookup fi=some ⟨tm,sU,.func (Kd "_law_behind" "_law_behind" (aA cb) (az cb) (ai cb) .none tO ue sG uC kN um),rY⟩)
  (iz:Kb K kN "_law_behind" = true)
  (eX:JX K (.ref fi)=true)
  (j2:J2 K mainGlobals "_law_round" = some (some (.ref gy)))
  (jD:K.lookup gy=some ⟨vO,vE,.func (Kd "_law_round" "_law_round" (aA cM) (az cM) (ai cM) .none wk wJ vn xD mF wX),uW⟩)
  (jQ:Kb K mF "_law_round" = true)
  (gc:JX K (.ref gy)=true)
  (j4:J2 K mainGlobals "_law_grown" = some (some (.ref gA)))
  (jF:K.lookup gA=some ⟨vQ,vG,.func (Kd "_law_grown" "_law_grown" (aA cO) (az cO) (ai cO) .none wq wM vp xF mH wZ),uY⟩)
  (jS:Kb K mH "_law_grown" = true)
  (gg:JX K (.ref gA)=true)
  (j3:J2 K mainGlobals "_law_order" = some (some (.ref gz)))
  (jE:K.lookup gz=some ⟨vP,vF,.func (Kd "_law_order" "_law_order" (aA cN) (az cN) (ai cN) .none wo wK vo xE mG wY),uX⟩)
  (jR:Kb K mG "_law_order" = true)
  (gf:JX K (.ref gz)=true)
  (dm:J2 K mainGlobals "_law_renumbered" = some (some (.ref bZ)))
  (di:K.lookup bZ=some ⟨lr,lp,.func (Kd "_law_renumbered" "_law_renumbered" (aA bb) (az bb) (ai bb) .none lG lK lg lW fM lL),k8⟩)
  (dj:Kb K fM "_law_renumbered" = true)
  (bY:JX K (.ref bZ)=true)
  (j5:J2 K mainGlobals "_law_built" = some (some (.ref gB)))
  (jG:K.lookup gB=some ⟨vR,vH,.func (Kd "_law_built" "_law_built" (aA cP) (az cP) (ai cP) .none wu wN vq xG mI w4),uZ⟩)
  (jT:Kb K mI "_law_built" = true)
  (gh:JX K (.ref gB)=true)
  (pQ:J2 K mainGlobals "_law_web" = some (some (.ref kJ)))
  (oX:K.lookup kJ=some ⟨B5,B0,.func (Kd "_law_web" "_law_web" (aA fG) (az fG) (ai fG) .none Cu CC BU C3 qY CG),BI⟩)
  (pH:Kb K qY "_law_web" = true)
  (kD:JX K (.ref kJ)=true)
  (jZ:J2 K mainGlobals "_law_whole" = some (some (.ref gw)))
  (jC:K.lookup gw=some ⟨vN,vD,.func (Kd "_law_whole" "_law_whole" (aA cL) (az cL) (ai cL) .none wj wI vk xC mE wW),uV⟩)
  (jP:Kb K mE "_law_whole" = true)
  (gb:JX K (.ref gw)=true)
  (lZ:J2 K mainGlobals "_law_pair" = some (some (.ref ja)))
  (lz:K.lookup ja=some ⟨zc,yV,.func (Kd "_law_pair" "_law_pair" (aA dM) (az dM) (ai dM) .none zK z6 yG AE pj Ai),yi⟩)
  (lO:Kb K pj "_law_pair" = true)
  (iY:JX K (.ref ja)=true)
  (l6:J2 K mainGlobals "_law_cost" = some (some (.ref jc)))
  (lB:K.lookup jc=some ⟨ze,yX,.func (Kd "_law_cost" "_law_cost" (aA dO) (az dO) (ai dO) .none zM z9 yI AG pz Ak),yk⟩)
  (lQ:Kb K pz "_law_cost" = true)
  (i0:JX K (.ref jc)=true)
  (j6:J2 K mainGlobals "_law_asked" = some (some (.ref gC)))
  (jH:K.lookup gC=some ⟨vS,vI,.func (Kd "_law_asked" "_law_asked" (aA cQ) (az cQ) (ai cQ) .none wx wO vt xH mJ w6),u4⟩)
  (jU:Kb K mJ "_law_asked" = true)
  (gj:JX K (.ref gC)=true)
  (Ha:J2 K mainGlobals "law" = some (some (.ref Js)))
  (Jh:K.lookup Js=some ⟨oc_law,od_law,.func (Kd "law" "law" (aA sh) (az sh) (ai sh) .none Hz HI Hm HM Fs HJ),sl_law⟩)
  (JE:Kb K Fs "law" = true)
  (Ji:JX K (.ref Js)=true)
  (j9:MZ K fm veM "ValueError.__new__" = true)
  (jq:MZ K dU veM "ValueError.__new__" = true)
  (cH:MY K dU (.ref fm)=some true)
  (kW:MZ K kU veM "ValueError.__new__" = true)
  (da:MY K kU (.ref fm)=some true)
  (yO:LQ K bq Str.empty=true)
  (zV:L0 K bq=true)
  (yD:Mw K bq=true)
  (yv:Ks K (.ref bq) "__setattr__" = some (some (.builtin "object.__setattr__")))
  (zp:MG K bq=true)
  (zH:JX K (.ref bq)=true)
  (jy:Ks K (.ref bq) "one" = some none)
  (jx:Ks K (.ref bq) "two" = some none)
  (dh:Ks K (.ref bq) "strength" = some none)
  (yN:LQ K bo Str.empty=true)
  (zU:L0 K bo=true)
  (yC:Mw K bo=true)
  (yu:Ks K (.ref bo) "__setattr__" = some (some (.builtin "object.__setattr__")))
  (zo:MG K bo=true)
  (zG:JX K (.ref bo)=true)
  (jw:Ks K (.ref bo) "one" = some none)
  (jv:Ks K (.ref bo) "two" = some none)
  (dg:Ks K (.ref bo) "strength" = some none)
  (DQ:LQ K eP Str.empty=true)
  (EU:L0 K eP=true)
  (DK:Mw K eP=true)
  (DC:Ks K (.ref eP) "__setattr__" = some (some (.builtin "object.__setattr__")))
  (Ee:MG K eP=true)
  (Ey:JX K (.ref eP)=true)
  (ju:Ks K (.ref eP) "many" = some none)
  (jt:Ks K (.ref eP) "ties" = some none)
  (gX:Ks K (.ref eP) "turns" = some none)
  (fU:Ks K (.ref eP) "rounds" = some none)
  (gY:Ks K (.ref eP) "sides" = some none)
  (gi_most:J2 K mainGlobals "MOST_PLACES" = some (some (.int 16 ti_most)))
  (HU:J2 K mainGlobals "len" = some none)
  (HV:J2 K mainGlobals "int" = some none)
  (C5:J2 K mainGlobals "bool" = some none)
  (C4:J2 K mainGlobals "list" = some none)
  (xR:J2 K mainGlobals "tuple" = some none)
  (xS:J2 K mainGlobals "range" = some none)
  (jo:J2 K mainGlobals "enumerate" = some none)
  (gS:J2 K mainGlobals "isinstance" = some none)
  (HR:J2 K mainGlobals "min" = some none)
  (HQ:J2 K mainGlobals "sum" = some none)
  (rC:J2 K mainGlobals "sorted" = some none)
  (HS:J2 K mainGlobals "max" = some none)
  (HX:J2 K mainGlobals "all" = some none)
  (HP:J2 K mainGlobals "zip" = some none)
  (HW:J2 K mainGlobals "any" = some none)
  : ∃ fd:FuncData,(∀(s:Shared)(v:Value),BindsTo s fd ⟨[v],[]⟩ [("script",v)])/\∀ base:Heap,K.In base->base.Ns mainGlobals mg->FnOk l.prog w K mg base CX0 8 fa fd ["script"] (FZ K):=by
 have e:=hfa.symm.trans (Ki X G Ha)
 cases e
 have xN:=aT (st:=fD) oV pF kB
 have Fz:=xN.binds (ps:=["start","pairs"]) fun _ _ _ _ _ _ us hl=>by obtain⟨x0,x1,rfl⟩:=fY hl;rfl
 have kT:=aT (st:=bO) f6 gF dD
 have uz:=kT.binds (ps:=["tie","patch"]) fun _ _ _ _ _ _ us hl=>by obtain⟨x0,x1,rfl⟩:=fY hl;rfl
 have rg:=aT (st:=dJ) ly lN iX
 have CP:=rg.binds (ps:=["web","order"]) fun _ _ _ _ _ _ us hl=>by obtain⟨x0,x1,rfl⟩:=fY hl;rfl
 have rq:=aT (st:=dQ) lD lS i5
 have CY:=rq.binds (ps:=["web","behind"]) fun _ _ _ _ _ _ us hl=>by obtain⟨x0,x1,rfl⟩:=fY hl;rfl
 have uK:=EY (st:=iS) tL ux nY oU rfl
 have G9:=uK.binds (ps:=["web","order"]) (ds:=[]) fun _ _ _ _ _ _ _ us hl=>match us,hl with | [_,_],_=>⟨_,rfl,rfl⟩
 have b1_fronts:=uK.binds (ps:=["web","order"]) (ds:=[.none]) fun _ _ _ _ _ _ _ us hl=>by
  have h1:us.length=1:=by simpa using hl
  match us,h1 with | [_],_=>exact⟨_,rfl,rfl⟩
 have pS:=aT (st:=cJ) jA jN f7
 have Aq:=pS.binds (ps:=["web","order"]) fun _ _ _ _ _ _ us hl=>by obtain⟨x0,x1,rfl⟩:=fY hl;rfl
 have mP:=aT (st:=b8) hV iw eV
 have xr:=mP.binds (ps:=["place","signs"]) fun _ _ _ _ _ _ us hl=>by obtain⟨x0,x1,rfl⟩:=fY hl;rfl
 have mS:=aT (st:=cj) h7 iA eY
 have xw:=mS.binds (ps:=["counts","price","more"]) fun _ _ _ _ _ _ us hl=>by obtain⟨x0,x1,x2,rfl⟩:=qw hl;rfl
 have iK:=aT (st:=bu) eg eF cA
 have pL:=iK.binds (ps:=["counts","place","ties","front"]) fun _ _ _ _ _ _ us hl=>by obtain⟨x0,x1,x2,x3,rfl⟩:=GJ hl;rfl
 have uJ:=EY (st:=iR) tK uw nX oR rfl
 have G8:=uJ.binds (ps:=["web","order"]) (ds:=[]) fun _ _ _ _ _ _ _ us hl=>match us,hl with | [_,_],_=>⟨_,rfl,rfl⟩
 have FD:=uJ.binds (ps:=["web","order"]) (ds:=[.none]) fun _ _ _ _ _ _ _ us hl=>by
  have h1:us.length=1:=by simpa using hl
  match us,h1 with | [_],_=>exact⟨_,rfl,rfl⟩
 have mU:=aT (st:=cn) ic iC ig
 have mM:=mU.binds (ps:=["self","one","two","strength"]) fun _ _ _ _ _ _ us hl=>by obtain⟨x0,x1,x2,x3,rfl⟩:=GJ hl;rfl
 have rB:=aT (st:=dS) lF lU i7
 have C0:=rB.binds (ps:=["self"]) fun _ _ _ _ _ _ us hl=>by obtain⟨x0,rfl⟩:=zD hl;rfl
 have eO:=aT (st:=bw) eh eG bK
 have iD:=eO.binds (ps:=["self","laying"]) fun _ _ _ _ _ _ us hl=>by obtain⟨x0,x1,rfl⟩:=fY hl;rfl
 have j8:=aT (st:=cR) jI jV eA
 have pM:=j8.binds (ps:=["self","laying"]) fun _ _ _ _ _ _ us hl=>by obtain⟨x0,x1,rfl⟩:=fY hl;rfl
 have qa:=aT (st:=cS) jJ jW gk
 have Az:=qa.binds (ps:=["self"]) fun _ _ _ _ _ _ us hl=>by obtain⟨x0,rfl⟩:=zD hl;rfl
 have HN:=aT (st:=qM) Eu Fy k_head
 have b_head:=HN.binds (ps:=["ties","dart"]) fun _ _ _ _ _ _ us hl=>by obtain⟨x0,x1,rfl⟩:=fY hl;rfl
 have xO:=aT (st:=fE) oW pG kC
 have FA:=xO.binds (ps:=["ties","number","place"]) fun _ _ _ _ _ _ us hl=>by obtain⟨x0,x1,x2,rfl⟩:=qw hl;rfl
 have rA:=aT (st:=dR) lE lT i6
 have CZ:=rA.binds (ps:=["ties","turns","dart"]) fun _ _ _ _ _ _ us hl=>by obtain⟨x0,x1,x2,rfl⟩:=qw hl;rfl
 have mQ:=aT (st:=b9) hX iy eW
 have xt:=mQ.binds (ps:=["ties","turns","first"]) fun _ _ _ _ _ _ us hl=>by obtain⟨x0,x1,x2,rfl⟩:=qw hl;rfl
 have pT:=aT (st:=cK) jB jO f9
 have Ar:=pT.binds (ps:=["ties","turns"]) fun _ _ _ _ _ _ us hl=>by obtain⟨x0,x1,rfl⟩:=fY hl;rfl
 have rf:=aT (st:=dI) lx lM iW
 have CO:=rf.binds (ps:=["ties","rounds"]) fun _ _ _ _ _ _ us hl=>by obtain⟨x0,x1,rfl⟩:=fY hl;rfl
 have kS:=aT (st:=bN) fZ gE dA
 have uy:=kS.binds (ps:=["many","ties"]) fun _ _ _ _ _ _ us hl=>by obtain⟨x0,x1,rfl⟩:=fY hl;rfl
 have jn:=aT (st:=bF) fu fy cY
 have qE:=jn.binds (ps:=["many","ties","turns"]) fun _ _ _ _ _ _ us hl=>by obtain⟨x0,x1,x2,rfl⟩:=qw hl;rfl
 have iJ:=aT (st:=bt) d8 eE cz
 have pK:=iJ.binds (ps:=["many","ties"]) fun _ _ _ _ _ _ us hl=>by obtain⟨x0,x1,rfl⟩:=fY hl;rfl
 have mT:=aT (st:=ck) h9 iB ie
 have xy:=mT.binds (ps:=["self","many","ties","turns"]) fun _ _ _ _ _ _ us hl=>by obtain⟨x0,x1,x2,x3,rfl⟩:=GJ hl;rfl
 have rp:=aT (st:=dP) lC lR i4
 have CV:=rp.binds (ps:=["script","k"]) fun _ _ _ _ _ _ us hl=>by obtain⟨x0,x1,rfl⟩:=fY hl;rfl
 have rj:=aT (st:=dN) lA lP iZ
 have CS:=rj.binds (ps:=["ends","dart"]) fun _ _ _ _ _ _ us hl=>by obtain⟨x0,x1,rfl⟩:=fY hl;rfl
 have mR:=aT (st:=cb) hZ iz eX
 have xu:=mR.binds (ps:=["ends","turns","dart"]) fun _ _ _ _ _ _ us hl=>by obtain⟨x0,x1,x2,rfl⟩:=qw hl;rfl
 have pV:=aT (st:=cM) jD jQ gc
 have Au:=pV.binds (ps:=["ends","turns","dart"]) fun _ _ _ _ _ _ us hl=>by obtain⟨x0,x1,x2,rfl⟩:=qw hl;rfl
 have pX:=aT (st:=cO) jF jS gg
 have Aw:=pX.binds (ps:=["cells"]) fun _ _ _ _ _ _ us hl=>by obtain⟨x0,rfl⟩:=zD hl;rfl
 have pW:=aT (st:=cN) jE jR gf
 have Av:=pW.binds (ps:=["cell","many"]) fun _ _ _ _ _ _ us hl=>by obtain⟨x0,x1,rfl⟩:=fY hl;rfl
 have gR:=aT (st:=bb) di dj bY
 have nJ:=gR.binds (ps:=["grown","cell"]) fun _ _ _ _ _ _ us hl=>by obtain⟨x0,x1,rfl⟩:=fY hl;rfl
 have pY:=aT (st:=cP) jG jT gh
 have Ax:=pY.binds (ps:=["script","first","most"]) fun _ _ _ _ _ _ us hl=>by obtain⟨x0,x1,x2,rfl⟩:=qw hl;rfl
 have xP:=aT (st:=fG) oX pH kD
 have FC:=xP.binds (ps:=["built"]) fun _ _ _ _ _ _ us hl=>by obtain⟨x0,rfl⟩:=zD hl;rfl
 have pU:=aT (st:=cL) jC jP gb
 have As:=pU.binds (ps:=["found"]) fun _ _ _ _ _ _ us hl=>by obtain⟨x0,rfl⟩:=zD hl;rfl
 have rh:=aT (st:=dM) lz lO iY
 have CQ:=rh.binds (ps:=["found"]) fun _ _ _ _ _ _ us hl=>by obtain⟨x0,rfl⟩:=zD hl;rfl
 have rm:=aT (st:=dO) lB lQ i0
 have CU:=rm.binds (ps:=["built","laying"]) fun _ _ _ _ _ _ us hl=>by obtain⟨x0,x1,rfl⟩:=fY hl;rfl
 have pZ:=aT (st:=cQ) jH jU gj
 have Ay:=pZ.binds (ps:=["web","way","order"]) fun _ _ _ _ _ _ us hl=>by obtain⟨x0,x1,x2,rfl⟩:=qw hl;rfl
 have F_law:=aT (st:=sh) Jh JE Ji
 refine⟨Kd "law" "law" (aA sh) (az sh) (ai sh) .none Hz HI Hm HM Fs HJ,fun s v=>.of_eq rfl,fun base _ _=>?_⟩
 have Ei:=Ki X G pO
 have tG:=Ki X G gJ
 have Cf:=Ki X G lY
 have Cm:=Ki X G l8
 have GG:=Ki X G uH
 have zu:=Ki X G jX
 have vW:=Ki X G iE
 have vZ:=Ki X G iH
 have oN:=Ki X G eJ
 have GD:=Ki X G uG
 have m_head:=Ki X G FH
 have Ej:=Ki X G pP
 have Cn:=Ki X G ma
 have vX:=Ki X G iF
 have zv:=Ki X G jY
 have Ce:=Ki X G lX
 have tF:=Ki X G gI
 have qv:=Ki X G fz
 have oM:=Ki X G eI
 have Ck:=Ki X G l7
 have Ci:=Ki X G l5
 have vY:=Ki X G iG
 have zx:=Ki X G j2
 have zA:=Ki X G j4
 have zy:=Ki X G j3
 have nu:=Ki X G dm
 have zB:=Ki X G j5
 have Ek:=Ki X G pQ
 have zw:=Ki X G jZ
 have Cg:=Ki X G lZ
 have Cj:=Ki X G l6
 have zC:=Ki X G j6
 have m_law:=Ki X G Ha
 have Hy:=Ki X G gK
 have Co:=Ki X G j7
 have El:=Ki X G md
 have m_Pull:=Ki X G AM
 have m_Push:=Ki X G AL
 have m_Web:=Ki X G FI
 have most:=Ki X G gi_most
 have n_len:=KN X G HU
 have n_int:=KN X G HV
 have n_bool:=KN X G C5
 have n_list:=KN X G C4
 have n_tuple:=KN X G xR
 have n_range:=KN X G xS
 have n_enumerate:=KN X G jo
 have n_isinstance:=KN X G gS
 have n_min:=KN X G HR
 have n_sum:=KN X G HQ
 have n_sorted:=KN X G rC
 have n_max:=KN X G HS
 have n_all:=KN X G HX
 have n_zip:=KN X G HP
 have n_any:=KN X G HW
 have TL:CT K bq:=⟨⟨yO,zV,yD,yv⟩,jy,jx,dh⟩
 have TS:CT K bo:=⟨⟨yN,zU,yC,yu⟩,jw,jv,dg⟩
 have cw:CW K eP:=⟨⟨DQ,EU,DK,DC⟩,ju,jt,gX,fU,gY⟩
 have T:Txt mg:=⟨n_max,n_all,n_zip,n_any,n_len,n_int,n_bool,n_list,n_tuple,n_range,n_enumerate,n_isinstance,n_min,n_sum,n_sorted⟩
 have TM:TxtM mg:={ T with most:=⟨_,most⟩ }
 have GI:FnOk l.prog w K mg base CX0 1 bB _ _ (qL K):=IW mU
 have ML:Mak l.prog w K mg base 1 "Pull" _ (qL K) bq bB _:=⟨⟨zp,g9,eZ,zH⟩,GI,mM,m_Pull⟩
 have MS:Mak l.prog w K mg base 1 "Push" _ (qL K) bo bB _:=⟨⟨zo,g7,eZ,zG⟩,GI,mM,m_Push⟩
 have wL:Met l.prog w K mg base 1 bq "wish" _ (uP false) fK _:=⟨⟨g8,lJ,i7⟩,Gp rB,C0⟩
 have wS:Met l.prog w K mg base 1 bo "wish" _ (uP true) eB _:=⟨⟨gZ,jL,gk⟩,Gn qa,Az⟩
 have uL:Met l.prog w K mg base 2 bq "unpleased" _ (AV bq false) aZ _:=⟨⟨cV,cB,bK⟩,DW eO TL wL,iD⟩
 have uS:Met l.prog w K mg base 2 bo "unpleased" _ (AV bo true) aZ _:=⟨⟨cU,cB,bK⟩,DW eO TS wS,iD⟩
 have rL:Met l.prog w K mg base 3 bq "price" _ (oz bq false) b4 _:=⟨⟨fX,gq,eA⟩,A8 j8 TL uL,pM⟩
 have rS:Met l.prog w K mg base 3 bo "price" _ (oz bo true) b4 _:=⟨⟨fV,gq,eA⟩,A8 j8 TS uS,pM⟩
 have Gh:Cal l.prog w K mg base 1 "head" _ (Du K) Bt _:=⟨IX HN,b_head,m_head,k_head⟩
 have Gl:Cal l.prog w K mg base 1 "leaving" _ (Ds K) kH _:=⟨BW xO,FA,Ej,kC⟩
 have Gf:Cal l.prog w K mg base 2 "follower" _ (Iw K) jf _:=⟨yS rA T Gh Gl,CZ,Cn,i6⟩
 have Gr:Cal l.prog w K mg base 3 "round_from" _ (Dv K) fe _:=⟨IY mQ Gf,xt,vX,eW⟩
 have GR:Cal l.prog w K mg base 4 "rounds_of" _ (rM K) gu _:=⟨DY pT T Gr,Ar,zv,f9⟩
 have GS:Cal l.prog w K mg base 1 "sides_of" _ (x8 K) i8 _:=⟨Gv rf T,CO,Ce,iW⟩
 have Ga:Cal l.prog w K mg base 1 "reached" _ (x9 K) kG _:=⟨BV xN,Fz,Ei,kB⟩
 have R1:Cal l.prog w K mg base 1 "refuse_ends" _ (yb K) dE _:=⟨Gx kS,uy,tF,dA⟩
 have R2:Cal l.prog w K mg base 1 "refuse_turns" _ (rN K) c6 _:=⟨DX jn T,qE,qv,cY⟩
 have R3:Cal l.prog w K mg base 2 "refuse_parted" _ (ya K) cC _:=⟨Gw iJ Ga,pK,oM,cz⟩
 have WI:FnOk l.prog w K mg base CX0 5 cp _ _ (rK K):=Gq mT T R1 R2 R3 GR GS
 have MW:Mak l.prog w K mg base 5 "Web" _ (rK K) eP cp _:=⟨⟨Ee,jz,ik,Ey⟩,WI,xy,m_Web⟩
 have Gc:Cal l.prog w K mg base 1 "_law_cell" _ (AX K) jd _:=⟨IZ rp T,CV,Ck,i4⟩
 have L1:Cal l.prog w K mg base 1 "_law_head" _ (rQ K) jb _:=⟨Gz rj,CS,Ci,iZ⟩
 have L2':Cal l.prog w K mg base 2 "_law_behind" _ (rT K) fi _:=⟨BX mR T L1,xu,vY,eX⟩
 have L3:Cal l.prog w K mg base 3 "_law_round" _ (rP K) gy _:=⟨DZ pV L2',Au,zx,gc⟩
 have L4:Cal l.prog w K mg base 4 "_law_grown" _ (yc K) gA _:=⟨GA pX T L3 L1,Aw,zA,gg⟩
 have L5:Cal l.prog w K mg base 1 "_law_order" _ rO gz _:=⟨Gy pW T,Av,zy,gf⟩
 have L6:Cal l.prog w K mg base 2 "_law_renumbered" _ Ip bZ _:=⟨ok_ren gR T L5,nJ,nu,bY⟩
 have L7:Cal l.prog w K mg base 5 "_law_built" _ (rR K) gB _:=⟨D3 pY T L4 L6 Gc,Ax,zB,gh⟩
 have L8:Cal l.prog w K mg base 7 "_law_web" _ (Dt bq bo eP) kJ _:=⟨IV xP T ML MS TL TS MW cw,FC,Ek,kD⟩
 have L9:Cal l.prog w K mg base 1 "_law_whole" _ Iq gw _:=⟨Gs pU T,As,zw,gb⟩
 have Ge:Cal l.prog w K mg base 1 "ends_within" _ (nQ K) dG _:=⟨DV kT,uz,tG,dD⟩
 have XB:ErrC K mg "BadOrder" dU:=⟨Co,jq⟩
 have XW:ErrC K mg "TooWide" kU:=⟨El,kW⟩
 have Gt:Cal l.prog w K mg base 2 "front_of" _ (yd bq bo eP) je _:=⟨GB rq cw TL TS Ge,CY,Cm,i5⟩
 have Go:CalX l.prog w K mg base 1 "order_of" _ (AW dU eP) i9 _:=⟨ok_ord rg T cw XB,CP,Cf,iX⟩
 have GF:CalX l.prog w K mg base 3 "fronts" _ (Iu dU bq bo eP) oh _:=⟨D4 uK Go Gt,G9,GG,nY⟩
 have Gbk:Cal l.prog w K mg base 2 "ties_back" _ (Dw bq bo eP) gs _:=⟨I8 pS cw TL TS Ge,Aq,zu,f7⟩
 have Gsw:Cal l.prog w K mg base 1 "signs_with" _ x5 e8 _:=⟨Gu mP,xr,vW,eV⟩
 have Gad:Cal l.prog w K mg base 1 "add_counts" _ F1 fj _:=⟨ok_add mS,xw,vZ,eY⟩
 have Gcb:Cal l.prog w K mg base 4 "counts_behind" _ (spCB bq bo) cD _:=⟨ok_cb iK T TL TS rL rS Gsw Gad,pL,oN,cA⟩
 have Gws:CalX l.prog w K mg base 5 "worths" _ (spWs bq bo eP) og _:=⟨ok_ws uJ TM cw XW Go GF Gbk Gcb,G8,GD,nX⟩
 have Gas:CalX l.prog w K mg base 6 "_law_asked" _ (Dx bq bo eP) gC _:=⟨ok_ask pZ Gws FD,Ay,zC,gj⟩
 have Glc:Cal l.prog w K mg base 1 "_law_cost" _ Ir jc _:=⟨ok_lc2 rm T,CU,Cj,i0⟩
 have Gpr:Cal l.prog w K mg base 2 "_law_pair" _ Dr ja _:=⟨IU rh T L9,CQ,Cg,iY⟩
 exact ok_law F_law T L7 Gc L5 L8 Gas Glc Gpr
theorem walk{l:NA}{q:Program}{loose:List Str}{XP:(Str->Option Value)->Heap->Prop}{YP:World->Heap->Prop}{d:DefRec}{K:Params->JN}(hn:l.most=some 63)(hdf:d.params.defaults = [])
  (hY:∀(w:World)(h:Heap),YP w h->(K w.params).In h)
  (F:∀(w:World)(mg:Str->Option Value)(fa:Addr)(h:Heap),(K w.params).In h->h.Ns mainGlobals mg->mg d.name=some (.ref fa) ->
   ∃ fd:FuncData,(∀(s:Shared)(u:Value),BindsTo s fd ⟨[u],[]⟩ [("script",u)])/\∀ base:Heap,(K w.params).In base->base.Ns mainGlobals mg->FnOk l.prog w (K w.params) mg base CX0 8 fa fd ["script"] (FZ (K w.params))) :
  PySem.W.WalkO q loose XP YP l.row.toRowW d [] (fun f vs=>PySem.call f vs) :=
 L2.walk_of (n:=63) (k:=8) (x:="script") (CX:=fun _=>CX0) (sp:=fun w=>FZ (K w.params)) hn (by decide) hdf ⟨rfl,by decide,by decide⟩ hY F (fun _ _ a ns hl _ hS=>⟨a,ns,rfl,hS,hl,fun _=>rfl⟩) fun _ _ _ _ _ z=>z
end K8
def PySem.W.Fast.tw5240985712805084960:Nat:=0
def PySem.W.Fast.tw574966644688820580:Nat:=0
def PySem.W.Fast.tw548707475673509477:Nat:=0
def PySem.W.Fast.tw15148511501782338792:Nat:=0
def PySem.W.Fast.tw17136058907593329609:Nat:=0
def PySem.W.Fast.tw2591517944880469036:Nat:=0
def PySem.W.Fast.tw18072000602193611503:Nat:=0
def PySem.W.Fast.tw8061344832778697744:Nat:=0
def PySem.W.Fast.tw2106758414385187924:Nat:=0
def PySem.W.Fast.tw4072567451886972757:Nat:=0
def PySem.W.Fast.tw3925451550592895574:Nat:=0
def PySem.W.Fast.tw1662449260471871479:Nat:=0
def PySem.W.Fast.tw14605598298175982104:Nat:=0
def PySem.W.Fast.tw12434715194099197529:Nat:=0
def PySem.W.Fast.tw11105646085673532156:Nat:=0
def PySem.W.Fast.tw4850016588577248060:Nat:=0
def PySem.W.Fast.tw8909240378656995135:Nat:=0
def PySem.W.Fast.tw15298585942499541887:Nat:=0
namespace PySem.W.Fast
def tw8525500902295313440:=0
def tw14836199131051281440:=0
def tw5702328480580952128:=0
def tw8734539829144951936:=0
def tw1274590560755507424:=0
def tw17977818282397139200:=0
def tw14946121210518928672:=0
def tw3873337143187196224:=0
def tw5576108779584815680:=0
def tw5137700696375718464:=0
def tw6617051642409386784:=0
def tw14485315600836803392:=0
def tw10511651374209145728:=0
def tw11440889423982098400:=0
def tw2076890766093731873:=0
def tw9707790450342248577:=0
def tw17355496716707007713:=0
def tw11255449154060193025:=0
def tw4479353475137032481:=0
def tw15925511008394676609:=0
def tw1911462556701656481:=0
def tw6702291670597651905:=0
def tw6307676106322616833:=0
def tw16098765932885999137:=0
def tw5748553672677086817:=0
def tw13053929026618025601:=0
def tw10546196146678468289:=0
def tw10782251657364294433:=0
def tw10399368018197257057:=0
def tw10200059774608420705:=0
def tw8266339139751562081:=0
def tw12137593227674441697:=0
def tw16576256004653619202:=0
def tw4620034800701031426:=0
def tw12713658033918025794:=0
def tw4902596171099901090:=0
def tw16741023507860776226:=0
def tw11341999964566387074:=0
def tw17076378687121617442:=0
def tw14567695647003153282:=0
def tw15364298421076830114:=0
def tw13023731558276981666:=0
def tw12367527510811374498:=0
def tw2156284604045667298:=0
def tw6862613753806900259:=0
def tw4508408909391435843:=0
def tw4653909704858906723:=0
def tw2777892281438137443:=0
def tw2169492373301698723:=0
def tw12132427412374415523:=0
def tw5000280353987825859:=0
def tw10987763698184904995:=0
def tw16410584303750422851:=0
def tw857318753638504771:=0
def tw11963269214118789475:=0
def tw8512129436007582179:=0
def tw16937925815930626563:=0
def tw3329063724268792387:=0
def tw2706302904197237411:=0
def tw12310010884806871747:=0
def tw14655545880864389891:=0
def tw9539946497918420771:=0
def tw16057220958129422211:=0
def tw10712845383893308387:=0
def tw4877852760495730788:=0
def tw16130865814398459076:=0
def tw5728353637504680292:=0
def tw16261938175387712868:=0
def tw2486100313751374180:=0
def tw11964434960366053764:=0
def tw12734713374635252260:=0
def tw15621225324859433508:=0
def tw10907018861427007108:=0
def tw88972340567167652:=0
def tw757455801678512836:=0
def tw14398515766349866692:=0
def tw3615642609214627556:=0
def tw13391526907601087204:=0
def tw7726621904593263332:=0
def tw857465917912563460:=0
def tw6662939736726637412:=0
def tw16576483003387898724:=0
def tw13159011617955679108:=0
def tw12513112518684545061:=0
def tw1812572132416773189:=0
def tw13746804304854924389:=0
def tw15354417624177901733:=0
def tw8197625086825946309:=0
def tw16023698340431169765:=0
def tw520997759443418373:=0
def tw8317478166111586597:=0
def tw12408377184413920677:=0
def tw14626520489587375589:=0
def tw14964255422713269765:=0
def tw7523277343653667397:=0
def tw17068609600731242053:=0
def tw11723356442554224261:=0
def tw9832260574568493765:=0
def tw2286659415755508453:=0
def tw8222636471736195813:=0
def tw10081192861951607557:=0
def tw16454739255945523141:=0
def tw8162059283542773733:=0
def tw15062615135231845574:=0
def tw6964300742581350630:=0
def tw15334242539919952166:=0
def tw5267439517531236710:=0
def tw527641522449102246:=0
def tw1788384684775900582:=0
def tw9656666180215358918:=0
def tw17995780135535836902:=0
def tw14085890216600683238:=0
def tw1060918041301595942:=0
def tw7762956664879155014:=0
def tw15611697196402003782:=0
def tw11068886000488818566:=0
def tw2456260488537492390:=0
def tw7117194161226098630:=0
def tw5496562307050900487:=0
def tw13625308634827714599:=0
def tw2909042771864593479:=0
def tw2070230479332761671:=0
def tw2629674181908473991:=0
def tw834877821516711047:=0
def tw16562977896104254727:=0
def tw3439827966531249447:=0
def tw5763649150842631559:=0
def tw13812856828021676551:=0
def tw7296455203877374535:=0
def tw2176409066750286471:=0
def tw11691569601167317671:=0
def tw13232006441479624551:=0
def tw8365149142748818472:=0
def tw9703929846166291592:=0
def tw13281837087565989000:=0
def tw2078289096174776520:=0
def tw5919829089321287976:=0
def tw508767220524173608:=0
def tw18117568729646165320:=0
def tw12863788069245631912:=0
def tw6212214963729545672:=0
def tw4942661735033870888:=0
def tw496868641083412104:=0
def tw5318201237069597352:=0
def tw13833283593846694600:=0
def tw17233235146652097256:=0
def tw2040621751274124040:=0
def tw3442141131912264488:=0
def tw17805576188113868648:=0
def tw3480649995363233640:=0
def tw13969971165988899849:=0
def tw10673686541545446473:=0
def tw14422446250726829161:=0
def tw17412714149590844585:=0
def tw15045963668122235081:=0
def tw17319469945671941481:=0
def tw7782619061163355529:=0
def tw17411174659457433065:=0
def tw14451686133556788777:=0
def tw10969856130727922377:=0
def tw13565040784475624137:=0
def tw14162139795387452137:=0
def tw2868883865533241065:=0
def tw11963740136675439497:=0
def tw17961630228184645545:=0
def tw1963731076104661961:=0
def tw17925621560286132201:=0
def tw16492068808854832138:=0
def tw9789921298399742058:=0
def tw4598607436598884458:=0
def tw11558398997785930986:=0
def tw5864322042362200330:=0
def tw15604478233077592522:=0
def tw14868131585358059114:=0
def tw1088225094467664522:=0
def tw7363511929182805706:=0
def tw18078105415182664522:=0
def tw5806335633273352106:=0
def tw377775779920441387:=0
def tw6193704735805288523:=0
def tw12188103314069422251:=0
def tw5632860459553115307:=0
def tw14224517811273534667:=0
def tw14864545469593705675:=0
def tw14490493261437142251:=0
def tw17004365880086179179:=0
def tw14015899757767736715:=0
def tw13237417798483222027:=0
def tw451693508685333387:=0
def tw13427999580743545803:=0
def tw9692344318538637452:=0
def tw17780780357162705068:=0
def tw3166388185313162444:=0
def tw8648439449997644108:=0
def tw11226485586160823788:=0
def tw4816925036699349516:=0
def tw5109028101350601260:=0
def tw2207582778144565964:=0
def tw2762957529126309868:=0
def tw17619216281423564813:=0
def tw11246664914039086125:=0
def tw8830490333082056909:=0
def tw18031516477370748109:=0
def tw2306092661009639725:=0
def tw212504751542601037:=0
def tw5773078401268781485:=0
def tw4817677732584293197:=0
def tw11643992165797792621:=0
def tw5780571414733211565:=0
def tw2817311063764936621:=0
def tw10811861026702385101:=0
def tw10396804684998200301:=0
def tw17098542830760041518:=0
def tw17597464444622906510:=0
def tw15728308970529030350:=0
def tw15910097434271183182:=0
def tw1609217082846555630:=0
def tw14892580681243281902:=0
def tw13875677527040842318:=0
def tw8597600323246848622:=0
def tw17656940872046305934:=0
def tw6030818446652796654:=0
def tw17111612320467375886:=0
def tw11578321527403667246:=0
def tw4698798005642326958:=0
def tw8829381078474782670:=0
def tw661937857156213935:=0
def tw7138427396384154831:=0
def tw4114673017048673711:=0
def tw163262919758330319:=0
def tw11466920826723453519:=0
def tw5708853635025952367:=0
def tw8593622329975596879:=0
def tw7523519688624860240:=0
def tw9828294965114741872:=0
def tw5738390358407994480:=0
def tw3058144909531088048:=0
def tw17370731343226096:=0
def tw3438082861188751728:=0
def tw13857874215830356336:=0
def tw130236806925072816:=0
def tw11179420693859304912:=0
def tw1988474260899280432:=0
def tw12012861487087521360:=0
def tw5238483750093234768:=0
def tw16255802233783394896:=0
def tw3796776968660531856:=0
def tw11246513776156788368:=0
def tw9513518966809385616:=0
def tw4392657535349211824:=0
def tw15026040977544219312:=0
def tw16159784852280712880:=0
def tw857246828194744016:=0
def tw14254017424804467408:=0
def tw421186778020190928:=0
def tw17190960229162645232:=0
def tw5271141772062313200:=0
def tw13596555383203000080:=0
def tw7267197627655767888:=0
def tw3158486286273272784:=0
def tw1823789124724048848:=0
def tw8939762373445894193:=0
def tw14696559133263407153:=0
def tw1899587194977117233:=0
def tw13510063350411249809:=0
def tw12234504352250715313:=0
def tw16218936127204735185:=0
def tw7479110343399913777:=0
def tw3171578250204862897:=0
def tw16016991323198049745:=0
def tw8139617270617231889:=0
def tw5934783734267038257:=0
def tw7396680548192846385:=0
def tw5569681619735477841:=0
def tw11383874834564188753:=0
def tw10423416111843840625:=0
def tw8162319219250959249:=0
def tw11626731398162906033:=0
def tw9873790815803028401:=0
def tw14006211532119059538:=0
def tw10921093440793171250:=0
def tw11777976872152273330:=0
def tw16368508853408928242:=0
def tw2787273427821134354:=0
def tw17715447743137239698:=0
def tw10231921252672435922:=0
def tw10655401385773588210:=0
def tw3296345919583080210:=0
def tw15897965451365614386:=0
def tw14617345392191092594:=0
def tw12421073782093493106:=0
def tw9301427063441688466:=0
def tw7166887319471150994:=0
def tw8413686566687584178:=0
def tw6825544024072604594:=0
def tw18299172419209982003:=0
def tw2172047139791137875:=0
def tw15748456078793810131:=0
def tw5144540923461050611:=0
def tw13170431721670030579:=0
def tw9421178666084686099:=0
def tw4510709563990662579:=0
def tw13837530012055704019:=0
def tw13969783767037998579:=0
def tw3060063195705955923:=0
def tw15289222350857725779:=0
def tw220084402804436915:=0
def tw3059029516500222996:=0
def tw1710393248965837268:=0
def tw9041099152088552052:=0
def tw1045183576293581524:=0
def tw10978473191776156468:=0
def tw1625961606744267604:=0
def tw5639330298382335956:=0
def tw7643012978210486228:=0
def tw6255232150968308789:=0
def tw13541782101870846005:=0
def tw904494209659357269:=0
def tw3673912633585575221:=0
def tw14799137143105407285:=0
def tw18075059924012890421:=0
def tw3755771476323403093:=0
def tw15829961379508955509:=0
def tw17982870541254960533:=0
def tw7983280394598793621:=0
def tw17957016122232336789:=0
def tw16458219303767226805:=0
def tw16767633919160032789:=0
def tw4553227294864306709:=0
def tw15235621130662860437:=0
def tw6036666961480532661:=0
def tw10599034572273165077:=0
def tw605729077796585269:=0
def tw1163738595521499125:=0
def tw13584440565147736086:=0
def tw642673002793802998:=0
def tw1798836467434689814:=0
def tw6072964997767955766:=0
def tw8847581275734469974:=0
def tw13466652156241146326:=0
def tw105853760571403798:=0
def tw14714682968805221942:=0
def tw6265138407673667158:=0
def tw7878689320652731062:=0
def tw7847669427642797079:=0
def tw12572213249571134551:=0
def tw15593426112917357687:=0
def tw15060345549873715351:=0
def tw4447809660302630167:=0
def tw11708451121712505111:=0
def tw16218086406328171895:=0
def tw12488717117550880279:=0
def tw14922446155649099287:=0
def tw14827892261358066199:=0
def tw6421138989796988535:=0
def tw194223330337749623:=0
def tw4298763443693926039:=0
def tw10933055792687760023:=0
def tw17634307811941759000:=0
def tw5028006860436756568:=0
def tw14702700134814741624:=0
def tw5461813886039662808:=0
def tw4858768099069666616:=0
def tw6329571952000169272:=0
def tw6770051277633047896:=0
def tw1520219207179892152:=0
def tw4710643304333107704:=0
def tw4327315349191980536:=0
def tw172536233564920472:=0
def tw4526982198897995512:=0
def tw16145703347522933528:=0
def tw9506348411257336760:=0
def tw5165327274808849368:=0
def tw8355973256637600793:=0
def tw3078204251963568313:=0
def tw6377975229150196953:=0
def tw14339982749524675865:=0
def tw12121784415197715737:=0
def tw12720200525767023993:=0
def tw6057215081057574297:=0
def tw13579407222930038233:=0
def tw11261610370916033049:=0
def tw14497484508938244665:=0
def tw16668268153196873273:=0
def tw1149429729138306713:=0
def tw12207722833373151929:=0
def tw3619450954512867033:=0
def tw4203580804562920217:=0
def tw9076810107834135353:=0
def tw11642078285257793658:=0
def tw9916869171388253370:=0
def tw7738305643801606426:=0
def tw8411139503963963706:=0
def tw14120531864765451994:=0
def tw962040847893232346:=0
def tw14283477227267606266:=0
def tw2734132094923964410:=0
def tw8999089088492977179:=0
def tw8119375681442787547:=0
def tw12146879688609498491:=0
def tw1046822495484881307:=0
def tw3038761259167722075:=0
def tw12983937226271435419:=0
def tw15784273226336322363:=0
def tw13453106833000294267:=0
def tw17980197908448537531:=0
def tw9409342265889371067:=0
def tw6961920790158253019:=0
def tw3203414246519024668:=0
def tw6003789803055454396:=0
def tw12807073911444090172:=0
def tw15434073801779074364:=0
def tw10491498799528735132:=0
def tw11681597257160760956:=0
def tw14602957016046301820:=0
def tw14109075420026192508:=0
def tw12788574142923942812:=0
def tw11539903886339348476:=0
def tw15290216589059205245:=0
def tw14299201011530643613:=0
def tw1373441343640368349:=0
def tw11430237429412916445:=0
def tw18332404742062767421:=0
def tw9664978894372289917:=0
def tw2050542836999589277:=0
def tw3053160833085379133:=0
def tw16801157421491699325:=0
def tw12920469278868793149:=0
def tw1968044753384937341:=0
def tw13067993389717406685:=0
def tw7980299566822984766:=0
def tw11738429791277456446:=0
def tw2580281491006611550:=0
def tw8454033286111929470:=0
def tw13788059779351527614:=0
def tw2178512374301765886:=0
def tw2979625612198630654:=0
def tw4039668167996281150:=0
def tw13513862671154427326:=0
def tw11616511753239664094:=0
def tw9403766071875930622:=0
def tw2366327265755938366:=0
def tw7285911326154290814:=0
def tw2706743940125602494:=0
def tw6909302342893033182:=0
def tw3255528892303736670:=0
def tw4597328669899400062:=0
def tw9782437529155931070:=0
def tw2596223974500984830:=0
def tw8085904114352026622:=0
def tw18333411296992713791:=0
def tw2865301025919339679:=0
def tw9937760634532256959:=0
def tw8092851854162655455:=0
def tw17012036257664370943:=0
def tw7966852731905105183:=0
def tw14920804169897726303:=0
def tw8455889357805347167:=0
def tw1576249880747818399:=0
def tw18006742880996320671:=0
def tw1566866671645134399:=0
def tw9236258199362306623:=0
def tw12802449973553496671:=0
def tw1072698778635436927:=0
def tw8038444904753301439:=0
def tw12244757656054556271:=0
end PySem.W.Fast
open PySem PySem.W PyProof.Rows
set_option maxRecDepth 100000 in
set_option maxHeartbeats 0 in
theorem PySem.Challenge.cw_spinfloor_k70_worths_by_trial_holds : PySem.Challenge.rw_spinfloor_k70_worths_by_trial.Holds := by
 w_on;o_law;k_head;(case hw=>w_witness2)
 k_fill
 refine K8.walk (l:=PySem.Challenge.rw_spinfloor_k70_worths_by_trial) rfl rfl (fun w h Y=>PySem.W.kIn_of Y) ?F
 case F =>
  intro w mg fa h KX G hmg
  refine' K8.all_mk KX G hmg ?gK ?j7 ?md ?AM ?AL ?FI ?g9 ?g8 ?cV ?fX ?g7 ?gZ ?cU ?fV ?jz ?pO ?oV ?pF ?kB ?gJ ?f6 ?gF ?dD ?lY ?ly ?lN ?iX ?l8 ?lD ?lS ?i5 ?uH ?tL ?oU ?ux ?nY ?jX ?jA ?jN ?f7 ?iE ?hV ?iw ?eV ?iH ?h7 ?iA ?eY ?eJ ?eg ?eF ?cA ?uG ?tK ?oR ?uw ?nX ?ic ?iC ?ig ?eZ ?lF ?lU ?i7 ?lJ ?eh ?eG ?bK ?cB ?jI ?jV ?eA ?gq ?jJ ?jW ?gk ?jL ?FH ?Eu ?Fy ?k_head ?pP ?oW ?pG ?kC ?ma ?lE ?lT ?i6 ?iF ?hX ?iy ?eW ?jY ?jB ?jO ?f9 ?lX ?lx ?lM ?iW ?gI ?fZ ?gE ?dA ?fz ?fu ?fy ?cY ?eI ?d8 ?eE ?cz ?h9 ?iB ?ie ?ik ?l7 ?lC ?lR ?i4 ?l5 ?lA ?lP ?iZ ?iG ?hZ ?iz ?eX ?j2 ?jD ?jQ ?gc ?j4 ?jF ?jS ?gg ?j3 ?jE ?jR ?gf ?dm ?di ?dj ?bY ?j5 ?jG ?jT ?gh ?pQ ?oX ?pH ?kD ?jZ ?jC ?jP ?gb ?lZ ?lz ?lO ?iY ?l6 ?lB ?lQ ?i0 ?j6 ?jH ?jU ?gj ?Ha ?Jh ?JE ?Ji ?j9 ?jq ?cH ?kW ?da ?yO ?zV ?yD ?yv ?zp ?zH ?jy ?jx ?dh ?yN ?zU ?yC ?yu ?zo ?zG ?jw ?jv ?dg ?DQ ?EU ?DK ?DC ?Ee ?Ey ?ju ?jt ?gX ?fU ?gY ?gi_most ?HU ?HV ?C5 ?C4 ?xR ?xS ?jo ?gS ?HR ?HQ ?rC ?HS ?HX ?HP ?HW
  (case gK=>k_is)
  (case j7=>k_is)
  (case md=>k_is)
  (case AM=>k_is)
  (case AL=>k_is)
  (case FI=>k_is)
  (case g9=>k_is)
  (case g8=>k_is)
  (case cV=>k_is)
  (case fX=>k_is)
  (case g7=>k_is)
  (case gZ=>k_is)
  (case cU=>k_is)
  (case fV=>k_is)
  (case jz=>k_is)
  (case pO=>k_is)
  (case oV=>k_is)
  (case pF=>k_is)
  (case kB=>k_is)
  (case gJ=>k_is)
  (case f6=>k_is)
  (case gF=>k_is)
  (case dD=>k_is)
  (case lY=>k_is)
  (case ly=>k_is)
  (case lN=>k_is)
  (case iX=>k_is)
  (case l8=>k_is)
  (case lD=>k_is)
  (case lS=>k_is)
  (case i5=>k_is)
  (case uH=>k_is)
  (case tL=>k_is)
  (case oU=>k_is)
  (case ux=>k_is)
  (case nY=>k_is)
  (case jX=>k_is)
  (case jA=>k_is)
  (case jN=>k_is)
  (case f7=>k_is)
  (case iE=>k_is)
  (case hV=>k_is)
  (case iw=>k_is)
  (case eV=>k_is)
  (case iH=>k_is)
  (case h7=>k_is)
  (case iA=>k_is)
  (case eY=>k_is)
  (case eJ=>k_is)
  (case eg=>k_is)
  (case eF=>k_is)
  (case cA=>k_is)
  (case uG=>k_is)
  (case tK=>k_is)
  (case oR=>k_is)
  (case uw=>k_is)
  (case nX=>k_is)
  (case ic=>k_is)
  (case iC=>k_is)
  (case ig=>k_is)
  (case eZ=>k_is)
  (case lF=>k_is)
  (case lU=>k_is)
  (case i7=>k_is)
  (case lJ=>k_is)
  (case eh=>k_is)
  (case eG=>k_is)
  (case bK=>k_is)
  (case cB=>k_is)
  (case jI=>k_is)
  (case jV=>k_is)
  (case eA=>k_is)
  (case gq=>k_is)
  (case jJ=>k_is)
  (case jW=>k_is)
  (case gk=>k_is)
  (case jL=>k_is)
  (case FH=>k_is)
  (case Eu=>k_is)
  (case Fy=>k_is)
  (case k_head=>k_is)
  (case pP=>k_is)
  (case oW=>k_is)
  (case pG=>k_is)
  (case kC=>k_is)
  (case ma=>k_is)
  (case lE=>k_is)
  (case lT=>k_is)
  (case i6=>k_is)
  (case iF=>k_is)
  (case hX=>k_is)
  (case iy=>k_is)
  (case eW=>k_is)
  (case jY=>k_is)
  (case jB=>k_is)
  (case jO=>k_is)
  (case f9=>k_is)
  (case lX=>k_is)
  (case lx=>k_is)
  (case lM=>k_is)
  (case iW=>k_is)
  (case gI=>k_is)
  (case fZ=>k_is)
  (case gE=>k_is)
  (case dA=>k_is)
  (case fz=>k_is)
  (case fu=>k_is)
  (case fy=>k_is)
  (case cY=>k_is)
  (case eI=>k_is)
  (case d8=>k_is)
  (case eE=>k_is)
  (case cz=>k_is)
  (case h9=>k_is)
  (case iB=>k_is)
  (case ie=>k_is)
  (case ik=>k_is)
  (case l7=>k_is)
  (case lC=>k_is)
  (case lR=>k_is)
  (case i4=>k_is)
  (case l5=>k_is)
  (case lA=>k_is)
  (case lP=>k_is)
  (case iZ=>k_is)
  (case iG=>k_is)
  (case hZ=>k_is)
  (case iz=>k_is)
  (case eX=>k_is)
  (case j2=>k_is)
  (case jD=>k_is)
  (case jQ=>k_is)
  (case gc=>k_is)
  (case j4=>k_is)
  (case jF=>k_is)
  (case jS=>k_is)
  (case gg=>k_is)
  (case j3=>k_is)
  (case jE=>k_is)
  (case jR=>k_is)
  (case gf=>k_is)
  (case dm=>k_is)
  (case di=>k_is)
  (case dj=>k_is)
  (case bY=>k_is)
  (case j5=>k_is)
  (case jG=>k_is)
  (case jT=>k_is)
  (case gh=>k_is)
  (case pQ=>k_is)
  (case oX=>k_is)
  (case pH=>k_is)
  (case kD=>k_is)
  (case jZ=>k_is)
  (case jC=>k_is)
  (case jP=>k_is)
  (case gb=>k_is)
  (case lZ=>k_is)
  (case lz=>k_is)
  (case lO=>k_is)
  (case iY=>k_is)
  (case l6=>k_is)
  (case lB=>k_is)
  (case lQ=>k_is)
  (case i0=>k_is)
  (case j6=>k_is)
  (case jH=>k_is)
  (case jU=>k_is)
  (case gj=>k_is)
  (case Ha=>k_is)
  (case Jh=>k_is)
  (case JE=>k_is)
  (case Ji=>k_is)
  (case j9=>k_exc)
  (case jq=>k_exc)
  (case cH=>k_is)
  (case kW=>k_exc)
  (case da=>k_is)
  (case yO=>k_is)
  (case zV=>k_is)
  (case yD=>k_is)
  (case yv=>k_is)
  (case zp=>k_is)
  (case zH=>k_is)
  (case jy=>k_is)
  (case jx=>k_is)
  (case dh=>k_is)
  (case yN=>k_is)
  (case zU=>k_is)
  (case yC=>k_is)
  (case yu=>k_is)
  (case zo=>k_is)
  (case zG=>k_is)
  (case jw=>k_is)
  (case jv=>k_is)
  (case dg=>k_is)
  (case DQ=>k_is)
  (case EU=>k_is)
  (case DK=>k_is)
  (case DC=>k_is)
  (case Ee=>k_is)
  (case Ey=>k_is)
  (case ju=>k_is)
  (case jt=>k_is)
  (case gX=>k_is)
  (case fU=>k_is)
  (case gY=>k_is)
  (case gi_most=>k_is)
  (case HU=>k_is)
  (case HV=>k_is)
  (case C5=>k_is)
  (case C4=>k_is)
  (case xR=>k_is)
  (case xS=>k_is)
  (case jo=>k_is)
  (case gS=>k_is)
  (case HR=>k_is)
  (case HQ=>k_is)
  (case rC=>k_is)
  (case HS=>k_is)
  (case HX=>k_is)
  (case HP=>k_is)
  (case HW=>k_is)
